import PyProof.Rows.All
import Wide.All
import OpenK.AllK
import Wide.FinOn
import KE.KStateDown
import KE.KExcInit
import HandS.ForMost
import HandS.Walk
import HandS.Defaults
import HandS.Head2
import HandS.HeadEnd
import HandS.HeadHook4
import HandS.HeadWalk
import PyProof.InstNe
import HandS.HeadNt
import PySem.Challenge.RW_bestheard_k07_whole_rulebooks_there_and
import HandS.IsInst
import HandS.Deep
import HandS.Evl
import HandS.Steps
import HandS.More
import HandS.Zip
import HandS.Strs
import HandS.TupAny
import HandS.TupMul
import HandS.StrMore
import HandS.Style
import KE.DataEq
import HandS.Nested
import HandS.NestedK
import HandS.CallLocal
import HandS.StrSplit
import HandS.Star
import HandS.ExcField
import HandS.ExcInit
import HandS.ExcIs
import KE.KTryMore
import KE.KExcIs
import HandS.HotCalls
import HandS.Lambda
import HandS.EndTab
import HandS.MakeKwOnly
import HandS.WordsExc
import KE.GoesEnum
import KE.GoesMore
import KE.GoesZip
import HandS.OwnEq
import HandS.Dict
import HandS.DictComp
import PyProof.DictMoreH
import OpenK.KOps
import KE.KOpsOwn
import HandS.FStr
import KE.KUnpackStar
import HandS.ClsMeth
import HandS.MakeKw
import HandS.MethStar
set_option Elab.async false
set_option linter.all false
set_option maxRecDepth 100000
set_option maxHeartbeats 2000000
namespace Bh
open PySem PySem.Spec PyProof.Rows L2
/-! ### the end of a law by one run of the top: what the Hook looks at -/
/-- a def of the top; a method -/
def dd (x : Str) (st : Stmt) : He.DefD := ⟨(x, none), x, x, defArgs st, defBody st, defScope st, [], []⟩
def dm (C m q : Str) (st : Stmt) : He.DefD := ⟨(C, some m), m, q, defArgs st, defBody st, defScope st, [], []⟩
abbrev ExcP (K : PySem.W.Frag) (x : Str) (bmB : List Value) (newId : String) : Prop :=
  PySem.W.excInitIn K (He.ga K x) bmB newId = true ∧ PySem.W.excOver K (He.ga K x) bmB = true ∧ PySem.W.hasDictIn K (He.ga K x) = true ∧ PySem.W.findIn K (.ref (He.ga K x)) "__setattr__" = some (some (.builtin "object.__setattr__")) ∧
  PySem.W.findIn K (.ref (He.ga K x)) "__getattribute__" = some (some (.builtin "BaseException.__getattribute__")) ∧ PySem.W.findIn K (.ref (He.ga K x)) "__getattr__" = some none ∧
  PySem.W.findIn K (.ref (He.ga K x)) "__class__" = some (some (.builtin "object.__class__")) ∧ PySem.W.mroIn K (He.ga K x) (.type "object") = some true ∧
  PySem.W.specialIn K (.builtin "object.__class__") "__get__" = some (some (.builtin "getset_descriptor.__get__")) ∧ PySem.W.takesIn K (.builtin "object.__class__") = some true ∧
  PySem.W.keepIn K (.ref (He.ga K x)) = true ∧ PySem.W.subIn K (.ref (He.ga K x)) (.type "BaseException") = some true ∧ PySem.W.typeIn K (.ref (He.ga K x)) = some (.type "type")
abbrev ExcI (K : PySem.W.Frag) (x : Str) : Prop := PySem.W.findIn K (.ref (He.ga K x)) "__init__" = some (some (.ref (He.ma K (He.ga K x) "__init__"))) ∧ PySem.W.typeIn K (.ref (He.ma K (He.ga K x) "__init__")) = some (.type "function")
abbrev NoAt (K : PySem.W.Frag) (x : Str) (ys : List Str) : Prop := ∀ y ∈ ys, PySem.W.findIn K (.ref (He.ga K x)) y = some none
abbrev ClsP (K : PySem.W.Frag) (x : Str) : Prop :=
  PySem.W.findIn K (.ref (He.ga K x)) "__class__" = some (some (.builtin "object.__class__")) ∧ PySem.W.specialIn K (.builtin "object.__class__") "__get__" = some (some (.builtin "getset_descriptor.__get__")) ∧ PySem.W.takesIn K (.builtin "object.__class__") = some true ∧
  PySem.W.mroIn K (He.ga K x) (.type "object") = some true ∧ PySem.W.kitOne K (.ref (He.ga K x)) (.ref (He.ga K x)) = some true ∧ PySem.W.kitOne K (.type "tuple") (.ref (He.ga K x)) = some false
abbrev CallP (K : PySem.W.Frag) (x : Str) : Prop := PySem.W.fnIn K (He.ma K (He.ga K x) "__call__") = true
abbrev veB : List Value := [.type "ValueError", .type "Exception", .type "BaseException", .type "object"]
abbrev leB : List Value := [.type "LookupError", .type "Exception", .type "BaseException", .type "object"]
/-! ### a Hook over fewer objects: what the module's names hold, the classes' own names, the code objects -/
def pickO (o : Obj) : List Addr := match o.data with
  | .dict es _ => es.toList.flatMap fun e => He.refV e.val
  | .func fd => He.refV fd.code ++ He.refV fd.defaults ++ He.refV fd.kwdefaults
  | .cls cd => [cd.ns]
  | _ => []
def nextA (g : Addr → Option Obj) (as : List Addr) : List Addr := as.flatMap fun a => match g a with
  | some o => pickO o
  | none => []
def asY (g : Addr → Option Obj) : List Addr := mainGlobals :: (nextA g [mainGlobals] ++ (nextA g (nextA g [mainGlobals]) ++ (nextA g (nextA g (nextA g [mainGlobals])) ++ nextA g (nextA g (nextA g (nextA g [mainGlobals]))) ++ nextA g (nextA g (nextA g (nextA g (nextA g [mainGlobals])))))))
def obsY (fa : List He.Fa) (fn : List He.DefD) (ts : List He.Tab) (tf : List He.Defn) (ex : PySem.W.Frag → Bool) (g : Addr → Option Obj) : He.AlX := (He.obsT fa fn ts (He.frT g (asY g)), ex (He.frT g (asY g)) && He.tabsB g tf (He.frT g (asY g)))
theorem says_any {fa : List He.Fa} {fn : List He.DefD} {ts : List He.Tab} {tf : List He.Defn} {ex : PySem.W.Frag → Bool} {w : World} {h : Heap} {K : PySem.W.Frag} (e1 : He.obsT fa fn ts K = He.valT fn ts w) (e2 : (ex K && He.tabsB h.get? tf K) = true)
    (no : ∀ a o, h.get? a = some o → He.emptyTab o = true → K.lookup a = none) : He.SaysX fa fn ts tf ex w h K := by
  obtain ⟨m1, m2⟩ := He.ba e2
  have all : ∀ p ∈ tf, PySem.W.codeHdIn K (He.cT K p).1 (He.cT K p).2 = true ∧ ∃ o, h.get? (He.cT K p).2 = some o ∧ He.emptyTab o = true := by
    intro p hp
    have z := He.ba (List.all_eq_true.mp m2 p hp)
    refine ⟨z.1, ?_⟩
    have z2 := z.2
    revert z2
    cases h.get? (He.cT K p).2 with
    | none => exact fun c => nomatch c
    | some o => exact fun c => ⟨o, rfl, c⟩
  refine { t := e1, more := m1, hd := fun p hp => (all p hp).1, out := fun p hp => ?_, empty := fun p hp => ?_ }
  · obtain ⟨o, g1, g2⟩ := (all p hp).2
    exact no _ o g1 g2
  · obtain ⟨o, g1, g2⟩ := (all p hp).2
    rw [g1, He.emptyTab_eq g2]
def hookY (fa : List He.Fa) (fn : List He.DefD) (ts : List He.Tab) (tf : List He.Defn) (ex : PySem.W.Frag → Bool) : PySem.W.Hook where
  α := He.AlX
  obs s := obsY fa fn ts tf ex s.heap.get?
  val w := He.valX fn ts w
  says w h := ∃ K : PySem.W.Frag, K.In h ∧ He.SaysX fa fn ts tf ex w h K
  of w s e := ⟨_, He.frT_in, says_any (congrArg (fun z : He.AlX => z.1) e) (congrArg (fun z : He.AlX => z.2) e) fun _ _ => He.frT_none⟩
  keeps w h h' := fun ⟨K, k1, k2⟩ k => ⟨K, PySem.W.Frag.In.keeps k1 k, { t := k2.t, more := k2.more, hd := k2.hd, out := k2.out, empty := fun p hp => k _ _ (k2.empty p hp) }⟩
theorem obsY_eq {fa : List He.Fa} {fn : List He.DefD} {ts : List He.Tab} {tf : List He.Defn} {ex : PySem.W.Frag → Bool} {g : Addr → Option Obj} {s : Shared} (e : ∀ a, g a = s.heap.get? a) : obsY fa fn ts tf ex g = (hookY fa fn ts tf ex).obs s := by
  rw [show g = s.heap.get? from funext e]
  rfl
end Bh

set_option Elab.async false
set_option linter.all false
set_option maxRecDepth 100000
set_option maxHeartbeats 2000000
namespace Bh
open PySem PySem.Spec PyProof.Rows L2
/-! ### what the Hook looks at besides: a class over object alone, defaults that are objects -/
def nsB2 (K : PySem.W.Frag) (N f : Addr) : Bool := match K.lookup N with
  | some ⟨_, _, .dict es _, _⟩ => (es.toList.all fun e => match e.key with
      | .str _ _ => true
      | _ => false) && (decide (nsFind es "__eq__" = some (.ref f)) && decide (nsFind es "__ne__" = none))
  | _ => false
def neB (K : PySem.W.Frag) (C f : Addr) : Bool := match K.lookup C with
  | some ⟨.type "type", _, .cls cd, sl⟩ => (match cd.mro, sl.toList with
    | [.ref C', .type o], [_, _, _, _, some (.builtin _), _] => C' == C && (decide (o = "object") && (!cd.hasDel && (cd.hasDict && nsB2 K cd.ns f)))
    | _, _ => false)
  | _ => false
def fnB (K : PySem.W.Frag) (f : Addr) : Bool := match K.lookup f with
  | some ⟨.type c, _, _, _⟩ => decide (c = "function")
  | _ => false
/-- a keyword-only default that is an object -/
def kwAd (C m k : Str) (K : PySem.W.Frag) : Addr := match K.lookup (He.fAd K (C, some m)) with
  | some ⟨_, _, .func fd, _⟩ => (match fd.kwdefaults with
    | .ref D => (match PySem.W.nsIn K D k with
      | some (some (.ref a)) => a
      | _ => 0)
    | _ => 0)
  | _ => 0
def tupE (K : PySem.W.Frag) (z : Addr) : Bool := match K.lookup z with
  | some ⟨.type c, _, .seq its _, _⟩ => decide (c = "tuple") && decide (its.toList = [])
  | _ => false
end Bh

set_option Elab.async false
set_option linter.all false
set_option maxRecDepth 100000
set_option maxHeartbeats 2000000
namespace Bh
open PySem PySem.Spec PyProof.Rows L2
/-! ### the Hook, with the defs that a staticmethod or a classmethod holds -/
def wrapP (g : Addr → Option Obj) (a : Addr) : List Addr := match g a with
  | some ⟨.type c, _, .fields vs, _⟩ => if decide (c = "classmethod") || decide (c = "staticmethod") then vs.toList.flatMap He.refV else []
  | _ => []
def asZ1 (g : Addr → Option Obj) (A : List Addr) (W : List Addr) : List Addr := A ++ (cStatics :: (W ++ nextA g W))
def asZ0 (g : Addr → Option Obj) (A : List Addr) : List Addr := asZ1 g A (A.flatMap (wrapP g))
def asZ (g : Addr → Option Obj) : List Addr := asZ0 g (asY g)
abbrev AlZ : Type := He.AlX × He.AlD
def obsZ1 (fa : List He.Fa) (fn : List He.DefD) (ts : List He.Tab) (tf : List He.Defn) (ex : PySem.W.Frag → Bool) (fw : List He5.DefA) (g : Addr → Option Obj) (K : PySem.W.Frag) : AlZ := ((He.obsT fa fn ts K, ex K && He.tabsB g tf K), He5.obsA [] fw K)
def obsZ (fa : List He.Fa) (fn : List He.DefD) (ts : List He.Tab) (tf : List He.Defn) (ex : PySem.W.Frag → Bool) (fw : List He5.DefA) (g : Addr → Option Obj) : AlZ := obsZ1 fa fn ts tf ex fw g (He.frT g (asZ g))
def hookZ (fa : List He.Fa) (fn : List He.DefD) (ts : List He.Tab) (tf : List He.Defn) (ex : PySem.W.Frag → Bool) (fw : List He5.DefA) : PySem.W.Hook where
  α := AlZ
  obs s := obsZ fa fn ts tf ex fw s.heap.get?
  val w := (He.valX fn ts w, He5.valA fw)
  says w h := ∃ K : PySem.W.Frag, K.In h ∧ He.SaysX fa fn ts tf ex w h K ∧ He5.SaysA [] fw K
  of w s e := ⟨_, He.frT_in, says_any (congrArg (fun z : AlZ => z.1.1) e) (congrArg (fun z : AlZ => z.1.2) e) fun _ _ => He.frT_none, congrArg (fun z : AlZ => z.2) e⟩
  keeps w h h' := fun ⟨K, k1, k2, k3⟩ k => ⟨K, PySem.W.Frag.In.keeps k1 k, { t := k2.t, more := k2.more, hd := k2.hd, out := k2.out, empty := fun p hp => k _ _ (k2.empty p hp) }, k3⟩
theorem obsZ_eq {fa : List He.Fa} {fn : List He.DefD} {ts : List He.Tab} {tf : List He.Defn} {ex : PySem.W.Frag → Bool} {fw : List He5.DefA} {g : Addr → Option Obj} {s : Shared} (e : ∀ a, g a = s.heap.get? a) : obsZ fa fn ts tf ex fw g = (hookZ fa fn ts tf ex fw).obs s := by
  rw [show g = s.heap.get? from funext e]
  rfl
end Bh

set_option Elab.async false
set_option linter.all false
set_option maxRecDepth 100000
set_option maxHeartbeats 1000000
namespace Bh
open PySem PySem.Spec PyProof.Rows L2
def topS (i : Nat) : Stmt := PySem.Challenge.pw_bestheard_k07_whole_rulebooks_there_and.main.body.getD i (.Pass ⟨0, 0, 0, 0⟩)
abbrev s_is_name : Stmt := topS 17
theorem sc_is_name : FnScope ["value"] ["value"] (defScope s_is_name) := ⟨rfl, rfl, rfl, by decide +kernel, rfl, by decide +kernel, by decide +kernel⟩
abbrev s_is_option : Stmt := topS 18
theorem sc_is_option : FnScope ["value"] ["value"] (defScope s_is_option) := ⟨rfl, rfl, rfl, by decide +kernel, rfl, by decide +kernel, by decide +kernel⟩
abbrev s_is_word : Stmt := topS 19
theorem sc_is_word : FnScope ["value", "characters", "character"] ["value", "characters"] (defScope s_is_word) := ⟨rfl, rfl, rfl, by decide +kernel, rfl, by decide +kernel, by decide +kernel⟩
abbrev s_case_text : Stmt := topS 24
theorem sc_case_text : FnScope ["case", "tests", "steps"] ["case"] (defScope s_case_text) := ⟨rfl, rfl, rfl, by decide +kernel, rfl, by decide +kernel, by decide +kernel⟩
abbrev s_tests_text : Stmt := topS 25
theorem sc_tests_text : FnScope ["tests", "field", "sign", "option"] ["tests"] (defScope s_tests_text) := ⟨rfl, rfl, rfl, by decide +kernel, rfl, by decide +kernel, by decide +kernel⟩
abbrev s_steps_text : Stmt := topS 26
theorem sc_steps_text : FnScope ["steps", "field", "option"] ["steps"] (defScope s_steps_text) := ⟨rfl, rfl, rfl, by decide +kernel, rfl, by decide +kernel, by decide +kernel⟩
abbrev s_step_text : Stmt := topS 27
theorem sc_step_text : FnScope ["field", "option"] ["field", "option"] (defScope s_step_text) := ⟨rfl, rfl, rfl, by decide +kernel, rfl, by decide +kernel, by decide +kernel⟩
abbrev s_read_case : Stmt := topS 28
theorem sc_read_case : FnScope ["line", "before", "_", "behind", "tests", "steps"] ["line"] (defScope s_read_case) := ⟨rfl, rfl, rfl, by decide +kernel, rfl, by decide +kernel, by decide +kernel⟩
abbrev s_read_tests : Stmt := topS 29
theorem sc_read_tests : FnScope ["text", "part"] ["text"] (defScope s_read_tests) := ⟨rfl, rfl, rfl, by decide +kernel, rfl, by decide +kernel, by decide +kernel⟩
abbrev s_read_steps : Stmt := topS 30
theorem sc_read_steps : FnScope ["text", "part"] ["text"] (defScope s_read_steps) := ⟨rfl, rfl, rfl, by decide +kernel, rfl, by decide +kernel, by decide +kernel⟩
abbrev s_all_read : Stmt := topS 31
theorem sc_all_read : FnScope ["items"] ["items"] (defScope s_all_read) := ⟨rfl, rfl, rfl, by decide +kernel, rfl, by decide +kernel, by decide +kernel⟩
abbrev s_read_test : Stmt := topS 32
theorem sc_read_test : FnScope ["text", "sign", "field", "_", "option"] ["text"] (defScope s_read_test) := ⟨rfl, rfl, rfl, by decide +kernel, rfl, by decide +kernel, by decide +kernel⟩
abbrev s_read_step : Stmt := topS 33
theorem sc_read_step : FnScope ["text", "field", "_", "option"] ["text"] (defScope s_read_step) := ⟨rfl, rfl, rfl, by decide +kernel, rfl, by decide +kernel, by decide +kernel⟩
abbrev s_field_fits : Stmt := topS 48
theorem sc_field_fits : FnScope ["before", "field"] ["before", "field"] (defScope s_field_fits) := ⟨rfl, rfl, rfl, by decide +kernel, rfl, by decide +kernel, by decide +kernel⟩
abbrev s_tie_fits : Stmt := topS 49
theorem sc_tie_fits : FnScope ["fields", "before", "tie"] ["fields", "before", "tie"] (defScope s_tie_fits) := ⟨rfl, rfl, rfl, by decide +kernel, rfl, by decide +kernel, by decide +kernel⟩
abbrev s_kind_fits : Stmt := topS 50
theorem sc_kind_fits : FnScope ["fields", "before", "kind", "name", "keys", "taking", "birth"] ["fields", "before", "kind"] (defScope s_kind_fits) := ⟨rfl, rfl, rfl, by decide +kernel, rfl, by decide +kernel, by decide +kernel⟩
abbrev s_name_fits : Stmt := topS 51
theorem sc_name_fits : FnScope ["before", "name", "most"] ["before", "name", "most"] (defScope s_name_fits) := ⟨rfl, rfl, rfl, by decide +kernel, rfl, by decide +kernel, by decide +kernel⟩
abbrev s_names_of : Stmt := topS 52
theorem sc_names_of : FnScope ["items", "item"] ["items"] (defScope s_names_of) := ⟨rfl, rfl, rfl, by decide +kernel, rfl, by decide +kernel, by decide +kernel⟩
abbrev s_is_program : Stmt := topS 53
theorem sc_is_program : FnScope ["fields", "value", "case"] ["fields", "value"] (defScope s_is_program) := ⟨rfl, rfl, rfl, by decide +kernel, rfl, by decide +kernel, by decide +kernel⟩
abbrev s_is_case : Stmt := topS 54
theorem sc_is_case : FnScope ["fields", "value", "tests", "steps", "test", "step"] ["fields", "value"] (defScope s_is_case) := ⟨rfl, rfl, rfl, by decide +kernel, rfl, by decide +kernel, by decide +kernel⟩
abbrev s_is_holding : Stmt := topS 55
theorem sc_is_holding : FnScope ["fields", "value"] ["fields", "value"] (defScope s_is_holding) := ⟨rfl, rfl, rfl, by decide +kernel, rfl, by decide +kernel, by decide +kernel⟩
abbrev s_is_value : Stmt := topS 56
theorem sc_is_value : FnScope ["fields", "value", "option", "_", "options"] ["fields", "value"] (defScope s_is_value) := ⟨rfl, rfl, rfl, by decide +kernel, rfl, by decide +kernel, by decide +kernel⟩
abbrev s_values_of : Stmt := topS 57
theorem sc_values_of : FnScope ["fields", "found", "_", "options", "value", "option"] ["fields"] (defScope s_values_of) := ⟨rfl, rfl, rfl, by decide +kernel, rfl, by decide +kernel, by decide +kernel⟩
abbrev s_is_tuple : Stmt := topS 58
theorem sc_is_tuple : FnScope ["value", "least", "most"] ["value", "least", "most"] (defScope s_is_tuple) := ⟨rfl, rfl, rfl, by decide +kernel, rfl, by decide +kernel, by decide +kernel⟩
abbrev s_are_options : Stmt := topS 59
theorem sc_are_options : FnScope ["value", "option"] ["value"] (defScope s_are_options) := ⟨rfl, rfl, rfl, by decide +kernel, rfl, by decide +kernel, by decide +kernel⟩
abbrev s_are_keys : Stmt := topS 60
theorem sc_are_keys : FnScope ["fields", "value", "key"] ["fields", "value"] (defScope s_are_keys) := ⟨rfl, rfl, rfl, by decide +kernel, rfl, by decide +kernel, by decide +kernel⟩
abbrev s_is_key : Stmt := topS 61
theorem sc_is_key : FnScope ["fields", "value"] ["fields", "value"] (defScope s_is_key) := ⟨rfl, rfl, rfl, by decide +kernel, rfl, by decide +kernel, by decide +kernel⟩
abbrev s_is_test : Stmt := topS 62
theorem sc_is_test : FnScope ["fields", "value"] ["fields", "value"] (defScope s_is_test) := ⟨rfl, rfl, rfl, by decide +kernel, rfl, by decide +kernel, by decide +kernel⟩
abbrev s_is_step : Stmt := topS 63
theorem sc_is_step : FnScope ["fields", "value"] ["fields", "value"] (defScope s_is_step) := ⟨rfl, rfl, rfl, by decide +kernel, rfl, by decide +kernel, by decide +kernel⟩
abbrev s_options_of : Stmt := topS 64
theorem sc_options_of : FnScope ["fields", "name", "known", "options"] ["fields", "name"] (defScope s_options_of) := ⟨rfl, rfl, rfl, by decide +kernel, rfl, by decide +kernel, by decide +kernel⟩
abbrev s_rulebook_text : Stmt := topS 66
theorem sc_rulebook_text : FnScope ["fields", "ties", "kinds", "lines", "name", "program", "kind", "options", "case", "line"] ["fields", "ties", "kinds"] (defScope s_rulebook_text) := ⟨rfl, rfl, rfl, by decide +kernel, rfl, by decide +kernel, by decide +kernel⟩
abbrev s_kind_lines : Stmt := topS 67
theorem sc_kind_lines : FnScope ["kind", "name", "keys", "taking", "birth", "lines", "field", "direction", "case"] ["kind"] (defScope s_kind_lines) := ⟨rfl, rfl, rfl, by decide +kernel, rfl, by decide +kernel, by decide +kernel⟩
abbrev s_Draft__init : Stmt := inClass (topS 68) 0
theorem sc_Draft__init : FnScope ["self"] ["self"] (defScope s_Draft__init) := ⟨rfl, rfl, rfl, by decide +kernel, rfl, by decide +kernel, by decide +kernel⟩
abbrev s_Draft_take : Stmt := inClass (topS 68) 1
theorem sc_Draft_take : FnScope ["self", "line", "word", "_", "rest"] ["self", "line"] (defScope s_Draft_take) := ⟨rfl, rfl, rfl, by decide +kernel, rfl, by decide +kernel, by decide +kernel⟩
abbrev s_Draft_is_whole : Stmt := inClass (topS 68) 2
theorem sc_Draft_is_whole : FnScope ["self"] ["self"] (defScope s_Draft_is_whole) := ⟨rfl, rfl, rfl, by decide +kernel, rfl, by decide +kernel, by decide +kernel⟩
abbrev s_Draft_parts : Stmt := inClass (topS 68) 3
theorem sc_Draft_parts : FnScope ["self"] ["self"] (defScope s_Draft_parts) := ⟨rfl, rfl, rfl, by decide +kernel, rfl, by decide +kernel, by decide +kernel⟩
abbrev s_Draft_take_field : Stmt := inClass (topS 68) 4
theorem sc_Draft_take_field : FnScope ["self", "words", "field"] ["self", "words"] (defScope s_Draft_take_field) := ⟨rfl, rfl, rfl, by decide +kernel, rfl, by decide +kernel, by decide +kernel⟩
abbrev s_Draft_take_tie : Stmt := inClass (topS 68) 5
theorem sc_Draft_take_tie : FnScope ["self", "name"] ["self", "name"] (defScope s_Draft_take_tie) := ⟨rfl, rfl, rfl, by decide +kernel, rfl, by decide +kernel, by decide +kernel⟩
abbrev s_Draft_waits_for_case : Stmt := inClass (topS 68) 6
theorem sc_Draft_waits_for_case : FnScope ["self"] ["self"] (defScope s_Draft_waits_for_case) := ⟨rfl, rfl, rfl, by decide +kernel, rfl, by decide +kernel, by decide +kernel⟩
abbrev s_Draft_take_case : Stmt := inClass (topS 68) 7
theorem sc_Draft_take_case : FnScope ["self", "case", "name", "program"] ["self", "case"] (defScope s_Draft_take_case) := ⟨rfl, rfl, rfl, by decide +kernel, rfl, by decide +kernel, by decide +kernel⟩
abbrev s_Draft_take_case_of_kind : Stmt := inClass (topS 68) 8
theorem sc_Draft_take_case_of_kind : FnScope ["self", "case", "name", "keys", "taking", "birth", "program"] ["self", "case"] (defScope s_Draft_take_case_of_kind) := ⟨rfl, rfl, rfl, by decide +kernel, rfl, by decide +kernel, by decide +kernel⟩
abbrev s_Draft_take_kind : Stmt := inClass (topS 68) 9
theorem sc_Draft_take_kind : FnScope ["self", "words", "keys", "kind", "word"] ["self", "words"] (defScope s_Draft_take_kind) := ⟨rfl, rfl, rfl, by decide +kernel, rfl, by decide +kernel, by decide +kernel⟩
abbrev s_Draft_take_birth : Stmt := inClass (topS 68) 10
theorem sc_Draft_take_birth : FnScope ["self", "value", "name", "keys", "taking", "birth"] ["self", "value"] (defScope s_Draft_take_birth) := ⟨rfl, rfl, rfl, by decide +kernel, rfl, by decide +kernel, by decide +kernel⟩
abbrev s_Rulebook__init : Stmt := inClass (topS 70) 3
theorem sc_Rulebook__init : FnScope ["self", "fields", "ties", "kinds", "wrong"] ["self", "fields", "ties", "kinds"] (defScope s_Rulebook__init) := ⟨rfl, rfl, rfl, by decide +kernel, rfl, by decide +kernel, by decide +kernel⟩
abbrev s_Rulebook_read : Stmt := inClass (topS 70) 4
theorem sc_Rulebook_read : FnScope ["cls", "text", "lines", "rest", "draft", "number", "line", "fields", "ties", "kinds"] ["cls", "text"] (defScope s_Rulebook_read) := ⟨rfl, rfl, rfl, by decide +kernel, rfl, by decide +kernel, by decide +kernel⟩
abbrev s_Rulebook_is_valid : Stmt := inClass (topS 70) 5
theorem sc_Rulebook_is_valid : FnScope ["text"] ["text"] (defScope s_Rulebook_is_valid) := ⟨rfl, rfl, rfl, by decide +kernel, rfl, by decide +kernel, by decide +kernel⟩
abbrev s_Rulebook_fields : Stmt := inClass (topS 70) 6
theorem sc_Rulebook_fields : FnScope ["self"] ["self"] (defScope s_Rulebook_fields) := ⟨rfl, rfl, rfl, by decide +kernel, rfl, by decide +kernel, by decide +kernel⟩
abbrev s_Rulebook_ties : Stmt := inClass (topS 70) 7
theorem sc_Rulebook_ties : FnScope ["self"] ["self"] (defScope s_Rulebook_ties) := ⟨rfl, rfl, rfl, by decide +kernel, rfl, by decide +kernel, by decide +kernel⟩
abbrev s_Rulebook_kinds : Stmt := inClass (topS 70) 8
theorem sc_Rulebook_kinds : FnScope ["self"] ["self"] (defScope s_Rulebook_kinds) := ⟨rfl, rfl, rfl, by decide +kernel, rfl, by decide +kernel, by decide +kernel⟩
abbrev s_Rulebook_text : Stmt := inClass (topS 70) 12
theorem sc_Rulebook_text : FnScope ["self"] ["self"] (defScope s_Rulebook_text) := ⟨rfl, rfl, rfl, by decide +kernel, rfl, by decide +kernel, by decide +kernel⟩
abbrev s_Rulebook__eq : Stmt := inClass (topS 70) 19
theorem sc_Rulebook__eq : FnScope ["self", "other"] ["self", "other"] (defScope s_Rulebook__eq) := ⟨rfl, rfl, rfl, by decide +kernel, rfl, by decide +kernel, by decide +kernel⟩
abbrev s_first_wrong : Stmt := topS 71
theorem sc_first_wrong : FnScope ["items", "fits", "position", "item"] ["items", "fits"] (defScope s_first_wrong) := ⟨rfl, rfl, rfl, by decide +kernel, rfl, by decide +kernel, by decide +kernel⟩
abbrev s_l_bag : Stmt := topS 75
theorem sc_l_bag : FnScope ["_law_script", "_law_seed", "_law_cell"] ["_law_script"] (defScope s_l_bag) := ⟨rfl, rfl, rfl, by decide +kernel, rfl, by decide +kernel, by decide +kernel⟩
abbrev s_l_draw : Stmt := topS 76
theorem sc_l_draw : FnScope ["_law_bag_here", "_law_many", "_law_cell", "_law_found", "_law_old"] ["_law_bag_here", "_law_many"] (defScope s_l_draw) := ⟨rfl, rfl, rfl, by decide +kernel, rfl, by decide +kernel, by decide +kernel⟩
abbrev s_l_any : Stmt := topS 77
theorem sc_l_any : FnScope ["_law_bag_here", "_law_row"] ["_law_bag_here", "_law_row"] (defScope s_l_any) := ⟨rfl, rfl, rfl, by decide +kernel, rfl, by decide +kernel, by decide +kernel⟩
abbrev s_l_mixed : Stmt := topS 78
theorem sc_l_mixed : FnScope ["_law_bag_here", "_law_row", "_law_found", "_law_item"] ["_law_bag_here", "_law_row"] (defScope s_l_mixed) := ⟨rfl, rfl, rfl, by decide +kernel, rfl, by decide +kernel, by decide +kernel⟩
abbrev s_l_like : Stmt := topS 79
theorem sc_l_like : FnScope ["_law_found", "_law_due", "_law_key", "_law_one", "_law_other"] ["_law_found", "_law_due"] (defScope s_l_like) := ⟨rfl, rfl, rfl, by decide +kernel, rfl, by decide +kernel, by decide +kernel⟩
abbrev s_l_words : Stmt := topS 80
theorem sc_l_words : FnScope ["_law_bag_here", "_law_many", "_law_tail", "_law_at", "_law_start", "_law_letters", "_law_k"] ["_law_bag_here", "_law_many"] (defScope s_l_words) := ⟨rfl, rfl, rfl, by decide +kernel, rfl, by decide +kernel, by decide +kernel⟩
abbrev s_l_options : Stmt := topS 81
theorem sc_l_options : FnScope ["_law_bag_here", "_law_many", "_law_pool"] ["_law_bag_here", "_law_many"] (defScope s_l_options) := ⟨rfl, rfl, rfl, by decide +kernel, rfl, by decide +kernel, by decide +kernel⟩
abbrev s_l_fields : Stmt := topS 82
theorem sc_l_fields : FnScope ["_law_bag_here", "_law_room", "_law_names", "_law_found", "_law_left", "_law_k", "_law_many"] ["_law_bag_here", "_law_room"] (defScope s_l_fields) := ⟨rfl, rfl, rfl, by decide +kernel, rfl, by decide +kernel, by decide +kernel⟩
abbrev s_l_case : Stmt := topS 83
theorem sc_l_case : FnScope ["_law_bag_here", "_law_fields_here", "_law_tests", "_law_steps", "_law_k", "_law_name", "_law_options_here"] ["_law_bag_here", "_law_fields_here"] (defScope s_l_case) := ⟨rfl, rfl, rfl, by decide +kernel, rfl, by decide +kernel, by decide +kernel⟩
abbrev s_l_program : Stmt := topS 84
theorem sc_l_program : FnScope ["_law_bag_here", "_law_fields_here", "_law_most", "_law_k"] ["_law_bag_here", "_law_fields_here", "_law_most"] (defScope s_l_program) := ⟨rfl, rfl, rfl, by decide +kernel, rfl, by decide +kernel, by decide +kernel⟩
abbrev s_l_value : Stmt := topS 85
theorem sc_l_value : FnScope ["_law_bag_here", "_law_fields_here", "_law_name", "_law_options_here"] ["_law_bag_here", "_law_fields_here"] (defScope s_l_value) := ⟨rfl, rfl, rfl, by decide +kernel, rfl, by decide +kernel, by decide +kernel⟩
abbrev s_l_keys : Stmt := topS 86
theorem sc_l_keys : FnScope ["_law_bag_here", "_law_fields_here", "_law_chosen", "_law_name", "_law_options_here"] ["_law_bag_here", "_law_fields_here"] (defScope s_l_keys) := ⟨rfl, rfl, rfl, by decide +kernel, rfl, by decide +kernel, by decide +kernel⟩
abbrev s_l_kinds : Stmt := topS 87
theorem sc_l_kinds : FnScope ["_law_bag_here", "_law_fields_here", "_law_most", "_law_names", "_law_found", "_law_k", "_law_taking", "_law_birth"] ["_law_bag_here", "_law_fields_here", "_law_most"] (defScope s_l_kinds) := ⟨rfl, rfl, rfl, by decide +kernel, rfl, by decide +kernel, by decide +kernel⟩
abbrev s_l_book : Stmt := topS 88
theorem sc_l_book : FnScope ["_law_bag_here", "_law_room", "_law_most", "_law_fields_here", "_law_names", "_law_ties_z", "_law_k"] ["_law_bag_here", "_law_room", "_law_most"] (defScope s_l_book) := ⟨rfl, rfl, rfl, by decide +kernel, rfl, by decide +kernel, by decide +kernel⟩
abbrev s_l_made : Stmt := topS 89
theorem sc_l_made : FnScope ["_law_m"] ["_law_m"] (defScope s_l_made) := ⟨rfl, rfl, rfl, by decide +kernel, rfl, by decide +kernel, by decide +kernel⟩
abbrev s_l_line : Stmt := topS 90
theorem sc_l_line : FnScope ["_law_case_here", "_law_tests", "_law_steps", "_law_left", "_law_name", "_law_option", "_law_words_here", "_law_sign"] ["_law_case_here"] (defScope s_l_line) := ⟨rfl, rfl, rfl, by decide +kernel, rfl, by decide +kernel, by decide +kernel⟩
abbrev s_l_lines_of : Stmt := topS 91
theorem sc_l_lines_of : FnScope ["_law_m", "_law_lines", "_law_name", "_law_program_here", "_law_keys_here", "_law_taking", "_law_birth", "_law_options_here", "_law_case_here", "_law_key", "_law_row"] ["_law_m"] (defScope s_l_lines_of) := ⟨rfl, rfl, rfl, by decide +kernel, rfl, by decide +kernel, by decide +kernel⟩
abbrev s_law : Stmt := topS 92
theorem sc_law : FnScope ["_law_script", "_law_bag_here", "_law_turn", "_law_m", "_law_other", "_law_book_here", "_law_text_z", "_law_found", "_law_line_here"] ["_law_script"] (defScope s_law) := ⟨rfl, rfl, rfl, by decide +kernel, rfl, by decide +kernel, by decide +kernel⟩
end Bh

set_option Elab.async false
set_option linter.all false
set_option maxRecDepth 100000
set_option maxHeartbeats 4000000
set_option synthInstance.maxSize 10000
set_option synthInstance.maxHeartbeats 400000
namespace Bh
open PySem PySem.Spec PyProof.Rows L2
def hFn0 : List He.DefD := [dd "is_name" s_is_name, dd "is_option" s_is_option, dd "_is_word" s_is_word, dd "case_text" s_case_text, dd "_tests_text" s_tests_text, dd "_steps_text" s_steps_text, dd "_step_text" s_step_text, dd "read_case" s_read_case, dd "_read_tests" s_read_tests, dd "_read_steps" s_read_steps, dd "_all_read" s_all_read, dd "_read_test" s_read_test, dd "_read_step" s_read_step, dd "field_fits" s_field_fits, dd "tie_fits" s_tie_fits, dd "kind_fits" s_kind_fits, dd "name_fits" s_name_fits, dd "names_of" s_names_of]
def hFn1 : List He.DefD := [dd "is_program" s_is_program, dd "is_case" s_is_case, dd "is_holding" s_is_holding, dd "is_value" s_is_value, dd "values_of" s_values_of, dd "_is_tuple" s_is_tuple, dd "_are_options" s_are_options, dd "_are_keys" s_are_keys, dd "_is_key" s_is_key, dd "_is_test" s_is_test, dd "_is_step" s_is_step, dd "_options_of" s_options_of, dd "rulebook_text" s_rulebook_text, dd "_kind_lines" s_kind_lines, dd "_first_wrong" s_first_wrong, dd "_law_bag" s_l_bag, dd "_law_draw" s_l_draw, dd "_law_any" s_l_any]
def hFn2 : List He.DefD := [dd "_law_mixed" s_l_mixed, dd "_law_like" s_l_like, dd "_law_words" s_l_words, dd "_law_options" s_l_options, dd "_law_fields" s_l_fields, dd "_law_case" s_l_case, dd "_law_program" s_l_program, dd "_law_value" s_l_value, dd "_law_keys" s_l_keys, dd "_law_kinds" s_l_kinds, dd "_law_book" s_l_book, dd "_law_made" s_l_made, dd "_law_line" s_l_line, dd "_law_lines_of" s_l_lines_of, dd "law" s_law, dm "Rulebook" "text" "Rulebook.text" s_Rulebook_text, dm "Rulebook" "fields" "Rulebook.fields" s_Rulebook_fields, dm "Rulebook" "ties" "Rulebook.ties" s_Rulebook_ties]
def hFn3 : List He.DefD := [dm "Rulebook" "kinds" "Rulebook.kinds" s_Rulebook_kinds, dm "Rulebook" "__eq__" "Rulebook.__eq__" s_Rulebook__eq, dm "Rulebook" "__init__" "Rulebook.__init__" s_Rulebook__init, dm "Draft" "take" "Draft.take" s_Draft_take, dm "Draft" "is_whole" "Draft.is_whole" s_Draft_is_whole, dm "Draft" "parts" "Draft.parts" s_Draft_parts, dm "Draft" "_take_field" "Draft._take_field" s_Draft_take_field, dm "Draft" "_take_tie" "Draft._take_tie" s_Draft_take_tie, dm "Draft" "_waits_for_case" "Draft._waits_for_case" s_Draft_waits_for_case, dm "Draft" "_take_case" "Draft._take_case" s_Draft_take_case, dm "Draft" "_take_case_of_kind" "Draft._take_case_of_kind" s_Draft_take_case_of_kind, dm "Draft" "_take_kind" "Draft._take_kind" s_Draft_take_kind, dm "Draft" "_take_birth" "Draft._take_birth" s_Draft_take_birth, dm "Draft" "__init__" "Draft.__init__" s_Draft__init]
def hFn : List He.DefD := hFn0 ++ hFn1 ++ hFn2 ++ hFn3
def hFa0 : List He.Fa := [.glo "is_name", .glo "is_option", .glo "_is_word", .glo "case_text", .glo "_tests_text", .glo "_steps_text", .glo "_step_text", .glo "read_case", .glo "_read_tests", .glo "_read_steps", .glo "_all_read", .glo "_read_test", .glo "_read_step", .glo "field_fits", .glo "tie_fits", .glo "kind_fits", .glo "name_fits", .glo "names_of"]
def hFa1 : List He.Fa := [.glo "is_program", .glo "is_case", .glo "is_holding", .glo "is_value", .glo "values_of", .glo "_is_tuple", .glo "_are_options", .glo "_are_keys", .glo "_is_key", .glo "_is_test", .glo "_is_step", .glo "_options_of", .glo "rulebook_text", .glo "_kind_lines", .glo "_first_wrong", .glo "_law_bag", .glo "_law_draw", .glo "_law_any"]
def hFa2 : List He.Fa := [.glo "_law_mixed", .glo "_law_like", .glo "_law_words", .glo "_law_options", .glo "_law_fields", .glo "_law_case", .glo "_law_program", .glo "_law_value", .glo "_law_keys", .glo "_law_kinds", .glo "_law_book", .glo "_law_made", .glo "_law_line", .glo "_law_lines_of", .glo "law", .free "all", .free "dict", .free "isinstance"]
def hFa3 : List He.Fa := [.free "len", .free "list", .free "max", .free "min", .free "range", .free "sorted", .free "tuple", .free "int", .free "zip", .free "bool", .free "str", .free "set", .free "enumerate", .free "repr", .str "LETTERS" "abcdefghijklmnopqrstuvwxyz", .str "LETTERS_AND_DIGITS" "abcdefghijklmnopqrstuvwxyz0123456789", .int "LONGEST" 8, .glo "SIGNS"]
def hFa4 : List He.Fa := [.str "NEXT" "+", .int "MOST_ITEMS" 6, .int "LEAST_OPTIONS" 2, .int "MOST_OPTIONS" 6, .int "MOST_FIELDS" 3, .int "MOST_VALUES" 24, .int "MOST_CASES" 8, .int "MOST_TIES" 4, .int "MOST_KINDS" 3, .glo "DIRECTIONS", .glo "InvalidRulebook", .glo "Rulebook", .cls "Rulebook", .mkr "Rulebook", .noat "Rulebook" "_fields", .noat "Rulebook" "_ties", .noat "Rulebook" "_kinds", .meth "Rulebook" "text"]
def hFa5 : List He.Fa := [.meth "Rulebook" "fields", .meth "Rulebook" "ties", .meth "Rulebook" "kinds", .meth "Rulebook" "__eq__", .glo "Draft", .cls "Draft", .mkr "Draft", .noat "Draft" "_fields", .noat "Draft" "_ties", .noat "Draft" "_kinds", .meth "Draft" "take", .meth "Draft" "is_whole", .meth "Draft" "parts", .meth "Draft" "_take_field", .meth "Draft" "_take_tie", .meth "Draft" "_waits_for_case", .meth "Draft" "_take_case", .meth "Draft" "_take_case_of_kind"]
def hFa6 : List He.Fa := [.meth "Draft" "_take_kind", .meth "Draft" "_take_birth"]
def hFa : List He.Fa := hFa0 ++ hFa1 ++ hFa2 ++ hFa3 ++ hFa4 ++ hFa5 ++ hFa6
def hTf : List He.Defn := [("Rulebook", some "__init__")]
def hFw : List He5.DefA := [⟨fun K => He5.wf K (He.ga K "Rulebook") "classmethod" "read", "read", "Rulebook.read", defArgs s_Rulebook_read, defBody s_Rulebook_read, defScope s_Rulebook_read, [], []⟩, ⟨fun K => He5.wf K (He.ga K "Rulebook") "staticmethod" "is_valid", "is_valid", "Rulebook.is_valid", defArgs s_Rulebook_is_valid, defBody s_Rulebook_is_valid, defScope s_Rulebook_is_valid, [], []⟩]
abbrev ExF0 (K : PySem.W.Frag) : Prop := (He.tupB K "SIGNS" [.str "=", .str "!", .str "<", .str ">"] = true) ∧
  (He.tupB K "DIRECTIONS" [.str "+", .str "-"] = true) ∧
  (ClsP K "Rulebook") ∧
  (ClsP K "Draft") ∧
  (He5.wrapB K (He.ga K "Rulebook") "classmethod" "classmethod.__get__" "read" = true) ∧
  (PySem.W.fnIn K (He5.wf K (He.ga K "Rulebook") "classmethod" "read") = true) ∧
  (PySem.W.readsIn K (He.ga K "Rulebook") (.type "type") = true) ∧
  (PySem.W.specialIn K (.ref (He.ga K "Rulebook")) "__getattribute__" = some (some (.builtin "type.__getattribute__"))) ∧
  (He5.wrapB K (He.ga K "Rulebook") "staticmethod" "staticmethod.__get__" "is_valid" = true) ∧
  (PySem.W.subIn K (.type "tuple") (.ref (He.ga K "Rulebook")) = some false) ∧
  (neB K (He.ga K "Rulebook") (He.ma K (He.ga K "Rulebook") "__eq__") = true) ∧
  (fnB K (He.ma K (He.ga K "Rulebook") "__eq__") = true)
def hEx (K : PySem.W.Frag) : Bool := decide (ExF0 K)
theorem hEx_of {K : PySem.W.Frag} (e : hEx K = true) : ExF0 K := of_decide_eq_true e
abbrev hR : PySem.W.OpenRow := PySem.W.OpenLaw.row PySem.Challenge.rw_bestheard_k07_whole_rulebooks_there_and
abbrev hHk : PySem.W.Hook := hookZ hFa hFn [] hTf hEx hFw
def hOb (s : PySem.W.SharedT) : AlZ := obsZ hFa hFn [] hTf hEx hFw (HandSHeadRun.getT s)
theorem hOb_eq (s : PySem.W.SharedT) : hOb s = hHk.obs s.abs := obsZ_eq (HandSHeadRun.getT_eq s)
def hLo0 : List Str := ["_wall", "__name__", "copy_of", "__name__", "BestError", "Missing", "InvalidField", "InvalidTie", "InvalidKind", "InvalidHolding", "InvalidRulebook", "UnknownKind", "UnknownTie", "__name__", "LETTERS", "LETTERS_AND_DIGITS", "LONGEST", "is_name"]
def hLo1 : List Str := ["is_option", "_is_word", "__name__", "SIGNS", "NEXT", "MOST_ITEMS", "case_text", "_tests_text", "_steps_text", "_step_text", "read_case", "_read_tests", "_read_steps", "_all_read", "_read_test", "_read_step", "applied", "_test_holds"]
def hLo2 : List Str := ["_after_steps", "_next_option", "_position", "__name__", "LEAST_OPTIONS", "MOST_OPTIONS", "MOST_FIELDS", "MOST_VALUES", "MOST_CASES", "MOST_TIES", "MOST_KINDS", "DIRECTIONS", "field_fits", "tie_fits", "kind_fits", "name_fits", "names_of", "is_program"]
def hLo3 : List Str := ["is_case", "is_holding", "is_value", "values_of", "_is_tuple", "_are_options", "_are_keys", "_is_key", "_is_test", "_is_step", "_options_of", "__name__", "rulebook_text", "_kind_lines", "Draft", "__name__", "Rulebook", "_first_wrong"]
def hLo4 : List Str := ["_ranks", "_rank", "__name__", "_law_bag", "_law_draw", "_law_any", "_law_mixed", "_law_like", "_law_words", "_law_options", "_law_fields", "_law_case", "_law_program", "_law_value", "_law_keys", "_law_kinds", "_law_book", "_law_made"]
def hLo5 : List Str := ["_law_line", "_law_lines_of"]
def hLo : List Str := hLo0 ++ hLo1 ++ hLo2 ++ hLo3 ++ hLo4 ++ hLo5
set_option maxHeartbeats 0 in
theorem hRun (w : World) : HandSHeadRun.RunEq hR (PySem.W.view hR.prog [92]) hHk hOb 7000 hLo w := by
  intro os
  kernel_rfl
end Bh

set_option Elab.async false
set_option linter.all false
set_option maxRecDepth 100000
namespace Bh
open PySem PySem.Spec PyProof.Rows L2
/-! ### what the laws of this set have in common: constants, defs of the top, the drawing bag -/
section
variable {X : Cx} {x z : Str} {i : Int} {a : Addr} {pos : Pos}
theorem pe_gS (hg : Gl X x) (hm : ∃ t, X.mg x = some (.str z t)) (hd : (x == ("__debug__" : Str)) = false := by decide) : PE X (.Name x pos) (tC (.str z)) := by
  obtain ⟨t, hm⟩ := hm
  exact pe_glob hg hm ⟨t, rfl⟩ hd
theorem pe_gI (hg : Gl X x) (hm : ∃ t, X.mg x = some (.int i t)) (hd : (x == ("__debug__" : Str)) = false := by decide) : PE X (.Name x pos) (tC (.int i)) := by
  obtain ⟨t, hm⟩ := hm
  exact pe_glob hg hm ⟨t, rfl⟩ hd
theorem pe_gR (hg : Gl X x) (hm : X.mg x = some (.ref a)) (hd : (x == ("__debug__" : Str)) = false := by decide) : PE X (.Name x pos) (tC (.ref a)) :=
  pe_glob hg hm rfl hd
end
theorem pe_tyN {X : Cx} {x : Str} {pos : Pos} (n : String) (hg : Gl X x) (hm : X.mg x = none) (hv : bootBuiltins x = some (.type n)) (hnn : x ≠ "__name__" := by decide) (hdb : (x == ("__debug__" : Str)) = false := by decide) : PE X (.Name x pos) (tC (.ty n)) := pe_bltn hg hm hv rfl hnn hdb
/-- a def of the top: where it stands, what its name holds, how it binds -/
structure Df (K : PySem.W.Frag) (mg : Str → Option Value) (x : Str) (st : Stmt) (ps : List Str) (f : Addr) (fd : FuncData) : Prop where
  F : Fun K x x st f fd
  g : mg x = some (.ref f)
  b : Binds K fd ps []
theorem Df.kp {K : PySem.W.Frag} {mg : Str → Option Value} {x : Str} {st : Stmt} {ps : List Str} {f : Addr} {fd : FuncData} (d : Df K mg x st ps f fd) : PySem.W.keepIn K (.ref f) = true := d.F.kp
theorem same_new {H : Hp} {p : Addr} {o : HO} (h : H p = none) : Same H (upd H p o) := fun b u e => by
  rw [upd_ne (ne_of_none e h)]
  exact e
theorem Same.tup {K : PySem.W.Frag} {H H' : Hp} {a : Addr} {xs : List V} (e : Same H H') (h : SqT K H a xs) : SqT K H' a xs := by
  rcases h with (h | ⟨o, h⟩) | h
  · exact .inl (.inl (e _ _ h))
  · exact .inl (.inr ⟨o, e _ _ h⟩)
  · exact .inr h
/-- the bag of a law: the script's ints at l, how many are taken, what is left of a great one, the seed -/
def BagAt (b l : Addr) (H : Hp) : Prop := ∃ (ns : List Int) (i c s : Int), H b = some (.lst [.ref l, .int i, .int c, .int s]) ∧ H l = some (.lst (ns.map V.int)) ∧ ns.length ≤ 63 ∧ 0 ≤ i ∧ i ≤ (ns.length : Int) ∧ 0 ≤ c ∧ 0 ≤ s ∧ s < 2147483647
/-- G: all that is known apart from the bag at b, l -/
structure Wd (b l : Addr) (G H : Hp) : Prop where
  nb : G b = none
  nl : G l = none
  sm : Same G H
  bag : BagAt b l H
section
variable {b l p q : Addr} {G G' H H' : Hp} {o o' : HO}
theorem BagAt.b_some (h : BagAt b l H) : ∃ o, H b = some o := by
  obtain ⟨_, _, _, _, h, _⟩ := h
  exact ⟨_, h⟩
theorem BagAt.l_some (h : BagAt b l H) : ∃ o, H l = some o := by
  obtain ⟨_, _, _, _, _, h, _⟩ := h
  exact ⟨_, h⟩
theorem BagAt.same (h : BagAt b l H) (e : Same H H') : BagAt b l H' := by
  obtain ⟨ns, i, c, s, h1, h2, r⟩ := h
  exact ⟨ns, i, c, s, e _ _ h1, e _ _ h2, r⟩
theorem Wd.b_ne (w : Wd b l G H) (hp : H p = none) : p ≠ b := fun z => by
  obtain ⟨o, e⟩ := w.bag.b_some
  rw [← z, hp] at e
  cases e
theorem Wd.l_ne (w : Wd b l G H) (hp : H p = none) : p ≠ l := fun z => by
  obtain ⟨o, e⟩ := w.bag.l_some
  rw [← z, hp] at e
  cases e
theorem Wd.same (w : Wd b l G H) (e : Same H H') : Wd b l G H' := ⟨w.nb, w.nl, w.sm.trans e, w.bag.same e⟩
/-- a new object -/
theorem Wd.new (w : Wd b l G H) (hp : H p = none) : Wd b l (upd G p o) (upd H p o) := by
  refine ⟨?_, ?_, fun a u e => ?_, w.bag.same (same_new hp)⟩
  · rw [upd_ne (w.b_ne hp).symm]
    exact w.nb
  · rw [upd_ne (w.l_ne hp).symm]
    exact w.nl
  · by_cases h : a = p
    · rw [h, upd_same] at e ⊢
      exact e
    · rw [upd_ne h] at e ⊢
      exact w.sm _ _ e
theorem Wd.free (w : Wd b l G H) (hp : H p = none) : G p = none := w.sm.free hp
theorem Wd.sameG (w : Wd b l G H) (hp : H p = none) : Same G (upd G p o) := same_new (w.free hp)
/-- an object that is known changes -/
theorem Wd.mut (w : Wd b l G H) (hq : G q = some o) : Wd b l (upd G q o') (upd H q o') := by
  have nb : q ≠ b := fun z => by
    rw [z, w.nb] at hq
    cases hq
  have nl : q ≠ l := fun z => by
    rw [z, w.nl] at hq
    cases hq
  obtain ⟨ns, i, c, s, h1, h2, r⟩ := w.bag
  refine ⟨?_, ?_, fun a u e => ?_, ns, i, c, s, ?_, ?_, r⟩
  · rw [upd_ne nb.symm]
    exact w.nb
  · rw [upd_ne nl.symm]
    exact w.nl
  · by_cases h : a = q
    · rw [h, upd_same] at e ⊢
      exact e
    · rw [upd_ne h] at e ⊢
      exact w.sm _ _ e
  · rw [upd_ne nb.symm]
    exact h1
  · rw [upd_ne nl.symm]
    exact h2
/-- what a def leaves that knows nothing of the bag: G' has more, new things -/
theorem Wd.grow (w : Wd b l G H) (e : Same H H') (g : Same G' H') (n : ∀ a o, G' a = some o → G a = none → H a = none) : Wd b l G' H' := by
  have key : ∀ a, G a = none → (∃ o, H a = some o) → G' a = none := fun a ha ⟨o, ho⟩ => by
    cases q : G' a with
    | none => rfl
    | some u =>
      have z := n a u q ha
      rw [ho] at z
      cases z
  exact ⟨key _ w.nb w.bag.b_some, key _ w.nl w.bag.l_some, g, w.bag.same e⟩
/-- the bag alone changes -/
theorem Wd.bagged (w : Wd b l G H) (h : BagAt b l (upd H b o)) : Wd b l G (upd H b o) := by
  refine ⟨w.nb, w.nl, fun a u e => ?_, h⟩
  rw [upd_ne (ne_of_none e w.nb)]
  exact w.sm _ _ e
end
theorem p31 : (0 : Int) < 2147483647 := by decide
theorem p8117 : (0 : Int) < 8117 := by decide
/-! ### the promises of the bag's defs -/
def spBag (K : PySem.W.Frag) : Sp := fun vs H Q _ => ∃ (a : Addr) (ns : List Int), vs = [.ref a] ∧ SqL K H a (ns.map V.int) ∧ ns.length ≤ 63 ∧ ∀ (b l : Addr) (H' : Hp), H b = none → H l = none → Same H H' → BagAt b l H' → Q (.ref b) H'
def spDraw : Sp := fun vs H Q _ => ∃ (b l : Addr) (G : Hp) (n : Int), vs = [.ref b, .int n] ∧ 0 < n ∧ n < 1073741824 ∧ Wd b l G H ∧ ∀ (r : Int) (H' : Hp), 0 ≤ r → r < n → Wd b l G H' → Q (.int r) H'
/-- the same, by what any def that draws may lean on -/
theorem wd_start {b l : Addr} {H H' : Hp} (hb : H b = none) (hl : H l = none) (e : Same H H') (h : BagAt b l H') : Wd b l H H' := ⟨hb, hl, e, h⟩
theorem get_map {ns : List Int} {i : Nat} {v : V} (h : (ns.map V.int)[i]? = some v) : ∃ z, ns[i]? = some z ∧ v = .int z := by
  rw [List.getElem?_map] at h
  cases e : ns[i]? with
  | none =>
    rw [e] at h
    cases h
  | some z =>
    rw [e] at h
    exact ⟨z, rfl, (Option.some.inj h).symm⟩
theorem at_nn {α : Type} {xs : List α} {i : Int} {v : α} (h0 : 0 ≤ i) (h : xs[i.toNat]? = some v) : atI xs i = some v := by
  have e : i = ((i.toNat : Nat) : Int) := by omega
  rw [e]
  exact atI_nat h
theorem at_lt {α : Type} {xs : List α} {i : Int} (h0 : 0 ≤ i) (h1 : i < (xs.length : Int)) : ∃ v, atI xs i = some v ∧ v ∈ xs := by
  have h : i.toNat < xs.length := by omega
  exact ⟨xs[i.toNat], at_nn h0 (List.getElem?_eq_getElem h), List.getElem_mem h⟩
end Bh

set_option Elab.async false
set_option linter.all false
set_option maxRecDepth 100000
namespace Bh
open PySem PySem.Spec PyProof.Rows L2
/-! ### one of two rules -/
section
variable {X : Cx}
theorem pe_or {e : Expr} {t u : TE} (h1 : PE X e t) (h2 : PE X e u) : PE X e (fun σ H Q => t σ H Q ∨ u σ H Q) :=
  ⟨fun pins s σ H Q I h => h.elim (h1.run pins s σ H Q I) (h2.run pins s σ H Q I)⟩
theorem pi_or {tg it : Expr} {w v : TI} (h1 : PI X tg it w) (h2 : PI X tg it v) : PI X tg it (fun σ H R => w σ H R ∨ v σ H R) :=
  ⟨fun pins s σ H R I h => h.elim (h1.run pins s σ H R I) (h2.run pins s σ H R I)⟩
/-- a list or a tuple -/
theorem pi_seq {tg l : Expr} {tl : TE} (hl : PE X l tl) : PI X tg l (fun σ H R => iList X.K tl σ H R ∨ iTup X.K tl σ H R) := pi_or (pi_list hl) (pi_tup hl)
/-- f(k = v, ..) -/
theorem pe_callN0 {CX : CXT} {k : Nat} {f : Addr} {fd : FuncData} {ps ks : List Str} {sp : Sp} {E : XK} {x : Str} {p pos : Pos} {kws : List Keyword} {tk : TA} {g : List Value → List Value → List Value} {gV : List V → List V → List V}
    (F : FnOk X.prog X.w X.K X.mg X.base CX k f fd ps sp) (hr : Room k X.A) (hg : Gl X x) (hm : X.mg x = some (.ref f)) (hk : PySem.W.keepIn X.K (.ref f) = true) (hb : KBn X.K fd ps 0 ks g gV) (hx : Passes CX X E)
    (hkw : PK X kws tk) (hall : (backToKw pos (keywordEach kws X.env)).all (·.1.isSome) = true := by rfl) (hks : (backToKw pos (keywordEach kws X.env)).filterMap (·.1) = ks := by rfl)
    (hdb : (x == ("__debug__" : Str)) = false := by decide) (hpl : ((backTo pos (starEach [] X.env)).any (·.1) || (backToKw pos (keywordEach kws X.env)).any (·.1.isNone)) = false := by rfl) :
    PE X (.Call (.Name x p) [] kws pos) (tCallN 0 ks.length sp gV E tNil tk) := by
  refine ⟨fun pins s σ H Q I h => ?_⟩
  refine wpAny_Call_Name_kw (ld_glob I hg hm ?_ hdb)
  refine PySem.W.callWith_KW0 (h₀ := X.base) I.ok.mod.kin hk hall ?_ hpl
  refine thn (hkw.run pos pins s σ H _ I h) fun ws s2 ⟨zs, H2, I2, rz, l1, l2, q2⟩ => ⟨I2.kIn, ?_⟩
  rw [hks]
  exact run_fnN (us := []) (vs := []) F hr hb hx I2 .nil rz rfl l2 q2
end
/-! ### data of any depth -/
section
variable {K : PySem.W.Frag} {H H' : Hp} {v x y : V} {xs ys : List V} {d e : PyData} {ds es : List PyData} {a : Addr}
mutual
theorem Dp.mono (g : Same H H') : ∀ {v : V} {d : PyData}, Dp K H v d → Dp K H' v d
  | _, _, .non => .non
  | _, _, .bl b => .bl b
  | _, _, .int i => .int i
  | _, _, .str x => .str x
  | _, _, .lst h all => .lst (g.seq h) (DpAll.mono g all)
  | _, _, .tup h all => .tup (Same.tup g h) (DpAll.mono g all)
theorem DpAll.mono (g : Same H H') : ∀ {vs : List V} {ds : List PyData}, DpAll K H vs ds → DpAll K H' vs ds
  | _, _, .nil => .nil
  | _, _, .cons h t => .cons (Dp.mono g h) (DpAll.mono g t)
end
theorem DpAll.length : ∀ {xs : List V} {ds : List PyData}, DpAll K H xs ds → xs.length = ds.length
  | _, _, .nil => rfl
  | _, _, .cons _ t => congrArg Nat.succ (DpAll.length t)
theorem DpAll.get : ∀ {xs : List V} {ds : List PyData} {i : Nat} {x : V}, DpAll K H xs ds → xs[i]? = some x → ∃ d, ds[i]? = some d ∧ Dp K H x d
  | _, _, _, _, .nil, e => by simp at e
  | _, _, 0, _, .cons h _, e => by
    simp at e
    subst e
    exact ⟨_, rfl, h⟩
  | _, _, i + 1, x, .cons _ t, e => by
    obtain ⟨d, h1, h2⟩ := DpAll.get (i := i) (x := x) t (by simpa using e)
    exact ⟨d, by simpa using h1, h2⟩
theorem DpAll.getD : ∀ {xs : List V} {ds : List PyData} {i : Nat} {d : PyData}, DpAll K H xs ds → ds[i]? = some d → ∃ x, xs[i]? = some x ∧ Dp K H x d
  | _, _, _, _, .nil, e => by simp at e
  | _, _, 0, _, .cons h _, e => by
    simp at e
    subst e
    exact ⟨_, rfl, h⟩
  | _, _, i + 1, x, .cons _ t, e => by
    obtain ⟨d, h1, h2⟩ := DpAll.getD (i := i) (d := x) t (by simpa using e)
    exact ⟨d, by simpa using h1, h2⟩
theorem DpAll.append : ∀ {xs ys : List V} {ds es : List PyData}, DpAll K H xs ds → DpAll K H ys es → DpAll K H (xs ++ ys) (ds ++ es)
  | _, _, _, _, .nil, k => k
  | _, _, _, _, .cons h t, k => .cons h (DpAll.append t k)
theorem DpAll.take : ∀ {xs : List V} {ds : List PyData} (n : Nat), DpAll K H xs ds → DpAll K H (xs.take n) (ds.take n)
  | _, _, 0, _ => .nil
  | _, _, _ + 1, .nil => .nil
  | _, _, n + 1, .cons h t => .cons h (DpAll.take n t)
theorem DpAll.drop : ∀ {xs : List V} {ds : List PyData} (n : Nat), DpAll K H xs ds → DpAll K H (xs.drop n) (ds.drop n)
  | _, _, 0, h => h
  | _, _, _ + 1, .nil => .nil
  | _, _, n + 1, .cons _ t => DpAll.drop n t
theorem dp_strs : ∀ {xs : List V} {zs : List Str}, DpAll K H xs (zs.map PyData.str) → xs = zs.map V.str
  | _, [], .nil => rfl
  | _, z :: zs, .cons h t => by
    cases h
    rw [dp_strs t]
    rfl
theorem strs_dp : ∀ (zs : List Str), DpAll K H (zs.map V.str) (zs.map PyData.str)
  | [] => .nil
  | z :: zs => .cons (.str z) (strs_dp zs)
theorem dp_str {z : Str} (h : Dp K H v (.str z)) : v = .str z := by
  cases h
  rfl
theorem dp_non (h : Dp K H v .none) : v = .non := by
  cases h
  rfl
theorem dp_tup (h : Dp K H v (.tuple ds)) : ∃ a xs, v = .ref a ∧ SqT K H a xs ∧ DpAll K H xs ds := by
  cases h with
  | tup h1 h2 => exact ⟨_, _, rfl, h1, h2⟩
theorem dp_lst (h : Dp K H v (.list ds)) : ∃ a xs, v = .ref a ∧ SqL K H a xs ∧ DpAll K H xs ds := by
  cases h with
  | lst h1 h2 => exact ⟨_, _, rfl, h1, h2⟩
theorem dpa_cons (h : DpAll K H xs (d :: ds)) : ∃ x r, xs = x :: r ∧ Dp K H x d ∧ DpAll K H r ds := by
  cases h with
  | cons h1 h2 => exact ⟨_, _, rfl, h1, h2⟩
theorem dpa_nil (h : DpAll K H xs []) : xs = [] := by
  cases h
  rfl
/-- a list or a tuple of these -/
def DpS (K : PySem.W.Frag) (H : Hp) (v : V) (ds : List PyData) : Prop := ∃ a xs, v = .ref a ∧ (SqL K H a xs ∨ SqT K H a xs) ∧ DpAll K H xs ds
theorem DpS.mono (g : Same H H') (h : DpS K H v ds) : DpS K H' v ds := by
  obtain ⟨a, xs, e, h1, h2⟩ := h
  exact ⟨a, xs, e, h1.imp g.seq (Same.tup g), DpAll.mono g h2⟩
theorem DpS.ofT (h : Dp K H v (.tuple ds)) : DpS K H v ds := by
  obtain ⟨a, xs, e, h1, h2⟩ := dp_tup h
  exact ⟨a, xs, e, .inr h1, h2⟩
theorem DpS.ofL (h : Dp K H v (.list ds)) : DpS K H v ds := by
  obtain ⟨a, xs, e, h1, h2⟩ := dp_lst h
  exact ⟨a, xs, e, .inl h1, h2⟩
/-- how deep data are -/
inductive Sh : Nat → PyData → Prop
  | non {n : Nat} : Sh n .none
  | bl {n : Nat} {b : Bool} : Sh n (.bool b)
  | int {n : Nat} {i : Int} : Sh n (.int i)
  | str {n : Nat} {z : Str} : Sh n (.str z)
  | lst {n : Nat} {ds : List PyData} (hl : ds.length ≤ 100000) (h : ∀ d ∈ ds, Sh n d) : Sh (n + 1) (.list ds)
  | tup {n : Nat} {ds : List PyData} (hl : ds.length ≤ 100000) (h : ∀ d ∈ ds, Sh n d) : Sh (n + 1) (.tuple ds)
theorem tyL (h : SqL K H a xs) : TyX K H (.ref a) (.type "list") := by
  rcases h with (h | ⟨o, h⟩) | ⟨o, its, n, h1, h2, _⟩
  · exact .base (.lst h)
  · exact .base (.frz h)
  · exact .kList h1 h2
theorem tyT (h : SqT K H a xs) : TyX K H (.ref a) (.type "tuple") := by
  rcases h with (h | ⟨o, h⟩) | ⟨o, its, n, h1, h2, _⟩
  · exact .base (.tup h)
  · exact .fTuple h
  · exact .kTuple h1 h2
/-- the type of data, by its name -/
def tyN : PyData → String
  | .none => "NoneType"
  | .bool _ => "bool"
  | .int _ => "int"
  | .str _ => "str"
  | .list _ => "list"
  | .tuple _ => "tuple"
  | .dict _ => "dict"
theorem tyD (h : Dp K H v d) : TyX K H v (.type (tyN d)) := by
  cases h with
  | non => exact .base .non
  | bl b => exact .base (.bl b)
  | int i => exact .base (.int i)
  | str x => exact .base (.str x)
  | lst h1 h2 => exact tyL h1
  | tup h1 h2 => exact tyT h1
end
/-! ### zip of two tuples, as a walk -/
theorem walk_zipT {K : PySem.W.Frag} {a b : Addr} {xs ys : List V} {n : Nat} (hn : n = min xs.length ys.length) : Walk (RZ.ItzT K a b) n (fun H => SqT K H a xs ∧ SqT K H b ys) (YPair (fun i => xs[i]?) (fun i => ys[i]?)) := by
  subst hn
  refine ⟨fun i _ hi q => ?_, fun _ q => ⟨xs, ys, q.1, q.2, by omega⟩, fun i H v H' _ q y => ?_⟩
  · have h1 : i < xs.length := by omega
    have h2 : i < ys.length := by omega
    exact ⟨xs, ys, xs[i], ys[i], q.1, q.2, by simp [h1], by simp [h2]⟩
  · obtain ⟨T, x, z, h1, h2, h3, h4, h5⟩ := y
    exact ⟨T, x, z, h1, h2, h3, h4 xs q.1, h5 ys q.2⟩
end Bh
namespace Bh
open PySem PySem.Spec PyProof.Rows L2
theorem iteN {p A B : Prop} [Decidable p] (h : ¬ p) (b : B) : if decide p = true then A else B := by
  rw [decide_eq_false h]
  exact iteF b
theorem iteY {p A B : Prop} [Decidable p] (h : p) (a : A) : if decide p = true then A else B := by
  rw [decide_eq_true h]
  exact iteT a
theorem ite3 {p A B : Prop} [Decidable p] (h1 : p → A) (h2 : ¬ p → B) : if decide p = true then A else B := by
  by_cases h : p
  · exact iteY h (h1 h)
  · exact iteN h (h2 h)
/-- the promise of the laws' comparison: both sides are the same data (n: how deep, one more) -/
def spLk (K : PySem.W.Frag) : Nat → Sp
  | 0 => fun _ _ _ _ => False
  | n + 1 => fun vs H Q _ => ∃ (x y : V) (d : PyData), vs = [x, y] ∧ Dp K H x d ∧ Dp K H y d ∧ Sh n d ∧ ∀ H', Same H H' → Q (.bl true) H'
theorem bls_true (n : Nat) : (List.replicate n true).all id = true := by
  induction n with
  | zero => rfl
  | succ n ih => rw [List.replicate_succ, List.all_cons, ih]; rfl
end Bh

set_option Elab.async false
set_option linter.all false
set_option maxRecDepth 100000
namespace Bh
open PySem PySem.Spec PyProof.Rows L2
/-! ### the rules that lean on the written part, told over a named one -/
def rLenS (K : PySem.W.Frag) : List V → Hp → VK → Prop := fun xs H Q => ∃ p ys, xs = [.ref p] ∧ (SqL K H p ys ∨ SqT K H p ys) ∧ Q (.int ys.length) H
def rListOf (K : PySem.W.Frag) : List V → Hp → VK → Prop := fun xs H Q => ∃ p ys, xs = [.ref p] ∧ (SqL K H p ys ∨ SqT K H p ys) ∧ ∀ l, H l = none → Q (.ref l) (upd H l (.lst ys))
def rTupOf (K : PySem.W.Frag) : List V → Hp → VK → Prop := fun xs H Q => ∃ p ys, xs = [.ref p] ∧ ((SqL K H p ys ∧ ∀ l, H l = none → Q (.ref l) (upd H l (.tup ys))) ∨ (SqT K H p ys ∧ Q (.ref p) H))
def rTupIx (K : PySem.W.Frag) : V → List V → Hp → VK → Prop := fun x xs H Q => ∃ p, ∃ ys : List Str, ∃ z j, x = .ref p ∧ xs = [.str z] ∧ SqT K H p (ys.map V.str) ∧ ys[j]? = some z ∧ (∀ m, m < j → ys[m]? ≠ some z) ∧ Q (.int (j : Nat)) H
def rJoin (K : PySem.W.Frag) : V → List V → Hp → VK → Prop := fun x xs H Q => ∃ a p, ∃ ys : List Str, x = .str a ∧ xs = [.ref p] ∧ (SqL K H p (ys.map V.str) ∨ SqT K H p (ys.map V.str)) ∧ (ys.map (·.length)).sum + ys.length * a.length ≤ 16777216 ∧ Q (.str (Txt.join a ys)) H
def iSeq (K : PySem.W.Frag) (tl : TE) : TI := fun σ H R => iList K tl σ H R ∨ iTup K tl σ H R
section
variable {X : Cx} {K : PySem.W.Frag} (hK : X.K = K)
include hK
theorem pg_tup_K {es : List Expr} {k : Nat} {t : TGs} {n : Nat} {pos : Pos} (hc : X.calm = true) (h : PGs X es t) (hn : (assignEach es X.env).length = n := by rfl) (hst : (assignEach es X.env).findIdx? (·.1) = none := by rfl) : PG X (.Tuple es k pos) (gTup K n t) := by
  subst hK
  exact pg_tup hc h hn hst
theorem pi_list_K {tg l : Expr} {tl : TE} (hl : PE X l tl) : PI X tg l (iList K tl) := by subst hK; exact pi_list hl
theorem pi_tup_K {tg l : Expr} {tl : TE} (hl : PE X l tl) : PI X tg l (iTup K tl) := by subst hK; exact pi_tup hl
theorem pi_seq_K {tg l : Expr} {tl : TE} (hl : PE X l tl) : PI X tg l (iSeq K tl) := by subst hK; exact pi_seq hl
theorem pi_zipA_K {e e2 : Expr} {ta : TA} {p pos tpos : Pos} {elts : List Expr} {kk : Nat} (hg : Gl X "zip") (hm : X.mg "zip" = none) (ha : PA X [e, e2] ta)
    (hs : starEach [e, e2] X.env = (false, eval e X.env) :: starEach [e2] X.env := by rfl) (hpl : (backTo pos (starEach [e2] X.env)).any (·.1) = false := by rfl) :
    PI X (.Tuple elts kk tpos) (.Call (.Name "zip" p) [e, e2] [] pos) (RZ.iZipA K ta) := by subst hK; exact RZ.pi_zipA hg hm ha hs hpl
theorem call_len_seq_K : CallR X (.builtin "len") (rLenS K) := by subst hK; exact call_len_seq
theorem call_list_of_K : CallR X (.type "list") (rListOf K) := by subst hK; exact call_list_of
theorem call_tuple_of_K : CallR X (.type "tuple") (rTupOf K) := by subst hK; exact call_tuple_of
theorem ix_list_K : IxR X (rIxL K) := by subst hK; exact ix_list
theorem ix_tup_K : IxR X (rIxT K) := by subst hK; exact ix_tup
theorem ix_seq_K : IxR X (rIx K) := by subst hK; exact ix_seq
theorem sl_list_K : SlR X (rSlL K) := by subst hK; exact sl_list
theorem sl_tupA_K : SlR X (rSlA K) := by subst hK; exact sl_tupA
theorem cr_all_K (hc : X.calm = true) : CallR X (.builtin "all") (rAll K) := by subst hK; exact cr_all hc
theorem cr_any_K (hc : X.calm = true) : CallR X (.builtin "any") (rAny K) := by subst hK; exact cr_any hc
theorem op_in_seq_K : OpR X (compareOp .In) (rIn K false) := by subst hK; exact op_in_seq
theorem op_notIn_seq_K : OpR X (compareOp .NotIn) (rIn K true) := by subst hK; exact op_notIn_seq
theorem op_catA_K : OpR X (binaryOp .Add) (rCatA K) := by subst hK; exact op_catA
theorem op_repT_K : OpR X (binaryOp .Mult) (rRepT K) := by subst hK; exact op_repT
theorem mt_index_K : MtR X "list.index" (rIndex K) := by subst hK; exact mt_index
theorem mt_tup_index_K : MtR X "tuple.index" (rTupIx K) := by subst hK; exact mt_tup_index
theorem mt_join_K : MtR X "str.join" (rJoin K) := by subst hK; exact mt_join
theorem call_isi_K : CallR X (.builtin "isinstance") (rIsi K) := by subst hK; exact call_isi
theorem call_isiT_K : CallR X (.builtin "isinstance") (rIsiT K) := by subst hK; exact call_isiT
theorem op_eqD_K (hu : X.A.units + 64 < cLine) : OpR X (compareOp .Eq) (rEqD K) := by subst hK; exact op_eqD hu
theorem op_neD_K (hu : X.A.units + 64 < cLine) : OpR X (compareOp .NotEq) (rNeD K) := by subst hK; exact op_neD hu
theorem pe_bm_K {o e : Expr} {es : List Expr} {to : TE} {t : TA} {name : Str} {apos cpos : Pos} {T id : String} {r : V → List V → Hp → VK → Prop}
    (pa : PlainAttrs T) (slot : Slot T name id) (hty : typeOf (.builtin id) = pure (.type "method_descriptor")) (hm : MtR X id r) (ho : PE X o to) (ha : PA X (e :: es) t)
    (hbase : attributeBase o name X.env (eval o X.env) = eval o X.env := by rfl)
    (hfew : ((backTo cpos (starEach (e :: es) X.env)).all (fun x => !x.1) && (backToKw cpos (keywordEach [] X.env)).all (fun x => x.1.isSome)
      && decide ((e :: es).length + ([] : List Keyword).length + (if ([] : List Keyword).isEmpty then 0 else 1) < 30)) = true := by rfl)
    (hline : (apos.endLine == cpos.line) = true := by rfl) (hs : starEach (e :: es) X.env = (false, eval e X.env) :: starEach es X.env := by rfl) (hplain : (backTo cpos (starEach es X.env)).any (·.1) = false := by rfl) :
    PE X (.Call (.Attribute o name apos) (e :: es) [] cpos) (tBM K T r to t) := by subst hK; exact pe_bm pa slot hty hm ho ha hbase hfew hline hs hplain
end
section
variable {X : Cx} {K : PySem.W.Frag} {o e : Expr} {to te : TE}
theorem pe_join_K (hK : X.K = K) {apos pos : Pos} (ho : PE X o to) (he : PE X e te) (hs : starEach [e] X.env = [(false, eval e X.env)] := by rfl) (hbase : attributeBase o "join" X.env (eval o X.env) = eval o X.env := by rfl) (hline : (apos.endLine == pos.line) = true := by rfl) :
    PE X (.Call (.Attribute o "join" apos) [e] [] pos) (tM1 (rJoin K) to te) := pe_m1 PySem.F.slot_str_join PySem.F.type_str_join (mt_join_K hK) ho he hs hbase hline
end
end Bh
namespace Bh
open PySem PySem.Spec PyProof.Rows L2
theorem q_eq {x : V} {Q : VK} {H : Hp} (h : Q (.bl true) H) : Q (.bl (decide (x = x))) H := by
  rw [decide_eq_true rfl]
  exact h
theorem dpa_at {K : PySem.W.Frag} {H : Hp} {xs ys : List V} {ds : List PyData} {i : Nat} {x y : V} (hx : DpAll K H xs ds) (hy : DpAll K H ys ds) (ex : xs[i]? = some x) (ey : ys[i]? = some y) : ∃ d ∈ ds, Dp K H x d ∧ Dp K H y d := by
  obtain ⟨d, h1, h2⟩ := DpAll.get hx ex
  obtain ⟨e, h3, h4⟩ := DpAll.get hy ey
  rw [h1] at h3
  cases h3
  exact ⟨d, List.mem_of_getElem? h1, h2, h4⟩
theorem rep_snoc (n : Nat) (v : V) : List.replicate n v ++ [v] = List.replicate (n + 1) v := List.replicate_succ'.symm
theorem lt_line {n : Nat} (h : n ≤ 100000) : n < sizeLine := Nat.lt_of_le_of_lt h (by decide)
theorem le_line {n : Nat} (h : n ≤ 100000) : n ≤ sizeLine := Nat.le_of_lt (lt_line h)
end Bh
namespace Bh
open PySem PySem.Spec PyProof.Rows L2
/-! ### tuples without a dict of their own: their methods -/
def SqP (K : PySem.W.Frag) (H : Hp) (a : Addr) (xs : List V) : Prop := (∃ o : Obj, H a = some (.frz o (.tup xs)) ∧ o.dict = none) ∨
  ∃ (o : Obj) (its : Array Value) (n : Nat), K.lookup a = some o ∧ o.cls = .type "tuple" ∧ o.dict = none ∧ o.data = .seq its n ∧ its.size ≤ sizeLine ∧ Vals xs its.toList
section
variable {K : PySem.W.Frag} {H H' : Hp} {a : Addr} {xs : List V}
theorem SqP.sqT (h : SqP K H a xs) : SqT K H a xs := by
  rcases h with ⟨o, h, _⟩ | ⟨o, its, n, h1, h2, _, h3, h4, h5⟩
  · exact .inl (.inr ⟨o, h⟩)
  · exact .inr ⟨o, its, n, h1, h2, h3, h4, h5⟩
theorem SqP.mono (e : Same H H') (h : SqP K H a xs) : SqP K H' a xs := by
  rcases h with ⟨o, h, h2⟩ | h
  · exact .inl ⟨o, e _ _ h, h2⟩
  · exact .inr h
theorem SqP.new {o : Obj} (h : o.dict = none) : SqP K (upd H a (.frz o (.tup xs))) a xs := .inl ⟨o, upd_same, h⟩
end
def rTupOfP (K : PySem.W.Frag) : List V → Hp → VK → Prop := fun xs H Q => ∃ p ys, xs = [.ref p] ∧ ((SqL K H p ys ∧ ∀ (l : Addr) (o : Obj), H l = none → o.dict = none → Q (.ref l) (upd H l (.frz o (.tup ys)))) ∨ (SqT K H p ys ∧ Q (.ref p) H))
section
variable {X : Cx} {K : PySem.W.Frag}
theorem call_tuple_of_P (hK : X.K = K) : CallR X (.type "tuple") (rTupOfP K) := by
  subst hK
  intro pins s σ H xs us Q I r h
  obtain ⟨p, ys, rfl, h⟩ := h
  obtain ⟨u, rfl, rx⟩ := vals1 r
  cases rx
  rcases h with ⟨hq, q⟩ | ⟨hq, q⟩
  · obtain ⟨its, r', pl, hz⟩ := I.list hq
    have hlen := r'.length
    refine call_tuple_list pl.isList (fun h' kp => ?_) (by simp only [List.size_toArray] <;> omega)
    have I1 : Inv X pins σ H { s with heap := h' } := I.kept (t' := s.toks) kp
    have I2 : Inv X pins σ (upd H h'.objs.size (.frz { cls := .type "tuple", data := .seq its.toArray } (.tup ys))) { s with heap := h'.push { cls := .type "tuple", data := .seq its.toArray } } :=
      I1.laid (t' := s.toks) (fun b o e => Heap.get?_push_of_some _ e) (Nat.le_refl _) (show ObjOk X.prog X.w _ _ _ (.frz { cls := .type "tuple", data := .seq its.toArray } (.tup ys)) from ⟨Heap.get?_push_size _ rfl, hz, its, r', IsTup.new _ _⟩)
    exact ⟨.ref h'.objs.size, _, I2, rfl, q _ _ (I1.hok.fresh (Nat.le_refl _)) rfl⟩
  · obtain ⟨its, r', pl, hz⟩ := I.tuple hq
    exact call_tuple_same pl ⟨.ref p, H, I, rfl, q⟩
def tBMP (K : PySem.W.Frag) (r : V → List V → Hp → VK → Prop) (to : TE) (t : TA) : TE := fun σ H Q => to σ H fun x H1 => (∃ a xs, x = .ref a ∧ SqP K H1 a xs) ∧ t σ H1 fun xs H2 => r x xs H2 Q
theorem pe_bm_P (hK : X.K = K) {o e : Expr} {es : List Expr} {to : TE} {t : TA} {name : Str} {apos cpos : Pos} {id : String} {r : V → List V → Hp → VK → Prop}
    (pa : PlainAttrs "tuple") (slot : Slot "tuple" name id) (hty : typeOf (.builtin id) = pure (.type "method_descriptor")) (hm : MtR X id r) (ho : PE X o to) (ha : PA X (e :: es) t)
    (hbase : attributeBase o name X.env (eval o X.env) = eval o X.env := by rfl)
    (hfew : ((backTo cpos (starEach (e :: es) X.env)).all (fun x => !x.1) && (backToKw cpos (keywordEach [] X.env)).all (fun x => x.1.isSome)
      && decide ((e :: es).length + ([] : List Keyword).length + (if ([] : List Keyword).isEmpty then 0 else 1) < 30)) = true := by rfl)
    (hline : (apos.endLine == cpos.line) = true := by rfl) (hs : starEach (e :: es) X.env = (false, eval e X.env) :: starEach es X.env := by rfl) (hplain : (backTo cpos (starEach es X.env)).any (·.1) = false := by rfl) :
    PE X (.Call (.Attribute o name apos) (e :: es) [] cpos) (tBMP K r to t) := by
  subst hK
  refine ⟨fun pins s σ H Q I h => ?_⟩
  refine wpAny_Call_method_late hbase hfew hline rfl (thn (ho.run pins s σ H _ I h) fun v s1 ⟨x, H1, I1, r1, ty, q1⟩ => ?_)
  have hty2 : s1.TypeIs v "tuple" ∧ ∀ a, v = .ref a → ∃ ob, s1.heap.get? a = some ob ∧ ob.dict = none := by
    obtain ⟨a, xs, rfl, hP⟩ := ty
    cases r1
    obtain ⟨its, _, pl, _⟩ := I1.tuple hP.sqT
    refine ⟨pl.typeIs, fun b e => ?_⟩
    cases e
    rcases hP with ⟨ob, hb, hd⟩ | ⟨ob, its, n, hk, hc, hd, _⟩
    · exact ⟨ob, (I1.hok a _ hb).1, hd⟩
    · exact ⟨ob, I1.kIn a ob hk, hd⟩
  obtain ⟨h1, h2⟩ := hty2
  refine ⟨"tuple", id, pa, slot, hty, h1, h2, ?_⟩
  have hA := ha.run cpos pins s1 σ H1 _ I1 q1
  rw [hs] at hA ⊢
  refine Calls.callWith_builtin (by show (false || (backTo cpos (starEach es X.env)).any (·.1)) = false; rw [hplain] <;> rfl) (Calls.evalArgs_plain ?_)
  exact thn hA fun us s2 ⟨vs, H2, I2, r2, q2⟩ => hm pins s2 σ H2 x vs v us Q I2 r1 r2 q2
end
end Bh
namespace Bh
open PySem PySem.Spec PyProof.Rows L2
/-! ### == and != of data of any texts -/
mutual
theorem Dp.plain {K : PySem.W.Frag} {H : Hp} : ∀ {v : V} {d : PyData}, Dp K H v d → d.plain = true
  | _, _, .non => rfl
  | _, _, .bl _ => rfl
  | _, _, .int _ => rfl
  | _, _, .str _ => rfl
  | _, _, .lst _ all => DpAll.plain all
  | _, _, .tup _ all => DpAll.plain all
theorem DpAll.plain {K : PySem.W.Frag} {H : Hp} : ∀ {vs : List V} {ds : List PyData}, DpAll K H vs ds → PyData.plainAll ds = true
  | _, _, .nil => rfl
  | _, _, .cons h t => by
    show (_ && _) = true
    rw [Dp.plain h, DpAll.plain t]
    rfl
end
def rEqP (K : PySem.W.Frag) : R2 := fun x y H Q => ∃ d e, Dp K H x d ∧ Dp K H y e ∧ min d.depth e.depth ≤ 64 ∧ Q (.bl (PyData.eqv d e)) H
def rNeP (K : PySem.W.Frag) : R2 := fun x y H Q => ∃ d e, Dp K H x d ∧ Dp K H y e ∧ min d.depth e.depth ≤ 64 ∧ Q (.bl (!PyData.eqv d e)) H
section
variable {X : Cx} {K : PySem.W.Frag}
theorem op_eqP (hK : X.K = K) (hu : X.A.units + 64 < cLine) : OpR X (compareOp .Eq) (rEqP K) := by
  subst hK
  intro pins s σ H x y v u Q I rx ry h
  obtain ⟨d, e, hd, he, hz, q⟩ := h
  obtain ⟨as, r1⟩ := Dp.reads I d x v hd rx
  obtain ⟨bs, r2⟩ := Dp.reads I e y u he ry
  exact SeqAt.eq_plain r1 r2 (Dp.plain hd) (Dp.plain he) (by omega) ⟨.bl _, H, I, rfl, q⟩
theorem op_neP (hK : X.K = K) (hu : X.A.units + 64 < cLine) : OpR X (compareOp .NotEq) (rNeP K) := by
  subst hK
  intro pins s σ H x y v u Q I rx ry h
  obtain ⟨d, e, hd, he, hz, q⟩ := h
  obtain ⟨as, r1⟩ := Dp.reads I d x v hd rx
  obtain ⟨bs, r2⟩ := Dp.reads I e y u he ry
  exact SeqAt.ne_plain r1 r2 (Dp.plain hd) (Dp.plain he) (by omega) ⟨.bl _, H, I, rfl, q⟩
end
theorem depth_all {n : Nat} : ∀ {ds : List PyData}, (∀ d ∈ ds, d.depth ≤ n) → PyData.depthAll ds ≤ n
  | [], _ => Nat.zero_le _
  | d :: ds, h => Nat.max_le.mpr ⟨h d (List.mem_cons_self ..), depth_all fun e he => h e (List.mem_cons_of_mem _ he)⟩
theorem Sh.depth {n : Nat} {d : PyData} (h : Sh n d) : d.depth ≤ n := by
  induction h with
  | non => exact Nat.zero_le _
  | bl => exact Nat.zero_le _
  | int => exact Nat.zero_le _
  | str => exact Nat.zero_le _
  | lst _ _ ih => exact Nat.succ_le_succ (depth_all ih)
  | tup _ _ ih => exact Nat.succ_le_succ (depth_all ih)
end Bh
namespace Bh
open PySem PySem.Spec PyProof.Rows L2
theorem seq_mono {K : PySem.W.Frag} {H H' : Hp} {a : Addr} {xs : List V} (e : Same H H') (h : SqL K H a xs ∨ SqT K H a xs) : SqL K H' a xs ∨ SqT K H' a xs := h.imp e.seq (Same.tup e)
/-- a new thing, changed since -/
theorem same_mut {H H' : Hp} {p : Addr} {o : HO} (e : Same H H') (h : H p = none) : Same H (upd H' p o) := fun b u k => by
  rw [upd_ne (ne_of_none k h)]
  exact e _ _ k
theorem Wd.sameH {b l : Addr} {G H : Hp} (w : Wd b l G H) : Same G H := w.sm
end Bh
namespace Bh
open PySem PySem.Spec PyProof.Rows L2
/-! ### a heap without one address -/
def hid (p : Addr) (G : Hp) : Hp := fun a => if a = p then none else G a
section
variable {p q : Addr} {G G' : Hp} {o : HO}
theorem hid_ne (h : q ≠ p) : hid p G q = G q := if_neg h
theorem hid_le : Same (hid p G) G := fun a u e => by
  by_cases h : a = p
  · rw [h] at e
    unfold hid at e
    rw [if_pos rfl] at e
    cases e
  · rw [hid_ne h] at e
    exact e
theorem hid_same (e : Same G G') : Same (hid p G) (hid p G') := fun a u k => by
  by_cases h : a = p
  · rw [h] at k
    unfold hid at k
    rw [if_pos rfl] at k
    cases k
  · rw [hid_ne h] at k ⊢
    exact e _ _ k
theorem hid_upd : hid p (upd G p o) = hid p G := by
  funext a
  by_cases h : a = p
  · unfold hid
    rw [if_pos h, if_pos h]
  · rw [hid_ne h, hid_ne h, upd_ne h]
theorem hid_of (e : Same G G') (h : G p = none) : Same G (hid p G') := fun a u k => by
  rw [hid_ne (ne_of_none k h)]
  exact e _ _ k
theorem hid_comm : hid p (hid q G) = hid q (hid p G) := by
  funext a
  unfold hid
  split <;> split <;> rfl
end
end Bh
namespace Bh
open PySem PySem.Spec PyProof.Rows L2
/-! ### what is no list stays where lists alone change -/
def Imm (H H' : Hp) : Prop := ∀ a u, H a = some u → (∀ xs, u ≠ .lst xs) → H' a = some u
section
variable {H H' H1 : Hp} {a p : Addr} {o : HO} {xs ys : List V} {K : PySem.W.Frag}
theorem Same.imm (e : Same H H') : Imm H H' := fun a u h _ => e a u h
theorem Imm.trans (e : Imm H H1) (f : Imm H1 H') : Imm H H' := fun a u h n => f a u (e a u h n) n
theorem imm_upd (h : H p = some (.lst ys)) : Imm H (upd H p o) := fun a u e n => by
  rw [upd_ne (fun z => by rw [z, h] at e; exact n _ (Option.some.inj e).symm)]
  exact e
theorem Imm.tup (e : Imm H H') (h : SqT K H a xs) : SqT K H' a xs := by
  rcases h with (h | ⟨o, h⟩) | h
  · exact .inl (.inl (e _ _ h (fun _ z => by cases z)))
  · exact .inl (.inr ⟨o, e _ _ h (fun _ z => by cases z)⟩)
  · exact .inr h
theorem Imm.sqp (e : Imm H H') (h : SqP K H a xs) : SqP K H' a xs := by
  rcases h with ⟨o, h, d⟩ | h
  · exact .inl ⟨o, e _ _ h (fun _ z => by cases z), d⟩
  · exact .inr h
end
mutual
def noL : PyData → Bool
  | .none | .bool _ | .int _ | .str _ => true
  | .tuple xs => noLs xs
  | .list _ | .dict _ => false
def noLs : List PyData → Bool
  | [] => true
  | d :: ds => noL d && noLs ds
end
mutual
theorem Dp.imm {K : PySem.W.Frag} {H H' : Hp} (e : Imm H H') : ∀ {v : V} {d : PyData}, noL d = true → Dp K H v d → Dp K H' v d
  | _, _, _, .non => .non
  | _, _, _, .bl b => .bl b
  | _, _, _, .int i => .int i
  | _, _, _, .str x => .str x
  | _, _, n, .lst _ _ => nomatch n
  | _, _, n, .tup h all => .tup (e.tup h) (DpAll.imm e n all)
theorem DpAll.imm {K : PySem.W.Frag} {H H' : Hp} (e : Imm H H') : ∀ {vs : List V} {ds : List PyData}, noLs ds = true → DpAll K H vs ds → DpAll K H' vs ds
  | _, _, _, .nil => .nil
  | _, _, n, .cons h t => .cons (Dp.imm e (Bool.and_eq_true_iff.mp n).1 h) (DpAll.imm e (Bool.and_eq_true_iff.mp n).2 t)
end
theorem noLs_map {α : Type} {f : α → PyData} (h : ∀ x, noL (f x) = true) : ∀ l : List α, noLs (l.map f) = true
  | [] => rfl
  | x :: l => by
    show (noL (f x) && noLs (l.map f)) = true
    rw [h x, noLs_map h l]
    rfl
end Bh

set_option Elab.async false
set_option linter.all false
set_option maxRecDepth 100000
namespace Bh
open PySem PySem.Spec PyProof.Rows L2
/-! ### the mirror of programs applied -/
def ix : List Str → Str → Nat
  | [], _ => 0
  | y :: r, x => if y = x then 0 else ix r x + 1
theorem ix_get : ∀ {l : List Str} {x : Str}, x ∈ l → l[ix l x]? = some x
  | y :: r, x, h => by
    unfold ix
    by_cases e : y = x
    · rw [if_pos e, e]
      rfl
    · rw [if_neg e]
      rcases List.mem_cons.mp h with z | z
      · exact absurd z.symm e
      · simpa using ix_get z
theorem ix_first : ∀ {l : List Str} {x : Str} {m : Nat}, m < ix l x → l[m]? ≠ some x
  | [], _, _, h => absurd h (Nat.not_lt_zero _)
  | y :: r, x, m, h => by
    unfold ix at h
    by_cases e : y = x
    · rw [if_pos e] at h
      exact absurd h (Nat.not_lt_zero _)
    · rw [if_neg e] at h
      cases m with
      | zero =>
        intro z
        exact e (Option.some.inj z)
      | succ m =>
        have q := ix_first (l := r) (x := x) (m := m) (by omega)
        simpa using q
theorem ix_lt {l : List Str} {x : Str} (h : x ∈ l) : ix l x < l.length := (List.getElem?_eq_some_iff.mp (ix_get h)).1
/-- the place of an item of different ones -/
theorem ix_at : ∀ {l : List Str} {i : Nat} {x : Str}, l.Nodup → l[i]? = some x → ix l x = i
  | [], _, _, _, h => by simp at h
  | y :: r, 0, x, _, h => by
    have e : y = x := Option.some.inj h
    unfold ix
    rw [if_pos e]
  | y :: r, i + 1, x, nd, h => by
    have hr : r[i]? = some x := by simpa using h
    have hm : x ∈ r := List.mem_of_getElem? hr
    have nd' := List.nodup_cons.mp nd
    have ne : ¬ y = x := fun z => nd'.1 (z ▸ hm)
    unfold ix
    rw [if_neg ne, ix_at nd'.2 hr]
theorem flat_strs (l : List Str) : (l.map V.str).all flatV = true := by
  rw [List.all_map]
  exact List.all_eq_true.mpr fun _ _ => rfl
theorem eqV_str {a b : Str} : eqV (.str a) (.str b) = decide (a = b) := rfl
theorem ixs_at {l : List Str} {x : Str} (h : x ∈ l) : (l.map V.str)[ix l x]? = some (.str x) := by
  rw [List.getElem?_map, ix_get h]
  rfl
theorem ixs_no {l : List Str} {x : Str} : ∀ (m : Nat) (z : V), m < ix l x → (l.map V.str)[m]? = some z → eqV z (.str x) = false := fun m z hm hz => by
  rw [List.getElem?_map] at hz
  cases e : l[m]? with
  | none =>
    rw [e] at hz
    cases hz
  | some y =>
    rw [e] at hz
    cases hz
    rw [eqV_str]
    refine decide_eq_false fun q => ix_first hm ?_
    rw [e, q]
abbrev Fld := Str × List Str
abbrev Tst := Str × Str × Str
abbrev Stp := Str × Str
abbrev Cas := List Tst × Option (List Stp)
def posOf (fs : List Fld) (x : Str) : Nat := ix (fs.map (·.1)) x
def optsOf (fs : List Fld) (x : Str) : List Str := ((fs[posOf fs x]?).map (·.2)).getD []
def nextO (os : List Str) (o : Str) : Str := os.getD (min (ix os o + 1) (os.length - 1)) o
def holdsT (fs : List Fld) (v : List Str) (t : Tst) : Bool :=
  if t.2.1 = "=" then decide (ix (optsOf fs t.1) (v.getD (posOf fs t.1) Str.empty) = ix (optsOf fs t.1) t.2.2)
  else if t.2.1 = "!" then !decide (ix (optsOf fs t.1) (v.getD (posOf fs t.1) Str.empty) = ix (optsOf fs t.1) t.2.2)
  else if t.2.1 = "<" then decide (ix (optsOf fs t.1) (v.getD (posOf fs t.1) Str.empty) < ix (optsOf fs t.1) t.2.2)
  else decide (ix (optsOf fs t.1) t.2.2 < ix (optsOf fs t.1) (v.getD (posOf fs t.1) Str.empty))
def stepO (fs : List Fld) (v : List Str) (s : Stp) : List Str :=
  v.set (posOf fs s.1) (if s.2 = "+" then nextO (optsOf fs s.1) (v.getD (posOf fs s.1) Str.empty) else s.2)
def stepped (fs : List Fld) (ss : List Stp) (v : List Str) : List Str := ss.foldl (stepO fs) v
def applyP (fs : List Fld) : List Cas → List Str → Option (List Str)
  | [], _ => none
  | c :: r, v => if c.1.all (holdsT fs v) = true then c.2.map (fun ss => stepped fs ss v) else applyP fs r v
def applyH (fs : List Fld) (p : List Cas) : Option (List Str) → Option (List Str)
  | none => none
  | some v => applyP fs p v
/-! what fits -/
def FitV (fs : List Fld) (v : List Str) : Prop := v.length = fs.length ∧ ∀ (i : Nat) (f : Fld) (o : Str), fs[i]? = some f → v[i]? = some o → o ∈ f.2
def FitT (fs : List Fld) (t : Tst) : Prop := t.1 ∈ fs.map (·.1) ∧ t.2.2 ∈ optsOf fs t.1
def FitS (fs : List Fld) (s : Stp) : Prop := s.1 ∈ fs.map (·.1) ∧ (s.2 ≠ "+" → s.2 ∈ optsOf fs s.1)
structure FitC (fs : List Fld) (c : Cas) : Prop where
  t : ∀ t ∈ c.1, FitT fs t
  s : ∀ ss, c.2 = some ss → ∀ s ∈ ss, FitS fs s
  lt : c.1.length ≤ 1000
  ls : ∀ ss, c.2 = some ss → ss.length ≤ 1000
theorem pos_at {fs : List Fld} {x : Str} (h : x ∈ fs.map (·.1)) : ∃ f, fs[posOf fs x]? = some f ∧ f.1 = x ∧ f.2 = optsOf fs x := by
  have q := ix_get h
  rw [List.getElem?_map] at q
  unfold optsOf
  show ∃ f, fs[posOf fs x]? = some f ∧ _
  have q' : (fs[posOf fs x]?).map (·.1) = some x := q
  cases e : fs[posOf fs x]? with
  | none =>
    rw [e] at q'
    cases q'
  | some f =>
    rw [e] at q'
    exact ⟨f, rfl, Option.some.inj q', rfl⟩
theorem fit_at {fs : List Fld} {v : List Str} {x : Str} (hv : FitV fs v) (h : x ∈ fs.map (·.1)) : ∃ o, v[posOf fs x]? = some o ∧ o ∈ optsOf fs x ∧ v.getD (posOf fs x) Str.empty = o := by
  obtain ⟨f, h1, h2, h3⟩ := pos_at h
  have hl : posOf fs x < v.length := by
    rw [hv.1]
    exact (List.getElem?_eq_some_iff.mp h1).1
  refine ⟨v[posOf fs x], List.getElem?_eq_getElem hl, ?_, ?_⟩
  · rw [← h3]
    exact hv.2 _ _ _ h1 (List.getElem?_eq_getElem hl)
  · rw [List.getD_eq_getElem?_getD, List.getElem?_eq_getElem hl]
    rfl
theorem next_mem {os : List Str} {o : Str} (h : o ∈ os) : os[min (ix os o + 1) (os.length - 1)]? = some (nextO os o) ∧ nextO os o ∈ os := by
  have hl := ix_lt h
  have hm : min (ix os o + 1) (os.length - 1) < os.length := by omega
  have e : os[min (ix os o + 1) (os.length - 1)]? = some (nextO os o) := by
    unfold nextO
    rw [List.getD_eq_getElem?_getD, List.getElem?_eq_getElem hm]
    rfl
  exact ⟨e, List.mem_of_getElem? e⟩
theorem step_fit {fs : List Fld} {v : List Str} {s : Stp} (hv : FitV fs v) (hs : FitS fs s) : FitV fs (stepO fs v s) := by
  refine ⟨by unfold stepO; rw [List.length_set]; exact hv.1, fun i f o hf ho => ?_⟩
  unfold stepO at ho
  obtain ⟨f', h1, h2, h3⟩ := pos_at hs.1
  obtain ⟨o', g1, g2, g3⟩ := fit_at hv hs.1
  rw [List.getElem?_set] at ho
  by_cases e : posOf fs s.1 = i
  · rw [if_pos e] at ho
    have hl : i < v.length := by
      rw [hv.1]
      exact (List.getElem?_eq_some_iff.mp hf).1
    rw [if_pos (e ▸ hl)] at ho
    have ho' := Option.some.inj ho
    rw [e, hf] at h1
    cases h1
    rw [← ho', h3]
    by_cases z : s.2 = "+"
    · rw [if_pos z, g3]
      exact (next_mem g2).2
    · rw [if_neg z]
      exact hs.2 z
  · rw [if_neg e] at ho
    exact hv.2 i f o hf ho
theorem stepped_fit {fs : List Fld} : ∀ {ss : List Stp} {v : List Str}, (∀ s ∈ ss, FitS fs s) → FitV fs v → FitV fs (stepped fs ss v)
  | [], _, _, hv => hv
  | s :: ss, v, h, hv => stepped_fit (ss := ss) (v := stepO fs v s) (fun s' hs' => h s' (List.mem_cons_of_mem _ hs')) (step_fit hv (h s (List.mem_cons_self ..)))
theorem stepped_take {fs : List Fld} {ss : List Stp} {v : List Str} {i : Nat} {s : Stp} (h : ss[i]? = some s) : stepped fs (ss.take (i + 1)) v = stepO fs (stepped fs (ss.take i) v) s := by
  unfold stepped
  rw [List.take_add_one, h, List.foldl_append]
  rfl
/-! as data -/
def dF (f : Fld) : PyData := .tuple [.str f.1, .tuple (f.2.map PyData.str)]
def dT (t : Tst) : PyData := .tuple [.str t.1, .str t.2.1, .str t.2.2]
def dS (s : Stp) : PyData := .tuple [.str s.1, .str s.2]
def dO : Option (List Stp) → PyData
  | none => .none
  | some ss => .tuple (ss.map dS)
def dC (c : Cas) : PyData := .tuple [.tuple (c.1.map dT), dO c.2]
def dV (v : List Str) : PyData := .tuple (v.map PyData.str)
def dH : Option (List Str) → PyData
  | none => .none
  | some v => dV v
section
variable {K : PySem.W.Frag} {H : Hp} {v : V}
theorem dp_dF {f : Fld} (h : Dp K H v (dF f)) : ∃ a o, v = .ref a ∧ SqT K H a [.str f.1, .ref o] ∧ SqT K H o (f.2.map V.str) := by
  obtain ⟨a, xs, rfl, h1, h2⟩ := dp_tup h
  obtain ⟨x, r, rfl, k1, k2⟩ := dpa_cons h2
  obtain ⟨y, r', rfl, k3, k4⟩ := dpa_cons k2
  cases dpa_nil k4
  cases dp_str k1
  obtain ⟨o, ys, rfl, m1, m2⟩ := dp_tup k3
  rw [dp_strs m2] at m1
  exact ⟨a, o, rfl, h1, m1⟩
theorem dp_dT {t : Tst} (h : Dp K H v (dT t)) : ∃ a, v = .ref a ∧ SqT K H a [.str t.1, .str t.2.1, .str t.2.2] := by
  obtain ⟨a, xs, rfl, h1, h2⟩ := dp_tup h
  obtain ⟨x, r, rfl, k1, k2⟩ := dpa_cons h2
  obtain ⟨y, r', rfl, k3, k4⟩ := dpa_cons k2
  obtain ⟨z, r'', rfl, k5, k6⟩ := dpa_cons k4
  cases dpa_nil k6
  cases dp_str k1
  cases dp_str k3
  cases dp_str k5
  exact ⟨a, rfl, h1⟩
theorem dp_dS {s : Stp} (h : Dp K H v (dS s)) : ∃ a, v = .ref a ∧ SqT K H a [.str s.1, .str s.2] := by
  obtain ⟨a, xs, rfl, h1, h2⟩ := dp_tup h
  obtain ⟨x, r, rfl, k1, k2⟩ := dpa_cons h2
  obtain ⟨y, r', rfl, k3, k4⟩ := dpa_cons k2
  cases dpa_nil k4
  cases dp_str k1
  cases dp_str k3
  exact ⟨a, rfl, h1⟩
theorem dp_dC {c : Cas} (h : Dp K H v (dC c)) : ∃ a t y, v = .ref a ∧ SqT K H a [.ref t, y] ∧ Dp K H (.ref t) (.tuple (c.1.map dT)) ∧ Dp K H y (dO c.2) := by
  obtain ⟨a, xs, rfl, h1, h2⟩ := dp_tup h
  obtain ⟨x, r, rfl, k1, k2⟩ := dpa_cons h2
  obtain ⟨y, r', rfl, k3, k4⟩ := dpa_cons k2
  cases dpa_nil k4
  obtain ⟨t, ys, rfl, m1, m2⟩ := dp_tup k1
  exact ⟨a, t, y, rfl, h1, .tup m1 m2, k3⟩
theorem dp_dV {w : List Str} (h : Dp K H v (dV w)) : ∃ a, v = .ref a ∧ SqT K H a (w.map V.str) := by
  obtain ⟨a, xs, rfl, h1, h2⟩ := dp_tup h
  rw [dp_strs h2] at h1
  exact ⟨a, rfl, h1⟩
theorem dV_dp {w : List Str} {a : Addr} (h : SqT K H a (w.map V.str)) : Dp K H (.ref a) (dV w) := .tup h (strs_dp w)
end
/-! fields as they stand: the options are tuples of which .index is asked -/
def FdAt (K : PySem.W.Frag) (H : Hp) (v : V) (f : Fld) : Prop := ∃ a o, v = .ref a ∧ SqT K H a [.str f.1, .ref o] ∧ SqP K H o (f.2.map V.str)
def FsAt (K : PySem.W.Frag) (H : Hp) (v : V) (fs : List Fld) : Prop := ∃ a xs, v = .ref a ∧ (SqL K H a xs ∨ SqT K H a xs) ∧ Paired (FdAt K H) xs fs
section
variable {K : PySem.W.Frag} {H H' : Hp} {v : V} {f : Fld} {fs : List Fld} {xs : List V}
theorem FdAt.mono (e : Same H H') (h : FdAt K H v f) : FdAt K H' v f := by
  obtain ⟨a, o, h1, h2, h3⟩ := h
  exact ⟨a, o, h1, Same.tup e h2, h3.mono e⟩
theorem fds_mono (e : Same H H') : ∀ {xs : List V} {fs : List Fld}, Paired (FdAt K H) xs fs → Paired (FdAt K H') xs fs
  | _, _, .nil => .nil
  | _, _, .cons h t => .cons (h.mono e) (fds_mono e t)
theorem FsAt.mono (e : Same H H') (h : FsAt K H v fs) : FsAt K H' v fs := by
  obtain ⟨a, xs, h1, h2, h3⟩ := h
  exact ⟨a, xs, h1, h2.imp e.seq (Same.tup e), fds_mono e h3⟩
theorem FdAt.dp (h : FdAt K H v f) : Dp K H v (dF f) := by
  obtain ⟨a, o, rfl, h2, h3⟩ := h
  exact .tup h2 (.cons (.str _) (.cons (.tup h3.sqT (strs_dp _)) .nil))
theorem fds_dp : ∀ {xs : List V} {fs : List Fld}, Paired (FdAt K H) xs fs → DpAll K H xs (fs.map dF)
  | _, _, .nil => .nil
  | _, _, .cons h t => .cons h.dp (fds_dp t)
theorem FsAt.dpS (h : FsAt K H v fs) : DpS K H v (fs.map dF) := by
  obtain ⟨a, xs, h1, h2, h3⟩ := h
  exact ⟨a, xs, h1, h2, fds_dp h3⟩
theorem fds_get : ∀ {xs : List V} {fs : List Fld} {i : Nat} {f : Fld}, Paired (FdAt K H) xs fs → fs[i]? = some f → ∃ x, xs[i]? = some x ∧ FdAt K H x f
  | _, _, _, _, .nil, e => by simp at e
  | _, _, 0, _, .cons h _, e => by
    simp at e
    subst e
    exact ⟨_, rfl, h⟩
  | _, _, i + 1, f, .cons _ t, e => by
    obtain ⟨x, h1, h2⟩ := fds_get (i := i) (f := f) t (by simpa using e)
    exact ⟨x, by simpa using h1, h2⟩
/-- fields[i][1], for the place i of a field x -/
theorem FsAt.opts {x : Str} (h : FsAt K H v fs) (hx : x ∈ fs.map (·.1)) : ∃ a xs t o, v = .ref a ∧ (SqL K H a xs ∨ SqT K H a xs) ∧ atI xs ((posOf fs x : Nat) : Int) = some (.ref t) ∧ SqT K H t [.str x, .ref o] ∧ SqP K H o ((optsOf fs x).map V.str) := by
  obtain ⟨a, xs, h1, h2, h3⟩ := h
  obtain ⟨f, k1, k2, k3⟩ := pos_at hx
  obtain ⟨y, m1, t, o, rfl, m2, m3⟩ := fds_get h3 k1
  rw [k2] at m2
  rw [k3] at m3
  exact ⟨a, xs, t, o, h1, h2, atI_nat m1, m2, m3⟩
end
/-! ### walks over a list or a tuple at a name -/
theorem iSeqV {K : PySem.W.Frag} {σ : L2.St} {H : Hp} {i : Nat} {a : Addr} {xs : List V} {R : It → Hp → Prop} (hσ : σ[i]? = some (some (.ref a))) (h : SqL K H a xs ∨ SqT K H a xs)
    (k : ∀ (J : It) (G : Hp → Prop), Walk J xs.length G (YAt xs) → (∀ H', Same H H' → G H') → R J H) : iSeq K (tVar i) σ H R := by
  rcases h with h | h
  · exact .inl ⟨.ref a, hσ, a, rfl, ⟨xs, h⟩, k _ _ walk_list fun H' e => e.seq h⟩
  · exact .inr ⟨.ref a, hσ, a, rfl, ⟨xs, h⟩, k _ _ walk_tup fun H' e => Same.tup e h⟩
end Bh
namespace Bh
open PySem PySem.Spec PyProof.Rows L2
theorem rIx_go {K : PySem.W.Frag} {H : Hp} {a : Addr} {xs : List V} {i : Int} {v : V} {Q : VK} (h : SqL K H a xs ∨ SqT K H a xs) (e : atI xs i = some v) (q : Q v H) : rIx K (.ref a) (.int i) H Q := by
  rcases h with h | h
  · exact .inl ⟨a, xs, i, v, rfl, rfl, h, e, q⟩
  · exact .inr (.inl ⟨a, xs, i, v, rfl, rfl, h, e, q⟩)
theorem dec_int {m n : Nat} : decide (V.int (m : Int) = V.int (n : Int)) = decide (m = n) := by
  refine decide_eq_decide.mpr ⟨fun h => ?_, fun h => by rw [h]⟩
  have e := V.int.inj h
  omega
theorem dec_lt {m n : Nat} : decide ((m : Int) < (n : Int)) = decide (m < n) := decide_eq_decide.mpr ⟨fun h => by omega, fun h => by omega⟩
theorem str_ne {a b : Str} (h : ¬ V.str a = V.str b) : a ≠ b := fun e => h (by rw [e])
end Bh

set_option Elab.async false
set_option linter.all false
set_option maxRecDepth 100000
namespace Bh
open PySem PySem.Spec PyProof.Rows L2
/-! ### what is drawn: names, options, fields, cases, programs -/
def pool : List Str := ["0", "1", "2", "10", "a", "b", "far", "x9", "zzzzzzzz", "7up"]
def tails : List Str := ["", "a", "qq", "xyz", "mmmmmmm"]
def letters : Str := "abcdefghijklmnopqrstuvwxyz"
theorem pool_nodup : pool.Nodup := by decide +kernel
theorem perm_strs {l : List Str} {ys : List V} (h : ys.Perm (l.map V.str)) : ∃ zs : List Str, zs.Perm l ∧ ys = zs.map V.str := by
  let g : V → Str := fun v => match v with
    | .str z => z
    | _ => Str.empty
  refine ⟨ys.map g, ?_, ?_⟩
  · have q := h.map g
    rw [List.map_map] at q
    have e : (g ∘ V.str) = id := by
      funext z
      rfl
    rw [e, List.map_id] at q
    exact q
  · rw [List.map_map]
    have q : ∀ v ∈ ys, (V.str ∘ g) v = v := fun v hv => by
      obtain ⟨z, _, rfl⟩ := List.mem_map.mp (h.mem_iff.mp hv)
      rfl
    rw [List.map_congr_left q, List.map_id']
/-- a name: one to eight lowercase letters -/
structure IsNm (w : Str) : Prop where
  lo : 1 ≤ w.length
  hi : w.length ≤ 8
  az : ∀ c ∈ w.cps.toList, 97 ≤ c ∧ c ≤ 122
def wordK (z : Str) (k c : Nat) : Str := cutS z none (some (k : Int)) ++ ⟨#[c]⟩ ++ cutS z (some (k : Int)) none
theorem cut_lo (z : Str) (k : Nat) : (cutS z none (some (k : Int))).cps.toList = z.cps.toList.take k := by
  unfold cutS
  rw [HT.sIx_none, HT.sIx_nat]
  show ((z.cps.toList.drop 0).take (min k z.length - 0)) = _
  rw [List.drop_zero, Nat.sub_zero]
  have e1 : z.cps.toList.length = z.cps.size := by simp
  have e2 : z.length = z.cps.size := rfl
  by_cases h : k ≤ z.length
  · rw [Nat.min_eq_left h]
  · rw [Nat.min_eq_right (by omega), List.take_of_length_le (by omega), List.take_of_length_le (by omega)]
theorem cut_hi (z : Str) (k : Nat) (h : k ≤ z.length) : (cutS z (some (k : Int)) none).cps.toList = z.cps.toList.drop k := by
  unfold cutS
  rw [HT.sIx_none, HT.sIx_nat, Nat.min_eq_left h]
  show ((z.cps.toList.drop k).take (z.length - k)) = _
  refine List.take_of_length_le ?_
  rw [List.length_drop]
  have : z.cps.toList.length = z.cps.size := by simp
  have : z.length = z.cps.size := rfl
  omega
theorem wordK_cps (z : Str) (k c : Nat) (h : k ≤ z.length) : (wordK z k c).cps.toList = z.cps.toList.take k ++ (c :: z.cps.toList.drop k) := by
  have e : (wordK z k c).cps = (cutS z none (some (k : Int))).cps ++ #[c] ++ (cutS z (some (k : Int)) none).cps := rfl
  rw [e, Array.toList_append, Array.toList_append, cut_lo, cut_hi z k h]
  simp
theorem wordK_length (z : Str) (k c : Nat) (h : k ≤ z.length) : (wordK z k c).length = z.length + 1 := by
  have e : (wordK z k c).length = (wordK z k c).cps.toList.length := by
    show (wordK z k c).cps.size = _
    simp
  rw [e, wordK_cps z k c h, List.length_append, List.length_take, List.length_cons, List.length_drop]
  have : z.cps.toList.length = z.cps.size := by simp
  have : z.length = z.cps.size := rfl
  omega
theorem wordK_inj {z : Str} {k c d : Nat} (h : k ≤ z.length) (e : wordK z k c = wordK z k d) : c = d := by
  have q := congrArg (fun s : Str => s.cps.toList) e
  simp only [wordK_cps z k _ h] at q
  have q2 := List.append_cancel_left q
  exact (List.cons.inj q2).1
theorem tails_ok : ∀ z ∈ tails, z.length ≤ 7 ∧ ∀ c ∈ z.cps.toList, 97 ≤ c ∧ c ≤ 122 := by
  decide +kernel
theorem wordK_nm {z : Str} (hz : z ∈ tails) {k c : Nat} (h : k ≤ z.length) (h1 : 97 ≤ c) (h2 : c ≤ 122) : IsNm (wordK z k c) := by
  obtain ⟨t1, t2⟩ := tails_ok z hz
  refine ⟨by rw [wordK_length z k c h]; omega, by rw [wordK_length z k c h]; omega, fun d hd => ?_⟩
  rw [wordK_cps z k c h] at hd
  rcases List.mem_append.mp hd with q | q
  · exact t2 d (List.mem_of_mem_take q)
  · rcases List.mem_cons.mp q with q | q
    · rw [q]
      exact ⟨h1, h2⟩
    · exact t2 d (List.mem_of_mem_drop q)
theorem letters_at {j : Int} (h0 : 0 ≤ j) (h1 : j < 26) : atI letters.cps.toList j = some (97 + j.toNat) := by
  have key : ∀ k : _root_.Fin 26, letters.cps.toList[k.val]? = some (97 + k.val) := by decide +kernel
  exact at_nn h0 (key ⟨j.toNat, by omega⟩)
def wordsOf (z : Str) (k : Nat) (s : Int) (n : Nat) : List Str := (List.range n).map fun (i : Nat) => wordK z k (97 + ((s + 5 * (i : Int)) % 26).toNat)
theorem wordsOf_nodup {z : Str} {k : Nat} {s : Int} {n : Nat} (h : k ≤ z.length) (hn : n ≤ 3) : (wordsOf z k s n).Nodup := by
  unfold wordsOf
  refine List.pairwise_map.mpr ((List.pairwise_lt_range (n := n)).imp_of_mem fun {a b} ha hb hab e => ?_)
  have h2 := List.mem_range.mp hb
  have q := wordK_inj h e
  omega
theorem wordsOf_nm {z : Str} (hz : z ∈ tails) {k : Nat} {s : Int} {n : Nat} (h : k ≤ z.length) : ∀ w ∈ wordsOf z k s n, IsNm w := fun w hw => by
  obtain ⟨i, _, rfl⟩ := List.mem_map.mp hw
  exact wordK_nm hz h (by omega) (by omega)
theorem wordsOf_len {z : Str} {k : Nat} {s : Int} {n : Nat} : (wordsOf z k s n).length = n := by
  unfold wordsOf
  rw [List.length_map, List.length_range]
/-- fields as the laws draw them -/
structure FsOk (fs : List Fld) : Prop where
  ne : 1 ≤ fs.length
  le : fs.length ≤ 3
  nd : (fs.map (·.1)).Nodup
  nm : ∀ f ∈ fs, IsNm f.1
  os : ∀ f ∈ fs, f.2.Nodup ∧ 2 ≤ f.2.length ∧ f.2.length ≤ 6 ∧ ∀ o ∈ f.2, o ∈ pool
theorem opts_of {fs : List Fld} (nd : (fs.map (·.1)).Nodup) {f : Fld} (h : f ∈ fs) : optsOf fs f.1 = f.2 := by
  obtain ⟨i, hi⟩ := List.mem_iff_getElem?.mp h
  have e : ix (fs.map (·.1)) f.1 = i := ix_at nd (by rw [List.getElem?_map, hi]; rfl)
  unfold optsOf posOf
  rw [e, hi]
  rfl
/-- signs of tests -/
def signs : List Str := ["=", "!", "<", ">"]
/-! ### promises of the defs that draw -/
def spAny (K : PySem.W.Frag) : Sp := fun vs H Q _ => ∃ (b l a : Addr) (G : Hp) (xs : List V), vs = [.ref b, .ref a] ∧ (SqL K G a xs ∨ SqT K G a xs) ∧ xs ≠ [] ∧ xs.length ≤ 100000 ∧ Wd b l G H ∧ ∀ x H', x ∈ xs → Wd b l G H' → Q x H'
def spMixed (K : PySem.W.Frag) : Sp := fun vs H Q _ => ∃ (b l a : Addr) (G : Hp) (xs : List V), vs = [.ref b, .ref a] ∧ SqL K G a xs ∧ xs.length ≤ 1000 ∧ Wd b l G H ∧
  ∀ (G' H' : Hp) (p : Addr) (ys : List V), Same G G' → Wd b l G' H' → G' p = some (.lst ys) → ys.Perm xs → Q (.ref p) H'
def spWords : Sp := fun vs H Q _ => ∃ (b l : Addr) (G : Hp) (n : Int), vs = [.ref b, .int n] ∧ 0 ≤ n ∧ n ≤ 3 ∧ Wd b l G H ∧
  ∀ (G' H' : Hp) (p : Addr) (ws : List Str), Same G G' → Wd b l G' H' → G' p = some (.lst (ws.map V.str)) → ws.length = n.toNat → ws.Nodup → (∀ w ∈ ws, IsNm w) → Q (.ref p) H'
def spOptions (K : PySem.W.Frag) : Sp := fun vs H Q _ => ∃ (b l : Addr) (G : Hp) (n : Int), vs = [.ref b, .int n] ∧ 2 ≤ n ∧ n ≤ 6 ∧ Wd b l G H ∧
  ∀ (G' H' : Hp) (p : Addr) (os : List Str), Same G G' → Wd b l G' H' → SqP K G' p (os.map V.str) → os.length = n.toNat → os.Nodup → (∀ o ∈ os, o ∈ pool) → Q (.ref p) H'
def spFields (K : PySem.W.Frag) : Sp := fun vs H Q _ => ∃ (b l : Addr) (G : Hp), vs = [.ref b, .int 24] ∧ Wd b l G H ∧
  ∀ (G' H' : Hp) (p : Addr) (xs : List V) (fs : List Fld), Same G G' → Wd b l G' H' → G' p = some (.lst xs) → Paired (FdAt K G') xs fs → FsOk fs → Q (.ref p) H'
def spCase (K : PySem.W.Frag) : Sp := fun vs H Q _ => ∃ (b l a : Addr) (G : Hp) (xs : List V) (fs : List Fld), vs = [.ref b, .ref a] ∧ SqL K G a xs ∧ Paired (FdAt K G) xs fs ∧ FsOk fs ∧ Wd b l G H ∧
  ∀ (G' H' : Hp) (y : V) (c : Cas), Same G G' → Wd b l G' H' → Dp K G' y (dC c) → FitC fs c → c.1.length ≤ 2 → (∀ ss, c.2 = some ss → ss.length ≤ 2) → (∀ t ∈ c.1, t.2.1 ∈ signs) → Q y H'
end Bh
namespace Bh
open PySem PySem.Spec PyProof.Rows L2
theorem cutV_take (xs : List V) {n : Int} (h : 0 ≤ n) : cutV xs none (some n) = xs.take n.toNat := by
  obtain ⟨k, rfl⟩ : ∃ m : Nat, n = (m : Int) := ⟨n.toNat, by omega⟩
  unfold cutV
  rw [HT.sIx_none, show HT.sIx xs.length xs.length (some (k : Int)) = min k xs.length from HT.sIx_nat _ _ k]
  show List.take (min k xs.length - 0) (List.drop 0 xs) = xs.take k
  rw [List.drop_zero, Nat.sub_zero]
  by_cases hk : k ≤ xs.length
  · rw [Nat.min_eq_left hk]
  · rw [Nat.min_eq_right (by omega), List.take_of_length_le (Nat.le_refl _), List.take_of_length_le (by omega)]
theorem fds_mem {K : PySem.W.Frag} {H : Hp} : ∀ {xs : List V} {fs : List Fld} {x : V}, Paired (FdAt K H) xs fs → x ∈ xs → ∃ f ∈ fs, FdAt K H x f
  | _, _, _, .nil, h => by cases h
  | _, _, x, .cons h t, hx => by
    rcases List.mem_cons.mp hx with e | hx
    · rw [e]
      exact ⟨_, List.mem_cons_self .., h⟩
    · obtain ⟨f, h1, h2⟩ := fds_mem t hx
      exact ⟨f, List.mem_cons_of_mem _ h1, h2⟩
theorem fds_len {K : PySem.W.Frag} {H : Hp} : ∀ {xs : List V} {fs : List Fld}, Paired (FdAt K H) xs fs → xs.length = fs.length
  | _, _, .nil => rfl
  | _, _, .cons _ t => congrArg Nat.succ (fds_len t)
theorem fds_snoc {K : PySem.W.Frag} {H : Hp} {x : V} {f : Fld} : ∀ {xs : List V} {fs : List Fld}, Paired (FdAt K H) xs fs → FdAt K H x f → Paired (FdAt K H) (xs ++ [x]) (fs ++ [f])
  | _, _, .nil, h => .cons h .nil
  | _, _, .cons k t, h => .cons k (fds_snoc t h)
theorem min_max_bound (z : Int) : 0 < (if (if z > 1 then z else 1) < 5 then (if z > 1 then z else 1) else 5) ∧ (if (if z > 1 then z else 1) < 5 then (if z > 1 then z else 1) else 5) ≤ (5 : Int) := by
  split <;> split <;> omega
end Bh
namespace Bh
open PySem PySem.Spec PyProof.Rows L2
theorem dpa_snoc {K : PySem.W.Frag} {H : Hp} {x : V} {d : PyData} {xs : List V} {ds : List PyData} (h : DpAll K H xs ds) (k : Dp K H x d) : DpAll K H (xs ++ [x]) (ds ++ [d]) := DpAll.append h (.cons k .nil)
end Bh
namespace Bh
open PySem PySem.Spec PyProof.Rows L2
theorem noL_dV (v : List Str) : noL (dV v) = true := noLs_map (fun _ => rfl) v
theorem noL_dT (t : Tst) : noL (dT t) = true := rfl
theorem noL_dS (s : Stp) : noL (dS s) = true := rfl
theorem noL_dO : ∀ o : Option (List Stp), noL (dO o) = true
  | none => rfl
  | some ss => noLs_map noL_dS ss
theorem noL_dC (c : Cas) : noL (dC c) = true := by
  show (noLs (c.1.map dT) && (noL (dO c.2) && true)) = true
  rw [noLs_map noL_dT, noL_dO]
  rfl
theorem FdAt.imm {K : PySem.W.Frag} {H H' : Hp} {v : V} {f : Fld} (e : Imm H H') (h : FdAt K H v f) : FdAt K H' v f := by
  obtain ⟨a, o, h1, h2, h3⟩ := h
  exact ⟨a, o, h1, e.tup h2, e.sqp h3⟩
theorem fds_imm {K : PySem.W.Frag} {H H' : Hp} (e : Imm H H') : ∀ {xs : List V} {fs : List Fld}, Paired (FdAt K H) xs fs → Paired (FdAt K H') xs fs
  | _, _, .nil => .nil
  | _, _, .cons h t => .cons (h.imm e) (fds_imm e t)
def spProg (K : PySem.W.Frag) : Sp := fun vs H Q _ => ∃ (b l a : Addr) (G : Hp) (n : Int) (xs : List V) (fs : List Fld), vs = [.ref b, .ref a, .int n] ∧ SqL K G a xs ∧ Paired (FdAt K G) xs fs ∧ FsOk fs ∧ 0 < n ∧ n ≤ 8 ∧ Wd b l G H ∧
  ∀ (G' H' : Hp) (y : V) (p : List Cas), Same G G' → Wd b l G' H' → Dp K G' y (.tuple (p.map dC)) → (∀ c ∈ p, FitC fs c ∧ c.1.length ≤ 2 ∧ (∀ ss, c.2 = some ss → ss.length ≤ 2) ∧ ∀ t ∈ c.1, t.2.1 ∈ signs) → 1 ≤ p.length → p.length ≤ 8 → Q y H'
/-! all values -/
def ext1 (acc : List (List Str)) (f : Fld) : List (List Str) := acc.flatMap fun v => f.2.map fun o => v ++ [o]
def vals (fs : List Fld) : List (List Str) := fs.foldl ext1 [[]]
theorem flat_len (os : List Str) : ∀ acc : List (List Str), (acc.flatMap fun v => os.map fun o => v ++ [o]).length = acc.length * os.length
  | [] => by simp
  | v :: r => by
    rw [List.flatMap_cons, List.length_append, List.length_map, flat_len os r, List.length_cons, Nat.succ_mul]
    omega
theorem vals_take {fs : List Fld} {i : Nat} {f : Fld} (h : fs[i]? = some f) : vals (fs.take (i + 1)) = ext1 (vals (fs.take i)) f := by
  unfold vals
  rw [List.take_add_one, h, List.foldl_append]
  rfl
theorem vals_len {fs : List Fld} (h : ∀ f ∈ fs, f.2.length ≤ 6) : ∀ i : Nat, (vals (fs.take i)).length ≤ 6 ^ i
  | 0 => by
    rw [List.take_zero]
    exact Nat.le_refl 1
  | i + 1 => by
    cases e : fs[i]? with
    | none =>
      have hl : fs.length ≤ i := List.getElem?_eq_none_iff.mp e
      rw [List.take_of_length_le (by omega), show fs = fs.take i from (List.take_of_length_le hl).symm]
      refine Nat.le_trans (vals_len h i) ?_
      rw [Nat.pow_succ]
      exact Nat.le_mul_of_pos_right _ (by decide)
    | some f =>
      rw [vals_take e]
      unfold ext1
      rw [flat_len, Nat.pow_succ]
      exact Nat.mul_le_mul (vals_len h i) (h f (List.mem_of_getElem? e))
theorem vals_fit : ∀ (fs done : List Fld) (acc : List (List Str)), (∀ v ∈ acc, FitV done v) → ∀ v ∈ fs.foldl ext1 acc, FitV (done ++ fs) v
  | [], done, acc, h, v, hv => by
    rw [List.append_nil]
    exact h v hv
  | f :: r, done, acc, h, v, hv => by
    have e : done ++ f :: r = (done ++ [f]) ++ r := by simp
    rw [e]
    refine vals_fit r (done ++ [f]) (ext1 acc f) (fun w hw => ?_) v hv
    obtain ⟨u, hu, hw2⟩ := List.mem_flatMap.mp hw
    obtain ⟨o, ho, rfl⟩ := List.mem_map.mp hw2
    obtain ⟨l1, l2⟩ := h u hu
    refine ⟨by rw [List.length_append, List.length_append, l1]; rfl, fun i g o' hg ho' => ?_⟩
    by_cases hi : i < done.length
    · rw [List.getElem?_append_left hi] at hg
      rw [List.getElem?_append_left (by omega)] at ho'
      exact l2 i g o' hg ho'
    · rw [List.getElem?_append_right (by omega)] at hg
      rw [List.getElem?_append_right (by omega), l1] at ho'
      have hz : i - done.length = 0 := by
        have := (List.getElem?_eq_some_iff.mp hg).1
        simp at this
        omega
      rw [hz] at hg ho'
      cases hg
      cases ho'
      exact ho
theorem vals_ok {fs : List Fld} : ∀ v ∈ vals fs, FitV fs v := by
  have q := vals_fit fs [] [[]] (fun v hv => by
    cases List.mem_singleton.mp hv
    exact ⟨rfl, fun i f o h => by simp at h⟩)
  show ∀ v ∈ fs.foldl ext1 [[]], FitV fs v
  simpa using q
def spVals (K : PySem.W.Frag) : Sp := fun vs H Q _ => ∃ (a : Addr) (xs : List V) (fs : List Fld), vs = [.ref a] ∧ SqL K H a xs ∧ Paired (FdAt K H) xs fs ∧ FsOk fs ∧
  ∀ (H' : Hp) (p : Addr) (ys : List V), Same H H' → H' p = some (.lst ys) → DpAll K H' ys ((vals fs).map dV) → Q (.ref p) H'
end Bh

set_option Elab.async false
set_option linter.all false
set_option maxRecDepth 100000
set_option maxHeartbeats 2000000
namespace Bh
open PySem PySem.Spec PyProof.Rows L2 LamX NdefX
/-! ### a lambda with parameters, handed to a def and called there -/
/-- its words, as those of a nested def without a body of statements -/
abbrev lamF (q : Str) (params : Arguments) (scope : Scope) (cl : List (Str × Addr)) (c : Addr) : NF := ⟨"<lambda>", q, params, [], scope, cl, c⟩
theorem CellsAt.un {cl : List (Str × Addr)} {fr : List Str} {ws : List (Option V)} {st : List Addr} {H HZ : Hp} {h h1 : Heap} (C : CellsAt cl fr ws h H) (un : Un st [] H HZ h h1) : CellsAt cl fr ws h1 HZ := by
  have kp : ∀ y c, cl.lookup y = some c → ∀ v, h.IsCell c v → h1.IsCell c v := fun y c e v ⟨o, ho, hd⟩ => by
    obtain ⟨sl, q⟩ := un.any ho (C.all y c e).1 (by simp)
    exact ⟨_, q, hd⟩
  refine ⟨C.len, fun y c e => ?_, C.inj, fun i y e => ?_⟩
  · obtain ⟨n, v, z⟩ := C.all y c e
    refine ⟨?_, v, kp y c e v z⟩
    obtain ⟨o, ho, _⟩ := z
    exact un.free c o ho n (by simp)
  · obtain ⟨c, hc, hv⟩ := C.has i y e
    refine ⟨c, hc, fun v ev => ?_⟩
    obtain ⟨u, r, z⟩ := hv v ev
    exact ⟨u, r, kp y c hc _ z⟩
section
variable {CX : CXT} {P : Program} {w : World} {K : PySem.W.Frag} {mg : Str → Option Value} {base : Heap} {N ps fr : List Str} {f c' : Addr} {k : Nat} {q : Str} {params : Arguments} {body : Expr} {scope : Scope} {cl : List (Str × Addr)}
/-- the lambda runs -/
theorem lam_run {A : Around} {outer : List Env} {s : Shared} {H : Hp} {us : List Value} {vs : List V} {ws : List (Option V)} {Q : VK} {E : XK} {pm ctv : Value} {tb : TE} (S : NScope N ps fr scope)
    (hb : ∀ (us : List Value), us.length = ps.length → bindArgs (PySem.W.kla_fn "<lambda>" q params body scope cl pm (.ref c') ctv) ⟨us, []⟩ = pure (ps.zip us))
    (hr : Room (k + 1) A) (e0 : Env0 P w K mg base A outer s H) (lim : s.heap.NoLimit) (of : s.heap.get? f = some (PySem.W.kla_obj "<lambda>" q params body scope cl pm c' ctv)) (hc : s.heap.CodeRec (.ref c') q)
    (C : CellsAt cl fr ws s.heap H) (r : Vals vs us) (hl : vs.length = ps.length)
    (hbody : Room k (A.deeper (envF (lamF q params scope cl c') f s.heap.objs.size)) → PE (ncx CX P w K mg base N (lamF q params scope cl c') f A outer s H E) body tb) (h : tb (startF N vs ws) H Q) :
    codeAny (model P w) A (.call (.ref f) ⟨us, []⟩) (CR CX outer P w H s Q E) s := by
  refine PySem.W.kla_callFunE hr.depth of rfl S.co S.gen rfl hc ?_
  rw [hb us (by rw [← r.length]; exact hl)]
  refine wpAny_pure (wpAny_newFunctionEnv S.nocell (fun ⟨n, _⟩ hy => S.par n (List.of_mem_zip hy).1) (fun h₁ hns hsb => ⟨lim.fresh _ hsb, ?_⟩) S.kind)
  show codeAny _ _ (.expr body (envF (lamF q params scope cl c') f s.heap.objs.size)) _ _
  have kp : ∀ b o, s.heap.get? b = some o → h₁.get? b = some o := fun b o e => hsb.extBut b o (Nat.ne_of_lt (Heap.lt_size e)) (Heap.get?_push_of_some _ e)
  have I : Inv (ncx CX P w K mg base N (lamF q params scope cl c') f A outer s H E) [] (startF N vs ws) H { s with heap := h₁, toks := s.toks + (ps.zip us).length } := inv_startN (F := lamF q params scope cl c') S hr.hd e0 hl r C hns kp
  refine PySem.W.kla_codeExpr (wpAny_mono ((hbody (hr.deeper _)).run [] _ (startF N vs ws) H Q I h) (fun v s' hq => ?_) fun e s' hq => hq)
  obtain ⟨w', H', J', rv, q⟩ := hq
  exact ⟨w', H', J'.os, J'.bare, J'.base, J'.hok, rv, q⟩
/-- f(e, ..), f a name of the callee that holds the lambda: Z is the callee's context, entered at s -/
def tLamAct (c' f : Addr) (q : Str) (i n : Nat) (N : List Str) (ws : List (Option V)) (tb : TE) (t : TA) : TE := fun σ H Q => σ[i]? = some (some (.ref f)) ∧ H c' = some (CodeO c' q) ∧
  t σ H fun vs H1 => H1 c' = some (CodeO c' q) ∧ vs.length = n ∧ tb (startF N vs ws) H1 Q
theorem pe_lamact {CXg : CXT} {Eg : XK} {Ng : List Str} {qg : Str} {sg : Scope} {g : Addr} {cdg pm ctv : Value} {A0 : Around} {st : List Env} {s : Shared} {H : Hp} {ws : List (Option V)} {tb : TE} {a : Str} {i : Nat} {e : Expr} {es : List Expr} {t : TA} {p1 p2 : Pos}
    (S : NScope N ps fr scope) (hb : ∀ (us : List Value), us.length = ps.length → bindArgs (PySem.W.kla_fn "<lambda>" q params body scope cl pm (.ref c') ctv) ⟨us, []⟩ = pure (ps.zip us))
    (of : s.heap.get? f = some (PySem.W.kla_obj "<lambda>" q params body scope cl pm c' ctv)) (hfn : H f = none) (hfr : f ∉ frs st) (C : CellsAt cl fr ws s.heap H)
    (hr : Room (k + 1) (A0.deeper (envOfC qg sg s.heap.objs.size g cdg)))
    (hbody : ∀ (A : Around) (outer : List Env) (s : Shared) (H : Hp), Room k (A.deeper (envF (lamF q params scope cl c') f s.heap.objs.size)) → PE (ncx C8.CX0 P w K mg base N (lamF q params scope cl c') f A outer s H C8.E0) body tb)
    (hN : Ng[i]? = some a) (hv : Vis sg a) (ha : PA (cxOf CXg P w K mg base Ng qg sg g cdg A0 st s H Eg).nox (e :: es) t)
    (hd : (a == ("__debug__" : Str)) = false := by decide) (hcd : (a == ("__classdict__" : Str)) = false := by decide)
    (he : starEach (e :: es) (cxOf CXg P w K mg base Ng qg sg g cdg A0 st s H Eg).nox.env = (false, eval e (cxOf CXg P w K mg base Ng qg sg g cdg A0 st s H Eg).nox.env) :: starEach es (cxOf CXg P w K mg base Ng qg sg g cdg A0 st s H Eg).nox.env := by rfl)
    (hpl : (backTo p2 (starEach es (cxOf CXg P w K mg base Ng qg sg g cdg A0 st s H Eg).nox.env)).any (·.1) = false := by rfl) :
    PE (cxOf CXg P w K mg base Ng qg sg g cdg A0 st s H Eg).nox (.Call (.Name a p1) (e :: es) [] p2) (tLamAct c' f q i ps.length N ws tb t) := by
  refine ⟨fun pinsZ sZ σZ HZ Q IZ h => ?_⟩
  obtain ⟨hs, hc, ht⟩ := h
  refine wpAny_Call_Name_kw (thn ((pe_var (pos := p1) (i := i) hN hv hd hcd).run pinsZ sZ σZ HZ (fun v H1 => v = .ref f ∧ H1 = HZ) IZ ⟨.ref f, hs, rfl, rfl⟩) fun u s1 ⟨v, H1, I1, r1, q1⟩ => ?_)
  obtain ⟨ev, eH⟩ := q1
  subst ev
  rw [eH] at I1
  obtain rfl : u = Value.ref f := r1
  have at_ : ∀ {pins σ HZ} {s1 : Shared}, Inv (cxOf CXg P w K mg base Ng qg sg g cdg A0 st s H Eg).nox pins σ HZ s1 → s1.heap.get? f = some (PySem.W.kla_obj "<lambda>" q params body scope cl pm c' ctv) := fun I1 => I1.base.keep f _ of hfn hfr (fun z => nomatch (show f ∈ ([] : List Addr) from z))
  refine PySem.W.callWith_F (first := []) ⟨_, _, _, _, at_ I1⟩ (thn (ha.run p2 pinsZ s1 σZ HZ _ I1 ht) fun us s2 ⟨vs, H2, I2, r, h1, h2, h3⟩ => ⟨⟨_, _, _, _, at_ I2⟩, ?_⟩) he hpl
  show wpAny _ _ (call (.ref f) us) _ _ _
  have un : Un (frs st) [] H H2 s.heap s2.heap := I2.base
  obtain ⟨⟨oc, vsc, tc, hoc, hdc, hvc⟩, _, _⟩ := I2.hok c' _ h1
  have rc := lam_run (Q := Q) (A := (cxOf CXg P w K mg base Ng qg sg g cdg A0 st s H Eg).nox.A) (outer := (cxOf CXg P w K mg base Ng qg sg g cdg A0 st s H Eg).nox.stack) S hb hr I2.env0 I2.nolimit (at_ I2) ⟨c', oc, vsc, tc, rfl, hoc, hdc, hvc⟩ (CellsAt.un C un) r h2 (fun hr2 => hbody _ _ s2 H2 hr2) h3
  refine wpAny_call (codeAny_mono rc fun r s' hq => ?_)
  cases r with
  | error e => exact (show False from hq).elim
  | ok fl =>
    cases fl with
    | ret u => exact I2.after hq
    | next => exact False.elim hq
    | brk => exact False.elim hq
    | cont => exact False.elim hq
end
end Bh
namespace Bh
open PySem PySem.Spec PyProof.Rows L2 LamX NdefX
/-- the def that calls what it got in its second place: what it makes (TT) of the lambda's reading -/
def GivesTo2 (X : Cx) (Ng : List Str) (x : Str) (sg : Scope) (g : Addr) (cdg : Value) (bg : List Stmt) (a : Str) (q : Str) (n : Nat) (TT : (List V → Hp → VK → Prop) → V → Hp → VK → Prop) : Prop :=
  ∀ (f c' : Addr) (s : Shared) (H : Hp) (Q : VK) (v1 : V) (N : List Str) (ws : List (Option V)) (tb : TE),
    (∀ (e : Expr) (es : List Expr) (t : TA) (p1 p2 : Pos), PA (cxOf C8.CX0 X.prog X.w X.K X.mg X.base Ng x sg g cdg X.A X.stack s H C8.E0).nox (e :: es) t →
      starEach (e :: es) (cxOf C8.CX0 X.prog X.w X.K X.mg X.base Ng x sg g cdg X.A X.stack s H C8.E0).nox.env = (false, eval e (cxOf C8.CX0 X.prog X.w X.K X.mg X.base Ng x sg g cdg X.A X.stack s H C8.E0).nox.env) :: starEach es (cxOf C8.CX0 X.prog X.w X.K X.mg X.base Ng x sg g cdg X.A X.stack s H C8.E0).nox.env →
      (backTo p2 (starEach es (cxOf C8.CX0 X.prog X.w X.K X.mg X.base Ng x sg g cdg X.A X.stack s H C8.E0).nox.env)).any (·.1) = false →
      PE (cxOf C8.CX0 X.prog X.w X.K X.mg X.base Ng x sg g cdg X.A X.stack s H C8.E0).nox (.Call (.Name a p1) (e :: es) [] p2) (tLamAct c' f q 1 n N ws tb t)) →
    H c' = some (CodeO c' q) → TT (fun vs H' Q' => tb (startF N vs ws) H' Q') v1 H Q →
    ∃ t, PSs (cxOf C8.CX0 X.prog X.w X.K X.mg X.base Ng x sg g cdg X.A X.stack s H C8.E0).nox bg t ∧ t { nx := fun _ H' => Q .non H', rt := Q } (L2.start Ng [v1, .ref f]) H
def tLam2 (T : List (Addr × Str)) (N : List Str) (js : List Nat) (TT : (List V → Hp → VK → Prop) → V → Hp → VK → Prop) (tb : TE) (t1 : TE) : TE := fun σ H Q => t1 σ H fun v1 H1 => Tabs T H1 ∧ ∀ H2, ExtN H1 H2 → Tabs T H2 → TT (fun vs H' Q' => tb (startF N vs (js.map (slotAt σ))) H' Q') v1 H2 Q
/-- x(e1, lambda ..: body) -/
theorem pe_lamcall2 {X : Cx} {T : List (Addr × Str)} {TT : (List V → Hp → VK → Prop) → V → Hp → VK → Prop} {x a1 a : Str} {g c P : Addr} {k : Nat} {pg : Arguments} {bg : List Stmt} {sg : Scope} {dV kV doc pm cdv ct oc : Value} {an od : Option Addr} {osl : Array (Option Value)} {Ng : List Str}
    {params : Arguments} {body : Expr} {scope : Scope} {N ps fr : List Str} {js : List Nat} {tb t1 : TE} {e1 : Expr} {p lpos pos : Pos} (hg : Gl X x) (hm : X.mg x = some (.ref g)) (hk : PySem.W.keepIn X.K (.ref g) = true)
    (lk : X.K.lookup g = some ⟨oc, od, .func (PySem.W.fnOf x x pg bg sg dV kV doc pm an cdv ct), osl⟩) (hcg : PySem.W.codeIn X.K cdv x = true) (hb : L2.Binds X.K (PySem.W.fnOf x x pg bg sg dV kV doc pm an cdv ct) [a1, a] []) (Sg : FnScope Ng [a1, a] sg) (hNg : Ng[1]? = some a) (hva : Vis sg a)
    (he1 : PE X e1 t1)
    (hG : GivesTo2 X Ng x sg g cdv bg a (X.env.qual ++ "<lambda>") ps.length TT)
    (TB : TabB X.base X.mg c P) (hcode : X.env.code = .ref c) (hmT : (P, X.env.qual ++ "<lambda>") ∈ T) (hu : ∀ p ∈ T, p.1 = P → p.2 = X.env.qual ++ "<lambda>") (hr : Room (k + 2) X.A) (hdef : defaultsOf params X.env = ([], []))
    (S : NScope N ps fr scope) (hfree : ∀ y ∈ scope.names, y.2 = .free → X.env.scope.names.lookup y.1 = some .cell ∨ X.env.scope.names.lookup y.1 = some .free) (hfr : ∀ y ∈ fr, (y, NameKind.free) ∈ scope.names) (hjs : js.map (fun j => X.N[j]?) = fr.map some)
    (hbind : ∀ (q : Str) (cl : List (Str × Addr)) (pm cv ctv : Value) (us : List Value), us.length = ps.length → bindArgs (PySem.W.kla_fn "<lambda>" q params body scope cl pm cv ctv) ⟨us, []⟩ = pure (ps.zip us))
    (hbody : ∀ (A : Around) (outer : List Env) (s : Shared) (H : Hp) (F : NF) (f : Addr), F.scope = scope → Room k (A.deeper (envF F f s.heap.objs.size)) → PE (ncx C8.CX0 X.prog X.w X.K X.mg X.base N F f A outer s H C8.E0) body tb)
    (hdb : (x == ("__debug__" : Str)) = false := by decide) (hd : (a == ("__debug__" : Str)) = false := by decide) (hcd : (a == ("__classdict__" : Str)) = false := by decide)
    (hs1 : starEach [e1, .Lambda params body scope lpos] X.env = (false, eval e1 X.env) :: starEach [.Lambda params body scope lpos] X.env := by rfl) (hpl : (backTo pos (starEach [.Lambda params body scope lpos] X.env)).any (·.1) = false := by rfl) :
    PE X (.Call (.Name x p) [e1, .Lambda params body scope lpos] [] pos) (tLam2 T N js TT tb t1) := by
  refine ⟨fun pins s σ H Q I h => ?_⟩
  refine wpAny_Call_Name_kw (ld_glob I hg hm ?_ hdb)
  refine PySem.W.callWith_K (h₀ := X.base) I.ok.mod.kin hk ?_ hs1 hpl
  rw [hs1]
  show wpAny _ _ (spliced ((false, eval e1 X.env) :: backTo pos (starEach [.Lambda params body scope lpos] X.env))) _ _ s
  refine Calls.spliced_cons (thn (he1.run pins s σ H _ I h) fun u1 s0 ⟨v1, H0, I0, r1, hT, h⟩ => ?_)
  have hfr' : ∀ y ∈ scope.names, y.2 = .free → ∃ c, X.env.cells.lookup y.1 = some c := fun y hy e => (hfree y hy e).elim (fun z => I0.ok.has _ (.inl z)) fun z => I0.ok.has _ (.inr z)
  show wpAny _ _ (spliced ((false, eval (.Lambda params body scope lpos) X.env) :: backTo pos (starEach [] X.env))) _ _ s0
  refine Calls.spliced_cons (lam_make2 I0 TB hcode hmT hu hT hdef hfr' fun f c' pm' ctv H1 s' I1 eN T1 hf hfn hfs hco => ?_)
  refine Calls.spliced_nil ⟨I1.kIn, ?_⟩
  have C := cells_of I1 (Caps.made (fr := fr) (js := js) I1.ok hfree hfr hjs)
  have rc : codeAny (model X.prog X.w) X.A (.call (.ref g) ⟨[u1, .ref f], []⟩) (CR C8.CX0 X.stack X.prog X.w H1 s' Q C8.E0) s' := by
    refine run_ofS (N := Ng) (ps := [a1, a]) (us := [u1, .ref f]) (vs := [v1, .ref f]) lk hcg Sg hr I1.env0 (hb s' [u1, .ref f] I1.kIn rfl) (.cons r1 (.cons rfl .nil)) rfl fun hr' => ?_
    refine (fun ⟨t, h1, h2⟩ => ⟨t, h1.nox, h2⟩) (hG f c' s' H1 Q v1 N (js.map (slotAt σ)) tb (fun e es t p1 p2 ha he hp => pe_lamact S (hbind _ _ _ _ _) hf hfn hfs C hr' (fun A outer s H hr2 => hbody A outer s H _ _ rfl hr2) hNg hva ha hd hcd he hp) hco (h H1 eN T1))
  refine wpAny_call (codeAny_mono rc fun r s2 hq => ?_)
  cases r with
  | error e => exact (show False from hq).elim
  | ok fl =>
    cases fl with
    | ret u => exact I1.after hq
    | next => exact False.elim hq
    | brk => exact False.elim hq
    | cont => exact False.elim hq
end Bh

set_option Elab.async false
set_option linter.all false
set_option maxRecDepth 100000
namespace Bh
open PySem PySem.Spec PyProof.Rows L2
/-! ### lines of cases: the mirror -/
def lettersD : Str := "abcdefghijklmnopqrstuvwxyz0123456789"
def wordB (w z : Str) : Bool := decide (1 ≤ w.length ∧ w.length ≤ 8) && (TL.tl w).all (fun c => decide (c ∈ TL.tl z))
def lineT (t : Tst) : Str := t.1 ++ t.2.1 ++ t.2.2
def lineS (s : Stp) : Str := if s.2 = "+" then s.1 ++ "+" else s.1 ++ ":" ++ s.2
def leftL (ts : List Tst) : Str := if ts = [] then "always" else Txt.join " and " (ts.map lineT)
def rightL : Option (List Stp) → Str
  | none => "drop"
  | some ss => if ss = [] then "keep" else Txt.join ", " (ss.map lineS)
def lineC (c : Cas) : Str := "when " ++ leftL c.1 ++ " do " ++ rightL c.2
def seqO {α : Type} : List (Option α) → Option (List α)
  | [] => some []
  | none :: _ => none
  | some x :: r => (seqO r).map (x :: ·)
def allR {α : Type} (l : List (Option α)) : Option (List α) := if l.length ≤ 6 then seqO l else none
def tryT (part s : Str) : Option Tst := if (wordB (Txt.partition part s).1 letters && wordB (Txt.partition part s).2.2 lettersD) = true then some ((Txt.partition part s).1, s, (Txt.partition part s).2.2) else none
def readT (part : Str) : Option Tst := signs.findSome? (tryT part)
def readS (part : Str) : Option Stp :=
  if Txt.endswith part "+" = true then (if wordB (Txt.removesuffix part "+") letters = true then some (Txt.removesuffix part "+", "+") else none)
  else if (wordB (Txt.partition part ":").1 letters && wordB (Txt.partition part ":").2.2 lettersD) = true then some ((Txt.partition part ":").1, (Txt.partition part ":").2.2) else none
def readTs (x : Str) : Option (List Tst) := if x = "always" then some [] else allR ((Txt.split x " and ").map readT)
def readSs (x : Str) : Option (List Stp) := if x = "keep" then some [] else allR ((Txt.split x ", ").map readS)
def readP (before behind : Str) : Option Cas := match readTs before with
  | none => none
  | some ts => if behind = "drop" then some (ts, none) else match readSs behind with
    | none => none
    | some ss => some (ts, some ss)
def readC (l : Str) : Option Cas := if Txt.startswith l "when " = true then readP (Txt.partition (Txt.removeprefix l "when ") " do ").1 (Txt.partition (Txt.removeprefix l "when ") " do ").2.2 else none
/-! what a case is -/
def OkT (t : Tst) : Prop := wordB t.1 letters = true ∧ t.2.1 ∈ signs ∧ wordB t.2.2 lettersD = true
def OkS (s : Stp) : Prop := wordB s.1 letters = true ∧ (s.2 = "+" ∨ wordB s.2 lettersD = true)
structure OkC (c : Cas) : Prop where
  n : c.1.length ≤ 6
  t : ∀ t ∈ c.1, OkT t
  m : ∀ ss, c.2 = some ss → ss.length ≤ 6
  s : ∀ ss, c.2 = some ss → ∀ s ∈ ss, OkS s
/-! words -/
theorem app_assoc (a b c : Str) : a ++ b ++ c = a ++ (b ++ c) := TL.ext_tl (by rw [TL.tl_append, TL.tl_append, TL.tl_append, TL.tl_append, List.append_assoc])
theorem word_len {w z : Str} (h : wordB w z = true) : 1 ≤ w.length ∧ w.length ≤ 8 := of_decide_eq_true (Bool.and_eq_true_iff.mp h).1
theorem word_mem {w z : Str} (h : wordB w z = true) : ∀ c ∈ TL.tl w, c ∈ TL.tl z := fun c hc => of_decide_eq_true (List.all_eq_true.mp (Bool.and_eq_true_iff.mp h).2 c hc)
theorem word_mk {w z : Str} (h1 : 1 ≤ w.length) (h2 : w.length ≤ 8) (h : ∀ c ∈ TL.tl w, c ∈ TL.tl z) : wordB w z = true :=
  Bool.and_eq_true_iff.mpr ⟨decide_eq_true ⟨h1, h2⟩, List.all_eq_true.mpr fun c hc => decide_eq_true (h c hc)⟩
theorem let_letD : ∀ c ∈ TL.tl letters, c ∈ TL.tl lettersD := by decide +kernel
theorem word_letD {w : Str} (h : wordB w letters = true) : wordB w lettersD = true := word_mk (word_len h).1 (word_len h).2 fun c hc => let_letD c (word_mem h c hc)
theorem word_free {w : Str} {c : Nat} (h : wordB w lettersD = true) (hc : c ∉ TL.tl lettersD) : c ∉ TL.tl w := fun z => hc (word_mem h c z)
theorem nm_word {w : Str} (h : IsNm w) : wordB w letters = true := word_mk h.lo h.hi fun c hc => by
  have key : ∀ k : _root_.Fin 26, 97 + k.val ∈ TL.tl letters := by decide +kernel
  obtain ⟨a, b⟩ := h.az c hc
  have q := key ⟨c - 97, by omega⟩
  rw [show 97 + (⟨c - 97, by omega⟩ : _root_.Fin 26).val = c by show 97 + (c - 97) = c; omega] at q
  exact q
theorem pool_word : ∀ o ∈ pool, wordB o lettersD = true := by decide +kernel
theorem empty_word (z : Str) : wordB Str.empty z = false := rfl
theorem nin (c : Nat) (h : c ∉ TL.tl lettersD) {a : Str} (ha : wordB a letters = true) : c ∉ TL.tl a := word_free (word_letD ha) h
/-! partition -/
theorem par_spec {S : List Nat} : ∀ {l acc a b : List Nat}, TL.par S acc l = some (a, b) → acc ++ l = a ++ (S ++ b)
  | [], acc, a, b, h => by cases h
  | c :: r, acc, a, b, h => by
    by_cases hp : TL.pre S (c :: r) = true
    · rw [TL.par_hit hp] at h
      cases h
      have e : (c :: r).take S.length = S := eq_of_beq hp
      conv =>
        lhs
        rw [← List.take_append_drop S.length (c :: r), e]
    · rw [TL.par_miss (Bool.eq_false_iff.mpr hp)] at h
      have q := par_spec h
      rw [← q, List.append_assoc]
      rfl
theorem part_cases (x y : Str) (hy : TL.tl y ≠ []) : (∃ a b, Txt.partition x y = (a, y, b) ∧ x = a ++ y ++ b) ∨ Txt.partition x y = (x, Str.empty, Str.empty) := by
  rw [TL.partition_par x y hy]
  cases h : TL.par (TL.tl y) [] (TL.tl x) with
  | none => exact .inr rfl
  | some p =>
    obtain ⟨a, b⟩ := p
    refine .inl ⟨_, _, rfl, TL.ext_tl ?_⟩
    have q := par_spec h
    rw [TL.tl_append, TL.tl_append, List.append_assoc]
    exact q
/-! prefixes, suffixes -/
theorem at0 {x y : Str} : Builtin.Str.subAt x y 0 = true ↔ (TL.tl x).take (TL.tl y).length = TL.tl y := by
  rw [StrLaws.subAt_eq, List.drop_zero, TL.len_tl y]
  exact ⟨fun h => eq_of_beq h, fun h => by rw [h]; exact beq_self_eq_true _⟩
theorem starts_app (y a : Str) : Txt.startswith (y ++ a) y = true := by
  unfold Txt.startswith
  rw [at0.mpr (by rw [TL.tl_append, List.take_left]), decide_eq_true (by rw [TL.len_tl, TL.len_tl, TL.tl_append, List.length_append]; omega)]
  rfl
theorem removeprefix_app (y a : Str) : Txt.removeprefix (y ++ a) y = a := by
  have h := starts_app y a
  unfold Txt.startswith at h
  rw [StrLaws.removeprefix_eq, if_pos h]
  refine TL.ext_tl ?_
  show List.take _ (List.drop _ (TL.tl (y ++ a))) = TL.tl a
  rw [TL.len_tl, TL.len_tl, TL.tl_append, List.drop_left, List.length_append]
  exact List.take_of_length_le (by omega)
theorem prefix_spec {x y : Str} (h : Txt.startswith x y = true) : x = y ++ Txt.removeprefix x y := by
  unfold Txt.startswith at h
  rw [StrLaws.removeprefix_eq, if_pos h]
  have h1 := at0.mp (Bool.and_eq_true_iff.mp h).2
  refine TL.ext_tl ?_
  rw [TL.tl_append]
  show _ = TL.tl y ++ List.take _ (List.drop _ (TL.tl x))
  rw [TL.len_tl, TL.len_tl, List.take_of_length_le (by rw [List.length_drop]; exact Nat.le_refl _)]
  conv =>
    lhs
    rw [← List.take_append_drop (TL.tl y).length (TL.tl x), h1]
theorem ends_app (a y : Str) : Txt.endswith (a ++ y) y = true := by
  unfold Txt.endswith
  have e : Builtin.Str.subAt (a ++ y) y ((a ++ y).length - y.length) = true := by
    rw [StrLaws.subAt_eq, TL.len_tl, TL.len_tl]
    show ((TL.tl (a ++ y)).drop _).take _ == TL.tl y
    rw [TL.tl_append, List.length_append, Nat.add_sub_cancel, List.drop_left, List.take_length]
    exact beq_self_eq_true _
  rw [e, decide_eq_true (by rw [TL.len_tl, TL.len_tl, TL.tl_append, List.length_append]; omega)]
  rfl
theorem removesuffix_app (a y : Str) : Txt.removesuffix (a ++ y) y = a := by
  have h := ends_app a y
  unfold Txt.endswith at h
  rw [StrLaws.removesuffix_eq, if_pos h]
  refine TL.ext_tl ?_
  show List.take _ (List.drop 0 (TL.tl (a ++ y))) = TL.tl a
  rw [TL.len_tl, TL.len_tl, TL.tl_append, List.drop_zero, List.length_append, Nat.add_sub_cancel, Nat.sub_zero, List.take_left]
theorem suffix_spec {x y : Str} (h : Txt.endswith x y = true) : x = Txt.removesuffix x y ++ y := by
  unfold Txt.endswith at h
  rw [StrLaws.removesuffix_eq, if_pos h]
  have h1 := (Bool.and_eq_true_iff.mp h).2
  rw [StrLaws.subAt_eq] at h1
  have h2 : (List.drop (x.length - y.length) (TL.tl x)).take y.length = TL.tl y := eq_of_beq h1
  have h3 : 0 + y.length ≤ x.length := of_decide_eq_true (Bool.and_eq_true_iff.mp h).1
  refine TL.ext_tl ?_
  rw [TL.tl_append]
  show _ = List.take _ (List.drop 0 (TL.tl x)) ++ TL.tl y
  rw [← h2, List.drop_zero, Nat.sub_zero, List.take_of_length_le (l := List.drop _ _) (by rw [List.length_drop, ← TL.len_tl]; omega), List.take_append_drop]
theorem mem_app {c : Nat} {a b : Str} : c ∈ TL.tl (a ++ b) ↔ c ∈ TL.tl a ∨ c ∈ TL.tl b := by rw [TL.tl_append]; exact List.mem_append
theorem ends_mem {x y : Str} {c : Nat} (h : Txt.endswith x y = true) (hc : c ∈ TL.tl y) : c ∈ TL.tl x := by
  rw [suffix_spec h]
  exact mem_app.mpr (.inr hc)
/-! one test, one step -/
theorem sign_nl : ∀ s ∈ signs, ∀ c ∈ TL.tl s, c ∉ TL.tl lettersD := by decide +kernel
theorem sign_one : ∀ s ∈ signs, ∃ c, TL.tl s = [c] := by
  intro s hs
  simp only [signs, List.mem_cons, List.not_mem_nil, or_false] at hs
  rcases hs with rfl | rfl | rfl | rfl <;> exact ⟨_, rfl⟩
theorem sign_ne : ∀ s ∈ signs, ∀ t ∈ signs, s ≠ t → ∀ c ∈ TL.tl s, c ∉ TL.tl t := by decide +kernel
theorem tryT_hit {t : Tst} (h : OkT t) : tryT (lineT t) t.2.1 = some t := by
  obtain ⟨h1, h2, h3⟩ := h
  obtain ⟨c, hc⟩ := sign_one _ h2
  have nl := sign_nl _ h2 c (by rw [hc]; exact List.mem_singleton.mpr rfl)
  have e : Txt.partition (lineT t) t.2.1 = (t.1, t.2.1, t.2.2) := TL.partition_app hc (nin c nl h1)
  unfold tryT
  rw [e]
  exact if_pos (Bool.and_eq_true_iff.mpr ⟨h1, h3⟩)
theorem tryT_miss {t : Tst} {s : Str} (h : OkT t) (hs : s ∈ signs) (ne : s ≠ t.2.1) : tryT (lineT t) s = none := by
  obtain ⟨h1, h2, h3⟩ := h
  obtain ⟨c, hc⟩ := sign_one _ hs
  have mc : c ∈ TL.tl s := by rw [hc]; exact List.mem_singleton.mpr rfl
  have nl := sign_nl _ hs c mc
  have nf : c ∉ TL.tl (lineT t) := fun z => by
    rcases mem_app.mp z with z | z
    · rcases mem_app.mp z with z | z
      · exact nin c nl h1 z
      · exact sign_ne _ hs _ h2 ne c mc z
    · exact word_free h3 nl z
  have e : Txt.partition (lineT t) s = (lineT t, Str.empty, Str.empty) := TL.partition_none hc nf
  unfold tryT
  rw [e]
  refine if_neg ?_
  rw [empty_word, Bool.and_false]
  exact Bool.false_ne_true
theorem find_one {α β : Type} (f : α → Option β) (y : β) : ∀ (l : List α) (x : α), x ∈ l → f x = some y → (∀ z ∈ l, z ≠ x → f z = none) → l.findSome? f = some y
  | [], x, h, _, _ => by cases h
  | a :: r, x, h, hx, hn => by
    by_cases e : a = x
    · rw [List.findSome?_cons, e, hx]
    · rw [List.findSome?_cons, hn a (List.mem_cons_self ..) e]
      rcases List.mem_cons.mp h with z | z
      · exact absurd z.symm e
      · exact find_one f y r x z hx fun w hw => hn w (List.mem_cons_of_mem _ hw)
theorem readT_line {t : Tst} (h : OkT t) : readT (lineT t) = some t := find_one _ _ signs t.2.1 h.2.1 (tryT_hit h) fun s hs ne => tryT_miss h hs ne
theorem readT_back {part : Str} {t : Tst} (h : readT part = some t) : lineT t = part ∧ OkT t := by
  obtain ⟨s, hs, e⟩ := List.exists_of_findSome?_eq_some h
  unfold tryT at e
  by_cases hw : (wordB (Txt.partition part s).1 letters && wordB (Txt.partition part s).2.2 lettersD) = true
  · rw [if_pos hw] at e
    cases e
    have hw2 := Bool.and_eq_true_iff.mp hw
    refine ⟨?_, hw2.1, hs, hw2.2⟩
    obtain ⟨c, hc⟩ := sign_one _ hs
    rcases part_cases part s (by rw [hc]; simp) with ⟨a, b, e1, e2⟩ | e1
    · rw [e1]
      exact e2.symm
    · rw [e1] at hw2
      exact absurd hw2.2 (by rw [empty_word]; exact Bool.false_ne_true)
  · rw [if_neg hw] at e
    cases e
theorem readS_line {s : Stp} (h : OkS s) : readS (lineS s) = some s := by
  obtain ⟨h1, h2⟩ := h
  obtain ⟨a, b⟩ := s
  by_cases e : b = "+"
  · subst e
    have el : lineS (a, "+") = a ++ "+" := if_pos rfl
    unfold readS
    rw [el, if_pos (ends_app a "+"), removesuffix_app]
    exact if_pos h1
  · have hb : wordB b lettersD = true := h2.resolve_left e
    have el : lineS (a, b) = a ++ ":" ++ b := if_neg e
    have nf : 43 ∉ TL.tl (a ++ ":" ++ b) := fun z => by
      rcases mem_app.mp z with z | z
      · rcases mem_app.mp z with z | z
        · exact nin 43 (by decide +kernel) h1 z
        · exact absurd z (by decide +kernel)
      · exact word_free hb (by decide +kernel) z
    have ne : ¬ Txt.endswith (a ++ ":" ++ b) "+" = true := fun z => nf (ends_mem z (by decide +kernel))
    have ep : Txt.partition (a ++ ":" ++ b) ":" = (a, (":" : Str), b) := TL.partition_app (y := ":") (s := 58) (S := []) rfl (nin 58 (by decide +kernel) h1)
    unfold readS
    rw [el, if_neg ne, ep]
    exact if_pos (Bool.and_eq_true_iff.mpr ⟨h1, hb⟩)
theorem readS_back {part : Str} {s : Stp} (h : readS part = some s) : lineS s = part ∧ OkS s := by
  unfold readS at h
  by_cases e : Txt.endswith part "+" = true
  · rw [if_pos e] at h
    by_cases hw : wordB (Txt.removesuffix part "+") letters = true
    · rw [if_pos hw] at h
      cases h
      refine ⟨?_, hw, .inl rfl⟩
      have q : lineS (Txt.removesuffix part "+", "+") = Txt.removesuffix part "+" ++ "+" := if_pos rfl
      rw [q]
      exact (suffix_spec e).symm
    · rw [if_neg hw] at h
      cases h
  · rw [if_neg e] at h
    by_cases hw : (wordB (Txt.partition part ":").1 letters && wordB (Txt.partition part ":").2.2 lettersD) = true
    · rw [if_pos hw] at h
      cases h
      have hw2 := Bool.and_eq_true_iff.mp hw
      refine ⟨?_, hw2.1, .inr hw2.2⟩
      have nb : (Txt.partition part ":").2.2 ≠ "+" := fun z => by
        rw [z] at hw2
        exact absurd hw2.2 (by decide +kernel)
      have q : lineS ((Txt.partition part ":").1, (Txt.partition part ":").2.2) = (Txt.partition part ":").1 ++ ":" ++ (Txt.partition part ":").2.2 := if_neg nb
      rw [q]
      rcases part_cases part ":" (by decide +kernel) with ⟨a, b, e1, e2⟩ | e1
      · rw [e1]
        exact e2.symm
      · rw [e1] at hw2
        exact absurd hw2.2 (by rw [empty_word]; exact Bool.false_ne_true)
    · rw [if_neg hw] at h
      cases h
/-! all of them -/
theorem seqO_some {α : Type} : ∀ l : List α, seqO (l.map some) = some l
  | [] => rfl
  | x :: r => by
    show (seqO (r.map some)).map (x :: ·) = _
    rw [seqO_some r]
    rfl
theorem seqO_back {α : Type} : ∀ {l : List (Option α)} {ys : List α}, seqO l = some ys → l = ys.map some
  | [], _, h => by cases h; rfl
  | none :: _, _, h => by cases h
  | some x :: r, ys, h => by
    have h' : (seqO r).map (x :: ·) = some ys := h
    cases e : seqO r with
    | none =>
      rw [e] at h'
      cases h'
    | some zs =>
      rw [e] at h'
      cases h'
      rw [seqO_back e]
      rfl
theorem allR_line {α : Type} {line : α → Str} {read : Str → Option α} {l : List α} (h : ∀ x ∈ l, read (line x) = some x) (n : l.length ≤ 6) : allR ((l.map line).map read) = some l := by
  have e : (l.map line).map read = l.map some := by
    rw [List.map_map]
    exact List.map_congr_left fun x hx => h x hx
  unfold allR
  rw [e, if_pos (by rw [List.length_map]; exact n), seqO_some]
theorem allR_back {α : Type} {line : α → Str} {read : Str → Option α} {Ok : α → Prop} {l : List Str} {ys : List α} (hb : ∀ p x, read p = some x → line x = p ∧ Ok x) (h : allR (l.map read) = some ys) : ys.map line = l ∧ ys.length ≤ 6 ∧ ∀ y ∈ ys, Ok y := by
  unfold allR at h
  by_cases hl : (l.map read).length ≤ 6
  · rw [if_pos hl] at h
    have q := seqO_back h
    have key : ∀ (l : List Str) (ys : List α), l.map read = ys.map some → ys.map line = l ∧ ∀ y ∈ ys, Ok y := by
      intro l
      induction l with
      | nil =>
        intro ys q
        cases ys with
        | nil => exact ⟨rfl, fun y hy => by cases hy⟩
        | cons y r => cases q
      | cons p r ih =>
        intro ys q
        cases ys with
        | nil => cases q
        | cons y ys =>
          rw [List.map_cons, List.map_cons] at q
          injection q with q1 q2
          obtain ⟨e1, e2⟩ := ih ys q2
          obtain ⟨f1, f2⟩ := hb p y q1
          refine ⟨by rw [List.map_cons, f1, e1], fun z hz => ?_⟩
          rcases List.mem_cons.mp hz with rfl | hz
          · exact f2
          · exact e2 z hz
    obtain ⟨e1, e2⟩ := key l ys q
    have hl2 : (ys.map some).length ≤ 6 := by
      rw [← q]
      exact hl
    rw [List.length_map] at hl2
    exact ⟨e1, hl2, e2⟩
  · rw [if_neg hl] at h
    cases h
theorem split_ne (x y : Str) : Txt.split x y ≠ [] := by
  unfold Txt.split
  split
  · simp
  · split
    · simp
    · intro h
      rw [StrLaws.partsBetween_eq] at h
      obtain ⟨p, q, e⟩ := StrLaws.partsFrom_ne x y.length 0 (Builtin.Str.occurrences x y 0 x.length (x.length + 1))
      rw [e] at h
      cases h
theorem join_mem {y : Str} {c : Nat} {p : Str} {r : List Str} (h : c ∈ TL.tl p) : c ∈ TL.tl (Txt.join y (p :: r)) := by
  rw [TL.join_eq]
  cases r with
  | nil => exact h
  | cons q r =>
    show c ∈ TL.tl (p ++ y ++ Str.join y (q :: r))
    exact mem_app.mpr (.inl (mem_app.mpr (.inl h)))

/-! the tests of a line, its steps -/
theorem lineT_free {t : Tst} (h : OkT t) : 32 ∉ TL.tl (lineT t) ∧ 3 ≤ (TL.tl (lineT t)).length := by
  obtain ⟨h1, h2, h3⟩ := h
  refine ⟨fun z => ?_, ?_⟩
  · rcases mem_app.mp z with z | z
    · rcases mem_app.mp z with z | z
      · exact nin 32 (by decide +kernel) h1 z
      · have key : ∀ s ∈ signs, 32 ∉ TL.tl s := by decide +kernel
        exact key _ h2 z
    · exact word_free h3 (by decide +kernel) z
  · obtain ⟨c, hc⟩ := sign_one _ h2
    have l1 := (word_len h1).1
    have l3 := (word_len h3).1
    rw [TL.len_tl] at l1 l3
    unfold lineT
    rw [TL.tl_append, TL.tl_append, hc, List.length_append, List.length_append]
    show 3 ≤ _ + 1 + _
    omega
theorem lineT_sign {t : Tst} (h : OkT t) : ∃ c ∈ ([61, 33, 60, 62] : List Nat), c ∈ TL.tl (lineT t) := by
  have key : ∀ s ∈ signs, ∃ c ∈ ([61, 33, 60, 62] : List Nat), c ∈ TL.tl s := by decide +kernel
  obtain ⟨c, h1, h2⟩ := key _ h.2.1
  exact ⟨c, h1, mem_app.mpr (.inl (mem_app.mpr (.inr h2)))⟩
theorem lineS_free {s : Stp} (h : OkS s) : 44 ∉ TL.tl (lineS s) ∧ 32 ∉ TL.tl (lineS s) ∧ ∃ c ∈ ([43, 58] : List Nat), c ∈ TL.tl (lineS s) := by
  obtain ⟨h1, h2⟩ := h
  obtain ⟨a, b⟩ := s
  by_cases e : b = "+"
  · subst e
    have el : lineS (a, "+") = a ++ "+" := if_pos rfl
    rw [el]
    refine ⟨fun z => ?_, fun z => ?_, 43, by decide, mem_app.mpr (.inr (by decide +kernel))⟩
    · rcases mem_app.mp z with z | z
      · exact nin 44 (by decide +kernel) h1 z
      · exact absurd z (by decide +kernel)
    · rcases mem_app.mp z with z | z
      · exact nin 32 (by decide +kernel) h1 z
      · exact absurd z (by decide +kernel)
  · have hb : wordB b lettersD = true := h2.resolve_left e
    have el : lineS (a, b) = a ++ ":" ++ b := if_neg e
    rw [el]
    refine ⟨fun z => ?_, fun z => ?_, 58, by decide, mem_app.mpr (.inl (mem_app.mpr (.inr (by decide +kernel))))⟩
    · rcases mem_app.mp z with z | z
      · rcases mem_app.mp z with z | z
        · exact nin 44 (by decide +kernel) h1 z
        · exact absurd z (by decide +kernel)
      · exact word_free hb (by decide +kernel) z
    · rcases mem_app.mp z with z | z
      · rcases mem_app.mp z with z | z
        · exact nin 32 (by decide +kernel) h1 z
        · exact absurd z (by decide +kernel)
      · exact word_free hb (by decide +kernel) z
theorem readTs_left {ts : List Tst} (h : ∀ t ∈ ts, OkT t) (n : ts.length ≤ 6) : readTs (leftL ts) = some ts := by
  unfold readTs leftL
  by_cases e : ts = []
  · subst e
    rfl
  · rw [if_neg e]
    have ne : Txt.join " and " (ts.map lineT) ≠ "always" := fun z => by
      cases ts with
      | nil => exact e rfl
      | cons t r =>
        obtain ⟨c, h1, h2⟩ := lineT_sign (h t (List.mem_cons_self ..))
        have q : c ∈ TL.tl (Txt.join " and " ((t :: r).map lineT)) := join_mem h2
        rw [z] at q
        have key : ∀ c ∈ ([61, 33, 60, 62] : List Nat), c ∉ TL.tl ("always" : Str) := by decide +kernel
        exact key c h1 q
    rw [if_neg ne, TL.split_join (y := " and ") (s := 32) (S := [97, 110, 100, 32]) (by decide +kernel) (by decide +kernel) (by simpa using e) (fun p hp => by
      obtain ⟨t, ht, rfl⟩ := List.mem_map.mp hp
      exact (lineT_free (h t ht)).1)]
    exact allR_line (fun t ht => readT_line (h t ht)) n
theorem readTs_back {x : Str} {ts : List Tst} (h : readTs x = some ts) : leftL ts = x ∧ ts.length ≤ 6 ∧ ∀ t ∈ ts, OkT t := by
  unfold readTs at h
  by_cases e : x = "always"
  · rw [if_pos e] at h
    cases h
    exact ⟨e.symm, by decide, fun t ht => by cases ht⟩
  · rw [if_neg e] at h
    obtain ⟨e1, e2, e3⟩ := allR_back (fun p t h => readT_back h) h
    refine ⟨?_, e2, e3⟩
    have ne : ts ≠ [] := fun z => by
      rw [z] at e1
      exact split_ne _ _ e1.symm
    unfold leftL
    rw [if_neg ne, e1, TL.join_eq, StrLaws.join_split]
theorem readSs_right {ss : List Stp} (h : ∀ s ∈ ss, OkS s) (n : ss.length ≤ 6) : readSs (rightL (some ss)) = some ss ∧ rightL (some ss) ≠ "drop" := by
  by_cases e : ss = []
  · subst e
    exact ⟨rfl, by decide +kernel⟩
  · have eR : rightL (some ss) = Txt.join ", " (ss.map lineS) := if_neg e
    rw [eR]
    have key : ∃ c ∈ ([43, 58] : List Nat), c ∈ TL.tl (Txt.join ", " (ss.map lineS)) := by
      cases ss with
      | nil => exact absurd rfl e
      | cons s r =>
        obtain ⟨_, _, c, h1, h2⟩ := lineS_free (h s (List.mem_cons_self ..))
        exact ⟨c, h1, join_mem h2⟩
    obtain ⟨c, h1, h2⟩ := key
    have nk : Txt.join ", " (ss.map lineS) ≠ "keep" := fun z => by
      rw [z] at h2
      have key : ∀ c ∈ ([43, 58] : List Nat), c ∉ TL.tl ("keep" : Str) := by decide +kernel
      exact key c h1 h2
    refine ⟨?_, fun z => ?_⟩
    · unfold readSs
      rw [if_neg nk, TL.split_join (y := ", ") (s := 44) (S := [32]) (by decide +kernel) (by decide +kernel) (by simpa using e) (fun p hp => by
        obtain ⟨s, hs, rfl⟩ := List.mem_map.mp hp
        exact (lineS_free (h s hs)).1)]
      exact allR_line (fun s hs => readS_line (h s hs)) n
    · rw [z] at h2
      have key : ∀ c ∈ ([43, 58] : List Nat), c ∉ TL.tl ("drop" : Str) := by decide +kernel
      exact key c h1 h2
theorem readSs_back {x : Str} {ss : List Stp} (h : readSs x = some ss) : rightL (some ss) = x ∧ ss.length ≤ 6 ∧ ∀ s ∈ ss, OkS s := by
  unfold readSs at h
  by_cases e : x = "keep"
  · rw [if_pos e] at h
    cases h
    exact ⟨e.symm, by decide, fun t ht => by cases ht⟩
  · rw [if_neg e] at h
    obtain ⟨e1, e2, e3⟩ := allR_back (fun p t h => readS_back h) h
    refine ⟨?_, e2, e3⟩
    have ne : ss ≠ [] := fun z => by
      rw [z] at e1
      exact split_ne _ _ e1.symm
    show (if ss = [] then ("keep" : Str) else Txt.join ", " (ss.map lineS)) = x
    rw [if_neg ne, e1, TL.join_eq, StrLaws.join_split]
/-! the whole line -/
theorem par_skip {s : Nat} {S : List Nat} : ∀ {p l acc : List Nat}, s ∉ p → TL.par (s :: S) acc (p ++ l) = TL.par (s :: S) (acc ++ p) l
  | [], l, acc, _ => by rw [List.append_nil]; rfl
  | c :: r, l, acc, h => by
    show TL.par (s :: S) acc (c :: (r ++ l)) = _
    rw [TL.par_miss (TL.pre_of_head S (r ++ l) fun z => h (by rw [z]; exact List.mem_cons_self ..)), par_skip fun z => h (List.mem_cons_of_mem _ z), List.append_assoc]
    rfl
theorem pre_do {q l : List Nat} (h : 32 ∉ q) (n : 3 ≤ q.length) : TL.pre [32, 100, 111, 32] (32 :: (q ++ l)) = false := by
  match q, h, n with
  | a :: b :: c :: r, h, _ =>
    refine Bool.eq_false_iff.mpr fun z => ?_
    have e : (32 :: (a :: b :: c :: r ++ l)).take 4 = [32, 100, 111, 32] := eq_of_beq z
    have e2 : [32, a, b, c] = [32, 100, 111, 32] := e
    injection e2 with _ e2
    injection e2 with _ e2
    injection e2 with _ e2
    injection e2 with e2 _
    exact h (by rw [e2]; simp)
theorem par_tests : ∀ {parts : List (List Nat)} {acc rest : List Nat}, parts ≠ [] → (∀ p ∈ parts, 32 ∉ p ∧ 3 ≤ p.length) →
    TL.par [32, 100, 111, 32] acc (TL.joinL [32, 97, 110, 100, 32] parts ++ ([32, 100, 111, 32] ++ rest)) = some (acc ++ TL.joinL [32, 97, 110, 100, 32] parts, rest)
  | [], _, _, h, _ => absurd rfl h
  | [p], acc, rest, _, h => TL.par_part1 (h p (List.mem_singleton.mpr rfl)).1
  | p :: q :: r, acc, rest, _, h => by
    have hp := h p (List.mem_cons_self ..)
    have hq := h q (List.mem_cons_of_mem _ (List.mem_cons_self ..))
    have ih := par_tests (parts := q :: r) (acc := acc ++ p ++ [32, 97, 110, 100, 32]) (rest := rest) (by simp) (fun z hz => h z (List.mem_cons_of_mem _ hz))
    have ej : TL.joinL [32, 97, 110, 100, 32] (p :: q :: r) = p ++ ([32, 97, 110, 100, 32] ++ TL.joinL [32, 97, 110, 100, 32] (q :: r)) := rfl
    have eq1 : ∃ t, TL.joinL [32, 97, 110, 100, 32] (q :: r) = q ++ t := by
      cases r with
      | nil => exact ⟨[], (List.append_nil _).symm⟩
      | cons z r => exact ⟨_, rfl⟩
    obtain ⟨t, et⟩ := eq1
    rw [ej, List.append_assoc, par_skip hp.1, List.append_assoc]
    show TL.par [32, 100, 111, 32] (acc ++ p) (32 :: 97 :: 110 :: 100 :: 32 :: (TL.joinL [32, 97, 110, 100, 32] (q :: r) ++ ([32, 100, 111, 32] ++ rest))) = _
    rw [TL.par_miss rfl, TL.par_miss (TL.pre_of_head _ _ (by decide)), TL.par_miss (TL.pre_of_head _ _ (by decide)), TL.par_miss (TL.pre_of_head _ _ (by decide)),
      TL.par_miss (by rw [et, List.append_assoc]; exact pre_do hq.1 hq.2)]
    have ea : acc ++ p ++ [32] ++ [97] ++ [110] ++ [100] ++ [32] = acc ++ p ++ [32, 97, 110, 100, 32] := by simp
    rw [ea, ih]
    simp
theorem part_line {ts : List Tst} (h : ∀ t ∈ ts, OkT t) (b : Str) : Txt.partition (leftL ts ++ " do " ++ b) " do " = (leftL ts, (" do " : Str), b) := by
  by_cases e : ts = []
  · subst e
    exact TL.partition_app (y := " do ") (s := 32) (S := [100, 111, 32]) (by decide +kernel) (by decide +kernel)
  · have el : leftL ts = Txt.join " and " (ts.map lineT) := if_neg e
    have et : TL.tl (leftL ts) = TL.joinL [32, 97, 110, 100, 32] (ts.map (fun t => TL.tl (lineT t))) := by
      rw [el, TL.join_eq, TL.tl_join, List.map_map]
      rfl
    have hd : TL.tl (" do " : Str) = [32, 100, 111, 32] := by decide +kernel
    rw [TL.partition_par _ _ (by rw [hd]; simp), TL.tl_append, TL.tl_append, List.append_assoc, hd, et]
    have hq : ∀ p ∈ ts.map (fun t => TL.tl (lineT t)), 32 ∉ p ∧ 3 ≤ p.length := fun p hp => by
      obtain ⟨t, ht, rfl⟩ := List.mem_map.mp hp
      exact lineT_free (h t ht)
    rw [par_tests (acc := []) (rest := TL.tl b) (by simpa using e) hq]
    show ((⟨([] ++ _ : List Nat).toArray⟩ : Str), _, (⟨(TL.tl b).toArray⟩ : Str)) = _
    rw [List.nil_append, ← et, TL.mk_tl, TL.mk_tl]
/-- the line of a case, read -/
theorem readC_line {c : Cas} (h : OkC c) : readC (lineC c) = some c := by
  have e : lineC c = "when " ++ (leftL c.1 ++ " do " ++ rightL c.2) := by
    unfold lineC
    rw [app_assoc, app_assoc, app_assoc]
  unfold readC
  rw [e, if_pos (starts_app _ _), removeprefix_app, part_line h.t]
  unfold readP
  show (match readTs (leftL c.1) with | none => none | some ts => _) = _
  rw [readTs_left h.t h.n]
  obtain ⟨ts, so⟩ := c
  cases so with
  | none => rfl
  | some ss =>
    obtain ⟨e1, e2⟩ := readSs_right (h.s ss rfl) (h.m ss rfl)
    show (if rightL (some ss) = "drop" then _ else match readSs (rightL (some ss)) with | none => none | some ss => some (ts, some ss)) = _
    rw [if_neg e2, e1]
/-- a line that is read is the line of the case -/
theorem readC_back {l : Str} {c : Cas} (h : readC l = some c) : lineC c = l ∧ OkC c := by
  unfold readC at h
  by_cases e : Txt.startswith l "when " = true
  · rw [if_pos e] at h
    have el := prefix_spec e
    have key : ∀ {x y : Str} {c : Cas}, readP x y = some c → leftL c.1 = x ∧ rightL c.2 = y ∧ OkC c := by
      intro x y c hr
      unfold readP at hr
      cases e1 : readTs x with
      | none =>
        rw [e1] at hr
        cases hr
      | some ts =>
        rw [e1] at hr
        obtain ⟨a1, a2, a3⟩ := readTs_back e1
        have hr' : (if y = "drop" then some (ts, none) else match readSs y with | none => none | some ss => some (ts, some ss)) = some c := hr
        by_cases e2 : y = "drop"
        · rw [if_pos e2] at hr'
          cases hr'
          exact ⟨a1, e2.symm, a2, a3, (fun ss z => by cases z), (fun ss z => by cases z)⟩
        · rw [if_neg e2] at hr'
          cases e3 : readSs y with
          | none =>
            rw [e3] at hr'
            cases hr'
          | some ss =>
            rw [e3] at hr'
            cases hr'
            obtain ⟨b1, b2, b3⟩ := readSs_back e3
            exact ⟨a1, b1, a2, a3, (fun ss z => by cases z; exact b2), (fun ss z => by cases z; exact b3)⟩
    obtain ⟨k1, k2, k3⟩ := key h
    refine ⟨?_, k3⟩
    rcases part_cases (Txt.removeprefix l "when ") " do " (by decide +kernel) with ⟨a, b, p1, p2⟩ | p1
    · rw [p1] at k1 k2
      unfold lineC
      rw [k1, k2, app_assoc, app_assoc, ← app_assoc a, ← p2]
      exact el.symm
    · rw [p1] at h
      have hx : readSs (Str.empty) = none := by decide +kernel
      have hy : ¬ (Str.empty : Str) = "drop" := by decide +kernel
      unfold readP at h
      cases e1 : readTs (Txt.removeprefix l "when ") with
      | none =>
        rw [e1] at h
        cases h
      | some ts =>
        rw [e1] at h
        have h' : (if (Str.empty : Str) = "drop" then some (ts, none) else match readSs Str.empty with | none => none | some ss => some (ts, some ss)) = some c := h
        rw [if_neg hy, hx] at h'
        cases h'
  · rw [if_neg e] at h
    cases h
end Bh

set_option Elab.async false
set_option linter.all false
set_option maxRecDepth 100000
namespace Bh
open PySem PySem.Spec PyProof.Rows L2
/-! ### the parts of a rulebook as data -/
/-- a statement that is never reached -/
theorem ps_dead {X : Cx} {st : Stmt} : PS X st (fun _ _ _ => False) := ⟨fun _ _ _ _ _ _ h => h.elim⟩
theorem pa_starK {X : Cx} {K : PySem.W.Frag} {e : Expr} {es : List Expr} {te : TE} {t : TA} {p : Pos} (hK : X.K = K) (he : PE X e te) (hr : PA X es t) (hs : starEach (.Starred e p :: es) X.env = (true, eval e X.env) :: starEach es X.env := by rfl) : PA X (.Starred e p :: es) (StX.tStar K te t) := by
  subst hK
  exact StX.pa_star he hr hs
theorem pe_dead {X : Cx} {e : Expr} : PE X e (fun _ _ _ => False) := ⟨fun _ _ _ _ _ _ h => h.elim⟩
theorem iteB {b : Bool} {A B : Prop} (h1 : b = true → A) (h2 : b = false → B) : if b = true then A else B := by
  cases b
  · exact h2 rfl
  · exact h1 rfl
/-- a walk, whatever is done at each turn -/
theorem walk_out {J : It} {n : Nat} {G : Hp → Prop} {Y : Nat → Hp → V → Hp → Prop} (w : Walk J n G Y) {B : V → Hp → (Hp → Prop) → Prop} {H0 : Hp} {Qd : Hp → Prop} (Pv : Nat → Hp → Prop) (h0 : Pv 0 H0) (hG : ∀ i H, i ≤ n → Pv i H → G H)
    (hs : ∀ i x H H', i < n → Pv i H → Y i H x H' → B x H' (Pv (i + 1))) (hd : ∀ H, Pv n H → Qd H) :
    ∃ W : Nat → Nat → Hp → Prop, (∃ m, W 0 m H0) ∧ ∀ i m H, W i m H → (J.stop i H ∧ Qd H) ∨ (J.go i H ∧ ∃ Nx : Hp → Prop, (∀ H', Nx H' → ∃ m', m' < m ∧ W (i + 1) m' H') ∧ ∀ x H', J.yld i H x H' → B x H' Nx) := by
  refine ⟨fun i m H => m + i = n ∧ Pv i H, ⟨n, by omega, h0⟩, ?_⟩
  rintro i m H ⟨em, p⟩
  by_cases hi : i < n
  · refine .inr ⟨w.goes i H hi (hG i H (by omega) p), Pv (i + 1), fun H' p' => ⟨m - 1, by omega, by omega, p'⟩, fun x H' y => hs i x H H' hi p (w.yields i H x H' hi (hG i H (by omega) p) y)⟩
  · obtain rfl : i = n := by omega
    exact .inl ⟨w.stops H (hG i H (Nat.le_refl _) p), hd H p⟩
/-- a comprehension of which all items come out true -/
theorem lc_trues {J : It} {n : Nat} {G : Hp → Prop} {xs : List V} (wk : Walk J n G (YAt xs)) {H : Hp} {D : Addr} {g : TG} {te : TE} {vs : List Nat} {σ : L2.St} {Qd : Hp → Prop} (nD : H D = none) (hn : n ≤ 100000) (hG : ∀ H', Same H H' → G H')
    (hs : ∀ (i : Nat) (x : V) (H' : Hp) (R : V → Hp → Prop) (R' : Hp → Prop), xs[i]? = some x → Same H H' → (∀ H4, Same H' H4 → R (.bl true) H4) → g x (wipe σ vs) H' fun σ2 H2 => wipe σ2 vs = wipe σ vs ∧ tYes σ2 H2 fun b H3 => if b = true then te σ2 H3 R else R' H3)
    (hd : ∀ H', Same H H' → H' D = some (.lst ((List.replicate n true).map V.bl)) → Qd H') :
    ∃ W : Nat → Nat → Hp → Prop, (∃ m, W 0 m (upd H D (.lst []))) ∧ ∀ i m H, W i m H →
      (J.stop i H ∧ Qd H) ∨ (J.go i H ∧ ∃ Nx : Hp → Prop, (∀ H', Nx H' → ∃ m', m' < m ∧ W (i + 1) m' H') ∧ ∀ x H', J.yld i H x H' → g x (wipe σ vs) H' fun σ2 H2 => wipe σ2 vs = wipe σ vs ∧ tYes σ2 H2 fun b H3 =>
        if b = true then te σ2 H3 fun y H4 => ∃ acc, H4 D = some (.lst acc) ∧ acc.length < sizeLine ∧ Nx (upd H4 D (.lst (acc ++ [y]))) else Nx H3) := by
  refine lc_it wk (fun i H' => Same H H' ∧ H' D = some (.lst ((List.replicate i true).map V.bl))) ⟨same_new nD, upd_same⟩ (fun i H' _ p => hG H' p.1) ?_ ?_
  · rintro i x H' H'' hi ⟨s1, hDl⟩ ⟨rfl, ey⟩
    refine hs i x H'' _ _ ey s1 fun H4 s4 => ⟨_, s4 _ _ hDl, ?_, same_mut (s1.trans s4) nD, ?_⟩
    · rw [List.length_map, List.length_replicate]
      exact lt_line (by omega)
    · rw [upd_same, List.replicate_succ', List.map_append]
      rfl
  · rintro H' ⟨s1, hDl⟩
    exact hd H' s1 hDl
/-- the same over pairs that the walk makes -/
theorem lc_truesP {J : It} {n : Nat} {G : Hp → Prop} {xs ys : Nat → Option V} (wk : Walk J n G (YPair xs ys)) {H : Hp} {D : Addr} {g : TG} {te : TE} {vs : List Nat} {σ : L2.St} {Qd : Hp → Prop} (nD : H D = none) (hn : n ≤ 100000) (hG : ∀ H', Same H H' → G H')
    (hs : ∀ (i : Nat) (x y : V) (T : Addr) (H' : Hp) (R : V → Hp → Prop) (R' : Hp → Prop), xs i = some x → ys i = some y → Same H H' → H' T = none → (∀ H4, Same (upd H' T (.tup [x, y])) H4 → R (.bl true) H4) →
      g (.ref T) (wipe σ vs) (upd H' T (.tup [x, y])) fun σ2 H2 => wipe σ2 vs = wipe σ vs ∧ tYes σ2 H2 fun b H3 => if b = true then te σ2 H3 R else R' H3)
    (hd : ∀ H', Same H H' → H' D = some (.lst ((List.replicate n true).map V.bl)) → Qd H') :
    ∃ W : Nat → Nat → Hp → Prop, (∃ m, W 0 m (upd H D (.lst []))) ∧ ∀ i m H, W i m H →
      (J.stop i H ∧ Qd H) ∨ (J.go i H ∧ ∃ Nx : Hp → Prop, (∀ H', Nx H' → ∃ m', m' < m ∧ W (i + 1) m' H') ∧ ∀ x H', J.yld i H x H' → g x (wipe σ vs) H' fun σ2 H2 => wipe σ2 vs = wipe σ vs ∧ tYes σ2 H2 fun b H3 =>
        if b = true then te σ2 H3 fun y H4 => ∃ acc, H4 D = some (.lst acc) ∧ acc.length < sizeLine ∧ Nx (upd H4 D (.lst (acc ++ [y]))) else Nx H3) := by
  refine lc_it wk (fun i H' => Same H H' ∧ H' D = some (.lst ((List.replicate i true).map V.bl))) ⟨same_new nD, upd_same⟩ (fun i H' _ p => hG H' p.1) ?_ ?_
  · rintro i z H' H'' hi ⟨s1, hDl⟩ ⟨T, x, y, rfl, nT, rfl, ex, ey⟩
    have sT : Same H' (upd H' T (.tup [x, y])) := same_new nT
    refine hs i x y T H' _ _ ex ey s1 nT fun H4 s4 => ⟨_, s4 _ _ (sT _ _ hDl), ?_, same_mut (s1.trans (sT.trans s4)) nD, ?_⟩
    · rw [List.length_map, List.length_replicate]
      exact lt_line (by omega)
    · rw [upd_same, List.replicate_succ', List.map_append]
      rfl
  · rintro H' ⟨s1, hDl⟩
    exact hd H' s1 hDl
/-- an item whose first part is the name n -/
def HdAt (K : PySem.W.Frag) (H : Hp) (v : V) (n : Str) : Prop := ∃ t r, v = .ref t ∧ SqT K H t (.str n :: r)
theorem HdAt.mono {K : PySem.W.Frag} {H H' : Hp} (e : Same H H') {v : V} {n : Str} (h : HdAt K H v n) : HdAt K H' v n := by
  obtain ⟨t, r, h1, h2⟩ := h
  exact ⟨t, r, h1, Same.tup e h2⟩
/-- a list or a tuple of items with these names -/
def HdS (K : PySem.W.Frag) (H : Hp) (v : V) (ns : List Str) : Prop := ∃ a xs, v = .ref a ∧ (SqL K H a xs ∨ SqT K H a xs) ∧ Paired (HdAt K H) xs ns
theorem HdS.mono {K : PySem.W.Frag} {H H' : Hp} (e : Same H H') {v : V} {ns : List Str} (h : HdS K H v ns) : HdS K H' v ns := by
  obtain ⟨a, xs, h1, h2, h3⟩ := h
  exact ⟨a, xs, h1, seq_mono e h2, h3.mono fun _ _ z => z.mono e⟩
/-- data whose first part is a name -/
def hdN : PyData → Str
  | .tuple (.str n :: _) => n
  | _ => ""
def Named (d : PyData) : Prop := ∃ n r, d = .tuple (.str n :: r)
theorem hdAt_of {K : PySem.W.Frag} {H : Hp} {v : V} {d : PyData} (h : Dp K H v d) (n : Named d) : HdAt K H v (hdN d) := by
  obtain ⟨n, r, rfl⟩ := n
  obtain ⟨a, xs, rfl, h1, h2⟩ := dp_tup h
  obtain ⟨x, y, rfl, h3, _⟩ := dpa_cons h2
  rw [dp_str h3] at h1
  exact ⟨a, y, rfl, h1⟩
theorem hds_of {K : PySem.W.Frag} {H : Hp} : ∀ {xs : List V} {ds : List PyData}, DpAll K H xs ds → (∀ d ∈ ds, Named d) → Paired (HdAt K H) xs (ds.map hdN)
  | _, _, .nil, _ => .nil
  | _, _, .cons h t, n => .cons (hdAt_of h (n _ (List.mem_cons_self ..))) (hds_of t fun d hd => n d (List.mem_cons_of_mem _ hd))
theorem HdS.of {K : PySem.W.Frag} {H : Hp} {v : V} {ds : List PyData} (h : DpS K H v ds) (n : ∀ d ∈ ds, Named d) : HdS K H v (ds.map hdN) := by
  obtain ⟨a, xs, h1, h2, h3⟩ := h
  exact ⟨a, xs, h1, h2, hds_of h3 n⟩
theorem named_dF (f : Fld) : Named (dF f) := ⟨_, _, rfl⟩
theorem IsNm.word {w : Str} (h : IsNm w) : wordB w letters = true := by
  unfold wordB
  rw [decide_eq_true (show 1 ≤ w.length ∧ w.length ≤ 8 from ⟨h.lo, h.hi⟩), Bool.true_and, List.all_eq_true]
  intro c hc
  have ⟨h1, h2⟩ := h.az c hc
  have key : ∀ c, 97 ≤ c → c ≤ 122 → c ∈ TL.tl letters := by
    intro c a b
    have : c = 97 ∨ c = 98 ∨ c = 99 ∨ c = 100 ∨ c = 101 ∨ c = 102 ∨ c = 103 ∨ c = 104 ∨ c = 105 ∨ c = 106 ∨ c = 107 ∨ c = 108 ∨ c = 109 ∨ c = 110 ∨ c = 111 ∨ c = 112 ∨ c = 113 ∨ c = 114 ∨ c = 115 ∨ c = 116 ∨ c = 117 ∨ c = 118 ∨ c = 119 ∨ c = 120 ∨ c = 121 ∨ c = 122 := by omega
    rcases this with rfl | rfl | rfl | rfl | rfl | rfl | rfl | rfl | rfl | rfl | rfl | rfl | rfl | rfl | rfl | rfl | rfl | rfl | rfl | rfl | rfl | rfl | rfl | rfl | rfl | rfl <;> decide +kernel
  exact decide_eq_true (key c h1 h2)
theorem in_strs (x : Str) (l : List Str) : inV (.str x) (l.map V.str) = decide (x ∈ l) := by
  unfold inV
  rw [List.any_map, Bool.eq_iff_iff, List.any_eq_true, decide_eq_true_iff]
  constructor
  · rintro ⟨y, hy, e⟩
    have e : eqV (.str y) (.str x) = true := e
    rw [eqV_str] at e
    rw [← of_decide_eq_true e]
    exact hy
  · intro h
    refine ⟨x, h, ?_⟩
    show eqV (.str x) (.str x) = true
    rw [eqV_str]
    exact decide_eq_true rfl
/-- ties, kinds -/
def dP (p : List Cas) : PyData := .tuple (p.map dC)
abbrev Tie := Str × List Cas
def dTie (t : Tie) : PyData := .tuple [.str t.1, dP t.2]
structure Knd where
  name : Str
  keys : List (Str × Str)
  taking : Option (List Cas)
  birth : Option (List Str)
def dKey (k : Str × Str) : PyData := .tuple [.str k.1, .str k.2]
def dOP : Option (List Cas) → PyData
  | none => .none
  | some p => dP p
def dKnd (k : Knd) : PyData := .tuple [.str k.name, .tuple (k.keys.map dKey), dOP k.taking, dH k.birth]
theorem named_dTie (t : Tie) : Named (dTie t) := ⟨_, _, rfl⟩
theorem named_dKnd (k : Knd) : Named (dKnd k) := ⟨_, _, rfl⟩
/-- a case as a rulebook asks it -/
structure OkCas (fs : List Fld) (c : Cas) : Prop where
  fit : FitC fs c
  nt : c.1.length ≤ 6
  ns : ∀ ss, c.2 = some ss → ss.length ≤ 6
  sg : ∀ t ∈ c.1, t.2.1 ∈ signs
structure OkPrg (fs : List Fld) (p : List Cas) : Prop where
  lo : 1 ≤ p.length
  hi : p.length ≤ 8
  all : ∀ c ∈ p, OkCas fs c
structure OkKeys (fs : List Fld) (ks : List (Str × Str)) : Prop where
  hi : ks.length ≤ fs.length
  nd : (ks.map (·.1)).Nodup
  all : ∀ k ∈ ks, k.1 ∈ fs.map (·.1) ∧ (k.2 = "+" ∨ k.2 = "-")
structure OkKnd (fs : List Fld) (k : Knd) : Prop where
  nm : IsNm k.name
  ks : OkKeys fs k.keys
  tk : ∀ p, k.taking = some p → OkPrg fs p
  bt : ∀ v, k.birth = some v → FitV fs v
end Bh

set_option Elab.async false
set_option linter.all false
set_option maxRecDepth 100000
namespace Bh
open PySem PySem.Spec PyProof.Rows L2
/-! ### a caught exception, known in the heap: what reads it may stand in another def -/
def exz (a : Addr) (cls : Value) (d : Option Addr) : HO := .ext fun h => ∃ (o : Obj) (vs : Array Value), h.get? a = some o ∧ Zc cls d o ∧ o.data = .fields vs
theorem exz_ok {P : Program} {w : World} {H : Hp} {h : Heap} {a : Addr} {cls : Value} {d : Option Addr} {o : Obj} {vs : Array Value} (e : h.get? a = some o) (z : Zc cls d o) (f : o.data = .fields vs) : ObjOk P w H h a (exz a cls d) :=
  ⟨⟨o, vs, e, z, f⟩, ⟨o, e⟩, fun _ _ y k => by
    obtain ⟨p, us, q, r⟩ := y
    exact ⟨p, us, k p q, r⟩⟩
theorem exz_at {P : Program} {w : World} {H : Hp} {h : Heap} {a : Addr} {cls : Value} {d : Option Addr} (ok : HOk P w H h) (e : H a = some (exz a cls d)) : ∃ (o : Obj) (vs : Array Value), h.get? a = some o ∧ Zc cls d o ∧ o.data = .fields vs := by
  have z : ObjOk P w H h a (.ext fun g => ∃ (o : Obj) (vs : Array Value), g.get? a = some o ∧ Zc cls d o ∧ o.data = .fields vs) := ok a _ e
  exact z.1
/-- e.n, e a caught exception that is known -/
def tXz (K : PySem.W.Frag) (n : Str) (te : TE) : TE := fun σ H Q => te σ H fun x H1 => ∃ (a C dd : Addr) (fs : List (Str × V)) (v : V), x = .ref a ∧ H1 a = some (exz a (.ref C) (some dd)) ∧ XfC K C ∧ PySem.W.findIn K (.ref C) n = some none ∧ H1 dd = some (.xd fs) ∧ fs.lookup n = some v ∧ Q v H1
theorem pe_xz {X : Cx} {e : Expr} {te : TE} {pos : Pos} {n : Str} (he : PE X e te) (hb : attributeBase e n X.env (eval e X.env) = eval e X.env := by rfl) : PE X (.Attribute e n pos) (tXz X.K n te) := by
  refine ⟨fun pins s σ H Q I h => attr_of hb (thn (he.run pins s σ H _ I h) fun u s1 hu => ?_)⟩
  obtain ⟨x, H1, J, rx, a, C, dd, fs, v, rfl, ea, xf, no, ed, lk, q⟩ := hu
  cases rx
  obtain ⟨o, vs, g, z, f⟩ := exz_at J.hok ea
  have kd : ObjOk X.prog X.w H1 s1.heap dd (.xd fs) := J.hok dd _ ed
  obtain ⟨m, ns, rel⟩ := kd
  obtain ⟨od, god, lo⟩ := lookIn_ns ns
  obtain ⟨y, hy, ry⟩ := RelO.some_of (v := v) (o := m n) (by rw [← lk]; exact rel n)
  have at_ : PySem.W.InstAt s1.heap a o C (some od) := by
    refine ⟨g, z.1, ?_, ?_⟩
    · unfold PySem.W.notCls
      rw [f] <;> rfl
    · rw [z.2]
      exact god
  have found : PySem.W.findObj X.K C (some od) n = some (.value y) := PySem.W.findObj_own xf.hdC no rfl (by rw [lo, hy])
  exact HandSPX.exc_get J.kIn at_ xf.ga xf.gg xf.exC found (handed_of ry) ⟨v, H1, J.tok _, ry, q⟩
/-! ### try: body, except (A, B) as n: suite, where all that the body raises is of one of both -/
section
variable {X : Cx} {pins : List (Addr × Obj)} {σ : L2.St} {H : Hp} {s0 s1 : Shared} {B : Heap} {a : Addr} {cls : Value} {d : Option Addr}
theorem hok_more {P : Program} {w : World} {h : Heap} {u : HO} (k : HOk P w H h) (na : H a = none) (new : ObjOk P w (upd H a u) h a u) : HOk P w (upd H a u) h := by
  intro b v q
  by_cases e : b = a
  · subst e
    rw [upd_same] at q
    cases q
    exact new
  · rw [upd_ne e] at q
    refine (k b v q).stay (fun _ _ _ r => r) (fun c r => ?_) (fun c xs r => ?_)
    · rw [upd_ne (ne_of_none r na)]
      exact r
    · rw [upd_ne (ne_of_none r na)]
      exact r
theorem Inv.seen (I : Inv X pins σ H s0) (nb : ∀ b o, s0.heap.get? b = some o → b ∉ frs X.stack → B.get? b = some o) (st : B.StaysIn s1.heap) (up : s0.heap.UpToSlots s1.heap) (os : s1.os = s0.os) (ag : AllBare s1.gens)
    (ha : s0.heap.get? a = none) (na : H a = none) {o : Obj} {vs : Array Value} (ga : s1.heap.get? a = some o) (z : Zc cls d o) (f : o.data = .fields vs) : Inv X pins σ (upd H a (exz a cls d)) s1 := by
  have fr : ∀ b ∈ frs X.stack, ∀ u, s0.heap.get? b = some u → ∃ sl, s1.heap.get? b = some { u with slots := sl } := by
    intro b hb u gu
    obtain ⟨_, u', gu', hd⟩ := I.stack.mem hb
    rw [gu] at gu'
    cases gu'
    exact up b u gu hd
  have ne : ∀ {b : Addr} {u : Obj}, s0.heap.get? b = some u → b ≠ a := by
    intro b u gu q
    rw [q, ha] at gu
    cases gu
  have old := Inv.landed (s' := s1) I nb st up os ag
  refine I.call' (ch := []) os ⟨?_, ?_, ?_, ?_, ?_, ?_, ?_⟩ (hok_more old.hok na (exz_ok ga z f)) ag (fun _ y => nomatch y)
  · exact fun b u gu _ hb _ => st b u (nb b u gu hb)
  · exact fun b u gu _ hb _ => fr b hb u gu
  · intro b u gu n _
    rw [upd_ne (ne gu)]
    exact n
  · intro b u gu _
    by_cases hb : b ∈ frs X.stack
    · obtain ⟨sl, q⟩ := fr b hb u gu
      exact ⟨_, q⟩
    · exact ⟨u, st b u (nb b u gu hb)⟩
  · intro b xs q
    rw [upd_ne (ne_of_none q na)]
    exact q
  · intro b u xs q
    rw [upd_ne (ne_of_none q na)]
    exact q
  · intro b ps q
    refine ⟨#[], ?_⟩
    rw [upd_ne (ne_of_none q na), q]
    simp
end
end Bh
namespace Bh
open PySem PySem.Spec PyProof.Rows L2
section
variable {X : Cx} {pins : List (Addr × Obj)} {σ : L2.St} {H : Hp} {s : Shared}
theorem Inv.inSuite (I : Inv X pins σ H s) (a : Addr) : Inv (X.suite a (X.pn ++ pins)) [] σ H s := by
  refine ⟨I.ok.suite _ _, I.os, I.bare, I.base, I.loc, I.cell, I.free, I.freeC, fun p hp => ?_, I.hok, I.len⟩
  rw [List.append_nil] at hp
  exact I.pin p hp
theorem Inv.offSuite {a : Addr} {more : List (Addr × Obj)} (I : Inv (X.suite a (X.pn ++ pins)) more σ H s) (ok : X.Ok) : Inv X pins σ H s :=
  ⟨ok, I.os, I.bare, I.base, I.loc, I.cell, I.free, I.freeC, fun p hp => I.pin p (List.mem_append_left _ hp), I.hok, I.len⟩
end
theorem flying_more {B h h' : Heap} {l : List Env} {a : Addr} {Z : Obj → Prop} (k : ∀ b o, h.get? b = some o → h'.get? b = some o) (f : HandSPX.FlyingZ B l a Z h) : HandSPX.FlyingZ B l a Z h' := by
  obtain ⟨f1, f2, f3, oe, vs, T, oT, ts, e1, e2, e3, e4, e5, e6, e7, e8, e9⟩ := f
  exact ⟨fun b o q => k b o (f1 b o q), f2, f3.of_keeps (fun b o q _ => ⟨o, k b o q, rfl⟩), oe, vs, T, oT, ts, k _ _ e1, e2, e3, e4, e5, e6, k _ _ e7, e8, e9⟩
/-- what the clause wishes of an exception of the body -/
def wTwo (K : PySem.W.Frag) (C1 C2 : Value) (i n : Nat) (ts : TS) (D : Ends) : WX := fun cls d σ H => PySem.W.exmAny K cls [C1, C2] = some true ∧ ∀ a, H a = none → σ.length = n →
  ts { nx := fun σ' H' => D.nx (σ'.set i none) H', rt := D.rt, bk := fun σ' H' => D.bk (σ'.set i none) H', ct := fun σ' H' => D.ct (σ'.set i none) H' } (σ.set i (some (.ref a))) (upd H a (exz a cls d))
section
variable {X : Cx} {x1 x2 n : Str} {C1 C2 : Addr} {i : Nat} {body suite : List Stmt} {b₀ : Stmt} {p1 p2 tpos pos pos' : Pos} {tb : WX → TS} {ts : TS} {kk : Nat}
theorem ps_try_two (hs : X.stack = X.env :: X.outer) (hf : X.env.frame = some X.env.locals) (hN : X.N.Nodup) (hi : X.N[i]? = some n) (hln : X.env.kindOf n = some .local)
    (g1 : Gl X x1) (m1 : X.mg x1 = some (.ref C1)) (g2 : Gl X x2) (m2 : X.mg x2 = some (.ref C2)) (d1 : (x1 == ("__debug__" : Str)) = false) (d2 : (x2 == ("__debug__" : Str)) = false)
    (hb : ∀ (W : WX) (pn : List (Addr × Obj)) (xe : Value → Shared → Prop), Takes (X.tr pn xe) W → PassesOwn (model X.prog X.w) X.A X.env xe → PSs (X.tr pn xe) body (tb W))
    (hsu : ∀ (a : Addr) (pn : List (Addr × Obj)), PSs (X.suite a pn) (b₀ :: suite) ts)
    (two : starEach [.Name x1 p1, .Name x2 p2] X.env = [(false, eval (.Name x1 p1) X.env), (false, eval (.Name x2 p2) X.env)] := by rfl) :
    PS X (.Try body [.ExceptHandler (some (.Tuple [.Name x1 p1, .Name x2 p2] kk tpos)) (some n) (b₀ :: suite) pos'] [] [] pos) (fun D σ H => tb (wTwo X.K (.ref C1) (.ref C2) i X.N.length ts D) D σ H) := by
  refine ⟨fun pins s σ H D I h => wpAny_Try_except ?_⟩
  have ok := I.ok
  have tops : X.A.frames = some (X.env :: X.outer) := ok.frames.trans (congrArg some hs)
  refine wpAny_mono ((hb (wTwo X.K (.ref C1) (.ref C2) i X.N.length ts D) (X.pn ++ pins) _ (fun u s1 air => ?caught) PassesOwn.looking).run [] s σ H D (I.toTry _) h) (fun f s1 e => ?ends) (fun _ _ e => e)
  case ends =>
    match f, e with
    | .next, ⟨σ1, H1, J, q⟩ => exact wpAny_execs_nil ⟨σ1, H1, J.ofTry ok, q⟩
    | .brk, ⟨σ1, H1, J, q⟩ => exact ⟨σ1, H1, J.ofTry ok, q⟩
    | .cont, ⟨σ1, H1, J, q⟩ => exact ⟨σ1, H1, J.ofTry ok, q⟩
    | .ret u, ⟨v, σ1, H1, J, r, q⟩ => exact ⟨v, σ1, H1, J.ofTry ok, r, q⟩
  case caught =>
    obtain ⟨a, B, s0, pins0, σ0, H0, cls, d, rfl, J0, nb, up, sky, na, os, ag, hm, go⟩ := air
    have J : Inv X pins σ0 H0 s0 := J0.ofTry ok
    rw [show (X.tr (X.pn ++ pins) _).stack = X.env :: X.outer from hs] at sky
    refine Sky.land Zc.steady tops hf sky fun h3 fl3 up3 => ?_
    obtain ⟨o3, v3, e3, z3, f3⟩ := fl3.there
    have noframe : a ∉ frs X.stack := by
      rw [hs]
      intro hm'
      obtain ⟨_, o', e', hd⟩ := fl3.2.2.1.mem hm'
      rw [e3] at e'
      cases e'
      exact hd _ f3
    have a0 : s0.heap.get? a = none := by
      cases q : s0.heap.get? a with
      | none => rfl
      | some o =>
        have z := nb a o q noframe
        rw [fl3.2.1] at z
        cases z
    have J3 := Inv.seen (s1 := { s1 with heap := h3 }) J nb fl3.1 (up.trans up3) os ag a0 na e3 z3 f3
    have S3 := Inv.inSuite J3 a
    refine wpAny_handleBy_cons (codeAny_handlers_test (wpAny_Tuple_spliced ?_)) (fun q => by cases q)
    rw [two]
    show wpAny _ _ (spliced [(false, eval (.Name x1 p1) X.env), (false, eval (.Name x2 p2) X.env)]) _ _ _
    refine Calls.spliced_cons (ld_glob S3 g1 m1 ?_ d1)
    refine Calls.spliced_cons (ld_glob S3 g2 m2 ?_ d2)
    refine Calls.spliced_nil ⟨(by show 2 ≤ sizeLine; decide), ?_⟩
    have more : ∀ b o, h3.get? b = some o → (h3.push { cls := .type "tuple", data := .seq [Value.ref C1, Value.ref C2].toArray }).get? b = some o := fun b o q => Heap.get?_push_of_some _ q
    have at_ : (h3.push { cls := .type "tuple", data := .seq [Value.ref C1, Value.ref C2].toArray }).get? h3.objs.size = some { cls := .type "tuple", data := .seq [Value.ref C1, Value.ref C2].toArray } := Heap.get?_push_size _ rfl
    have own : PySem.W.Looks (model X.prog X.w) (h3.push { cls := .type "tuple", data := .seq [Value.ref C1, Value.ref C2].toArray }) (typeOf (.ref a)) cls := fun A Q E s k q => wpAny_typeOf_ref (k _ _ (more _ _ e3)) (by rw [z3.1]; exact q)
    have hit := PySem.W.exm_tup2 (M := model X.prog X.w) (J3.kIn.keeps more) own at_ hm
    refine hit.here ?_
    refine codeAny_handlers_suite_as ?_
    have fl4 := flying_more more fl3
    refine HandSPX.lands_againZ fl4 fun h5 fl5 up5 => ?_
    obtain ⟨o5, v5, e5, z5, f5⟩ := fl5.there
    have J5 := Inv.seen (s1 := { s1 with heap := h5 }) J nb fl5.1 ((up.trans up3).trans ((Heap.UpToSlots.of_keeps more).trans up5)) os ag a0 na e5 z5 f5
    refine store_ok (X := X.suite a (X.pn ++ pins)) (v := .ref a) (Inv.inSuite J5 a) hN hi (.inl hln) rfl (fun s6 S6 => ?_) (.inr hln)
    refine wpAny_mono ((hsu a (X.pn ++ pins)).run [] s6 _ _ _ S6 (go a na J.len)) (fun f s7 e => ?_) (fun _ _ y => False.elim y)
    have leave : ∀ {σ7 : L2.St} {H7 : Hp} {R : Shared → Prop}, Inv (X.suite a (X.pn ++ pins)) [] σ7 H7 s7 → (∀ s8, Inv X pins (σ7.set i none) H7 s8 → R s8) →
        wpAny (model X.prog X.w) X.A (do bindName X.env n .none; unbindBehindTheSuite X.env n pos') (fun _ s8 => R s8) X.xe s7 := fun S7 r => gone_ok (Inv.offSuite S7 ok) hN hi hln r
    match f, e with
    | .next, ⟨σ7, H7, S7, q⟩ => exact leave S7 fun s8 J8 => ⟨_, _, J8, q⟩
    | .brk, ⟨σ7, H7, S7, q⟩ => exact leave S7 fun s8 J8 => ⟨_, _, J8, q⟩
    | .cont, ⟨σ7, H7, S7, q⟩ => exact leave S7 fun s8 J8 => ⟨_, _, J8, q⟩
    | .ret u, ⟨v, σ7, H7, S7, r, q⟩ => exact leave S7 fun s8 J8 => ⟨_, _, _, J8, r, q⟩
end
end Bh

set_option Elab.async false
set_option linter.all false
set_option maxRecDepth 100000
namespace Bh
open PySem PySem.Spec PyProof.Rows L2
/-! ### a def that runs while an exception is handled, and raises nothing -/
structure FnU (P : Program) (w : World) (K : PySem.W.Frag) (mg : Str → Option Value) (base : Heap) (k : Nat) (f : Addr) (fd : FuncData) (ps : List Str) (sp : Sp) : Prop where
  len : ∀ vs H Q E, sp vs H Q E → vs.length = ps.length
  run : ∀ (A : Around) (outer : List Env) (s : Shared) (H : Hp) (args : Args) (us : List Value) (vs : List V) (Q : VK) (E : XK), L2H.RoomH k A → Env0 P w K mg base A outer s H → BindsTo s fd args (ps.zip us) → Vals vs us → sp vs H Q E →
    codeAny (model P w) A (.call (.ref f) args) (CR CX0 outer P w H s Q E) s
def cxU (P : Program) (w : World) (K : PySem.W.Frag) (mg : Str → Option Value) (base : Heap) (N : List Str) (qual : Str) (scope : Scope) (f : Addr) (cd : Value) (A : Around) (outer : List Env) (s : Shared) (H : Hp) (E : XK) : Cx :=
  { cxOf CX0 P w K mg base N qual scope f cd A outer s H E with calm := false }
theorem start_u {P : Program} {w : World} {K : PySem.W.Frag} {mg : Str → Option Value} {base : Heap} {N ps : List Str} {qual : Str} {scope : Scope} {f : Addr} {cd : Value} {A : Around} {outer : List Env} {s s1 : Shared} {H : Hp} {E : XK} {us : List Value} {vs : List V}
    (S : FnScope N ps scope) (e0 : Env0 P w K mg base A outer s H) (hl : vs.length = ps.length) (r : Vals vs us)
    (x : InCallC s s.heap.objs.size (bindL (envOfC qual scope s.heap.objs.size f cd).kindOf (ps.zip us) fun _ => none) (cellsFrom (s.heap.objs.size + 1) scope.names []) (bindC (envOfC qual scope s.heap.objs.size f cd).kindOf (ps.zip us) fun _ => none) s1) :
    Inv (cxU P w K mg base N qual scope f cd A outer s H E) [] (L2.start N vs) H s1 := by
  have e1 : Env0 P w K mg base { A with handled := none } outer s H := ⟨e0.frames, e0.mod, e0.bs, e0.bsz, e0.funs, e0.frf, e0.hok, e0.bare⟩
  have I : Inv (cxOf CX0 P w K mg base N qual scope f cd { A with handled := none } outer s H E) [] (L2.start N vs) H s1 := inv_start S rfl e1 hl r x
  obtain ⟨o1, o2, o3, o4, o5, o6, o7, o8, _, _, o11, o12, o13, o14, o15, o16, o17, o18⟩ := I.ok
  exact ⟨⟨o1, o2, o3, o4, o5, o6, o7, o8, (fun z => Bool.noConfusion (show false = true from z)), Around.frames_deeper e0.frames, o11, o12, o13, o14, o15, o16, o17, o18⟩, I.os, I.bare, I.base, I.loc, I.cell, I.free, I.freeC, I.pin, I.hok, I.len⟩
theorem fun_u {P : Program} {w : World} {K : PySem.W.Frag} {mg : Str → Option Value} {base : Heap} {k : Nat} {f : Addr} {fd : FuncData} {x qual : Str} {st : Stmt} {N ps : List Str} {sp : Sp} (F : Fun K x qual st f fd) (S : FnScope N ps (defScope st))
    (len : ∀ vs H Q E, sp vs H Q E → vs.length = ps.length)
    (body : ∀ (cdv : Value) (A : Around) (outer : List Env) (s : Shared) (H : Hp) (vs : List V) (Q : VK) (E : XK), sp vs H Q E →
      ∃ t, PSs (cxU P w K mg base N qual (defScope st) f cdv A outer s H E) (defBody st) t ∧ t { nx := fun _ H' => Q .non H', rt := Q } (L2.start N vs) H) : FnU P w K mg base (k + 1) f fd ps sp := by
  obtain ⟨oc, od, kV, doc, pm, an, cdv, ct, osl, rfl, lk, hcd⟩ := F.ex
  refine ⟨len, fun A outer s H args us vs Q E hr e0 hb r h => ?_⟩
  have l1 := len _ _ _ _ h
  have X0 : K.In s.heap := e0.mod.kin.keeps fun b o e => (e0.bs b o e).1
  have nl : s.heap.NoLimit := e0.mod.nolimit.keeps fun b o e => (e0.bs b o e).1
  have kinds : ∀ y ∈ ps.zip us, (defScope st).names.lookup y.1 = some .local ∨ ((defScope st).names.lookup y.1 = some .cell ∧ ((cellsFrom (s.heap.objs.size + 1) (defScope st).names []).lookup y.1).isSome = true) := by
    rintro ⟨n, v⟩ hy
    exact (S.par n (List.of_mem_zip hy).1).imp id fun q => ⟨q, PySem.W.cellsFrom_some _ _ _ (.inl q)⟩
  refine codeAny_call_function hr.depth (X0 _ _ lk) rfl S.co S.gen rfl (PySem.W.codeRec_of X0 hcd) (hb _ _ _ _ (wpAny_newFunctionEnv_cells S.kind kinds fun env he s1 x => ?_))
  subst he
  obtain ⟨t, ht, hq⟩ := body cdv A outer s H vs Q E h
  refine ⟨nl.keeps x.toInCall.keep, codeAny_func (wpAny_mono (ht.run [] s1 (L2.start N vs) H _ (start_u S e0 l1 r x) hq) (fun fl s2 e => ?_) fun _ _ e => e)⟩
  match fl, e with
  | .next, ⟨σ2, H2, J, q⟩ => exact ⟨.non, H2, J.os, J.bare, J.base, J.hok, rfl, q⟩
  | .brk, ⟨_, _, _, q⟩ => exact q.elim
  | .cont, ⟨_, _, _, q⟩ => exact q.elim
  | .ret u, ⟨v, σ2, H2, J, rv, q⟩ => exact ⟨v, H2, J.os, J.bare, J.base, J.hok, rv, q⟩
theorem pe_callU {X : Cx} {k : Nat} {f : Addr} {fd : FuncData} {ps : List Str} {sp : Sp} {x : Str} {q pos : Pos} {e : Expr} {es : List Expr} {t : TA} (F : FnU X.prog X.w X.K X.mg X.base k f fd ps sp) (hr : L2H.RoomH k X.A) (hg : Gl X x) (hm : X.mg x = some (.ref f)) (hk : PySem.W.keepIn X.K (.ref f) = true) (hb : Binds X.K fd ps [])
    (ha : PA X (e :: es) t) (hdb : (x == ("__debug__" : Str)) = false := by decide) (hs : starEach (e :: es) X.env = (false, eval e X.env) :: starEach es X.env := by rfl) (hp : (backTo pos (starEach es X.env)).any (·.1) = false := by rfl) :
    PE X (.Call (.Name x q) (e :: es) [] pos) (fun σ H Q => t σ H fun vs H1 => sp vs H1 Q fun _ _ _ => False) := by
  refine ⟨fun pins s σ H Q I h => wpAny_Call_Name_kw (ld_glob I hg hm ?_ hdb)⟩
  refine PySem.W.callWith_K (h₀ := X.base) I.ok.mod.kin hk (thn (ha.run pos pins s σ H _ I h) fun us s1 hu => ?_) hs hp
  obtain ⟨vs, H1, J, rv, y⟩ := hu
  refine ⟨J.kIn, ?_⟩
  have n : us.length = ps.length := rv.length.symm.trans (F.len _ _ _ _ y)
  have bnd := hb s1 us J.kIn (by rw [List.append_nil]; exact n)
  rw [List.append_nil] at bnd
  refine wpAny_call (codeAny_mono (F.run X.A X.stack s1 H1 ⟨us, []⟩ us vs Q _ hr J.env0 bnd rv y) fun res s2 z => ?_)
  match res, z with
  | .error _, z => exact z.elim
  | .ok (.ret u), z => exact J.after z
  | .ok .next, z => exact z.elim
  | .ok .brk, z => exact z.elim
  | .ok .cont, z => exact z.elim
end Bh
namespace Bh
open PySem PySem.Spec PyProof.Rows L2
/-! ### the end of a law that makes a lambda: its table of code objects is told by the top -/
theorem walkT {l : PySem.W.OpenLaw} {n k : Nat} {q : Program} {loose : List Str} {XP : (Str → Option Value) → Heap → Prop} {YP : World → Heap → Prop} {d : DefRec} {CX : World → CXT} {x : Str}
    (hn : l.most = some n) (hn2 : n ≤ sizeLine) (hdf : d.params.defaults = []) (hr : Room k callerA)
    (F : ∀ (w : World) (mg mb : Str → Option Value) (fa : Addr) (h : Heap), (∀ (K : PySem.W.Frag), K.In h → ∀ (dd : DefRec) (y : Str) (c P : Addr), (recsOf q).find? (fun e => e.name == y) = some dd → PySem.W.tabIn K y = some (c, P) → PySem.W.CodeHd h c P ∧ h.get? P = some (PySem.W.tabObj #[])) → h.Ns mainGlobals mg → YP w h → mg d.name = some (.ref fa) → ∃ K : PySem.W.Frag, K.In h ∧ LamX.LawAtS l w K (CX w) k n x mg fa h)
    (hCX : ∀ (w : World) (H : Hp) (s : Shared) (e : Value) (s' : Shared), CX w [] H s (fun _ _ _ => False) e s' → False) :
    PySem.W.WalkO q loose XP YP l.row.toRowW d [] (fun f vs => PySem.call f vs) := by
  refine Att.attach_callB hn hdf fun w s0 s1 mg mb fa o pm cd doc a vs ns G Y _ _ _ hmg hobj hi hlen hbits hg => ?_
  obtain ⟨K, KX, fd, cs, sp, t1, t2, t3, bnd, hsp, ok⟩ := F w mg mb fa _ (fun K KX dd y c P h1 h2 => PySem.W.tab_of G.T KX h1 h2) G.T.g Y hmg
  refine LamX.law_callTs KX G.T.g G.T.b G.T.builtins G.T.nolimit hg t1 t2 t3 G.T.bmain hobj hi (Nat.le_trans hlen hn2) hr ok bnd ?_ ?_
  · exact fun H hH hS => hsp H a ns hlen hbits hH hS
  · exact fun H e s' => hCX w H s1 e s'
end Bh

set_option Elab.async false
set_option linter.all false
set_option maxRecDepth 100000
namespace Bh
open PySem PySem.Spec PyProof.Rows L2
/-! ### an own exception class over any built-in one, with an __init__ that is walked as a def -/
structure ExG (K : PySem.W.Frag) (C : Addr) : Prop where
  fam : ∃ (B newId initId : String) (bmB : List Value), ExcBaseFacts B newId initId bmB ∧ StoreFacts B bmB "object.__setattr__" "object" ∧ PySem.W.excOver K C bmB = true ∧
    ∃ nm q N bs bm sn sub ab col dd k0 k1 k2 k3 k5, K.lookup C = some (excClassObj nm q C N bs bm true sn sub ab col dd k0 k1 k2 k3 k5 newId) ∧ ∀ Y : String, bm.contains (.type Y) = bmB.contains (.type Y)
  sa : PySem.W.findIn K (.ref C) "__setattr__" = some (some (.builtin "object.__setattr__"))
  exC : PySem.W.subIn K (.ref C) (.type "BaseException") = some true
  tyC : PySem.W.typeIn K (.ref C) = some (.type "type")
  kC : PySem.W.keepIn K (.ref C) = true
  hdC : PySem.W.hasDictIn K C = true
theorem taker_no {K : PySem.W.Frag} {C : Addr} {n : Str} (h : PySem.W.findIn K (.ref C) n = some none) : PySem.W.takerIn K C n = some none := by
  unfold PySem.W.takerIn
  rw [h]
  rfl
section
variable {X : Cx} {pins : List (Addr × Obj)} {σ : L2.St} {H : Hp} {s : Shared} {a C dx : Addr} {f : Str} {y : V} {u : Value} {fs : List (Str × V)} {Q : Unit → Shared → Prop} {E : Value → Shared → Prop} {A : Around}
theorem setG_new (T : ExG X.K C) (I : Inv X pins σ H s) (e : H a = some (exo a C none)) (no : PySem.W.findIn X.K (.ref C) f = some none) (ry : RelV y u)
    (h : ∀ dx s', H dx = none → dx ≠ a → Inv X pins σ (upd (upd H dx (exd dx [(f, y)])) a (exo a C (some dx))) s' → Q () s') : wpAny (model X.prog X.w) A (setAttr (.ref a) f u) Q E s := by
  obtain ⟨B, newId, initId, bmB, FB, SF, ov, _⟩ := T.fam
  obtain ⟨t1, ga⟩ := exo_at I.hok e
  obtain ⟨hp, g, d, t, os⟩ := s
  have inst : PySem.W.InstAt hp a { cls := .ref C, dict := none, data := .fields #[.ref t1, .none, .none, .none, .bool false, .none] } C none := ⟨ga, rfl, rfl, trivial⟩
  refine PySem.W.set_plain I.kIn inst T.sa (PySem.W.osa_openX (od := none) SF I.kIn inst ov (taker_no no) fun b => ?_)
  obtain ⟨cd, hc, hd⟩ := PySem.W.any_some T.hdC
  refine wpAny_bind (wpAny_pure (wpAny_bind (PySem.W.instanceDict_exc (c2 := .none) ga (PySem.W.looks_clsIn I.kIn hc) hd ?_)))
  have na : a ≠ hp.objs.size := Nat.ne_of_lt (Heap.lt_size ga)
  refine HandSPX.store_in_new ?_ (fun h2 tk2 hn hs => ?_)
  · exact ⟨_, #[], _, (Heap.get?_update_ne _ _ _ _ na.symm).trans (Heap.get?_push_at rfl rfl), rfl, fun e he => absurd he (by simp), fun _ => rfl⟩
  have nx : H hp.objs.size = none := I.hok.fresh (Nat.le_refl _)
  have old : ∀ b o, b ≠ a → hp.get? b = some o → h2.get? b = some o := by
    intro b o hb ho
    refine (hs.2 b (Nat.ne_of_lt (Heap.lt_size ho))).trans ?_
    exact (Heap.get?_update_ne _ _ _ _ hb).trans (Heap.get?_push_of_some _ ho)
  have self2 : h2.get? a = some { cls := .ref C, dict := some hp.objs.size, data := .fields #[.ref t1, .none, .none, .none, .bool false, .none] } := by
    refine (hs.2 a na).trans ?_
    exact Heap.get?_update_self _ (Heap.get?_push_of_some _ ga) rfl
  have n1 : ∀ {b : Addr} {o : Obj}, hp.get? b = some o → b ≠ hp.objs.size := fun g => Nat.ne_of_lt (Heap.lt_size g)
  have n2 : ∀ {b : Addr}, H b = none → b ≠ a := by
    intro b hb z
    rw [z, e] at hb
    cases hb
  refine h hp.objs.size _ nx na.symm (I.un (t' := tk2) (h' := h2) ⟨?_, ?_, ?_, ?_, ?_, ?_, ?_⟩ fun b o q => ?_)
  · exact fun b o g n _ _ => old b o (n2 n) g
  · exact fun b o g n _ _ => ⟨o.slots, old b o (n2 n) g⟩
  · intro b o g n _
    rw [upd_ne (n2 n), upd_ne (n1 g)]
    exact n
  · intro b o g _
    by_cases hb : b = a
    · exact ⟨_, hb ▸ self2⟩
    · exact ⟨o, old b o hb g⟩
  · intro b xs q
    rw [upd_ne (at_ne e q exo_tup), upd_ne (ne_of_none q nx)]
    exact q
  · intro b o v q
    rw [upd_ne (at_ne e q exo_frz), upd_ne (ne_of_none q nx)]
    exact q
  · intro b ps q
    refine ⟨#[], ?_⟩
    rw [upd_ne (at_ne e q exo_tbl), upd_ne (ne_of_none q nx), q]
    simp
  · by_cases hb : b = a
    · subst hb
      rw [upd_same] at q
      cases q
      exact exo_ok self2
    rw [upd_ne hb] at q
    by_cases hd2 : b = hp.objs.size
    · subst hd2
      rw [upd_same] at q
      cases q
      exact exd_ok hn (relO_put (fs := []) ry fun _ => True.intro)
    rw [upd_ne hd2] at q
    have keepO : ∀ {c : Addr}, H c = some (.own b) → c ≠ a := fun k => at_ne e k exo_own
    refine (I.hok b o q).stay (fun c v hc z => old c v ?_ z) (fun c k => ?_) (fun c xs k => ?_)
    · rcases hc with hc | hc
      · rw [hc]
        exact hb
      · exact keepO hc
    · rw [upd_ne (at_ne e k exo_own), upd_ne (ne_of_none k nx)]
      exact k
    · rw [upd_ne (at_ne e k exo_tup), upd_ne (ne_of_none k nx)]
      exact k
theorem setG_old (T : ExG X.K C) (I : Inv X pins σ H s) (e : H a = some (exo a C (some dx))) (ed : H dx = some (exd dx fs)) (hl : fs.length ≤ 900) (no : PySem.W.findIn X.K (.ref C) f = some none) (ry : RelV y u)
    (h : ∀ s', Inv X pins σ (upd H dx (exd dx ((f, y) :: fs))) s' → Q () s') : wpAny (model X.prog X.w) A (setAttr (.ref a) f u) Q E s := by
  obtain ⟨B, newId, initId, bmB, FB, SF, ov, _⟩ := T.fam
  obtain ⟨t1, ga⟩ := exo_at I.hok e
  obtain ⟨m, ns, rel⟩ := exd_at I.hok ed
  have wi := within_of rel
  obtain ⟨hp, g, d, t, os⟩ := s
  obtain ⟨od, _, _, god, _, _⟩ := ns.count wi
  have inst : PySem.W.InstAt hp a { cls := .ref C, dict := some dx, data := .fields #[.ref t1, .none, .none, .none, .bool false, .none] } C (some od) := ⟨ga, rfl, rfl, god⟩
  refine PySem.W.set_plain I.kIn inst T.sa (PySem.W.osa_openX (od := some od) SF I.kIn inst ov (taker_no no) fun b => ?_)
  obtain ⟨cd, hc, hd⟩ := PySem.W.any_some T.hdC
  refine wpAny_bind (wpAny_pure (wpAny_bind (wpAny_bind (wpAny_loadPart ga (wpAny_bind ((PySem.W.looks_clsIn (M := model X.prog X.w) I.kIn hc).at ?_))))))
  rw [hd]
  refine wpAny_pure (a := some dx) ?_
  refine PySem.OEX.store_in_old ns wi (by rw [List.length_map]; omega) (fun h2 tk2 hn hs => ?_)
  have there : ∃ o, h2.get? dx = some o := by
    obtain ⟨o, _, _, k, _⟩ := hn
    exact ⟨o, k⟩
  exact h _ (I.write (t' := tk2) (x := dx) (e := dx) (o := exd dx ((f, y) :: fs)) (by rw [ed]; exact True.intro) (.inl rfl) (fun b o hb k => (hs.2 b hb).trans k) there (exd_ok hn (relO_put ry rel)))
end
end Bh
namespace Bh
open PySem PySem.Spec PyProof.Rows L2
/-- self.f = e, in the __init__ of such a class -/
def tSetG (K : PySem.W.Frag) (f : Str) (to te : TE) : TS := fun D σ H => te σ H fun y H1 => to σ H1 fun x H2 => ∃ a C : Addr, x = .ref a ∧ ExG K C ∧ PySem.W.findIn K (.ref C) f = some none ∧
  ((H2 a = some (exo a C none) ∧ ∀ dx, H2 dx = none → dx ≠ a → D.nx σ (upd (upd H2 dx (exd dx [(f, y)])) a (exo a C (some dx)))) ∨
    ∃ (dx : Addr) (fs : List (Str × V)), H2 a = some (exo a C (some dx)) ∧ H2 dx = some (exd dx fs) ∧ fs.length ≤ 900 ∧ D.nx σ (upd H2 dx (exd dx ((f, y) :: fs))))
theorem ps_setG {X : Cx} {o e : Expr} {to te : TE} {f : Str} {p pos : Pos} (ho : PE X o to) (he : PE X e te) (hs : swapsWith e (some (.Attribute o f p)) pos.line X.env = pure false := by rfl) : PS X (.Assign [.Attribute o f p] e pos) (tSetG X.K f to te) := by
  refine ⟨fun pins s σ H D I h => plainObj_wpAny_Assign_Attribute (thn (he.run pins s σ H _ I h) fun v s1 q => ?_) hs⟩
  obtain ⟨y, H1, I1, r1, q1⟩ := q
  refine thn (ho.run pins s1 σ H1 _ I1 q1) fun u s2 q => ?_
  obtain ⟨x, H2, I2, r2, a, C, rfl, T, no, q2⟩ := q
  cases r2
  rcases q2 with ⟨ea, k⟩ | ⟨dx, fs, ea, ed, hl, k⟩
  · exact setG_new T I2 ea no r1 fun dx s3 n ne J => ⟨σ, _, J, k dx n ne⟩
  · exact setG_old T I2 ea ed hl no r1 fun s3 J => ⟨σ, _, J, k⟩
/-! ### such an exception, made: as a value, and to be raised -/
/-- C(..) with C's own __init__ that keeps sp: known as exo, its dict as exd -/
def tMkG (C : Addr) (sp : Sp) (ta : TA) : TE := fun σ H Q => ta σ H fun vs H1 => vs.length ≤ 1000 ∧ ∀ a, H1 a = none → sp (.ref a :: vs) (upd H1 a (exo a C none)) (fun v H2 => v = .non ∧ Q (.ref a) H2) fun _ _ _ => False
theorem pe_mkG {X : Cx} {x : Str} {C fI : Addr} {k : Nat} {fd : FuncData} {ps : List Str} {sp : Sp} {e : Expr} {es : List Expr} {ta : TA} {p pos : Pos} (T : ExG X.K C) (iC : PySem.W.findIn X.K (.ref C) "__init__" = some (some (.ref fI))) (tI : PySem.W.typeIn X.K (.ref fI) = some (.type "function"))
    (F : FnOk X.prog X.w X.K X.mg X.base CX0 k fI fd ps sp) (hr : Room (k + 1) X.A) (hb : Binds X.K fd ps []) (hg : Gl X x) (hm : X.mg x = some (.ref C)) (ha : PA X (e :: es) ta)
    (hdb : (x == ("__debug__" : Str)) = false := by decide) (hs : starEach (e :: es) X.env = (false, eval e X.env) :: starEach es X.env := by rfl) (hp : (backTo pos (starEach es X.env)).any (·.1) = false := by rfl) :
    PE X (.Call (.Name x p) (e :: es) [] pos) (tMkG C sp ta) := by
  refine ⟨fun pins s σ H Q I h => wpAny_Call_Name_kw (ld_glob I hg hm ?_ hdb)⟩
  obtain ⟨B, newId, initId, bmB, FB, SF, ov, nm, q, N, bs, bm, sn, sub, ab, col, dd, k0, k1, k2, k3, k5, look, same⟩ := T.fam
  refine PySem.W.callWith_K (h₀ := X.base) I.ok.mod.kin T.kC (thn (ha.run pos pins s σ H _ I h) fun us s1 hu => ?_) hs hp
  obtain ⟨vs, H1, J, rv, hz, y⟩ := hu
  refine ⟨J.kIn, ?_⟩
  show wpAny _ _ (call (.ref C) us) _ _ _
  obtain ⟨hh, g, dr, tk, os⟩ := s1
  have n1 : H1 (hh.objs.size + 1) = none := J.hok.fresh (Nat.le_succ _)
  have yy := y (hh.objs.size + 1) n1
  have more : ∀ b o, hh.get? b = some o → ((hh.push (PySem.W.kdv_tup us)).push (PySem.HandSPX.excO C hh.objs.size)).get? b = some o := fun b o z => Heap.get?_push_of_some _ (Heap.get?_push_of_some _ z)
  have at_ : ((hh.push (PySem.W.kdv_tup us)).push (PySem.HandSPX.excO C hh.objs.size)).get? (hh.objs.size + 1) = some (PySem.HandSPX.excO C hh.objs.size) := by heap_get
  have J2 : Inv X pins σ (upd H1 (hh.objs.size + 1) (exo (hh.objs.size + 1) C none)) ⟨(hh.push (PySem.W.kdv_tup us)).push (PySem.HandSPX.excO C hh.objs.size), g, dr, tk, os⟩ := J.laid (t' := tk) more (Nat.le_succ _) (exo_ok at_)
  have rv2 : Vals (V.ref (hh.objs.size + 1) :: vs) (Value.ref (hh.objs.size + 1) :: us) := .cons rfl rv
  have ln : (Value.ref (hh.objs.size + 1) :: us).length = ps.length := rv2.length.symm.trans (F.len _ _ _ _ yy)
  have few : us.length ≤ sizeLine := by
    rw [← Paired.length rv, sizeLine_eq]
    omega
  have bnd := hb _ (Value.ref (hh.objs.size + 1) :: us) J2.kIn (by rw [List.append_nil]; exact ln)
  rw [List.append_nil] at bnd
  have body := F.run _ X.stack _ _ ⟨Value.ref (hh.objs.size + 1) :: us, []⟩ _ _ _ (fun _ _ _ => False) (hr.make C us []) (J2.env0.make C us []) bnd rv2 yy
  refine wpAny_call (PySem.HandSPX.call_own FB same (J.kIn _ _ look) (PySem.W.looks_findIn J.kIn iC) (fun self => PySem.W.bind_fn J.kIn self tI) few (codeAny_mono body fun r s2 z => ?_))
  cases r with
  | error _ => exact z.elim
  | ok fl =>
    cases fl with
    | ret w =>
      obtain ⟨v, H2, o2, b2, un2, ok2, rw2, ev, q2⟩ := z
      subst ev
      exact ⟨rw2, ⟨V.ref (hh.objs.size + 1), H2, J2.call' (ch := []) o2 un2 ok2 b2 (fun _ m => nomatch m), rfl, q2⟩⟩
    | next => exact z.elim
    | brk => exact z.elim
    | cont => exact z.elim
end Bh
namespace Bh
open PySem PySem.Spec PyProof.Rows L2
/-- the same, for raise -/
theorem pmk_mkG {X : Cx} {x : Str} {C fI : Addr} {k : Nat} {fd : FuncData} {ps : List Str} {sp : Sp} {e : Expr} {es : List Expr} {ta : TA} {p pos : Pos} (T : ExG X.K C) (iC : PySem.W.findIn X.K (.ref C) "__init__" = some (some (.ref fI))) (tI : PySem.W.typeIn X.K (.ref fI) = some (.type "function"))
    (F : FnOk X.prog X.w X.K X.mg X.base CX0 k fI fd ps sp) (hr : Room (k + 1) X.A) (hb : Binds X.K fd ps []) (hg : Gl X x) (hm : X.mg x = some (.ref C)) (ha : PA X (e :: es) ta)
    (hdb : (x == ("__debug__" : Str)) = false := by decide) (hs : starEach (e :: es) X.env = (false, eval e X.env) :: starEach es X.env := by rfl) (hp : (backTo pos (starEach es X.env)).any (·.1) = false := by rfl) :
    PMk X (.Call (.Name x p) (e :: es) [] pos) (tMkO C sp [] ta) := by
  intro pins s σ H Q I h
  refine wpAny_Call_Name_kw (ld_glob I hg hm ?_ hdb)
  obtain ⟨B, newId, initId, bmB, FB, SF, ov, nm, q, N, bs, bm, sn, sub, ab, col, dd, k0, k1, k2, k3, k5, look, same⟩ := T.fam
  refine PySem.W.callWith_K (h₀ := X.base) I.ok.mod.kin T.kC (thn (ha.run pos pins s σ H _ I h) fun us s1 hu => ?_) hs hp
  obtain ⟨vs, H1, J, rv, hz, y⟩ := hu
  refine ⟨J.kIn, ?_⟩
  show wpAny _ _ (call (.ref C) us) _ _ _
  obtain ⟨hh, g, dr, tk, os⟩ := s1
  have big : hh.objs.size ≤ hh.objs.size + 1 := Nat.le_succ _
  have yy := y (hh.objs.size + 1) (J.hok.fresh big)
  rw [List.append_nil] at yy
  have more : ∀ b o, hh.get? b = some o → ((hh.push (PySem.W.kdv_tup us)).push (PySem.HandSPX.excO C hh.objs.size)).get? b = some o := fun b o z => Heap.get?_push_of_some _ (Heap.get?_push_of_some _ z)
  have at_ : ((hh.push (PySem.W.kdv_tup us)).push (PySem.HandSPX.excO C hh.objs.size)).get? (hh.objs.size + 1) = some (PySem.HandSPX.excO C hh.objs.size) := by heap_get
  have J2 : Inv X pins σ (upd H1 (hh.objs.size + 1) (exo (hh.objs.size + 1) C none)) ⟨(hh.push (PySem.W.kdv_tup us)).push (PySem.HandSPX.excO C hh.objs.size), g, dr, tk, os⟩ := J.laid (t' := tk) more big (exo_ok at_)
  have rv2 : Vals (V.ref (hh.objs.size + 1) :: vs) (Value.ref (hh.objs.size + 1) :: us) := .cons rfl rv
  have ln : (Value.ref (hh.objs.size + 1) :: us).length = ps.length := rv2.length.symm.trans (F.len _ _ _ _ yy)
  have few : us.length ≤ sizeLine := by
    rw [← Paired.length rv, sizeLine_eq]
    omega
  have bnd := hb _ (Value.ref (hh.objs.size + 1) :: us) J2.kIn (by rw [List.append_nil]; exact ln)
  rw [List.append_nil] at bnd
  have body := F.run _ X.stack _ _ ⟨Value.ref (hh.objs.size + 1) :: us, []⟩ _ _ _ (fun _ _ _ => False) (hr.make C us []) (J2.env0.make C us []) bnd rv2 yy
  refine wpAny_call (PySem.HandSPX.call_own FB same (J.kIn _ _ look) (PySem.W.looks_findIn J.kIn iC) (fun self => PySem.W.bind_fn J.kIn self tI) few (codeAny_mono body fun r s2 z => ?_))
  cases r with
  | error _ => exact z.elim
  | ok fl =>
    cases fl with
    | ret w =>
      obtain ⟨v, H2, o2, b2, un2, ok2, rw2, ev, dx, fs, ea, ed, nd, q2⟩ := z
      subst ev
      obtain ⟨h2, g2, d2, t2, os2⟩ := s2
      exact ⟨rw2, mk_end (raises_own T.exC T.tyC) J big more un2 ok2 o2 b2 ea ed nd q2⟩
    | next => exact z.elim
    | brk => exact z.elim
    | cont => exact z.elim
/-- e.n, e such an exception that was not raised -/
def tXo (K : PySem.W.Frag) (n : Str) (te : TE) : TE := fun σ H Q => te σ H fun x H1 => ∃ (a C dd : Addr) (fs : List (Str × V)) (v : V), x = .ref a ∧ H1 a = some (exo a C (some dd)) ∧ XfC K C ∧ PySem.W.findIn K (.ref C) n = some none ∧ H1 dd = some (exd dd fs) ∧ fs.lookup n = some v ∧ Q v H1
theorem pe_xo {X : Cx} {e : Expr} {te : TE} {pos : Pos} {n : Str} (he : PE X e te) (hb : attributeBase e n X.env (eval e X.env) = eval e X.env := by rfl) : PE X (.Attribute e n pos) (tXo X.K n te) := by
  refine ⟨fun pins s σ H Q I h => attr_of hb (thn (he.run pins s σ H _ I h) fun u s1 hu => ?_)⟩
  obtain ⟨x, H1, J, rx, a, C, dd, fs, v, rfl, ea, xf, no, ed, lk, q⟩ := hu
  cases rx
  obtain ⟨t1, g⟩ := exo_at J.hok ea
  obtain ⟨m, ns, rel⟩ := exd_at J.hok ed
  obtain ⟨od, _, _, god, _, _⟩ := ns.count (within_of rel)
  obtain ⟨od2, god2, lo⟩ := lookIn_ns ns
  obtain ⟨y, hy, ry⟩ := RelO.some_of (v := v) (o := m n) (by rw [← lk]; exact rel n)
  have inst : PySem.W.InstAt s1.heap a { cls := .ref C, dict := some dd, data := .fields #[.ref t1, .none, .none, .none, .bool false, .none] } C (some od2) := ⟨g, rfl, rfl, god2⟩
  exact HandSPX.exc_get J.kIn inst xf.ga xf.gg xf.exC (PySem.W.findObj_own xf.hdC no rfl (by rw [lo, hy])) (handed_of ry) ⟨v, H1, J.tok _, ry, q⟩
end Bh
namespace Bh
open PySem PySem.Spec PyProof.Rows L2
/-- isinstance(e, c), e such an exception that was not raised -/
def rIsO (K : PySem.W.Frag) : List V → Hp → VK → Prop := fun xs H Q => ∃ (a D dd : Addr) (fs : List (Str × V)) (c : V) (cv : Value) (b : Bool), xs = [.ref a, c] ∧ ExcC K D ∧ H a = some (exo a D (some dd)) ∧ H dd = some (exd dd fs) ∧ (∀ u, RelV c u → u = cv) ∧ PySem.W.kitOne K (.ref D) cv = some b ∧ Q (.bl b) H
theorem call_isO {X : Cx} : CallR X (.builtin "isinstance") (rIsO X.K) := by
  intro pins s σ H xs us Q I r h
  obtain ⟨a, D, dd, fs, c, cv, b, rfl, F, ea, ed, hc, e, q⟩ := h
  obtain ⟨u1, u2, rfl, r1, r2⟩ := vals2 r
  cases r1
  obtain rfl := hc _ r2
  obtain ⟨t1, g⟩ := exo_at I.hok ea
  obtain ⟨m, ns, rel⟩ := exd_at I.hok ed
  obtain ⟨od, god, _⟩ := lookIn_ns ns
  have inst : PySem.W.InstAt s.heap a { cls := .ref D, dict := some dd, data := .fields #[.ref t1, .none, .none, .none, .bool false, .none] } D (some od) := ⟨g, rfl, rfl, god⟩
  have hcl : (PySem.W.clsIn X.K D).isSome = true := by
    obtain ⟨cd, k, _⟩ := PySem.W.any_some F.hd
    rw [k]
    rfl
  exact PySem.W.kia_one (PySem.W.kitx_exc hcl F.hg F.hk F.hs F.ha F.hn F.ht F.hm) I.kIn inst e (fun z => nomatch z) fun tk => ⟨.bl b, H, I.kept (t' := tk) fun _ _ z => z, rfl, q⟩
end Bh

set_option Elab.async false
set_option linter.all false
set_option maxRecDepth 100000
namespace Bh
open PySem PySem.Spec PyProof PyProof.Rows L2 HandSPX
/-! ### an own exception made by keyword -/
section
variable {prog : Program} {w : World} {A : Around} {E : Value → Shared → Prop} {R : Result → Shared → Prop} {h : Heap} {g : Array GenState} {d : Drawn} {t : Nat} {os : OsState}
variable {nm q : Str} {C N : Addr} {bs bm bmB : List Value} {hdct : Bool} {sn : List Str} {sub : List Value} {ab : Bool} {col : Option Bool} {dd : Option Addr} {k0 k1 k2 k3 k5 : Option Value} {B newId initId : String} {kk : Str} {kv : Value}
theorem kw_check {M : Model} (F : ExcBaseFacts B newId initId bmB) (hT : ∀ X : String, bm.contains (.type X) = bmB.contains (.type X)) {Q : Unit → Shared → Prop}
    (hC : h.get? C = some (excClassObj nm q C N bs bm hdct sn sub ab col dd k0 k1 k2 k3 k5 newId)) (hq : Q () ⟨h, g, d, t, os⟩) : wpAny M A (checkBuiltinCall newId ⟨[.ref C], [(kk, kv)]⟩) Q E ⟨h, g, d, t, os⟩ := by
  have c1 : (Value.ref C :: bm).contains (.type B) = true := by rw [List.contains_cons, hT, F.hasB, Bool.or_true]
  have c2 := F.noStar
  simp only [checkBuiltinCall, F.newKind, F.newSplit, F.newRow]
  repeat (first | refine wpAny_loadPart_at hC ?_ | (refine wpAny_isSubtype_exc hC ?_; rw [c1]) | refine wpAny_staticBase_exc hC ?_ | refine wpAny_madeBy_exc hC ?_ | simp only [bne_self_eq_false, Bool.false_eq_true, if_false] | wp_step)
  exact hq
theorem kw_new (F : ExcBaseFacts B newId initId bmB) (hT : ∀ X : String, bm.contains (.type X) = bmB.contains (.type X))
    (hC : h.get? C = some (excClassObj nm q C N bs bm hdct sn sub ab col dd k0 k1 k2 k3 k5 newId))
    (hq : R (.ok (.ret (.ref (h.objs.size + 1)))) ⟨(h.push (PySem.W.kdv_tup [])).push (excO C h.objs.size), g, d, t, os⟩) :
    codeAny (model prog w) A (.builtin newId ⟨[.ref C], [(kk, kv)]⟩) R ⟨h, g, d, t, os⟩ := by
  have ends := F.ends
  have c1 : (Value.ref C :: bm).contains (.type B) = true := by rw [List.contains_cons, hT, F.hasB, Bool.or_true]
  have c2 : (Value.ref C :: bm).contains (.type "AttributeError") = false := by rw [List.contains_cons, hT, F.noAttr]; rfl
  have c3 : (Value.ref C :: bm).contains (.type "NameError") = false := by rw [List.contains_cons, hT, F.noName]; rfl
  refine codeAny_builtinAt F.entry ?_
  unfold Builtin.«BaseException.__new__»
  refine PySem.wpAt_bind ?_
  show PySem.wpAt _ _ _ (stack >>= _) _ _ _
  refine PySem.wpAt_bind (PySem.wpAt_stack fun p below => PySem.wpAt_of_wpAny ?_)
  wp_walk
  refine PySem.wpAt_of_wpAny ?_
  rw [F.owner]
  repeat (first | with_reducible refine wpAny_madeHere_exc F.canon hC ?_ | with_reducible refine wpAny_loadPart_at hC ?_ | (with_reducible refine wpAny_isSubtype_exc hC ?_; first | rw [c1] | rw [c2] | rw [c3]) | wp_step)
  show R _ _
  rw [Heap.size_push]
  exact hq
theorem kw_type (F : ExcBaseFacts B newId initId bmB) (hT : ∀ X : String, bm.contains (.type X) = bmB.contains (.type X)) {fI : Addr} {Q : Fin → Shared → Prop}
    (hC : h.get? C = some (excClassObj nm q C N bs bm hdct sn sub ab col dd k0 k1 k2 k3 k5 newId))
    (hi : PySem.W.Looks (model prog w) h (typeLookup (.ref C) "__init__") (some (.ref fI))) (hb : ∀ self, PySem.W.Looks (model prog w) h (bindSpecial (.ref fI) self) (.ref fI, [self]))
    (hq : codeAny (model prog w) A (.call (.ref fI) ⟨[.ref (h.objs.size + 1)], [(kk, kv)]⟩)
      (fun r s' => match r with | .ok (.ret v) => v = .none ∧ Q (.done (.ret (.ref (h.objs.size + 1)))) s' | .ok _ => False | .error e => E e s')
      ⟨(h.push (PySem.W.kdv_tup [])).push (excO C h.objs.size), g, d, t, os⟩) :
    wpAny (model prog w) A (Builtin.«type.__call__» ⟨[.ref C], [(kk, kv)]⟩) Q E ⟨h, g, d, t, os⟩ := by
  repeat (first | with_reducible refine wpAny_loadPart_at hC ?_ | with_reducible refine wpAny_madeBy_exc hC ?_ | wp_step)
  refine codeAny_call_builtin_code (Code.quiet_builtin _ F.quiet) (kw_check F hT hC ?_)
  refine kw_new F hT hC ?_
  show wpAny _ _ _ _ _ _
  have k : ∀ b o, h.get? b = some o → ((h.push (PySem.W.kdv_tup [])).push (excO C h.objs.size)).get? b = some o := fun b o e => Heap.get?_push_of_some _ (Heap.get?_push_of_some _ e)
  have hC1 := k _ _ hC
  have hget : ((h.push (PySem.W.kdv_tup [])).push (excO C h.objs.size)).get? (h.objs.size + 1) = some (excO C h.objs.size) := by heap_get
  have hcC : (Value.ref C :: bm).contains (.ref C) = true := by simp
  have i1 := hi.keeps k
  have b1 := (hb (.ref (h.objs.size + 1))).keeps k
  unfold isInstance
  repeat (first | with_reducible refine wpAny_loadPart_at hget ?_ | (with_reducible refine wpAny_isSubtype_exc hC1 ?_; rw [hcC]) | wp_step)
  show wpAny _ _ (typeLookup (.ref C) _) _ _ _
  refine i1.at ?_
  refine wpAny_holding (wpAny_bind (b1.at ?_))
  refine wpAny_bind (wpAny_call (codeAny_mono hq fun r s' z => ?_))
  rcases r with e | (v | _ | _ | _) <;> first | exact z | exact z.elim | skip
  obtain ⟨rfl, z⟩ := z
  first
    | exact wpAny_pure (wpAny_pure z)
    | (wp_walk; exact z)
theorem kw_call (F : ExcBaseFacts B newId initId bmB) (hT : ∀ X : String, bm.contains (.type X) = bmB.contains (.type X)) {fI : Addr}
    (hC : h.get? C = some (excClassObj nm q C N bs bm hdct sn sub ab col dd k0 k1 k2 k3 k5 newId))
    (hi : PySem.W.Looks (model prog w) h (typeLookup (.ref C) "__init__") (some (.ref fI))) (hb : ∀ self, PySem.W.Looks (model prog w) h (bindSpecial (.ref fI) self) (.ref fI, [self]))
    (hq : codeAny (model prog w) (A.under (.builtin "type.__call__" ⟨[.ref C], [(kk, kv)]⟩)) (.call (.ref fI) ⟨[.ref (h.objs.size + 1)], [(kk, kv)]⟩) (PySem.W.InitBack (h.objs.size + 1) R)
      ⟨(h.push (PySem.W.kdv_tup [])).push (excO C h.objs.size), g, d, t, os⟩) :
    codeAny (model prog w) A (.call (.ref C) ⟨[], [(kk, kv)]⟩) R ⟨h, g, d, t, os⟩ := by
  have f1 := tc_lookup
  have f2 := tc_bind (.ref C)
  have hTy : (⟨h, g, d, t, os⟩ : Shared).TypeIs (.ref C) "type" := ⟨_, hC, rfl⟩
  refine codeAny_of_tree ?_
  show wpAny _ _ (callAny (.ref C) _) _ _ _
  repeat (any_goals (first | assumption | with_reducible refine wpAny_loadPart_at hC ?_ | wp_step))
  refine ⟨rfl, ?_⟩
  refine codeAny_call_builtin_at (Code.quiet_builtin _ (by decide +kernel)) entry_typeCall (wpAny_check_type_call_sub hC (kw_type F hT hC hi hb ?_))
  refine codeAny_mono hq fun r s' z => ?_
  rcases r with e | (v | _ | _ | _) <;> exact z
end
end Bh

set_option Elab.async false
set_option linter.all false
set_option maxRecDepth 100000
namespace Bh
open PySem PySem.Spec PyProof.Rows L2
/-- C() with C's own __init__ -/
theorem pe_mkG0 {X : Cx} {x : Str} {C fI : Addr} {k : Nat} {fd : FuncData} {ps : List Str} {sp : Sp} {p pos : Pos} (T : ExG X.K C) (iC : PySem.W.findIn X.K (.ref C) "__init__" = some (some (.ref fI))) (tI : PySem.W.typeIn X.K (.ref fI) = some (.type "function"))
    (F : FnOk X.prog X.w X.K X.mg X.base CX0 k fI fd ps sp) (hr : Room (k + 1) X.A) (hb : Binds X.K fd ps []) (hg : Gl X x) (hm : X.mg x = some (.ref C))
    (hdb : (x == ("__debug__" : Str)) = false := by decide) :
    PE X (.Call (.Name x p) [] [] pos) (tMkG C sp tNil) := by
  refine ⟨fun pins s σ H Q I h => wpAny_Call_Name_kw (ld_glob I hg hm ?_ hdb)⟩
  obtain ⟨B, newId, initId, bmB, FB, SF, ov, nm, q, N, bs, bm, sn, sub, ab, col, dd, k0, k1, k2, k3, k5, look, same⟩ := T.fam
  refine PySem.W.callWith_K0 I.kIn T.kC ?_
  obtain ⟨_, y⟩ := (h : _ ∧ _)
  obtain ⟨hh, g, dr, tk, os⟩ := s
  have n1 : H (hh.objs.size + 1) = none := I.hok.fresh (Nat.le_succ _)
  have yy := y (hh.objs.size + 1) n1
  have more : ∀ b o, hh.get? b = some o → ((hh.push (PySem.W.kdv_tup [])).push (PySem.HandSPX.excO C hh.objs.size)).get? b = some o := fun b o z => Heap.get?_push_of_some _ (Heap.get?_push_of_some _ z)
  have at_ : ((hh.push (PySem.W.kdv_tup [])).push (PySem.HandSPX.excO C hh.objs.size)).get? (hh.objs.size + 1) = some (PySem.HandSPX.excO C hh.objs.size) := by heap_get
  have J2 : Inv X pins σ (upd H (hh.objs.size + 1) (exo (hh.objs.size + 1) C none)) ⟨(hh.push (PySem.W.kdv_tup [])).push (PySem.HandSPX.excO C hh.objs.size), g, dr, tk, os⟩ := I.laid (t' := tk) more (Nat.le_succ _) (exo_ok at_)
  have rv2 : Vals [V.ref (hh.objs.size + 1)] [Value.ref (hh.objs.size + 1)] := .cons rfl .nil
  have ln : [Value.ref (hh.objs.size + 1)].length = ps.length := rv2.length.symm.trans (F.len _ _ _ _ yy)
  have bnd := hb _ [Value.ref (hh.objs.size + 1)] J2.kIn (by rw [List.append_nil]; exact ln)
  rw [List.append_nil] at bnd
  have body := F.run _ X.stack _ _ ⟨[Value.ref (hh.objs.size + 1)], []⟩ _ _ _ (fun _ _ _ => False) (hr.make C [] []) (J2.env0.make C [] []) bnd rv2 yy
  refine wpAny_call (PySem.HandSPX.call_own FB same (I.kIn _ _ look) (PySem.W.looks_findIn I.kIn iC) (fun self => PySem.W.bind_fn I.kIn self tI) (Nat.zero_le _) (codeAny_mono body fun r s2 z => ?_))
  cases r with
  | error _ => exact z.elim
  | ok fl =>
    cases fl with
    | ret w =>
      obtain ⟨v, H2, o2, b2, un2, ok2, rw2, ev, q2⟩ := z
      subst ev
      exact ⟨rw2, ⟨V.ref (hh.objs.size + 1), H2, J2.call' (ch := []) o2 un2 ok2 b2 (fun _ m => nomatch m), rfl, q2⟩⟩
    | next => exact z.elim
    | brk => exact z.elim
    | cont => exact z.elim
/-- C(k = e): kb is the promise of the binding of self and one keyword -/
theorem pe_mkGK {X : Cx} {x kk : Str} {C fI : Addr} {k : Nat} {fd : FuncData} {ps : List Str} {sp : Sp} {p pos : Pos} {kws : List Keyword} {tk : TA} {g : List Value → List Value → List Value} {gV : List V → List V → List V} (T : ExG X.K C) (iC : PySem.W.findIn X.K (.ref C) "__init__" = some (some (.ref fI))) (tI : PySem.W.typeIn X.K (.ref fI) = some (.type "function"))
    (F : FnOk X.prog X.w X.K X.mg X.base CX0 k fI fd ps sp) (hr : Room (k + 1) X.A) (hb : KBn X.K fd ps 1 [kk] g gV) (hg : Gl X x) (hm : X.mg x = some (.ref C)) (hkw : PK X kws tk)
    (hall : (backToKw pos (keywordEach kws X.env)).all (·.1.isSome) = true := by rfl) (hks : (backToKw pos (keywordEach kws X.env)).filterMap (·.1) = [kk] := by rfl)
    (hdb : (x == ("__debug__" : Str)) = false := by decide) (hpl : ((backTo pos (starEach [] X.env)).any (·.1) || (backToKw pos (keywordEach kws X.env)).any (·.1.isNone)) = false := by rfl) :
    PE X (.Call (.Name x p) [] kws pos) (fun σ H Q => tk σ H fun zs H1 => zs.length = 1 ∧ ∀ a, H1 a = none → sp (gV [.ref a] zs) (upd H1 a (exo a C none)) (fun v H2 => v = .non ∧ Q (.ref a) H2) fun _ _ _ => False) := by
  refine ⟨fun pins s σ H Q I h => wpAny_Call_Name_kw (ld_glob I hg hm ?_ hdb)⟩
  obtain ⟨B, newId, initId, bmB, FB, SF, ov, nm, q, N, bs, bm, sn, sub, ab, col, dd, k0, k1, k2, k3, k5, look, same⟩ := T.fam
  refine PySem.W.callWith_KW0 (h₀ := X.base) I.ok.mod.kin T.kC hall ?_ hpl
  refine thn (hkw.run pos pins s σ H _ I h) fun ws s2 ⟨zs, H1, J, rz, lz, y⟩ => ⟨J.kIn, ?_⟩
  rw [hks]
  obtain ⟨u, rfl⟩ : ∃ u, ws = [u] := by
    cases rz with
    | nil => cases lz
    | cons a b => cases b with
      | nil => exact ⟨_, rfl⟩
      | cons => cases lz
  show wpAny _ _ (call (.ref C) [] [(kk, u)]) _ _ _
  obtain ⟨hh, gg, dr, tk2, os⟩ := s2
  have n1 : H1 (hh.objs.size + 1) = none := J.hok.fresh (Nat.le_succ _)
  have yy := y (hh.objs.size + 1) n1
  have more : ∀ b o, hh.get? b = some o → ((hh.push (PySem.W.kdv_tup [])).push (PySem.HandSPX.excO C hh.objs.size)).get? b = some o := fun b o z => Heap.get?_push_of_some _ (Heap.get?_push_of_some _ z)
  have at_ : ((hh.push (PySem.W.kdv_tup [])).push (PySem.HandSPX.excO C hh.objs.size)).get? (hh.objs.size + 1) = some (PySem.HandSPX.excO C hh.objs.size) := by heap_get
  have J2 : Inv X pins σ (upd H1 (hh.objs.size + 1) (exo (hh.objs.size + 1) C none)) ⟨(hh.push (PySem.W.kdv_tup [])).push (PySem.HandSPX.excO C hh.objs.size), gg, dr, tk2, os⟩ := J.laid (t' := tk2) more (Nat.le_succ _) (exo_ok at_)
  have rv2 : Vals [V.ref (hh.objs.size + 1)] [Value.ref (hh.objs.size + 1)] := .cons rfl .nil
  have bnd := hb.to _ [Value.ref (hh.objs.size + 1)] [u] J2.kIn rfl rfl
  have body := F.run _ X.stack _ _ ⟨[Value.ref (hh.objs.size + 1)], [(kk, u)]⟩ _ _ _ (fun _ _ _ => False) (hr.make C [] [(kk, u)]) (J2.env0.make C [] [(kk, u)]) bnd (hb.rel rv2 rz) yy
  refine wpAny_call (kw_call FB same (J.kIn _ _ look) (PySem.W.looks_findIn J.kIn iC) (fun self => PySem.W.bind_fn J.kIn self tI) (codeAny_mono body fun r s2 z => ?_))
  cases r with
  | error _ => exact z.elim
  | ok fl =>
    cases fl with
    | ret w =>
      obtain ⟨v, H2, o2, b2, un2, ok2, rw2, ev, q2⟩ := z
      subst ev
      exact ⟨rw2, ⟨V.ref (hh.objs.size + 1), H2, J2.call' (ch := []) o2 un2 ok2 b2 (fun _ m => nomatch m), rfl, q2⟩⟩
    | next => exact z.elim
    | brk => exact z.elim
    | cont => exact z.elim
end Bh

set_option Elab.async false
set_option linter.all false
set_option maxRecDepth 100000
set_option maxHeartbeats 1000000
namespace Bh
open PySem PySem.Spec PyProof.Rows L2
/-! ### what is new -/
def newOf (H H' : Hp) : Hp := fun a => if H a = none then H' a else none
section
variable {H H1 H2 : Hp} {a p D : Addr} {o : HO} {u : HO}
theorem newOf_le : Same (newOf H H1) H1 := fun a u e => by
  unfold newOf at e
  by_cases h : H a = none
  · rw [if_pos h] at e
    exact e
  · rw [if_neg h] at e
    cases e
theorem newOf_at (h : H a = none) : newOf H H1 a = H1 a := if_pos h
theorem newOf_mono (s : Same H1 H2) : Same (newOf H H1) (newOf H H2) := fun a u e => by
  unfold newOf at e ⊢
  by_cases h : H a = none
  · rw [if_pos h] at e ⊢
    exact s _ _ e
  · rw [if_neg h] at e
    cases e
theorem newOf_trans (s : Same H H1) : Same (newOf H1 H2) (newOf H H2) := fun a u e => by
  unfold newOf at e ⊢
  by_cases h : H1 a = none
  · rw [if_pos h] at e
    rw [if_pos (s.free h)]
    exact e
  · rw [if_neg h] at e
    cases e
/-- new since, and not at D, which was there -/
theorem newOf_hid (s : Same H H1) (hD : H1 D = some u) : Same (newOf H1 H2) (hid D (newOf H (upd H2 D o))) := fun a v e => by
  have n : H1 a = none := by
    cases q : H1 a with
    | none => rfl
    | some w =>
      unfold newOf at e
      rw [if_neg (by rw [q]; exact fun z => nomatch z)] at e
      cases e
  have ne : a ≠ D := fun z => by
    rw [z, hD] at n
    cases n
  rw [newOf_at n] at e
  rw [hid_ne ne, newOf_at (s.free n), upd_ne ne]
  exact e
theorem hid_newOf (s : Same H1 H2) : Same (hid D (newOf H H1)) (hid D (newOf H (upd H2 D o))) := fun a v e => by
  by_cases ne : a = D
  · rw [ne] at e
    unfold hid at e
    rw [if_pos rfl] at e
    cases e
  rw [hid_ne ne] at e ⊢
  have k := newOf_mono (H := H) s _ _ e
  unfold newOf at k ⊢
  by_cases h : H a = none
  · rw [if_pos h] at k ⊢
    rw [upd_ne ne]
    exact k
  · rw [if_neg h] at k
    cases k
end
/-- the promise of copy_of (n: how deep, one more): the same data, all of its lists and tuples new -/
def spCp (K : PySem.W.Frag) : Nat → Sp
  | 0 => fun _ _ _ _ => False
  | n + 1 => fun vs H Q _ => ∃ (v : V) (d : PyData), vs = [v] ∧ Dp K H v d ∧ Sh n d ∧ ∀ H' r, Same H H' → Dp K (newOf H H') r d → Q r H'
structure ExR (K : PySem.W.Frag) (mg : Str → Option Value) (x q : Str) (st : Stmt) (ps at_ : List Str) : Type where
  c : Addr
  f : Addr
  fd : FuncData
  F : Fun K "__init__" q st f fd
  b : Binds K fd ps []
  g : mg x = some (.ref c)
  e : ExG K c
  i : PySem.W.findIn K (.ref c) "__init__" = some (some (.ref f))
  t : PySem.W.typeIn K (.ref f) = some (.type "function")
  n : ∀ y ∈ at_, PySem.W.findIn K (.ref c) y = some none
  x : XfC K c
  k : ExcC K c

/-- an own error's dict gets the code and, under f, a copy of d all of whose lists and tuples are new -/
def spIe (K : PySem.W.Frag) (C : Addr) (nm f : Str) (n : Nat) : Sp := fun vs H Q _ => ∃ (a : Addr) (v : V) (d : PyData), vs = [.ref a, v] ∧ H a = some (exo a C none) ∧ Dp K H v d ∧ Sh n d ∧
  ∀ (dx : Addr) (r : V) (H2 : Hp), H dx = none → dx ≠ a → H2 a = some (exo a C (some dx)) → H2 dx = some (exd dx [("code", .str nm), (f, r)]) → Same (hid a H) H2 → Dp K (hid dx (newOf H H2)) r d → Q .non H2
theorem ie_same {H H3 : Hp} {a dx : Addr} {o1 o2 o3 : HO} (s : Same H H3) (nd : H3 dx = none) : Same (hid a H) (upd (upd (upd H3 dx o1) a o2) dx o3) := fun b u e => by
  have ne : b ≠ a := fun z => by
    rw [z] at e
    unfold hid at e
    rw [if_pos rfl] at e
    cases e
  rw [hid_ne ne] at e
  have k := s _ _ e
  have ne2 : b ≠ dx := ne_of_none k nd
  rw [upd_ne ne2, upd_ne ne, upd_ne ne2]
  exact k
theorem ie_new {H H3 : Hp} {a dx : Addr} {o1 o2 o3 w : HO} (ea : H a = some w) (s : Same H H3) (nd : H3 dx = none) : Same (newOf H H3) (hid dx (newOf H (upd (upd (upd H3 dx o1) a o2) dx o3))) := fun b u e => by
  have n : H b = none := by
    cases q : H b with
    | none => rfl
    | some z =>
      unfold newOf at e
      rw [if_neg (by rw [q]; exact fun z => nomatch z)] at e
      cases e
  rw [newOf_at n] at e
  have ne : b ≠ a := fun z => by
    rw [z, ea] at n
    cases n
  have ne2 : b ≠ dx := ne_of_none e nd
  rw [hid_ne ne2, newOf_at n, upd_ne ne2, upd_ne ne, upd_ne ne2]
  exact e
/-- the error, raised: what its making leaves -/
theorem ie_raise {K : PySem.W.Frag} {H : Hp} {C a : Addr} {nm f : Str} {n : Nat} {v : V} {d : PyData} {Q : XK} (hd : Dp K H v d) (hs : Sh n d) (na : H a = none)
    (k : ∀ (dd : Addr) (r : V) (H2 : Hp), H dd = none → Same H H2 → H2 dd = some (.xd [("code", .str nm), (f, r)]) → Dp K (newOf H H2) r d → Q (.ref C) (some dd) H2) :
    spIe K C nm f n (V.ref a :: ([v] ++ [])) (upd H a (exo a C none)) (fun v H2 => v = .non ∧ ∃ (d : Addr) (fs : List (Str × V)), H2 a = some (exo a C (some d)) ∧ H2 d = some (exd d fs) ∧ H d = none ∧ Q (.ref C) (some d) (upd (del H2 a) d (.xd fs))) (fun _ _ _ => False) := by
  refine ⟨a, v, d, rfl, upd_same, Dp.mono (same_new na) hd, hs, fun dx r H2 nd ne e1 e2 s1 hr => ⟨rfl, dx, _, e1, e2, ?_, ?_⟩⟩
  · rw [upd_ne ne] at nd
    exact nd
  · rw [upd_ne ne] at nd
    refine k dx r _ nd (fun b u e => ?_) upd_same (Dp.mono (fun b u e => ?_) hr)
    · have b1 : b ≠ dx := ne_of_none e nd
      have b2 : b ≠ a := ne_of_none e na
      rw [upd_ne b1, del_ne b2]
      exact s1 _ _ (by rw [hid_ne b2, upd_ne b2]; exact e)
    · have b1 : b ≠ dx := fun z => by
        rw [z] at e
        unfold hid at e
        rw [if_pos rfl] at e
        cases e
      rw [hid_ne b1] at e
      have n : upd H a (exo a C none) b = none := by
        cases q : upd H a (exo a C none) b with
        | none => rfl
        | some z =>
          unfold newOf at e
          rw [if_neg (by rw [q]; exact fun z => nomatch z)] at e
          cases e
      have b2 : b ≠ a := fun z => by
        rw [z, upd_same] at n
        cases n
      rw [newOf_at n] at e
      rw [upd_ne b2] at n
      rw [newOf_at n, upd_ne b1, del_ne b2]
      exact e
/-- what an except suite is to know of a raised error -/
structure ErC (K : PySem.W.Frag) (cBE cMS C : Addr) (nm f : Str) : Prop where
  x : XfC K C
  n1 : PySem.W.findIn K (.ref C) "code" = some none
  n2 : PySem.W.findIn K (.ref C) f = some none
  ex : PySem.W.exmAny K (.ref C) [.ref cBE, .ref cMS] = some true
theorem pe_weak {X : Cx} {e : Expr} {t : TE} (h : PE X e t) : PE X e (fun σ H Q => ∃ Q0, t σ H Q0 ∧ ∀ v H2, Q0 v H2 → Q v H2) :=
  ⟨fun pins s σ H Q I ⟨Q0, h0, m⟩ => wpAny_mono (h.run pins s σ H Q0 I h0) (fun u s1 ⟨v, H1, J, r, q⟩ => ⟨v, H1, J, r, m v H1 q⟩) (fun _ _ x => x)⟩
theorem pe_xz_K {X : Cx} {K : PySem.W.Frag} (hK : X.K = K) {e : Expr} {te : TE} {pos : Pos} {n : Str} (he : PE X e te) (hb : attributeBase e n X.env (eval e X.env) = eval e X.env := by rfl) : PE X (.Attribute e n pos) (tXz K n te) := by
  subst hK
  exact pe_xz he hb
/-- what _law_try makes of a question -/
def TTryE (K : PySem.W.Frag) (cBE cMS : Addr) (pairs : List (Str × Str)) : (XK → Hp → VK → Prop) → Hp → VK → Prop := fun tl H Q => ∃ (Ech : XK) (Q0 : VK), tl Ech H Q0 ∧
  (∀ cls d H2, Ech cls d H2 → ∃ (C dd : Addr) (nm f : Str) (v : V), cls = .ref C ∧ d = some dd ∧ H2 dd = some (.xd [("code", .str nm), (f, v)]) ∧ ErC K cBE cMS C nm f ∧ (nm, f) ∈ pairs ∧ ∀ H3 p, Same H2 H3 → H3 p = some (.tup [.str nm, v]) → Q (.ref p) H3) ∧
  ∀ v H2, Q0 v H2 → ∀ p, H2 p = none → Q (.ref p) (upd H2 p (.tup [.str "value", v]))
/-- what _law_given tells of a caught error -/
def spGivenE (K : PySem.W.Frag) (cBE cMS : Addr) (pairs : List (Str × Str)) : Sp := fun vs H Q _ => ∃ (a C dd : Addr) (nm f : Str) (v : V), vs = [.ref a] ∧ H a = some (exz a (.ref C) (some dd)) ∧ H dd = some (.xd [("code", .str nm), (f, v)]) ∧ ErC K cBE cMS C nm f ∧ (nm, f) ∈ pairs ∧ ∀ H', Same H H' → Q v H'
theorem op_inDK {X : Cx} {K : PySem.W.Frag} (hK : X.K = K) (hu : X.A.units + 65 < cLine) : OpR X (compareOp .In) (rInD K) := by
  subst hK
  exact op_inD hu
theorem op_notInDK {X : Cx} {K : PySem.W.Frag} (hK : X.K = K) (hu : X.A.units + 65 < cLine) : OpR X (compareOp .NotIn) (rNotInD K) := by
  subst hK
  exact op_notInD hu
theorem r65 {k : Nat} {A : Around} (r : Room k A) : A.units + 65 < cLine := by
  have := r.un
  omega
theorem eqv_strs (a b : Str) : PyData.eqv (.str a) (.str b) = decide (a = b) := by
  first | rfl | (simp [PyData.eqv])
end Bh

set_option Elab.async false
set_option linter.all false
set_option maxRecDepth 100000
set_option maxHeartbeats 1000000
namespace Bh
open PySem PySem.Spec PyProof.Rows L2
structure Top (K : PySem.W.Frag) (mg : Str → Option Value) : Type where
  a_is_name : Addr
  fd_is_name : FuncData
  d_is_name : Df K mg "is_name" s_is_name ["value"] a_is_name fd_is_name
  a_is_option : Addr
  fd_is_option : FuncData
  d_is_option : Df K mg "is_option" s_is_option ["value"] a_is_option fd_is_option
  a_is_word : Addr
  fd_is_word : FuncData
  d_is_word : Df K mg "_is_word" s_is_word ["value", "characters"] a_is_word fd_is_word
  a_case_text : Addr
  fd_case_text : FuncData
  d_case_text : Df K mg "case_text" s_case_text ["case"] a_case_text fd_case_text
  a_tests_text : Addr
  fd_tests_text : FuncData
  d_tests_text : Df K mg "_tests_text" s_tests_text ["tests"] a_tests_text fd_tests_text
  a_steps_text : Addr
  fd_steps_text : FuncData
  d_steps_text : Df K mg "_steps_text" s_steps_text ["steps"] a_steps_text fd_steps_text
  a_step_text : Addr
  fd_step_text : FuncData
  d_step_text : Df K mg "_step_text" s_step_text ["field", "option"] a_step_text fd_step_text
  a_read_case : Addr
  fd_read_case : FuncData
  d_read_case : Df K mg "read_case" s_read_case ["line"] a_read_case fd_read_case
  a_read_tests : Addr
  fd_read_tests : FuncData
  d_read_tests : Df K mg "_read_tests" s_read_tests ["text"] a_read_tests fd_read_tests
  a_read_steps : Addr
  fd_read_steps : FuncData
  d_read_steps : Df K mg "_read_steps" s_read_steps ["text"] a_read_steps fd_read_steps
  a_all_read : Addr
  fd_all_read : FuncData
  d_all_read : Df K mg "_all_read" s_all_read ["items"] a_all_read fd_all_read
  a_read_test : Addr
  fd_read_test : FuncData
  d_read_test : Df K mg "_read_test" s_read_test ["text"] a_read_test fd_read_test
  a_read_step : Addr
  fd_read_step : FuncData
  d_read_step : Df K mg "_read_step" s_read_step ["text"] a_read_step fd_read_step
  a_field_fits : Addr
  fd_field_fits : FuncData
  d_field_fits : Df K mg "field_fits" s_field_fits ["before", "field"] a_field_fits fd_field_fits
  a_tie_fits : Addr
  fd_tie_fits : FuncData
  d_tie_fits : Df K mg "tie_fits" s_tie_fits ["fields", "before", "tie"] a_tie_fits fd_tie_fits
  a_kind_fits : Addr
  fd_kind_fits : FuncData
  d_kind_fits : Df K mg "kind_fits" s_kind_fits ["fields", "before", "kind"] a_kind_fits fd_kind_fits
  a_name_fits : Addr
  fd_name_fits : FuncData
  d_name_fits : Df K mg "name_fits" s_name_fits ["before", "name", "most"] a_name_fits fd_name_fits
  a_names_of : Addr
  fd_names_of : FuncData
  d_names_of : Df K mg "names_of" s_names_of ["items"] a_names_of fd_names_of
  a_is_program : Addr
  fd_is_program : FuncData
  d_is_program : Df K mg "is_program" s_is_program ["fields", "value"] a_is_program fd_is_program
  a_is_case : Addr
  fd_is_case : FuncData
  d_is_case : Df K mg "is_case" s_is_case ["fields", "value"] a_is_case fd_is_case
  a_is_holding : Addr
  fd_is_holding : FuncData
  d_is_holding : Df K mg "is_holding" s_is_holding ["fields", "value"] a_is_holding fd_is_holding
  a_is_value : Addr
  fd_is_value : FuncData
  d_is_value : Df K mg "is_value" s_is_value ["fields", "value"] a_is_value fd_is_value
  a_values_of : Addr
  fd_values_of : FuncData
  d_values_of : Df K mg "values_of" s_values_of ["fields"] a_values_of fd_values_of
  a_is_tuple : Addr
  fd_is_tuple : FuncData
  d_is_tuple : Df K mg "_is_tuple" s_is_tuple ["value", "least", "most"] a_is_tuple fd_is_tuple
  a_are_options : Addr
  fd_are_options : FuncData
  d_are_options : Df K mg "_are_options" s_are_options ["value"] a_are_options fd_are_options
  a_are_keys : Addr
  fd_are_keys : FuncData
  d_are_keys : Df K mg "_are_keys" s_are_keys ["fields", "value"] a_are_keys fd_are_keys
  a_is_key : Addr
  fd_is_key : FuncData
  d_is_key : Df K mg "_is_key" s_is_key ["fields", "value"] a_is_key fd_is_key
  a_is_test : Addr
  fd_is_test : FuncData
  d_is_test : Df K mg "_is_test" s_is_test ["fields", "value"] a_is_test fd_is_test
  a_is_step : Addr
  fd_is_step : FuncData
  d_is_step : Df K mg "_is_step" s_is_step ["fields", "value"] a_is_step fd_is_step
  a_options_of : Addr
  fd_options_of : FuncData
  d_options_of : Df K mg "_options_of" s_options_of ["fields", "name"] a_options_of fd_options_of
  a_rulebook_text : Addr
  fd_rulebook_text : FuncData
  d_rulebook_text : Df K mg "rulebook_text" s_rulebook_text ["fields", "ties", "kinds"] a_rulebook_text fd_rulebook_text
  a_kind_lines : Addr
  fd_kind_lines : FuncData
  d_kind_lines : Df K mg "_kind_lines" s_kind_lines ["kind"] a_kind_lines fd_kind_lines
  a_first_wrong : Addr
  fd_first_wrong : FuncData
  d_first_wrong : Df K mg "_first_wrong" s_first_wrong ["items", "fits"] a_first_wrong fd_first_wrong
  a_l_bag : Addr
  fd_l_bag : FuncData
  d_l_bag : Df K mg "_law_bag" s_l_bag ["_law_script"] a_l_bag fd_l_bag
  a_l_draw : Addr
  fd_l_draw : FuncData
  d_l_draw : Df K mg "_law_draw" s_l_draw ["_law_bag_here", "_law_many"] a_l_draw fd_l_draw
  a_l_any : Addr
  fd_l_any : FuncData
  d_l_any : Df K mg "_law_any" s_l_any ["_law_bag_here", "_law_row"] a_l_any fd_l_any
  a_l_mixed : Addr
  fd_l_mixed : FuncData
  d_l_mixed : Df K mg "_law_mixed" s_l_mixed ["_law_bag_here", "_law_row"] a_l_mixed fd_l_mixed
  a_l_like : Addr
  fd_l_like : FuncData
  d_l_like : Df K mg "_law_like" s_l_like ["_law_found", "_law_due"] a_l_like fd_l_like
  a_l_words : Addr
  fd_l_words : FuncData
  d_l_words : Df K mg "_law_words" s_l_words ["_law_bag_here", "_law_many"] a_l_words fd_l_words
  a_l_options : Addr
  fd_l_options : FuncData
  d_l_options : Df K mg "_law_options" s_l_options ["_law_bag_here", "_law_many"] a_l_options fd_l_options
  a_l_fields : Addr
  fd_l_fields : FuncData
  d_l_fields : Df K mg "_law_fields" s_l_fields ["_law_bag_here", "_law_room"] a_l_fields fd_l_fields
  a_l_case : Addr
  fd_l_case : FuncData
  d_l_case : Df K mg "_law_case" s_l_case ["_law_bag_here", "_law_fields_here"] a_l_case fd_l_case
  a_l_program : Addr
  fd_l_program : FuncData
  d_l_program : Df K mg "_law_program" s_l_program ["_law_bag_here", "_law_fields_here", "_law_most"] a_l_program fd_l_program
  a_l_value : Addr
  fd_l_value : FuncData
  d_l_value : Df K mg "_law_value" s_l_value ["_law_bag_here", "_law_fields_here"] a_l_value fd_l_value
  a_l_keys : Addr
  fd_l_keys : FuncData
  d_l_keys : Df K mg "_law_keys" s_l_keys ["_law_bag_here", "_law_fields_here"] a_l_keys fd_l_keys
  a_l_kinds : Addr
  fd_l_kinds : FuncData
  d_l_kinds : Df K mg "_law_kinds" s_l_kinds ["_law_bag_here", "_law_fields_here", "_law_most"] a_l_kinds fd_l_kinds
  a_l_book : Addr
  fd_l_book : FuncData
  d_l_book : Df K mg "_law_book" s_l_book ["_law_bag_here", "_law_room", "_law_most"] a_l_book fd_l_book
  a_l_made : Addr
  fd_l_made : FuncData
  d_l_made : Df K mg "_law_made" s_l_made ["_law_m"] a_l_made fd_l_made
  a_l_line : Addr
  fd_l_line : FuncData
  d_l_line : Df K mg "_law_line" s_l_line ["_law_case_here"] a_l_line fd_l_line
  a_l_lines_of : Addr
  fd_l_lines_of : FuncData
  d_l_lines_of : Df K mg "_law_lines_of" s_l_lines_of ["_law_m"] a_l_lines_of fd_l_lines_of
  b_all : mg "all" = none
  b_dict : mg "dict" = none
  b_isinstance : mg "isinstance" = none
  b_len : mg "len" = none
  b_list : mg "list" = none
  b_max : mg "max" = none
  b_min : mg "min" = none
  b_range : mg "range" = none
  b_sorted : mg "sorted" = none
  b_tuple : mg "tuple" = none
  b_int : mg "int" = none
  b_zip : mg "zip" = none
  b_bool : mg "bool" = none
  b_str : mg "str" = none
  b_set : mg "set" = none
  b_enumerate : mg "enumerate" = none
  b_repr : mg "repr" = none
  g_LETTERS : ∃ t, mg "LETTERS" = some (Value.str "abcdefghijklmnopqrstuvwxyz" t)
  g_LETTERS_AND_DIGITS : ∃ t, mg "LETTERS_AND_DIGITS" = some (Value.str "abcdefghijklmnopqrstuvwxyz0123456789" t)
  g_LONGEST : ∃ t, mg "LONGEST" = some (Value.int 8 t)
  a_SIGNS : Addr
  g_SIGNS : mg "SIGNS" = some (.ref a_SIGNS)
  k_SIGNS : ∀ H : Hp, SqT K H a_SIGNS [V.str "=", V.str "!", V.str "<", V.str ">"]
  g_NEXT : ∃ t, mg "NEXT" = some (Value.str "+" t)
  g_MOST_ITEMS : ∃ t, mg "MOST_ITEMS" = some (Value.int 6 t)
  g_LEAST_OPTIONS : ∃ t, mg "LEAST_OPTIONS" = some (Value.int 2 t)
  g_MOST_OPTIONS : ∃ t, mg "MOST_OPTIONS" = some (Value.int 6 t)
  g_MOST_FIELDS : ∃ t, mg "MOST_FIELDS" = some (Value.int 3 t)
  g_MOST_VALUES : ∃ t, mg "MOST_VALUES" = some (Value.int 24 t)
  g_MOST_CASES : ∃ t, mg "MOST_CASES" = some (Value.int 8 t)
  g_MOST_TIES : ∃ t, mg "MOST_TIES" = some (Value.int 4 t)
  g_MOST_KINDS : ∃ t, mg "MOST_KINDS" = some (Value.int 3 t)
  a_DIRECTIONS : Addr
  g_DIRECTIONS : mg "DIRECTIONS" = some (.ref a_DIRECTIONS)
  k_DIRECTIONS : ∀ H : Hp, SqT K H a_DIRECTIONS [V.str "+", V.str "-"]
section
variable {P : Program} {w : World} {K : PySem.W.Frag} {mg : Str → Option Value} {base : Heap}
theorem cut63 (ns : List Int) (h : ns.length ≤ 63) : cutV (ns.map V.int) none (some 63) = ns.map V.int := by
  unfold cutV
  rw [HT.sIx_none, show HT.sIx (ns.map V.int).length (ns.map V.int).length (some 63) = min 63 (ns.map V.int).length from HT.sIx_nat _ _ 63, List.length_map, Nat.min_eq_right h]
  show List.take (ns.length - 0) (List.drop 0 (ns.map V.int)) = _
  rw [List.drop_zero, Nat.sub_zero]
  exact List.take_of_length_le (by rw [List.length_map]; exact Nat.le_refl _)
theorem ok_bag (T : Top K mg) : FnOk P w K mg base CX0 1 T.a_l_bag T.fd_l_bag ["_law_script"] (spBag K) := by
  refine T.d_l_bag.F.ok sc_l_bag (fun vs H Q E h => ?_) (fun cdv A outer s H vs Q E hr h => ?_)
  · obtain ⟨a, ns, rfl, _⟩ := h
    rfl
  obtain ⟨a, ns, rfl, hS, h63, q⟩ := h
  refine ⟨_, (pss_cons (ps_set (i := 1) sc_l_bag.nd rfl (Or.inl rfl) (pe_op op_add pe_int (pe_op op_mul pe_int (pe_callB (call_len_seq_K (K := K) (by rfl)) (by rfl) T.b_len PySem.boot_len (pa_cons (pe_slice (sl_list_K (K := K) (by rfl)) (pv 0) po_none (po_some pe_int)) pa_nil)))))
    (pss_cons (ps_for PassesOwn.never rfl (pi_list_K (K := K) (by rfl) (pe_slice (sl_list_K (K := K) (by rfl)) (pv 0) po_none (po_some pe_int))) (pg_name (i := 2) sc_l_bag.nd rfl (Or.inl rfl))
      (pss_one (ps_set (i := 1) sc_l_bag.nd rfl (Or.inl rfl) (pe_op op_mod (pe_callTy call_int1 (by rfl) T.b_int (by decide +kernel) (pa_cons (pe_op op_add (pe_op op_add (pe_op op_mul (pv 1) pe_int) (pe_op op_mod (pe_callTy call_int1 (by rfl) T.b_int (by decide +kernel) (pa_cons (pv 2) pa_nil)) pe_int)) pe_int) pa_nil)) pe_int))))
    (pss_one (ps_ret (pe_lst (pa_cons (pe_callTy (call_list_of_K (K := K) (by rfl)) (by rfl) T.b_list (by decide +kernel) (pa_cons (pe_slice (sl_list_K (K := K) (by rfl)) (pv 0) po_none (po_some pe_int)) pa_nil)) (pa_cons pe_int (pa_cons pe_int (pa_cons (pv 1) pa_nil))))))))), ?_⟩
  refine ⟨_, rfl, _, rfl, _, _, rfl, hS, fun p1 n1 => ?_⟩
  rw [cut63 ns h63]
  refine ⟨_, _, rfl, .inl (SqL.of upd_same), _, _, rfl, rfl, .inl ⟨by decide, by decide⟩, _, _, rfl, rfl, ?_⟩
  have e1 : Same H (upd H p1 (.lst (ns.map V.int))) := same_new n1
  refine ⟨_, rfl, _, rfl, _, _, rfl, e1.seq hS, fun p2 n2 => ?_⟩
  rw [cut63 ns h63]
  have e2 := e1.trans (same_new (o := .lst (ns.map V.int)) n2)
  refine ⟨p2, rfl, ⟨_, SqL.of upd_same⟩, for_list (K := K) (a := p2) (xs := ns.map V.int) (fun i σ H' => ∃ (z : Int) (v : Option V), σ = [some (.ref a), some (.int z), v] ∧ (0 < i → 0 ≤ z ∧ z < 2147483647) ∧ (z < 100000 ∨ 0 < i) ∧ 0 ≤ z ∧ H' = (upd (upd H p1 (.lst (ns.map V.int))) p2 (.lst (ns.map V.int))))
    ⟨_, none, rfl, fun z => absurd z (Nat.lt_irrefl _), .inl ?_, ?_, rfl⟩ (fun i σ H' _ ⟨_, _, _, _, _, _, e⟩ => by rw [e]; exact SqL.of upd_same) ?_ ?_⟩
  · rw [List.length_map]
    omega
  · rw [List.length_map]
    omega
  · rintro i y σ H' hi ⟨z, v, rfl, z1, z2, z0, rfl⟩
    obtain ⟨u, _, rfl⟩ := get_map hi
    refine ⟨_, rfl, _, _, rfl, rfl, .inr ⟨by decide, by decide⟩, _, rfl, .inl ⟨_, rfl, _, _, rfl, rfl, p31, _, _, rfl, rfl, _, _, rfl, rfl, .inl ⟨_, rfl, _, _, rfl, rfl, p31, ?_⟩⟩⟩
    refine ⟨_, _, rfl, fun _ => ⟨?_, ?_⟩, .inr (Nat.succ_pos i), ?_, rfl⟩ <;> omega
  · rintro σ H' ⟨z, v, rfl, z1, z2, z0, rfl⟩
    refine ⟨_, rfl, _, rfl, _, _, rfl, e2.seq hS, fun p3 n3 => ?_⟩
    rw [cut63 ns h63]
    refine ⟨_, _, rfl, .inl (SqL.of upd_same), fun l nl => ?_⟩
    have e3 := e2.trans (same_new (o := .lst (ns.map V.int)) n3)
    have e4 := e3.trans (same_new (o := .lst (ns.map V.int)) nl)
    refine ⟨_, rfl, (by show 4 ≤ sizeLine; decide), fun b nb => ?_⟩
    have e5 := e4.trans (same_new (o := .lst [.ref l, .int 0, .int 0, .int z]) nb)
    refine q b l _ (e4.free nb) (e3.free nl) e5 ⟨ns, 0, 0, z, upd_same, ?_, h63, by omega, by omega, by omega, z0, by omega⟩
    rw [upd_ne (ne_of_none upd_same nb), upd_same]
theorem ok_draw (T : Top K mg) : FnOk P w K mg base CX0 1 T.a_l_draw T.fd_l_draw ["_law_bag_here", "_law_many"] spDraw := by
  refine T.d_l_draw.F.ok sc_l_draw (fun vs H Q E h => ?_) (fun cdv A outer s H vs Q E hr h => ?_)
  · obtain ⟨b, l, G, n, rfl, _⟩ := h
    rfl
  obtain ⟨b, l, G, n, rfl, n0, n1, wd, q⟩ := h
  refine ⟨_, (Evl.pss_cut (ps_if (PW.pt (pw_and (pt_cmpR op_eq (pe_ix (ix_list_K (K := K) (by rfl)) (pv 0) pe_int (fun _ _ => rfl)) pe_int (nomark _)) (pw_and1 (pt_cmpR op_lt (pe_ix (ix_list_K (K := K) (by rfl)) (pv 0) pe_int (fun _ _ => rfl)) (pe_callB (call_len_seq_K (K := K) (by rfl)) (by rfl) T.b_len PySem.boot_len (pa_cons (pe_ix (ix_list_K (K := K) (by rfl)) (pv 0) pe_int (fun _ _ => rfl)) pa_nil)) (nomark _))))) (pss_cons (ps_set (i := 2) sc_l_draw.nd rfl (Or.inl rfl) (pe_ix (ix_list_K (K := K) (by rfl)) (pe_ix (ix_list_K (K := K) (by rfl)) (pv 0) pe_int (fun _ _ => rfl)) (pe_ix (ix_list_K (K := K) (by rfl)) (pv 0) pe_int (fun _ _ => rfl)) (fun _ _ => rfl)))
      (pss_cons (ps_asg (pe_op op_add (pe_ix (ix_list_K (K := K) (by rfl)) (pv 0) pe_int (fun _ _ => rfl)) pe_int) (pg_sub (pv 0) pe_int set_list))
      (pss_one (ps_if (pt_cmpR op_ge (pv 2) (pe_op op_pow pe_int pe_int) (nomark _)) (pss_one (ps_asg (pv 2) (pg_sub (pv 0) pe_int set_list))) (pss_one (ps_asg (pe_op op_mod (pe_callTy call_int1 (by rfl) T.b_int (by decide +kernel) (pa_cons (pe_op op_add (pe_op op_add (pe_op op_mul (pe_ix (ix_list_K (K := K) (by rfl)) (pv 0) pe_int (fun _ _ => rfl)) pe_int) (pe_op op_mul (pe_op op_mod (pe_callTy call_int1 (by rfl) T.b_int (by decide +kernel) (pa_cons (pv 2) pa_nil)) pe_int) pe_int)) (pe_ix (ix_list_K (K := K) (by rfl)) (pv 0) pe_int (fun _ _ => rfl))) pa_nil)) pe_int) (pg_sub (pv 0) pe_int set_list))))))) pss_nil)
    (pss_cons (ps_if (pt_cmpR op_gt (pe_ix (ix_list_K (K := K) (by rfl)) (pv 0) pe_int (fun _ _ => rfl)) pe_int (nomark _)) (pss_cons (ps_set (i := 3) sc_l_draw.nd rfl (Or.inl rfl) (pe_op op_mod (pe_callTy call_int1 (by rfl) T.b_int (by decide +kernel) (pa_cons (pe_ix (ix_list_K (K := K) (by rfl)) (pv 0) pe_int (fun _ _ => rfl)) pa_nil)) (pv 1)))
      (pss_cons (ps_asg (pe_op op_fdiv (pe_ix (ix_list_K (K := K) (by rfl)) (pv 0) pe_int (fun _ _ => rfl)) (pv 1)) (pg_sub (pv 0) pe_int set_list))
      (pss_one (ps_ret (pv 3))))) pss_nil)
    (pss_cons (ps_set (i := 4) sc_l_draw.nd rfl (Or.inl rfl) (pe_ix (ix_list_K (K := K) (by rfl)) (pv 0) pe_int (fun _ _ => rfl)))
    (pss_cons (ps_asg (pe_op op_mod (pe_callTy call_int1 (by rfl) T.b_int (by decide +kernel) (pa_cons (pe_op op_add (pe_op op_add (pe_op op_mul (pv 4) (pv 4)) (pe_op op_mul (pv 4) pe_int)) pe_int) pa_nil)) pe_int) (pg_sub (pv 0) pe_int set_list))
    (pss_one (ps_ret (pe_op op_mod (pe_callTy call_int1 (by rfl) T.b_int (by decide +kernel) (pa_cons (pe_op op_add (pe_op op_fdiv (pe_ix (ix_list_K (K := K) (by rfl)) (pv 0) pe_int (fun _ _ => rfl)) pe_int) (pe_op op_mul (pe_op op_mod (pe_callTy call_int1 (by rfl) T.b_int (by decide +kernel) (pa_cons (pe_ix (ix_list_K (K := K) (by rfl)) (pv 0) pe_int (fun _ _ => rfl)) pa_nil)) pe_int) pe_int)) pa_nil)) (pv 1)))))))), ?_⟩
  obtain ⟨ns, i, c, s, hb, hl, h63, i0, i1, c0, s0, s1⟩ := id wd.bag
  have lb : l ≠ b := ne_of hl hb (by intro z; cases ns with | nil => cases z | cons x r => cases r with | nil => cases z | cons => cases z)
  have B := SqL.of (K := K) hb
  refine ⟨fun σ' H' => ∃ v, σ' = [some (.ref b), some (.int n), v, none, none] ∧ Wd b l G H', ?_, ?_⟩
  · refine ⟨_, rfl, _, _, _, _, rfl, rfl, B, rfl, rfl, _, rfl, ?_⟩
    refine ite2 (fun _ => ?_) (fun _ => ?_)
    · refine ⟨_, rfl, _, _, _, _, rfl, rfl, B, rfl, _, rfl, _, _, _, _, rfl, rfl, B, rfl, _, _, rfl, .inl (SqL.of hl), _, _, rfl, rfl, _, rfl, ?_⟩
      refine ite2 (fun c1 => ?_) (fun _ => ?_)
      · have c2 := of_decide_eq_true c1
        rw [List.length_map] at c2
        have c3 : i.toNat < ns.length := by omega
        refine ⟨_, rfl, _, _, _, _, rfl, rfl, B, rfl, _, rfl, _, _, _, _, rfl, rfl, B, rfl, _, _, _, .int ns[i.toNat], rfl, rfl, SqL.of hl, at_nn i0 (by rw [List.getElem?_map, List.getElem?_eq_getElem c3]; rfl), ?_⟩
        refine ⟨_, rfl, _, _, _, _, rfl, rfl, B, rfl, _, _, rfl, rfl, _, rfl, _, _, _, 1, rfl, rfl, hb, rfl, ?_⟩
        refine ⟨_, rfl, _, _, rfl, rfl, ⟨by decide, by decide, by decide⟩, _, _, rfl, rfl, _, rfl, ?_⟩
        refine ite2 (fun g1 => ?_) (fun _ => ?_)
        · have g2 := of_decide_eq_true g1
          refine ⟨_, rfl, _, rfl, _, _, _, 2, rfl, rfl, upd_same, rfl, ?_⟩
          refine ⟨_, rfl, ?_⟩
          rw [upd_upd]
          exact wd.bagged ⟨ns, i + 1, _, s, upd_same, by rw [upd_ne lb]; exact hl, h63, by omega, by omega, Int.le_trans (by decide) g2, s0, s1⟩
        · refine ⟨_, rfl, _, _, _, _, rfl, rfl, SqL.of upd_same, rfl, _, _, rfl, rfl, .inr ⟨by decide, by decide⟩, _, rfl, .inl ⟨_, rfl, _, _, rfl, rfl, p31, _, _, rfl, rfl, .inr ⟨by decide, by decide⟩, _, _, rfl, rfl, _, rfl, _, _, _, _, rfl, rfl, SqL.of upd_same, rfl, _, _, rfl, rfl, .inl ⟨_, rfl, _, _, rfl, rfl, p31, ?_⟩⟩⟩
          refine ⟨_, rfl, _, _, _, 3, rfl, rfl, upd_same, rfl, ?_⟩
          refine ⟨_, rfl, ?_⟩
          rw [upd_upd]
          exact wd.bagged ⟨ns, i + 1, c, _, upd_same, by rw [upd_ne lb]; exact hl, h63, by omega, by omega, c0, Int.emod_nonneg _ (by decide), Int.emod_lt_of_pos _ (by decide)⟩
      · exact ⟨_, rfl, wd⟩
    · exact ⟨_, rfl, wd⟩
  · rintro σ' H' ⟨v, rfl, wd⟩
    obtain ⟨ns, i, c, s, hb, hl, h63, i0, i1, c0, s0, s1⟩ := id wd.bag
    have lb : l ≠ b := ne_of hl hb (by intro z; cases ns with | nil => cases z | cons x r => cases r with | nil => cases z | cons => cases z)
    have B := SqL.of (K := K) hb
    refine ⟨_, rfl, _, _, _, _, rfl, rfl, B, rfl, _, _, rfl, rfl, _, rfl, ?_⟩
    refine ite2 (fun g1 => ?_) (fun _ => ?_)
    · refine ⟨_, rfl, _, _, _, _, rfl, rfl, B, rfl, .inl ⟨_, rfl, _, rfl, _, _, rfl, rfl, n0, ?_⟩⟩
      refine ⟨_, rfl, _, _, _, _, rfl, rfl, B, rfl, _, rfl, _, _, rfl, rfl, ⟨n0, n1⟩, _, rfl, _, _, _, 2, rfl, rfl, hb, rfl, ?_⟩
      refine ⟨_, rfl, ?_⟩
      exact q _ _ (Int.emod_nonneg _ (by omega)) (Int.emod_lt_of_pos _ n0) (wd.bagged ⟨ns, i, c / n, s, upd_same, by rw [upd_ne lb]; exact hl, h63, i0, i1, Int.ediv_nonneg c0 (by omega), s0, s1⟩)
    · refine ⟨_, rfl, _, _, _, _, rfl, rfl, B, rfl, ?_⟩
      refine ⟨_, rfl, _, rfl, _, _, rfl, rfl, .inl ⟨by omega, by omega⟩, _, rfl, _, _, rfl, rfl, .inr ⟨by decide, by decide⟩, _, _, rfl, rfl, _, _, rfl, rfl, .inl ⟨_, rfl, _, _, rfl, rfl, p31, ?_⟩⟩
      refine ⟨_, rfl, _, _, _, 3, rfl, rfl, hb, rfl, ?_⟩
      refine ⟨_, rfl, _, _, _, _, rfl, rfl, SqL.of upd_same, rfl, _, _, rfl, rfl, ⟨by decide, by decide⟩, _, rfl, _, _, _, _, rfl, rfl, SqL.of upd_same, rfl, .inl ⟨_, rfl, _, _, rfl, rfl, p8117, _, _, rfl, rfl, .inr ⟨by decide, by decide⟩, _, _, rfl, rfl, .inl ⟨_, rfl, _, rfl, _, _, rfl, rfl, n0, ?_⟩⟩⟩
      exact q _ _ (Int.emod_nonneg _ (by omega)) (Int.emod_lt_of_pos _ n0) (wd.bagged ⟨ns, i, c, _, upd_same, by rw [upd_ne lb]; exact hl, h63, i0, i1, c0, Int.emod_nonneg _ (by decide), Int.emod_lt_of_pos _ (by decide)⟩)
end
end Bh

set_option Elab.async false
set_option linter.all false
set_option maxRecDepth 100000
set_option maxHeartbeats 1000000
namespace Bh
open PySem PySem.Spec PyProof.Rows L2
def spWord : Sp := fun vs H Q _ => ∃ (w z : Str), vs = [.str w, .str z] ∧ w.length ≤ 100000 ∧ ∀ H', Same H H' → Q (.bl (wordB w z)) H'
def spNm (z : Str) : Sp := fun vs H Q _ => ∃ (w : Str), vs = [.str w] ∧ w.length ≤ 100000 ∧ ∀ H', Same H H' → Q (.bl (wordB w z)) H'
section
variable {P : Program} {w : World} {K : PySem.W.Frag} {mg : Str → Option Value} {base : Heap}
theorem ok_word (T : Top K mg) : FnOk P w K mg base CX0 1 T.a_is_word T.fd_is_word ["value", "characters"] spWord := by
  refine T.d_is_word.F.ok sc_is_word (fun vs H Q E h => ?_) (fun cdv A outer s H vs Q E hr h => ?_)
  · obtain ⟨v, z, rfl, _⟩ := h
    rfl
  obtain ⟨v, z, rfl, hl, q⟩ := h
  refine ⟨_, (pss_cons (ps_if (pt_not (pt_val (pe_callB (call_isi_K (K := K) (by rfl)) (by rfl) T.b_isinstance (by decide +kernel) (pa_cons (pv 0) (pa_cons (pe_tyN "str" (by rfl) T.b_str (by decide +kernel)) pa_nil))))) (pss_one (ps_ret pe_bl)) pss_nil)
    (pss_one (ps_ret (pe_and (pe_chain op_le op_le pe_int (pe_callB call_len_str (by rfl) T.b_len PySem.boot_len (pa_cons (pv 0) pa_nil)) (pe_gI rfl T.g_LONGEST)) (pe_one (pe_callB (cr_all_K (K := K) (by rfl) rfl) (by rfl) T.b_all (by decide +kernel) (pa_cons (pe_lc (own := [("character", 2)]) rfl sc_is_word.nd (pi_str (pv 0)) (blkOk_by (own := [("character", 2)]) (N := ["value", "characters", "character"]) (sc := defScope s_is_word) (by decide +kernel)) (fun _ _ _ _ _ => by exact (pg_name (i := 2) sc_is_word.nd rfl (Or.inl rfl))) (fun _ _ _ _ _ => by exact pts_nil) (fun _ _ _ _ _ => by exact (pe_cmpR op_in_sign (pv 2) (pv 1) (by rfl)))) pa_nil))))))), ?_⟩
  refine ⟨_, rfl, _, _, _, _, true, rfl, .ty _, .base (.str v), kit_ty (by decide +kernel), _, rfl, ?_⟩
  refine iteF ?_
  refine ⟨_, rfl, v, rfl, le_line hl, _, _, rfl, rfl, _, rfl, ?_⟩
  have no : ¬ (1 ≤ v.length ∧ v.length ≤ 8) → Q (.bl false) H := fun z => by
    have k := q H (Same.refl _)
    unfold wordB at k
    rw [decide_eq_false z] at k
    exact k
  refine ite3 (fun h1 => ?_) (fun h1 => ⟨false, rfl, iteF (no (by omega))⟩)
  refine ⟨_, _, rfl, rfl, _, rfl, ite3 (fun h2 => ?_) (fun h2 => no (by omega))⟩
  refine ⟨_, rfl, v, rfl, fun D nD => ?_⟩
  refine lc_it walk_str (fun i H' => Same H H' ∧ H' D = some (.lst ((((TL.tl v).map fun c => decide (c ∈ TL.tl z)).take i).map V.bl))) ⟨same_new nD, upd_same⟩ (fun _ _ _ _ => True.intro) ?_ ?_
  · rintro i y H' H'' hi ⟨s1, hDl⟩ ⟨rfl, c, ec, rfl⟩
    have ec' : (TL.tl v)[i]? = some c := by rw [← ec]; exact Array.getElem?_toList
    refine ⟨rfl, _, rfl, _, rfl, c, z, rfl, rfl, _, hDl, ?_, same_mut s1 nD, ?_⟩
    · rw [List.length_map, List.length_take]
      have : i < v.length := hi
      exact lt_line (by omega)
    · rw [upd_same, List.take_add_one, List.getElem?_map, ec', List.map_append]
      rfl
  · rintro H' ⟨s1, hDl⟩
    rw [List.take_of_length_le (by rw [List.length_map, ← TL.len_tl]; exact Nat.le_refl _)] at hDl
    refine ⟨D, _, rfl, SqL.of hDl, ?_⟩
    have k := q _ s1
    unfold wordB at k
    rw [decide_eq_true (show 1 ≤ v.length ∧ v.length ≤ 8 by omega)] at k
    rw [List.all_map]
    exact k
theorem ok_name (T : Top K mg) : FnOk P w K mg base CX0 2 T.a_is_name T.fd_is_name ["value"] (spNm letters) := by
  have G_is_word := ok_word (P := P) (w := w) (base := base) T
  refine T.d_is_name.F.ok sc_is_name (fun vs H Q E h => ?_) (fun cdv A outer s H vs Q E hr h => ?_)
  · obtain ⟨v, rfl, _⟩ := h
    rfl
  obtain ⟨v, rfl, hl, q⟩ := h
  refine ⟨_, (pss_one (ps_ret (pe_call G_is_word (hr.mono (by decide)) (by rfl) T.d_is_word.g T.d_is_word.kp T.d_is_word.b .nil pass0 (pa_cons (pv 0) (pa_cons (pe_gS rfl T.g_LETTERS) pa_nil))))), ?_⟩
  exact ⟨_, rfl, v, letters, rfl, hl, q⟩
theorem ok_option (T : Top K mg) : FnOk P w K mg base CX0 2 T.a_is_option T.fd_is_option ["value"] (spNm lettersD) := by
  have G_is_word := ok_word (P := P) (w := w) (base := base) T
  refine T.d_is_option.F.ok sc_is_option (fun vs H Q E h => ?_) (fun cdv A outer s H vs Q E hr h => ?_)
  · obtain ⟨v, rfl, _⟩ := h
    rfl
  obtain ⟨v, rfl, hl, q⟩ := h
  refine ⟨_, (pss_one (ps_ret (pe_call G_is_word (hr.mono (by decide)) (by rfl) T.d_is_word.g T.d_is_word.kp T.d_is_word.b .nil pass0 (pa_cons (pv 0) (pa_cons (pe_gS rfl T.g_LETTERS_AND_DIGITS) pa_nil))))), ?_⟩
  exact ⟨_, rfl, v, lettersD, rfl, hl, q⟩
theorem paired_get {α β : Type} {F : α → β → Prop} : ∀ {l : List α} {m : List β} {i : Nat} {x : α}, Paired F l m → l[i]? = some x → ∃ y, m[i]? = some y ∧ F x y
  | _, _, _, _, .nil, e => by cases e
  | _, _, 0, _, .cons h _, e => by
    cases e
    exact ⟨_, rfl, h⟩
  | _, _, i + 1, _, .cons _ t, e => paired_get (i := i) t e
def spTup (K : PySem.W.Frag) : Sp := fun vs H Q _ => ∃ (a : Addr) (xs : List V) (l m : Int), vs = [.ref a, .int l, .int m] ∧ SqT K H a xs ∧ l ≤ xs.length ∧ (xs.length : Int) ≤ m ∧ Q (.bl true) H
theorem ok_tup (T : Top K mg) : FnOk P w K mg base CX0 1 T.a_is_tuple T.fd_is_tuple ["value", "least", "most"] (spTup K) := by
  refine T.d_is_tuple.F.ok sc_is_tuple (fun vs H Q E h => ?_) (fun cdv A outer s H vs Q E hr h => ?_)
  · obtain ⟨a, xs, l, m, rfl, _⟩ := h
    rfl
  obtain ⟨a, xs, l, m, rfl, hx, h1, h2, q⟩ := h
  refine ⟨_, (pss_one (ps_ret (pe_and (pe_callB (call_isi_K (K := K) (by rfl)) (by rfl) T.b_isinstance (by decide +kernel) (pa_cons (pv 0) (pa_cons (pe_tyN "tuple" (by rfl) T.b_tuple (by decide +kernel)) pa_nil))) (pe_one (pe_chain op_le op_le (pv 1) (pe_callB (call_len_seq_K (K := K) (by rfl)) (by rfl) T.b_len PySem.boot_len (pa_cons (pv 0) pa_nil)) (pv 2)))))), ?_⟩
  refine ⟨_, rfl, _, _, _, _, true, rfl, .ty _, tyT hx, kit_ty (by decide +kernel), _, rfl, iteT ?_⟩
  refine ⟨_, rfl, _, rfl, a, xs, rfl, .inr hx, _, _, rfl, rfl, _, rfl, iteY h1 ?_⟩
  refine ⟨_, rfl, _, _, rfl, rfl, ?_⟩
  show Q (.bl (decide ((xs.length : Int) ≤ m))) H
  rw [decide_eq_true h2]
  exact q
def spNamesOf (K : PySem.W.Frag) : Sp := fun vs H Q _ => ∃ (v : V) (ns : List Str), vs = [v] ∧ HdS K H v ns ∧ ns.length ≤ 1000 ∧ ∀ (p : Addr) (H' : Hp), H p = none → Same H H' → H' p = some (.lst (ns.map V.str)) → Q (.ref p) H'
theorem ok_namesof (T : Top K mg) : FnOk P w K mg base CX0 1 T.a_names_of T.fd_names_of ["items"] (spNamesOf K) := by
  refine T.d_names_of.F.ok sc_names_of (fun vs H Q E h => ?_) (fun cdv A outer s H vs Q E hr h => ?_)
  · obtain ⟨v, ns, rfl, _⟩ := h
    rfl
  obtain ⟨v, ns, rfl, ⟨a, xs, rfl, hx, hp⟩, hl, q⟩ := h
  refine ⟨_, (pss_one (ps_ret (pe_lc (own := [("item", 1)]) rfl sc_names_of.nd (pi_seq_K (K := K) (by rfl) (pv 0)) (blkOk_by (own := [("item", 1)]) (N := ["items", "item"]) (sc := defScope s_names_of) (by decide +kernel)) (fun _ _ _ _ _ => by exact (pg_name (i := 1) sc_names_of.nd rfl (Or.inl rfl))) (fun _ _ _ _ _ => by exact pts_nil) (fun _ _ _ _ _ => by exact (pe_ix (ix_tup_K (K := K) (by rfl)) (pv 1) pe_int (fun _ _ => rfl)))))), ?_⟩
  have lx : xs.length = ns.length := hp.length
  refine iSeqV rfl hx fun J G wk hG D nD => ?_
  refine lc_it wk (fun i H' => Same H H' ∧ H' D = some (.lst ((ns.take i).map V.str))) ⟨same_new nD, upd_same⟩ (fun i H' _ p => hG H' p.1) ?_ ?_
  · rintro i y H' H'' hi ⟨s1, hDl⟩ ⟨rfl, ey⟩
    obtain ⟨n, en, t, r, rfl, ht⟩ := paired_get hp ey
    refine ⟨rfl, _, rfl, t, _, (0 : Int), .str n, rfl, rfl, Same.tup s1 ht, at_nn (by decide) rfl, _, hDl, ?_, same_mut s1 nD, ?_⟩
    · rw [List.length_map, List.length_take]
      exact lt_line (by omega)
    · rw [upd_same, List.take_add_one, en, List.map_append]
      rfl
  · rintro H' ⟨s1, hDl⟩
    rw [lx, List.take_of_length_le (Nat.le_refl _)] at hDl
    exact q _ _ nD s1 hDl
def spNameFits (K : PySem.W.Frag) : Sp := fun vs H Q _ => ∃ (v : V) (ns : List Str) (n : Str) (m : Int), vs = [v, .str n, .int m] ∧ HdS K H v ns ∧ ns.length ≤ 1000 ∧ (ns.length : Int) < m ∧ IsNm n ∧ n ∉ ns ∧ ∀ H', Same H H' → Q (.bl true) H'
theorem ok_namefits (T : Top K mg) : FnOk P w K mg base CX0 3 T.a_name_fits T.fd_name_fits ["before", "name", "most"] (spNameFits K) := by
  have G_is_name := ok_name (P := P) (w := w) (base := base) T
  have G_names_of := ok_namesof (P := P) (w := w) (base := base) T
  refine T.d_name_fits.F.ok sc_name_fits (fun vs H Q E h => ?_) (fun cdv A outer s H vs Q E hr h => ?_)
  · obtain ⟨v, ns, n, m, rfl, _⟩ := h
    rfl
  obtain ⟨v, ns, n, m, rfl, hv, hl, hm, hn, hno, q⟩ := h
  refine ⟨_, (pss_one (ps_ret (pe_and (pe_cmpR op_lt (pe_callB (call_len_seq_K (K := K) (by rfl)) (by rfl) T.b_len PySem.boot_len (pa_cons (pv 0) pa_nil)) (pv 2) (nomark _)) (pe_and (pe_call G_is_name (hr.mono (by decide)) (by rfl) T.d_is_name.g T.d_is_name.kp T.d_is_name.b .nil pass0 (pa_cons (pv 1) pa_nil)) (pe_one (pe_cmpR (op_notIn_seq_K (K := K) (by rfl)) (pv 1) (pe_call G_names_of (hr.mono (by decide)) (by rfl) T.d_names_of.g T.d_names_of.kp T.d_names_of.b .nil pass0 (pa_cons (pv 0) pa_nil)) (by rfl))))))), ?_⟩
  obtain ⟨a, xs, rfl, hx, hp⟩ := id hv
  have lx : xs.length = ns.length := hp.length
  refine ⟨_, rfl, a, xs, rfl, hx, _, rfl, _, _, rfl, rfl, _, rfl, iteY (by rw [lx]; exact hm) ?_⟩
  refine ⟨_, rfl, _, rfl, Nat.le_trans hn.hi (by decide), fun H1 s1 => ?_⟩
  rw [hn.word]
  refine ⟨_, rfl, iteT ?_⟩
  refine ⟨_, rfl, _, rfl, _, ns, rfl, hv.mono s1, hl, fun p H2 _ s2 hp2 => ?_⟩
  refine ⟨p, _, rfl, .inl (SqL.of hp2), rfl, flat_strs _, ?_⟩
  show Q (.bl (!inV (.str n) (ns.map V.str))) H2
  rw [in_strs, decide_eq_false hno]
  exact q _ (s1.trans s2)
def spOptsOf (K : PySem.W.Frag) : Sp := fun vs H Q _ => ∃ (v : V) (fs : List Fld) (x : Str), vs = [v, .str x] ∧ DpS K H v (fs.map dF) ∧ (fs.map (·.1)).Nodup ∧ x ∈ fs.map (·.1) ∧ ∀ o, SqT K H o ((optsOf fs x).map V.str) → Q (.ref o) H
theorem ok_optsof (T : Top K mg) : FnOk P w K mg base CX0 1 T.a_options_of T.fd_options_of ["fields", "name"] (spOptsOf K) := by
  refine T.d_options_of.F.ok sc_options_of (fun vs H Q E h => ?_) (fun cdv A outer s H vs Q E hr h => ?_)
  · obtain ⟨v, fs, x, rfl, _⟩ := h
    rfl
  obtain ⟨v, fs, x, rfl, ⟨a, xs, rfl, hS, hD⟩, nd, hx, q⟩ := h
  refine ⟨_, (pss_cons (ps_for PassesOwn.never rfl (pi_seq_K (K := K) (by rfl) (pv 0)) (pg_tup_K (K := K) (by rfl) (n := 2) (by rfl) (pgs_cons (pg_name (i := 2) sc_options_of.nd rfl (Or.inl rfl)) (pgs_cons (pg_name (i := 3) sc_options_of.nd rfl (Or.inl rfl)) pgs_nil)))
      (pss_one (ps_if (pt_cmpR op_eq (pv 2) (pv 1) (nomark _)) (pss_one (ps_ret (pv 3))) pss_nil)))
    (pss_one (ps_ret (pe_tup pa_nil)))), ?_⟩
  have lx : xs.length = fs.length := by rw [DpAll.length hD, List.length_map]
  refine iSeqV rfl hS fun J G wk hG => for_it wk (fun i σ H' => ∃ k o, σ = [some (.ref a), some (.str x), k, o] ∧ H' = H ∧ ∀ (j : Nat) (f : Fld), j < i → fs[j]? = some f → f.1 ≠ x)
    ⟨none, none, rfl, rfl, fun j f h => absurd h (Nat.not_lt_zero j)⟩ (fun i σ H' _ ⟨_, _, _, e, _⟩ => by rw [e]; exact hG _ (Same.refl _)) ?_ ?_
  · rintro i y σ H' H'' hi ⟨k, o, rfl, rfl, hno⟩ ⟨rfl, ey⟩
    obtain ⟨d, e1, e2⟩ := DpAll.get hD ey
    rw [List.getElem?_map] at e1
    cases ef : fs[i]? with
    | none =>
      rw [ef] at e1
      cases e1
    | some f =>
      rw [ef] at e1
      cases e1
      obtain ⟨t, o, rfl, k1, k2⟩ := dp_dF e2
      refine ⟨t, _, rfl, k1, rfl, _, _, rfl, _, _, rfl, rfl, ?_⟩
      refine ⟨_, rfl, _, rfl, rfl, _, rfl, iteB (fun z => ?_) (fun z => ?_)⟩
      · have z1 : f.1 = x := by
          have z2 := of_decide_eq_true z
          cases z2
          rfl
        refine ⟨_, rfl, q o ?_⟩
        rw [← z1, opts_of nd (List.mem_of_getElem? ef)]
        exact k2
      · refine ⟨_, _, rfl, rfl, fun j g hj hg => ?_⟩
        by_cases hji : j = i
        · rw [hji, ef] at hg
          cases hg
          intro z1
          rw [z1] at z
          simp at z
        · exact hno j g (by omega) hg
  · rintro σ H' ⟨k, o, rfl, rfl, hno⟩
    obtain ⟨f, hf, rfl⟩ := List.mem_map.mp hx
    obtain ⟨j, hj⟩ := List.getElem?_of_mem hf
    have lj := (List.getElem?_eq_some_iff.mp hj).1
    exact absurd rfl (hno j f (by rw [lx]; exact lj) hj)
def spIsTest (K : PySem.W.Frag) : Sp := fun vs H Q _ => ∃ (v t : V) (fs : List Fld) (c : Tst), vs = [v, t] ∧ DpS K H v (fs.map dF) ∧ (fs.map (·.1)).Nodup ∧ Dp K H t (dT c) ∧ FitT fs c ∧ c.2.1 ∈ signs ∧ ∀ H', Same H H' → Q (.bl true) H'
theorem ok_istest (T : Top K mg) : FnOk P w K mg base CX0 2 T.a_is_test T.fd_is_test ["fields", "value"] (spIsTest K) := by
  have G_is_tuple := ok_tup (P := P) (w := w) (base := base) T
  have G_options_of := ok_optsof (P := P) (w := w) (base := base) T
  refine T.d_is_test.F.ok sc_is_test (fun vs H Q E h => ?_) (fun cdv A outer s H vs Q E hr h => ?_)
  · obtain ⟨v, t, fs, c, rfl, _⟩ := h
    rfl
  obtain ⟨v, t, fs, c, rfl, hv, nd, ht, hf, hsg, q⟩ := h
  obtain ⟨a, xs, rfl, h1, h2⟩ := dp_tup ht
  obtain ⟨x1, r1, rfl, e1, h2⟩ := dpa_cons h2
  obtain ⟨x2, r2, rfl, e2, h2⟩ := dpa_cons h2
  obtain ⟨x3, r3, rfl, e3, h2⟩ := dpa_cons h2
  obtain rfl := dpa_nil h2
  rw [dp_str e1, dp_str e2, dp_str e3] at h1
  refine ⟨_, (pss_one (ps_ret (pe_and (pe_call G_is_tuple (hr.mono (by decide)) (by rfl) T.d_is_tuple.g T.d_is_tuple.kp T.d_is_tuple.b .nil pass0 (pa_cons (pv 1) (pa_cons pe_int (pa_cons pe_int pa_nil)))) (pe_and (pe_cmpR (op_in_seq_K (K := K) (by rfl)) (pe_ix (ix_tup_K (K := K) (by rfl)) (pv 1) pe_int (fun _ _ => rfl)) (pe_gR rfl T.g_SIGNS) (by rfl)) (pe_one (pe_cmpR (op_in_seq_K (K := K) (by rfl)) (pe_ix (ix_tup_K (K := K) (by rfl)) (pv 1) pe_int (fun _ _ => rfl)) (pe_call G_options_of (hr.mono (by decide)) (by rfl) T.d_options_of.g T.d_options_of.kp T.d_options_of.b .nil pass0 (pa_cons (pv 0) (pa_cons (pe_ix (ix_tup_K (K := K) (by rfl)) (pv 1) pe_int (fun _ _ => rfl)) pa_nil))) (by rfl))))))), ?_⟩
  refine ⟨_, rfl, a, _, 3, 3, rfl, h1, (by show (3 : Int) ≤ 3; decide), (by show (3 : Int) ≤ 3; decide), _, rfl, iteT ?_⟩
  refine ⟨_, rfl, a, _, (1 : Int), .str c.2.1, rfl, rfl, h1, at_nn (by decide) rfl, T.a_SIGNS, signs.map V.str, rfl, .inr (T.k_SIGNS H), rfl, flat_strs _, inV (.str c.2.1) (signs.map V.str), rfl, ?_⟩
  rw [in_strs, decide_eq_true hsg]
  refine iteT ?_
  refine ⟨_, rfl, a, _, (2 : Int), .str c.2.2, rfl, rfl, h1, at_nn (by decide) rfl, _, rfl, _, rfl, a, _, (0 : Int), .str c.1, rfl, rfl, h1, at_nn (by decide) rfl, ?_⟩
  refine ⟨v, fs, c.1, rfl, hv, nd, hf.1, fun o ho => ⟨o, _, rfl, .inr ho, rfl, flat_strs _, ?_⟩⟩
  show Q (.bl (inV (.str c.2.2) ((optsOf fs c.1).map V.str))) H
  rw [in_strs, decide_eq_true hf.2]
  exact q _ (Same.refl H)
def spIsStep (K : PySem.W.Frag) : Sp := fun vs H Q _ => ∃ (v t : V) (fs : List Fld) (c : Stp), vs = [v, t] ∧ DpS K H v (fs.map dF) ∧ (fs.map (·.1)).Nodup ∧ fs.length ≤ 1000 ∧ (∀ f ∈ fs, f.2.length ≤ 1000) ∧ Dp K H t (dS c) ∧ FitS fs c ∧ ∀ H', Same H H' → Q (.bl true) H'
theorem ok_isstep (T : Top K mg) : FnOk P w K mg base CX0 2 T.a_is_step T.fd_is_step ["fields", "value"] (spIsStep K) := by
  have G_is_tuple := ok_tup (P := P) (w := w) (base := base) T
  have G_options_of := ok_optsof (P := P) (w := w) (base := base) T
  have G_names_of := ok_namesof (P := P) (w := w) (base := base) T
  refine T.d_is_step.F.ok sc_is_step (fun vs H Q E h => ?_) (fun cdv A outer s H vs Q E hr h => ?_)
  · obtain ⟨v, t, fs, c, rfl, _⟩ := h
    rfl
  obtain ⟨v, t, fs, c, rfl, hv, nd, hl, ho, ht, hf, q⟩ := h
  obtain ⟨a, xs, rfl, h1, h2⟩ := dp_tup ht
  obtain ⟨x1, r1, rfl, e1, h2⟩ := dpa_cons h2
  obtain ⟨x2, r2, rfl, e2, h2⟩ := dpa_cons h2
  obtain rfl := dpa_nil h2
  rw [dp_str e1, dp_str e2] at h1
  refine ⟨_, (pss_cons (ps_if (pt_not (pt_val (pe_call G_is_tuple (hr.mono (by decide)) (by rfl) T.d_is_tuple.g T.d_is_tuple.kp T.d_is_tuple.b .nil pass0 (pa_cons (pv 1) (pa_cons pe_int (pa_cons pe_int pa_nil)))))) (pss_one (ps_ret pe_bl)) pss_nil)
    (pss_one (ps_ret (pe_and (pe_cmpR (op_in_seq_K (K := K) (by rfl)) (pe_ix (ix_tup_K (K := K) (by rfl)) (pv 1) pe_int (fun _ _ => rfl)) (pe_tup (pa_cons (pe_gS rfl T.g_NEXT) (pa_starK (K := K) (by rfl) (pe_call G_options_of (hr.mono (by decide)) (by rfl) T.d_options_of.g T.d_options_of.kp T.d_options_of.b .nil pass0 (pa_cons (pv 0) (pa_cons (pe_ix (ix_tup_K (K := K) (by rfl)) (pv 1) pe_int (fun _ _ => rfl)) pa_nil))) pa_nil))) (by rfl)) (pe_one (pe_cmpR (op_in_seq_K (K := K) (by rfl)) (pe_ix (ix_tup_K (K := K) (by rfl)) (pv 1) pe_int (fun _ _ => rfl)) (pe_call G_names_of (hr.mono (by decide)) (by rfl) T.d_names_of.g T.d_names_of.kp T.d_names_of.b .nil pass0 (pa_cons (pv 0) pa_nil)) (by rfl))))))), ?_⟩
  refine ⟨_, rfl, a, _, 2, 2, rfl, h1, (by show (2 : Int) ≤ 2; decide), (by show (2 : Int) ≤ 2; decide), _, rfl, iteF ?_⟩
  refine ⟨_, rfl, a, _, (1 : Int), .str c.2, rfl, rfl, h1, at_nn (by decide) rfl, ?_⟩
  refine ⟨_, rfl, _, rfl, a, _, (0 : Int), .str c.1, rfl, rfl, h1, at_nn (by decide) rfl, v, fs, c.1, rfl, hv, nd, hf.1, fun o ho2 => ⟨o, _, rfl, .inl ho2, ?_⟩⟩
  have lo : (optsOf fs c.1).length ≤ 1000 := by
    obtain ⟨f, g1, g2, g3⟩ := pos_at hf.1
    rw [← g3]
    exact ho f (List.mem_of_getElem? g1)
  have le : V.str "+" :: ((optsOf fs c.1).map V.str ++ []) = (("+" : Str) :: optsOf fs c.1).map V.str := by rw [List.append_nil]; rfl
  refine ⟨(by rw [le, List.length_map]; show (optsOf fs c.1).length + 1 ≤ sizeLine; exact le_line (by omega)), fun p np => ?_⟩
  have s1 := same_new (o := .tup (V.str "+" :: ((optsOf fs c.1).map V.str ++ []))) np
  have hp : upd H p (.tup (V.str "+" :: ((optsOf fs c.1).map V.str ++ []))) p = some (.tup ((("+" : Str) :: optsOf fs c.1).map V.str)) := by rw [upd_same, le]
  refine ⟨p, _, rfl, .inr (SqT.of hp), rfl, flat_strs _, inV (.str c.2) ((("+" : Str) :: optsOf fs c.1).map V.str), rfl, ?_⟩
  rw [in_strs, decide_eq_true (show c.2 ∈ ("+" : Str) :: optsOf fs c.1 by
    by_cases z : c.2 = "+"
    · rw [z]
      exact List.mem_cons_self ..
    · exact List.mem_cons_of_mem _ (hf.2 z))]
  refine iteT ?_
  have hns := HdS.of hv (fun d hd => by
    obtain ⟨f, _, rfl⟩ := List.mem_map.mp hd
    exact named_dF f)
  rw [List.map_map] at hns
  refine ⟨_, rfl, a, _, (0 : Int), .str c.1, rfl, rfl, Same.tup s1 h1, at_nn (by decide) rfl, ?_⟩
  refine ⟨_, rfl, v, fs.map (·.1), rfl, hns.mono s1, by rw [List.length_map]; exact hl, fun p2 H2 _ s2 hp2 => ?_⟩
  refine ⟨p2, _, rfl, .inl (SqL.of hp2), rfl, flat_strs _, ?_⟩
  show Q (.bl (inV (.str c.1) ((fs.map (·.1)).map V.str))) H2
  rw [in_strs, decide_eq_true hf.1]
  exact q _ (s1.trans s2)
theorem Dp.tupA {K : PySem.W.Frag} {H : Hp} {v : V} {ds : List PyData} (h : Dp K H v (.tuple ds)) : ∃ a xs, v = .ref a ∧ SqT K H a xs ∧ DpAll K H xs ds ∧ xs.length = ds.length := by
  obtain ⟨a, xs, e, h1, h2⟩ := dp_tup h
  exact ⟨a, xs, e, h1, h2, DpAll.length h2⟩
def spIsCase (K : PySem.W.Frag) : Sp := fun vs H Q _ => ∃ (v t : V) (fs : List Fld) (c : Cas), vs = [v, t] ∧ DpS K H v (fs.map dF) ∧ (fs.map (·.1)).Nodup ∧ fs.length ≤ 1000 ∧ (∀ f ∈ fs, f.2.length ≤ 1000) ∧ Dp K H t (dC c) ∧ OkCas fs c ∧ ∀ H', Same H H' → Q (.bl true) H'
theorem ok_iscase (T : Top K mg) : FnOk P w K mg base CX0 3 T.a_is_case T.fd_is_case ["fields", "value"] (spIsCase K) := by
  have G_is_tuple := ok_tup (P := P) (w := w) (base := base) T
  have G_is_test := ok_istest (P := P) (w := w) (base := base) T
  have G_is_step := ok_isstep (P := P) (w := w) (base := base) T
  refine T.d_is_case.F.ok sc_is_case (fun vs H Q E h => ?_) (fun cdv A outer s H vs Q E hr h => ?_)
  · obtain ⟨v, t, fs, c, rfl, _⟩ := h
    rfl
  obtain ⟨v, t, fs, c, rfl, hv, nd, hl, ho, ht, hc, q⟩ := h
  obtain ⟨a, xs, rfl, h1, h2⟩ := dp_tup ht
  obtain ⟨x1, r1, rfl, e1, h2⟩ := dpa_cons h2
  obtain ⟨x2, r2, rfl, e2, h2⟩ := dpa_cons h2
  obtain rfl := dpa_nil h2
  refine ⟨_, (pss_cons (ps_if (pt_not (pt_val (pe_call G_is_tuple (hr.mono (by decide)) (by rfl) T.d_is_tuple.g T.d_is_tuple.kp T.d_is_tuple.b .nil pass0 (pa_cons (pv 1) (pa_cons pe_int (pa_cons pe_int pa_nil)))))) (pss_one (ps_ret pe_bl)) pss_nil)
    (pss_cons (ps_asg (pv 1) (pg_tup_K (K := K) (by rfl) (n := 2) (by rfl) (pgs_cons (pg_name (i := 2) sc_is_case.nd rfl (Or.inl rfl)) (pgs_cons (pg_name (i := 3) sc_is_case.nd rfl (Or.inl rfl)) pgs_nil))))
    (pss_cons (ps_if (PW.pt (pw_or (pt_not (pt_val (pe_call G_is_tuple (hr.mono (by decide)) (by rfl) T.d_is_tuple.g T.d_is_tuple.kp T.d_is_tuple.b .nil pass0 (pa_cons (pv 2) (pa_cons pe_int (pa_cons (pe_gI rfl T.g_MOST_ITEMS) pa_nil)))))) (pw_or1 (pt_not (pt_val (pe_callB (cr_all_K (K := K) (by rfl) rfl) (by rfl) T.b_all (by decide +kernel) (pa_cons (pe_lc (own := [("test", 4)]) rfl sc_is_case.nd (pi_tup_K (K := K) (by rfl) (pv 2)) (blkOk_by (own := [("test", 4)]) (N := ["fields", "value", "tests", "steps", "test", "step"]) (sc := defScope s_is_case) (by decide +kernel)) (fun _ _ _ _ _ => by exact (pg_name (i := 4) sc_is_case.nd rfl (Or.inl rfl))) (fun _ _ _ _ _ => by exact pts_nil) (fun _ _ _ _ _ => by exact (pe_call G_is_test (hr.mono (by decide)) (by rfl) T.d_is_test.g T.d_is_test.kp T.d_is_test.b .nil pass0 (pa_cons (pv 0) (pa_cons (pv 4) pa_nil))))) pa_nil))))))) (pss_one (ps_ret pe_bl)) pss_nil)
    (pss_one (ps_ret (L2.pe_or (pe_cmpR op_isN (pv 3) pe_non (nomark _)) (pe_one (pe_and (pe_call G_is_tuple (hr.mono (by decide)) (by rfl) T.d_is_tuple.g T.d_is_tuple.kp T.d_is_tuple.b .nil pass0 (pa_cons (pv 3) (pa_cons pe_int (pa_cons (pe_gI rfl T.g_MOST_ITEMS) pa_nil)))) (pe_one (pe_callB (cr_all_K (K := K) (by rfl) rfl) (by rfl) T.b_all (by decide +kernel) (pa_cons (pe_lc (own := [("step", 5)]) rfl sc_is_case.nd (pi_tup_K (K := K) (by rfl) (pv 3)) (blkOk_by (own := [("step", 5)]) (N := ["fields", "value", "tests", "steps", "test", "step"]) (sc := defScope s_is_case) (by decide +kernel)) (fun _ _ _ _ _ => by exact (pg_name (i := 5) sc_is_case.nd rfl (Or.inl rfl))) (fun _ _ _ _ _ => by exact pts_nil) (fun _ _ _ _ _ => by exact (pe_call G_is_step (hr.mono (by decide)) (by rfl) T.d_is_step.g T.d_is_step.kp T.d_is_step.b .nil pass0 (pa_cons (pv 0) (pa_cons (pv 5) pa_nil))))) pa_nil))))))))))), ?_⟩
  refine ⟨_, rfl, a, _, 2, 2, rfl, h1, (by show (2 : Int) ≤ 2; decide), (by show (2 : Int) ≤ 2; decide), _, rfl, iteF ?_⟩
  obtain ⟨tt, ts, rfl, ht1, ht2⟩ := dp_tup e1
  have lt : ts.length = c.1.length := by rw [DpAll.length ht2, List.length_map]
  refine ⟨_, rfl, a, _, rfl, h1, rfl, _, _, rfl, _, _, rfl, rfl, ?_⟩
  refine ⟨_, rfl, tt, ts, 0, 6, rfl, ht1, by omega, by rw [lt]; have := hc.nt; omega, _, rfl, iteF ?_⟩
  refine ⟨_, rfl, tt, rfl, ⟨_, ht1⟩, fun D nD => ?_⟩
  have lt2 := hc.nt
  refine lc_trues walk_tup nD (by omega) (fun H' s => Same.tup s ht1) (fun i x H' R R' ex s1 k => ?_) (fun H1 s1 hD => ?_)
  · obtain ⟨d, g1, g2⟩ := DpAll.get ht2 ex
    obtain ⟨tst, hm, rfl⟩ := List.mem_map.mp (List.mem_of_getElem? g1)
    exact ⟨rfl, _, rfl, _, rfl, v, x, fs, tst, rfl, hv.mono s1, nd, Dp.mono s1 g2, hc.fit.t tst hm, hc.sg tst hm, k⟩
  refine ⟨D, _, rfl, SqL.of hD, ?_⟩
  rw [bls_true]
  refine ⟨_, rfl, iteF ?_⟩
  cases hso : c.2 with
  | none =>
    rw [hso] at e2
    obtain rfl := dp_non e2
    exact ⟨_, rfl, rfl, _, rfl, iteY rfl (q _ s1)⟩
  | some ss =>
    rw [hso] at e2
    obtain ⟨t2, ys, rfl, g1, g2⟩ := dp_tup e2
    have lu : ys.length = ss.length := by rw [DpAll.length g2, List.length_map]
    have lu2 := hc.ns ss hso
    refine ⟨_, rfl, rfl, _, rfl, iteN (fun z => by cases z) ?_⟩
    refine ⟨_, rfl, t2, ys, 0, 6, rfl, Same.tup s1 g1, by omega, by omega, _, rfl, iteT ?_⟩
    refine ⟨_, rfl, t2, rfl, ⟨_, Same.tup s1 g1⟩, fun D2 nD2 => ?_⟩
    refine lc_trues walk_tup nD2 (by omega) (fun H' s => Same.tup (s1.trans s) g1) (fun i x H' R R' ex s2 k => ?_) (fun H2 s2 hD2 => ?_)
    · obtain ⟨d, f1, f2⟩ := DpAll.get g2 ex
      obtain ⟨stp, hm, rfl⟩ := List.mem_map.mp (List.mem_of_getElem? f1)
      exact ⟨rfl, _, rfl, _, rfl, v, x, fs, stp, rfl, hv.mono (s1.trans s2), nd, hl, ho, Dp.mono (s1.trans s2) f2, hc.fit.s ss hso stp hm, k⟩
    refine ⟨D2, _, rfl, SqL.of hD2, ?_⟩
    rw [bls_true]
    exact q _ (s1.trans s2)
structure FsB (fs : List Fld) : Prop where
  nd : (fs.map (·.1)).Nodup
  len : fs.length ≤ 1000
  os : ∀ f ∈ fs, f.2.length ≤ 1000
def spIsProg (K : PySem.W.Frag) : Sp := fun vs H Q _ => ∃ (v t : V) (fs : List Fld) (p : List Cas), vs = [v, t] ∧ DpS K H v (fs.map dF) ∧ FsB fs ∧ Dp K H t (dP p) ∧ OkPrg fs p ∧ ∀ H', Same H H' → Q (.bl true) H'
theorem ok_isprog (T : Top K mg) : FnOk P w K mg base CX0 4 T.a_is_program T.fd_is_program ["fields", "value"] (spIsProg K) := by
  have G_is_tuple := ok_tup (P := P) (w := w) (base := base) T
  have G_is_case := ok_iscase (P := P) (w := w) (base := base) T
  refine T.d_is_program.F.ok sc_is_program (fun vs H Q E h => ?_) (fun cdv A outer s H vs Q E hr h => ?_)
  · obtain ⟨v, t, fs, c, rfl, _⟩ := h
    rfl
  obtain ⟨v, t, fs, p, rfl, hv, fb, ht, hp, q⟩ := h
  obtain ⟨a, xs, rfl, h1, h2⟩ := dp_tup ht
  have lx : xs.length = p.length := by rw [DpAll.length h2, List.length_map]
  have k1 := hp.lo
  have k2 := hp.hi
  refine ⟨_, (pss_one (ps_ret (pe_and (pe_call G_is_tuple (hr.mono (by decide)) (by rfl) T.d_is_tuple.g T.d_is_tuple.kp T.d_is_tuple.b .nil pass0 (pa_cons (pv 1) (pa_cons pe_int (pa_cons (pe_gI rfl T.g_MOST_CASES) pa_nil)))) (pe_one (pe_callB (cr_all_K (K := K) (by rfl) rfl) (by rfl) T.b_all (by decide +kernel) (pa_cons (pe_lc (own := [("case", 2)]) rfl sc_is_program.nd (pi_tup_K (K := K) (by rfl) (pv 1)) (blkOk_by (own := [("case", 2)]) (N := ["fields", "value", "case"]) (sc := defScope s_is_program) (by decide +kernel)) (fun _ _ _ _ _ => by exact (pg_name (i := 2) sc_is_program.nd rfl (Or.inl rfl))) (fun _ _ _ _ _ => by exact pts_nil) (fun _ _ _ _ _ => by exact (pe_call G_is_case (hr.mono (by decide)) (by rfl) T.d_is_case.g T.d_is_case.kp T.d_is_case.b .nil pass0 (pa_cons (pv 0) (pa_cons (pv 2) pa_nil))))) pa_nil)))))), ?_⟩
  refine ⟨_, rfl, a, xs, 1, 8, rfl, h1, by omega, by omega, _, rfl, iteT ?_⟩
  refine ⟨_, rfl, a, rfl, ⟨_, h1⟩, fun D nD => ?_⟩
  refine lc_trues walk_tup nD (by omega) (fun H' s => Same.tup s h1) (fun i x H' R R' ex s1 k => ?_) (fun H1 s1 hD => ?_)
  · obtain ⟨d, g1, g2⟩ := DpAll.get h2 ex
    obtain ⟨cs, hm, rfl⟩ := List.mem_map.mp (List.mem_of_getElem? g1)
    exact ⟨rfl, _, rfl, _, rfl, v, x, fs, cs, rfl, hv.mono s1, fb.nd, fb.len, fb.os, Dp.mono s1 g2, hp.all cs hm, k⟩
  refine ⟨D, _, rfl, SqL.of hD, ?_⟩
  rw [bls_true]
  exact q _ s1
/-- a tie behind others with the names ns -/
def spTieFits (K : PySem.W.Frag) : Sp := fun vs H Q _ => ∃ (v b t : V) (fs : List Fld) (ns : List Str) (c : Tie), vs = [v, b, t] ∧ DpS K H v (fs.map dF) ∧ FsB fs ∧ HdS K H b ns ∧ ns.length < 4 ∧ c.1 ∉ ns ∧ IsNm c.1 ∧ Dp K H t (dTie c) ∧ OkPrg fs c.2 ∧ ∀ H', Same H H' → Q (.bl true) H'
theorem ok_tiefits (T : Top K mg) : FnOk P w K mg base CX0 5 T.a_tie_fits T.fd_tie_fits ["fields", "before", "tie"] (spTieFits K) := by
  have G_is_tuple := ok_tup (P := P) (w := w) (base := base) T
  have G_is_program := ok_isprog (P := P) (w := w) (base := base) T
  have G_name_fits := ok_namefits (P := P) (w := w) (base := base) T
  refine T.d_tie_fits.F.ok sc_tie_fits (fun vs H Q E h => ?_) (fun cdv A outer s H vs Q E hr h => ?_)
  · obtain ⟨v, b, t, fs, ns, c, rfl, _⟩ := h
    rfl
  obtain ⟨v, b, t, fs, ns, c, rfl, hv, fb, hb, hl, hno, hn, ht, hp, q⟩ := h
  obtain ⟨a, xs, rfl, h1, h2⟩ := dp_tup ht
  obtain ⟨x1, r1, rfl, e1, h2⟩ := dpa_cons h2
  obtain ⟨x2, r2, rfl, e2, h2⟩ := dpa_cons h2
  obtain rfl := dpa_nil h2
  rw [dp_str e1] at h1
  refine ⟨_, (pss_one (ps_ret (pe_and (pe_call G_is_tuple (hr.mono (by decide)) (by rfl) T.d_is_tuple.g T.d_is_tuple.kp T.d_is_tuple.b .nil pass0 (pa_cons (pv 2) (pa_cons pe_int (pa_cons pe_int pa_nil)))) (pe_and (pe_call G_name_fits (hr.mono (by decide)) (by rfl) T.d_name_fits.g T.d_name_fits.kp T.d_name_fits.b .nil pass0 (pa_cons (pv 1) (pa_cons (pe_ix (ix_tup_K (K := K) (by rfl)) (pv 2) pe_int (fun _ _ => rfl)) (pa_cons (pe_gI rfl T.g_MOST_TIES) pa_nil)))) (pe_one (pe_call G_is_program (hr.mono (by decide)) (by rfl) T.d_is_program.g T.d_is_program.kp T.d_is_program.b .nil pass0 (pa_cons (pv 0) (pa_cons (pe_ix (ix_tup_K (K := K) (by rfl)) (pv 2) pe_int (fun _ _ => rfl)) pa_nil)))))))), ?_⟩
  refine ⟨_, rfl, a, _, 2, 2, rfl, h1, (by show (2 : Int) ≤ 2; decide), (by show (2 : Int) ≤ 2; decide), _, rfl, iteT ?_⟩
  refine ⟨_, rfl, _, rfl, a, _, (0 : Int), .str c.1, rfl, rfl, h1, at_nn (by decide) rfl, b, ns, c.1, 4, rfl, hb, by omega, by omega, hn, hno, fun H1 s1 => ⟨_, rfl, iteT ?_⟩⟩
  exact ⟨_, rfl, _, rfl, a, _, (1 : Int), x2, rfl, rfl, Same.tup s1 h1, at_nn (by decide) rfl, v, x2, fs, c.2, rfl, hv.mono s1, fb, Dp.mono s1 e2, hp, fun H2 s2 => q _ (s1.trans s2)⟩
def spIsKey (K : PySem.W.Frag) : Sp := fun vs H Q _ => ∃ (v t : V) (fs : List Fld) (k : Str × Str), vs = [v, t] ∧ DpS K H v (fs.map dF) ∧ FsB fs ∧ Dp K H t (dKey k) ∧ k.1 ∈ fs.map (·.1) ∧ (k.2 = "+" ∨ k.2 = "-") ∧ ∀ H', Same H H' → Q (.bl true) H'
theorem ok_iskey (T : Top K mg) : FnOk P w K mg base CX0 2 T.a_is_key T.fd_is_key ["fields", "value"] (spIsKey K) := by
  have G_is_tuple := ok_tup (P := P) (w := w) (base := base) T
  have G_names_of := ok_namesof (P := P) (w := w) (base := base) T
  refine T.d_is_key.F.ok sc_is_key (fun vs H Q E h => ?_) (fun cdv A outer s H vs Q E hr h => ?_)
  · obtain ⟨v, t, fs, c, rfl, _⟩ := h
    rfl
  obtain ⟨v, t, fs, c, rfl, hv, fb, ht, hk, hd, q⟩ := h
  obtain ⟨a, xs, rfl, h1, h2⟩ := dp_tup ht
  obtain ⟨x1, r1, rfl, e1, h2⟩ := dpa_cons h2
  obtain ⟨x2, r2, rfl, e2, h2⟩ := dpa_cons h2
  obtain rfl := dpa_nil h2
  rw [dp_str e1, dp_str e2] at h1
  have hns := HdS.of hv (fun d hd => by
    obtain ⟨f, _, rfl⟩ := List.mem_map.mp hd
    exact named_dF f)
  rw [List.map_map] at hns
  refine ⟨_, (pss_one (ps_ret (pe_and (pe_call G_is_tuple (hr.mono (by decide)) (by rfl) T.d_is_tuple.g T.d_is_tuple.kp T.d_is_tuple.b .nil pass0 (pa_cons (pv 1) (pa_cons pe_int (pa_cons pe_int pa_nil)))) (pe_and (pe_cmpR (op_in_seq_K (K := K) (by rfl)) (pe_ix (ix_tup_K (K := K) (by rfl)) (pv 1) pe_int (fun _ _ => rfl)) (pe_call G_names_of (hr.mono (by decide)) (by rfl) T.d_names_of.g T.d_names_of.kp T.d_names_of.b .nil pass0 (pa_cons (pv 0) pa_nil)) (by rfl)) (pe_one (pe_cmpR (op_in_seq_K (K := K) (by rfl)) (pe_ix (ix_tup_K (K := K) (by rfl)) (pv 1) pe_int (fun _ _ => rfl)) (pe_gR rfl T.g_DIRECTIONS) (by rfl))))))), ?_⟩
  refine ⟨_, rfl, a, _, 2, 2, rfl, h1, (by show (2 : Int) ≤ 2; decide), (by show (2 : Int) ≤ 2; decide), _, rfl, iteT ?_⟩
  refine ⟨_, rfl, a, _, (0 : Int), .str c.1, rfl, rfl, h1, at_nn (by decide) rfl, ?_⟩
  refine ⟨_, rfl, v, fs.map (·.1), rfl, hns, by rw [List.length_map]; exact fb.len, fun p2 H2 _ s2 hp2 => ?_⟩
  refine ⟨p2, _, rfl, .inl (SqL.of hp2), rfl, flat_strs _, inV (.str c.1) ((fs.map (·.1)).map V.str), rfl, ?_⟩
  rw [in_strs, decide_eq_true hk]
  refine iteT ?_
  refine ⟨_, rfl, a, _, (1 : Int), .str c.2, rfl, rfl, Same.tup s2 h1, at_nn (by decide) rfl, T.a_DIRECTIONS, (["+", "-"] : List Str).map V.str, rfl, .inr (T.k_DIRECTIONS _), rfl, flat_strs _, ?_⟩
  show Q (.bl (inV (.str c.2) ((["+", "-"] : List Str).map V.str))) H2
  rw [in_strs, decide_eq_true (show c.2 ∈ (["+", "-"] : List Str) by
    rcases hd with z | z
    · rw [z]; exact List.mem_cons_self ..
    · rw [z]; exact List.mem_cons_of_mem _ (List.mem_cons_self ..))]
  exact q _ s2
end
end Bh

set_option Elab.async false
set_option linter.all false
set_option maxRecDepth 100000
set_option maxHeartbeats 2000000
namespace Bh
open PySem PySem.Spec PyProof.Rows L2
/-! ### enumerate of a tuple, zip of a tuple and a list -/
/-- the tuple at a, each item with its place in a new pair -/
def ItEn (K : PySem.W.Frag) (a : Addr) : It where
  go := fun i H => ∃ (l : List V) (y : V), SqT K H a l ∧ l[i]? = some y
  yld := fun i H v H' => ∃ (T : Addr) (y : V), v = .ref T ∧ H T = none ∧ H' = upd H T (.tup [.int (i : Nat), y]) ∧ ∀ l, SqT K H a l → l[i]? = some y
  stop := fun i H => ∃ l : List V, SqT K H a l ∧ l.length = i
theorem turn_en {P : Program} {w : World} {K : PySem.W.Frag} {elts : List Expr} {kk : Nat} {tpos : Pos} {a e it : Addr} (d1 : e ≠ it) (d2 : a ≠ e) (d3 : a ≠ it) :
    Turn P w K (.Tuple elts kk tpos) (ItEn K a) [e, it] e (fun i h => (∃ old, IsEnum h e it ((i : Nat) : Int) old) ∧ h.IsTupleIter it a i) where
  mem := List.mem_cons_self ..
  obj := fun i h ⟨⟨old, q1⟩, o, q2, _, q3⟩ b hb => by
    rcases List.mem_cons.mp hb with rfl | hb
    · exact ⟨_, q1, fun v z => nomatch z⟩
    · rw [List.mem_singleton.mp hb]
      exact ⟨o, q2, fun v z => by rw [q3] at z; cases z⟩
  keep := fun i h h' ⟨⟨old, q1⟩, q2⟩ k => ⟨⟨old, k e (List.mem_cons_self ..) _ q1⟩, q2.at fun o z => k it (List.mem_cons_of_mem _ (List.mem_singleton.mpr rfl)) o z⟩
  item := by
    intro X eP eW eK hc i pins s σ H E I hf ⟨⟨old, q1⟩, q2⟩ ⟨l, y, hl, hy⟩
    subst eP eW eK
    obtain ⟨its, rv, pl, _⟩ := I.tuple hl
    obtain ⟨u, hu, ru⟩ := rv.get hy
    have li : i < its.toArray.size := by
      rw [List.size_toArray]
      exact (List.getElem?_eq_some_iff.mp hu).1
    have lte : e < s.heap.objs.size := Heap.lt_size q1
    have lti : it < s.heap.objs.size := by
      obtain ⟨_, z, _⟩ := q2
      exact Heap.lt_size z
    have D := Draws.tuple (prog := X.prog) (w := X.w) (A := X.A.in1) (by rw [Around.in1_handled]; exact I.ok.hd hc) it a d3 its.toArray
    refine wpAny_pyNext_enum_itemD D q1 ⟨q2, pl⟩ li d1 (fun z => ?_) fun x h' tk hx ho st' hT hsz hk => ⟨_, rfl, wpAny_letOwnedTupleGo_enum (s := { s with heap := h', toks := tk + 1 }) ho fun h2 he2 sb => ?_⟩
    · rcases List.mem_cons.mp z with z | z
      · exact d1 z
      · exact d2 (List.mem_singleton.mp z).symm
    obtain rfl : x = u := by
      have hx2 : its[i]? = some x := by rw [← hx]; exact List.getElem?_toArray.symm
      rw [hu] at hx2
      exact (Option.some.inj hx2).symm
    have at2 : h2.get? s.heap.objs.size = some { cls := .type "tuple", data := .seq #[.int i tk, x] } := (sb.2 _ (Nat.ne_of_gt lte)).trans hT
    have nw : ObjOk X.prog X.w (upd H s.heap.objs.size (.tup [.int (i : Nat), y])) h2 s.heap.objs.size (.tup [.int (i : Nat), y]) := by
      refine ⟨(by show 2 ≤ sizeLine; decide), [.int i tk, x], .cons ⟨_, rfl⟩ (.cons ru .nil), _, at2, rfl, _, rfl⟩
    have J : Inv X pins σ (upd H s.heap.objs.size (.tup [.int (i : Nat), y])) { s with heap := h2, toks := tk + 1 } := by
      refine I.turnedNew (ch := [e, it]) (fun b o nb z => ?_) hf (Nat.le_refl _) nw
      have n1 : b ≠ e := fun z => nb (by rw [z]; exact List.mem_cons_self ..)
      have n2 : b ≠ it := fun z => nb (by rw [z]; exact List.mem_cons_of_mem _ (List.mem_singleton.mpr rfl))
      exact (sb.2 b n1).trans (hk b o n1 n2 z)
    have ei : ((i + 1 : Nat) : Int) = (i : Int) + 1 := by omega
    refine ⟨.ref s.heap.objs.size, _, J, rfl, ⟨_, y, rfl, I.hok.fresh (Nat.le_refl _), rfl, fun l2 h2' => by rw [I.tuple_inj h2' hl]; exact hy⟩, ⟨⟨x, ei ▸ he2⟩, st'.1.at fun o z => (sb.2 it d1.symm).trans z⟩, fun b hb => ?_⟩
    have lb : b < s.heap.objs.size := by
      rcases List.mem_cons.mp hb with z | z
      · rw [z]; exact lte
      · rw [List.mem_singleton.mp z]; exact lti
    rw [upd_ne (Nat.ne_of_lt lb)]
    exact (hf b hb).1
  done := by
    intro X eP eW eK hc i pins s σ H E I hf ⟨⟨old, q1⟩, q2⟩ ⟨l, hl, hle⟩
    subst eP eW eK
    obtain ⟨its, rv, pl, _⟩ := I.tuple hl
    have en : its.toArray.size = i := by rw [List.size_toArray, ← rv.length, hle]
    obtain ⟨f0, f1, f2, f3, f4, f5⟩ := hf it (List.mem_cons_of_mem _ (List.mem_singleton.mpr rfl))
    have D := Draws.tuple (prog := X.prog) (w := X.w) (A := X.A.in1) (by rw [Around.in1_handled]; exact I.ok.hd hc) it a d3 its.toArray
    rw [en] at D
    exact wpAny_pyNext_enum_endD D q1 ⟨q2, pl⟩ fun h' eb => ⟨rfl, I.turned (t' := s.toks) (fun b o nb z => eb b o nb z) f0 f1 f3 f4 f5⟩
  self := fun A i s Q E ⟨⟨_, q1⟩, _⟩ h => wpAny_pyIter_enum q1 h
abbrev enIt (t : Addr) : Obj := { cls := .type "tuple_iterator", data := .fields #[.ref t, .int 0 0] }
abbrev enOb (it : Addr) : Obj := { cls := .type "enumerate", data := .fields #[.none, .bool false, .ref it, rawInt 0, .none, .none] }
theorem meets_enT {t : Addr} {items : Array Value} : Meets (Builtin.«enumerate.__new__» ⟨[.type "enumerate", .ref t], []⟩) (fun _ R s => s.heap.IsTuple t items ∧ R (.ok (.ret (.ref (s.heap.push (enIt t)).objs.size))) { s with heap := (s.heap.push (enIt t)).push (enOb s.heap.objs.size) }) :=
  .of_wp fun pr wd A R st z => by
    obtain ⟨hp, gg, dr, tk, os⟩ := st
    obtain ⟨z1, z2⟩ := z
    have hsub := sub_enumerate
    have bg : ∀ {A' : Around} {E : Value → Shared → Prop} {Q : Value → Shared → Prop}, Q (.ref hp.objs.size) ⟨hp.push (enIt t), gg, dr, tk, os⟩ → wpAny (model pr wd) A' (pyIter (.ref t)) Q E ⟨hp, gg, dr, tk, os⟩ := fun q => wpAny_pyIter_tuple z1 q
    wp_walk using bg
    refine wpAny_stack_any fun sk => wpAny_pure ?_
    split
    · rename_i c _ _ _ _ _
      cases (c == Value.type "enumerate") <;> (wp_walk using bg; exact ⟨_, rfl, z2⟩)
    · wp_walk using bg
      exact ⟨_, rfl, z2⟩
theorem call_enT {prog : Program} {w : World} {A : Around} {E : Value → Shared → Prop} {s : Shared} {t : Addr} {items : Array Value} {Q : Value → Shared → Prop} (ht : s.heap.IsTuple t items)
    (k : ∀ h', IsEnum h' (s.heap.objs.size + 1) s.heap.objs.size 0 .none → h'.IsTupleIter s.heap.objs.size t 0 → (∀ b o, s.heap.get? b = some o → h'.get? b = some o) → Q (.ref (s.heap.objs.size + 1)) { s with heap := h' }) :
    wpAny (model prog w) A (call (.type "enumerate") [.ref t]) Q E s := by
  refine callType_new F.called_enumerate (by decide) (F.typeCall_enumerate_1 _) (F.newCall_enumerate_1 _) (fun ob => F.args_object_init_2 ob _) F.entry_enumerate_new meets_enT ⟨ht, ?_⟩
  have e1 : (s.heap.push (enIt t)).objs.size = s.heap.objs.size + 1 := Heap.size_push ..
  have e2 : ((s.heap.push (enIt t)).push (enOb s.heap.objs.size)).get? (s.heap.push (enIt t)).objs.size = some (enOb s.heap.objs.size) := Heap.get?_push_size _ rfl
  show _ ∧ _
  rw [e1] at e2 ⊢
  exact ⟨⟨_, e2, rfl⟩, k _ e2 ⟨_, Heap.get?_push_of_some _ (Heap.get?_push_size _ rfl), rfl, rfl⟩ fun b o x => Heap.get?_push_of_some _ (Heap.get?_push_of_some _ x)⟩
def iEnumS (K : PySem.W.Frag) (ta : TA) : TI := fun σ H R => ta σ H fun vs H1 => ∃ a xs, vs = [.ref a] ∧ (SqL K H1 a xs ∨ SqT K H1 a xs) ∧
  ∀ J : It, Walk J xs.length (fun H => Same H1 H) (YPair (fun i => some (.int (i : Nat))) (fun i => xs[i]?)) → R J H1
theorem walk_en {K : PySem.W.Frag} {a : Addr} {xs : List V} : Walk (ItEn K a) xs.length (fun H => SqT K H a xs) (YPair (fun i => some (.int (i : Nat))) (fun i => xs[i]?)) := by
  refine ⟨fun i _ hi q => ⟨xs, xs[i], q, List.getElem?_eq_getElem hi⟩, fun _ q => ⟨xs, q, rfl⟩, fun i H v H' _ q y => ?_⟩
  obtain ⟨T, z, e1, e2, e3, e4⟩ := y
  exact ⟨T, .int (i : Nat), z, e1, e2, e3, rfl, e4 xs q⟩
theorem pi_enumS {X : Cx} {K : PySem.W.Frag} (hK : X.K = K) {e : Expr} {ta : TA} {p pos tpos : Pos} {elts : List Expr} {kk : Nat} (hg : Gl X "enumerate") (hm : X.mg "enumerate" = none) (ha : PA X [e] ta) (hs : starEach [e] X.env = [(false, eval e X.env)] := by rfl) :
    PI X (.Tuple elts kk tpos) (.Call (.Name "enumerate" p) [e] [] pos) (iEnumS K ta) := by
  subst hK
  refine ⟨fun pins s σ H R I h => ?_⟩
  refine Call_ (ld_blt I hg hm boot_enumerate (PyProof.Rows.callWith_type1 (thn (ha.run pos pins s σ H _ I h) fun us s1 ⟨vs, H1, I1, r1, q1⟩ => ?_) hs rfl))
  obtain ⟨a, xs, rfl, hq, q⟩ := q1
  obtain ⟨u, rfl, r⟩ := vals1 r1
  cases r
  have two : ∀ b ∈ [s1.heap.objs.size + 1, s1.heap.objs.size], FpOk X pins H1 b := fun b hb => by
    have le : s1.heap.objs.size ≤ b := by
      rcases List.mem_cons.mp hb with z | z
      · rw [z]; exact Nat.le_succ _
      · rw [List.mem_singleton.mp z]; exact Nat.le_refl _
    exact I1.fpOk le (I1.hok.fresh le)
  rcases hq with hq | hq
  · obtain ⟨its, rv, pl, _⟩ := I1.list hq
    refine call_enumerate_list pl.isList fun h' he hit hsz hk => wpAny_pyIter_enum he ⟨s1.heap.objs.size + 1, _, _, _, H1, rfl, I1.kept (t' := s1.toks) hk, turn_enum a (s1.heap.objs.size + 1) s1.heap.objs.size, ⟨⟨.none, he⟩, hit, Nat.succ_ne_self _⟩, two, q _ ?_⟩
    exact walk_enum.mono (fun H' z => z.seq hq) (fun _ _ _ _ _ _ y => y)
  · obtain ⟨its, rv, pl, _⟩ := I1.tuple hq
    obtain ⟨ob, hob, _⟩ := id pl
    have la : a < s1.heap.objs.size := Heap.lt_size hob
    refine call_enT pl fun h' he hit hk => wpAny_pyIter_enum he ⟨s1.heap.objs.size + 1, _, _, _, H1, rfl, I1.kept (t' := s1.toks) hk, turn_en (a := a) (Nat.succ_ne_self _) (Nat.ne_of_lt (Nat.lt_succ_of_lt la)) (Nat.ne_of_lt la), ⟨⟨.none, he⟩, hit⟩, two, q _ ?_⟩
    exact walk_en.mono (fun H' z => Same.tup z hq) (fun _ _ _ _ _ _ y => y)
end Bh

set_option Elab.async false
set_option linter.all false
set_option maxRecDepth 100000
set_option maxHeartbeats 2000000
namespace Bh
open PySem PySem.Spec PyProof.Rows L2
/-- the tuple at a and the list at b side by side, the items in new pairs -/
def ItZm (K : PySem.W.Frag) (a b : Addr) : It where
  go := fun i H => ∃ (l m : List V) (x y : V), SqT K H a l ∧ SqL K H b m ∧ l[i]? = some x ∧ m[i]? = some y
  yld := fun i H v H' => ∃ (T : Addr) (x y : V), v = .ref T ∧ H T = none ∧ H' = upd H T (.tup [x, y]) ∧ (∀ l, SqT K H a l → l[i]? = some x) ∧ ∀ m, SqL K H b m → m[i]? = some y
  stop := fun i H => ∃ l m : List V, SqT K H a l ∧ SqL K H b m ∧ i ≤ l.length ∧ i ≤ m.length ∧ (i = l.length ∨ i = m.length)
theorem turn_zm {P : Program} {w : World} {K : PySem.W.Frag} {elts : List Expr} {kk : Nat} {tpos : Pos} {a b z TI TO i1 i2 : Addr} (S : ZipSep2 z TI TO i1 i2 [i1, a] [i2, b]) (n1 : a ≠ i1) (n2 : b ≠ i2) :
    Turn P w K (.Tuple elts kk tpos) (ItZm K a b) [z, TI, TO, i1, i2] z (fun i h => IsZip h z TI TO .none ∧ IsTupOf2 h TI (.ref i1) (.ref i2) ∧ (∃ x y, IsTupOf2 h TO x y) ∧ h.IsTupleIter i1 a i ∧ h.IsListIter i2 b i) where
  mem := List.mem_cons_self ..
  obj := fun i h ⟨q1, q2, ⟨x, y, q3⟩, ⟨o1, q4, _, q5⟩, ⟨o2, q6, _, q7⟩⟩ c hc => by
    simp only [List.mem_cons, List.not_mem_nil, or_false] at hc
    rcases hc with rfl | rfl | rfl | rfl | rfl
    · exact ⟨_, q1, fun v u => nomatch u⟩
    · exact ⟨_, q2, fun v u => nomatch u⟩
    · exact ⟨_, q3, fun v u => nomatch u⟩
    · exact ⟨o1, q4, fun v u => by rw [q5] at u; cases u⟩
    · exact ⟨o2, q6, fun v u => by rw [q7] at u; cases u⟩
  keep := fun i h h' ⟨q1, q2, ⟨x, y, q3⟩, q4, q5⟩ k => ⟨k z (by simp) _ q1, k TI (by simp) _ q2, ⟨x, y, k TO (by simp) _ q3⟩, q4.at fun o u => k i1 (by simp) o u, q5.at fun o u => k i2 (by simp) o u⟩
  item := by
    intro X eP eW eK hc i pins s σ H E I hf ⟨q1, q2, ⟨x0, y0, q3⟩, q4, q5⟩ ⟨l, m, x, y, hl, hm, hx, hy⟩
    subst eP eW eK
    obtain ⟨it1, r1, pl1, _⟩ := I.tuple hl
    obtain ⟨it2, r2, pl2, _⟩ := I.list hm
    obtain ⟨u1, hu1, ru1⟩ := r1.get hx
    obtain ⟨u2, hu2, ru2⟩ := r2.get hy
    have hh : X.A.in1.handled = none := by rw [Around.in1_handled]; exact I.ok.hd hc
    have D1 := Draws.tuple (prog := X.prog) (w := X.w) hh i1 a n1 it1.toArray
    have D2 := Draws.list (prog := X.prog) (w := X.w) hh i2 b n2 it2.toArray
    have li1 : i < it1.toArray.size := by rw [List.size_toArray]; exact (List.getElem?_eq_some_iff.mp hu1).1
    have li2 : i < it2.toArray.size := by rw [List.size_toArray]; exact (List.getElem?_eq_some_iff.mp hu2).1
    have lz : z < s.heap.objs.size := Heap.lt_size q1
    refine wpAny_pyNext_zipD2_item S D1 D2 q1 q2 q3 ⟨q4, pl1⟩ ⟨q5, pl2.isList⟩ li1 li2 fun x1 x2 h' tk p1 p2 hz' hO st1 st2 hT hsz hk => ⟨_, rfl, wpAny_letOwnedTupleGo_zip (s := { s with heap := h', toks := tk }) hz' fun h2 hz2 sb => ?_⟩
    obtain rfl : x1 = u1 := by
      have e1 : it1[i]? = some x1 := by rw [← p1]; exact List.getElem?_toArray.symm
      rw [hu1] at e1
      exact (Option.some.inj e1).symm
    obtain rfl : x2 = u2 := by
      have e1 : it2[i]? = some x2 := by rw [← p2]; exact List.getElem?_toArray.symm
      rw [hu2] at e1
      exact (Option.some.inj e1).symm
    have at2 : h2.get? s.heap.objs.size = some { cls := .type "tuple", data := .seq #[x1, x2] } := (sb.2 _ (Nat.ne_of_gt lz)).trans hT
    have nw : ObjOk X.prog X.w (upd H s.heap.objs.size (.tup [x, y])) h2 s.heap.objs.size (.tup [x, y]) := by
      refine ⟨(by show 2 ≤ sizeLine; decide), [x1, x2], .cons ru1 (.cons ru2 .nil), _, at2, rfl, _, rfl⟩
    have J : Inv X pins σ (upd H s.heap.objs.size (.tup [x, y])) { s with heap := h2, toks := tk } := by
      refine I.turnedNew (ch := [z, TI, TO, i1, i2]) (fun b o nb e => ?_) hf (Nat.le_refl _) nw
      exact (sb.2 b (fun e' => nb (by simp [e']))).trans (hk b o (fun e' => nb (by simp [e'])) (fun e' => nb (by simp [e'])) (fun e' => nb (by simp [e'])) (fun e' => nb (by simp [e'])) e)
    refine ⟨.ref s.heap.objs.size, _, J, rfl, ⟨_, x, y, rfl, I.hok.fresh (Nat.le_refl _), rfl, fun l2 h2' => by rw [I.tuple_inj h2' hl]; exact hx, fun m2 h2' => by rw [I.list_inj h2' hm]; exact hy⟩, ⟨hz2, ?_, ⟨x1, x2, ?_⟩, ?_, ?_⟩, fun c hcm => ?_⟩
    · exact (sb.2 _ S.TIz).trans (hk _ _ S.TIz S.TITO S.TIi1 S.TIi2 q2)
    · exact (sb.2 _ S.TOz).trans hO
    · exact st1.1.at fun o e => (sb.2 _ S.zi1.symm).trans e
    · exact st2.1.at fun o e => (sb.2 _ S.zi2.symm).trans e
    · have hlt : c < s.heap.objs.size := by
        have e' : c = z ∨ c = TI ∨ c = TO ∨ c = i1 ∨ c = i2 := by simpa using hcm
        rcases e' with q | q | q | q | q
        · rw [q]; exact lz
        · rw [q]; exact Heap.lt_size q2
        · rw [q]; exact Heap.lt_size q3
        · rw [q]; obtain ⟨_, e1, _⟩ := q4; exact Heap.lt_size e1
        · rw [q]; obtain ⟨_, e2, _⟩ := q5; exact Heap.lt_size e2
      rw [upd_ne (Nat.ne_of_lt hlt)]
      exact (hf c hcm).1
  done := by
    intro X eP eW eK hc i pins s σ H E I hf ⟨q1, q2, ⟨x0, y0, q3⟩, q4, q5⟩ ⟨l, m, hl, hm, hx, hy, he⟩
    subst eP eW eK
    obtain ⟨it1, r1, pl1, _⟩ := I.tuple hl
    obtain ⟨it2, r2, pl2, _⟩ := I.list hm
    have l1 := r1.length
    have l2 := r2.length
    have hh : X.A.in1.handled = none := by rw [Around.in1_handled]; exact I.ok.hd hc
    have D1 := Draws.tuple (prog := X.prog) (w := X.w) hh i1 a n1 it1.toArray
    have D2 := Draws.list (prog := X.prog) (w := X.w) hh i2 b n2 it2.toArray
    refine wpAny_pyNext_zipD2_end S D1 D2 q1 q2 q3 ⟨q4, pl1⟩ ⟨q5, pl2.isList⟩ (by simp; omega) (by simp; omega) (by simp; omega) fun h' tk hk => ⟨rfl, I.turnedL (t' := tk) (ch := [z, TI, TO, i1, i2]) (fun c o hb q =>
      hk c o (fun q' => hb (by simp [q'])) (fun q' => hb (by simp [q'])) (fun q' => hb (by simp [q'])) (fun q' => hb (by simp [q'])) q) hf⟩
  self := fun A i s Q E st h => wpAny_pyIter_zip st.1 h
theorem walk_zm {K : PySem.W.Frag} {a b : Addr} {xs ys : List V} : Walk (ItZm K a b) (min xs.length ys.length) (fun H => SqT K H a xs ∧ SqL K H b ys) (YPair (fun i => xs[i]?) (fun i => ys[i]?)) := by
  refine ⟨fun i _ hi q => ?_, fun _ q => ⟨xs, ys, q.1, q.2, Nat.min_le_left .., Nat.min_le_right .., by omega⟩, fun i H v H' _ q y => ?_⟩
  · have l1 : i < xs.length := by omega
    have l2 : i < ys.length := by omega
    exact ⟨xs, ys, xs[i], ys[i], q.1, q.2, List.getElem?_eq_getElem l1, List.getElem?_eq_getElem l2⟩
  · obtain ⟨T, x, y, e1, e2, e3, e4, e5⟩ := y
    exact ⟨T, x, y, e1, e2, e3, e4 xs q.1, e5 ys q.2⟩
theorem walk_zt {K : PySem.W.Frag} {a b : Addr} {xs ys : List V} : Walk (RZ.ItzT K a b) (min xs.length ys.length) (fun H => SqT K H a xs ∧ SqT K H b ys) (YPair (fun i => xs[i]?) (fun i => ys[i]?)) := by
  refine ⟨fun i _ hi q => ?_, fun _ q => ⟨xs, ys, q.1, q.2, by omega⟩, fun i H v H' _ q y => ?_⟩
  · have l1 : i < xs.length := by omega
    have l2 : i < ys.length := by omega
    exact ⟨xs, ys, xs[i], ys[i], q.1, q.2, List.getElem?_eq_getElem l1, List.getElem?_eq_getElem l2⟩
  · obtain ⟨T, x, y, e1, e2, e3, e4, e5⟩ := y
    exact ⟨T, x, y, e1, e2, e3, e4 xs q.1, e5 ys q.2⟩
theorem apart2 {x y : Nat} (h : x < y ∨ y < x) : x ≠ y := by omega
theorem notIn2 {x y z : Nat} (h : (x < y ∨ y < x) ∧ (x < z ∨ z < x)) : x ∉ [y, z] := by
  intro q
  simp at q
  omega
theorem zip_sepZ {n a b : Nat} (la : a < n) (lb : b < n) : ZipSep2 (n + 4) (n + 2) (n + 3) n (n + 1) [n, a] [n + 1, b] := by
  constructor
  case mem1 => exact List.mem_cons_self ..
  case mem2 => exact List.mem_cons_self ..
  all_goals first | exact apart2 (by omega) | exact notIn2 (by omega)
def iZipM (K : PySem.W.Frag) (ta : TA) : TI := fun σ H R => ta σ H fun vs H1 => ∃ a b xs ys, vs = [.ref a, .ref b] ∧ SqT K H1 a xs ∧ (SqL K H1 b ys ∨ SqT K H1 b ys) ∧
  ∀ J : It, Walk J (min xs.length ys.length) (fun H => Same H1 H) (YPair (fun i => xs[i]?) (fun i => ys[i]?)) → R J H1
theorem pi_zipM {X : Cx} {K : PySem.W.Frag} (hK : X.K = K) {e e2 : Expr} {ta : TA} {p pos tpos : Pos} {elts : List Expr} {kk : Nat} (hg : Gl X "zip") (hm : X.mg "zip" = none) (ha : PA X [e, e2] ta)
    (hs : starEach [e, e2] X.env = (false, eval e X.env) :: starEach [e2] X.env := by rfl) (hpl : (backTo pos (starEach [e2] X.env)).any (·.1) = false := by rfl) :
    PI X (.Tuple elts kk tpos) (.Call (.Name "zip" p) [e, e2] [] pos) (iZipM K ta) := by
  subst hK
  refine ⟨fun pins s σ H R I h => ?_⟩
  refine Call_ (ld_blt I hg hm PyProof.Rows.boot_zip (PyProof.Rows.callWith_type1 (thn (ha.run pos pins s σ H _ I h) fun us s1 ⟨vs, H1, I1, r1, q1⟩ => ?_) hs hpl))
  obtain ⟨a, b, xs, ys, rfl, hqx, hqy, q⟩ := q1
  obtain ⟨u, w, rfl, ra, rb⟩ : ∃ u w, us = [u, w] ∧ RelV (.ref a) u ∧ RelV (.ref b) w := by
    cases r1 with
    | cons x y =>
      cases y with
      | cons x2 z => cases z; exact ⟨_, _, rfl, x, x2⟩
  cases ra
  cases rb
  have new5 : ∀ c ∈ [s1.heap.objs.size + 4, s1.heap.objs.size + 2, s1.heap.objs.size + 3, s1.heap.objs.size, s1.heap.objs.size + 1], FpOk X pins H1 c := fun c hc => by
    have le : s1.heap.objs.size ≤ c := by
      simp only [List.mem_cons, List.not_mem_nil, or_false] at hc
      omega
    exact I1.fpOk le (I1.hok.fresh le)
  obtain ⟨it1, r1', p1, _⟩ := I1.tuple hqx
  obtain ⟨o1, ho1, _⟩ := id p1
  have la : a < s1.heap.objs.size := Heap.lt_size ho1
  rcases hqy with hqy | hqy
  · obtain ⟨it2, r2', p2, _⟩ := I1.list hqy
    have lb : b < s1.heap.objs.size := p2.lt
    refine zip_begins2 (begins_tuple a it1.toArray) (begins_list b it2.toArray) p1 p2.isList fun h' hz hTI hTO g1 g2 hsz hk => wpAny_pyIter_zip hz ?_
    refine ⟨s1.heap.objs.size + 4, _, _, _, H1, rfl, I1.kept (t' := s1.toks) hk, turn_zm (zip_sepZ la lb) (Nat.ne_of_lt la) (Nat.ne_of_lt (Nat.lt_succ_of_lt lb)), ⟨hz, hTI, ⟨_, _, hTO⟩, ⟨_, g1, rfl, rfl⟩, ⟨_, g2, rfl, rfl⟩⟩, new5, q _ ?_⟩
    exact walk_zm.mono (fun H' z => ⟨Same.tup z hqx, z.seq hqy⟩) (fun _ _ _ _ _ _ y => y)
  · obtain ⟨it2, r2', p2, _⟩ := I1.tuple hqy
    obtain ⟨o2, ho2, _⟩ := id p2
    have lb : b < s1.heap.objs.size := Heap.lt_size ho2
    refine RZ.call_zipT (show s1.heap.IsTuple a it1.toArray from p1) (show s1.heap.IsTuple b it2.toArray from p2) fun h' hz hTI hTO h1 h2 hsz hk => wpAny_pyIter_zip hz ?_
    refine ⟨s1.heap.objs.size + 4, _, _, _, H1, rfl, I1.kept (t' := s1.toks) hk, RZ.turn_zipT (PySem.W.ktu_apart s1.heap.objs.size a b la lb), ⟨hz, hTI, ⟨_, _, hTO⟩, h1, h2⟩, new5, q _ ?_⟩
    exact walk_zt.mono (fun H' z => ⟨Same.tup z hqx, Same.tup z hqy⟩) (fun _ _ _ _ _ _ y => y)
end Bh

set_option Elab.async false
set_option linter.all false
set_option maxRecDepth 100000
namespace Bh
open PySem PySem.Spec PyProof.Rows L2
/-! ### len(set(xs)) of distinct texts -/
theorem takeAny {ys : List Str} (d : ys.Nodup) {j : Nat} (hj : j < ys.length) : ((ys.take j).any (· == ys[j])) = false := by
  refine List.any_eq_false.mpr fun z hz ez => ?_
  obtain ⟨i, hi⟩ := List.mem_iff_getElem?.mp hz
  rw [List.getElem?_take] at hi
  split at hi
  · rename_i lt
    obtain ⟨li, ei⟩ := List.getElem?_eq_some_iff.mp hi
    exact List.pairwise_iff_getElem.mp d i j li hj lt (ei.trans (eq_of_beq ez))
  · cases hi
theorem takeGrow {ys : List Str} {j : Nat} (hj : j < ys.length) (c : Str) : ((ys.take j).any (· == c) || decide (c = ys[j])) = (ys.take (j + 1)).any (· == c) := by
  rw [List.take_add_one, List.getElem?_eq_getElem hj, List.any_append]
  congr 1
  show decide (c = ys[j]) = (ys[j] == c || false)
  rw [Bool.or_false]
  by_cases e : c = ys[j]
  · rw [← e]; simp
  · have e2 : ¬ ys[j] = c := fun z => e z.symm
    simp [e, e2]
abbrev TakeSet (P : Program) (w : World) (h : Heap) (D : Addr) (ys : List Str) (j : Nat) : Prop := h.SetOf (strKind P w) D (fun c => (ys.take j).any (· == c)) j
theorem TakeSet.at {P : Program} {w : World} {h h2 : Heap} {D : Addr} {ys : List Str} {j : Nat} (z : TakeSet P w h D ys j) (k : ∀ o, h.get? D = some o → h2.get? D = some o) : TakeSet P w h2 D ys j := by
  obtain ⟨o, es, ep, tb, e, more⟩ := z
  exact ⟨o, es, ep, tb, k o e, more⟩
section
variable {P : Program} {w : World} {A : Around} {C : Result → Shared → Prop} {it : Addr} {fp wr : List Addr} {G : Array GenState → Array GenState → Prop} {n : Nat} {Pv : Nat → Value → Prop} {St : Nat → Shared → Prop}
theorem fillLoop (W : WalksS P w A.in1 it fp wr G n Pv St) (D : Addr) (far : D ∉ fp) (ys : List Str) (hn : ys.length = n) (room : n + 1 < scanBound) (d : ys.Nodup)
    (hv : ∀ j v, Pv j v → ∃ t, v = .str (ys.getD j Str.empty) t) (left : Nat) :
    ∀ (j : Nat) (s : Shared), n - j = left → j ≤ n → St j s → TakeSet P w s.heap D ys j →
      (∀ s2, Moved (D :: wr) G s s2 → TakeSet P w s2.heap D ys n → C (.ok (.ret .none)) s2) →
      codeAny (model P w) A (.builtin "set.update.loop" ⟨[.ref D, .ref it], []⟩) C s := by
  have far2 : D ∉ wr := fun z => far (W.sub _ z)
  induction left with
  | zero =>
    intro j s ej le st z fin
    obtain rfl : j = n := by omega
    refine codeAny_builtin PyProof.Rows.F.entry_set_update_loop ((Around.under_plainId PyProof.Rows.F.plain_set_update_loop _).symm ▸ ?_)
    refine wpAny_bind (m := pyNext (.ref it)) (W.done s _ _ st fun s2 mv => wpAny_pure (fin s2 (mv.mono fun b hb => .tail _ hb) ?_))
    exact z.at fun o e => mv.heap D o far2 e
  | succ left ih =>
    intro j s ej le st z fin
    have lt : j < n := by omega
    have lj : j < ys.length := by omega
    refine codeAny_builtin PyProof.Rows.F.entry_set_update_loop ((Around.under_plainId PyProof.Rows.F.plain_set_update_loop _).symm ▸ ?_)
    refine wpAny_bind (m := pyNext (.ref it)) (W.item j s _ _ lt st fun v s2 pv st2 mv => ?_)
    obtain ⟨t, ev⟩ := hv j v pv
    rw [List.getD_eq_getElem?_getD, List.getElem?_eq_getElem lj] at ev
    change v = .str ys[j] t at ev
    subst ev
    have z2 : TakeSet P w s2.heap D ys j := z.at fun o e => mv.heap D o far2 e
    refine wpAny_bind (m := holding [Value.str ys[j] t] (setAdd D (.str ys[j] t))) (wpAny_holding ?_)
    unfold setAdd
    refine wpAny_holding (wpAny_bind ((strKind P w).pyHash (k := ys[j]) (strKind_is _ _ _ _) ?_))
    refine wpAny_setAddHashed_of (knd := strKind P w) (s := { s2 with toks := s2.toks + 1 }) (strKind_is _ _ _ _) rfl z2 (by omega) fun h3 sb z3 => ?_
    have z4 : TakeSet P w h3 D ys (j + 1) := SetOf_congr z3 (takeGrow lj) (by rw [takeAny d lj]; rfl)
    have off : ∀ {b : Addr} {o : Obj}, b ≠ D → s2.heap.get? b = some o → h3.get? b = some o := fun nb e => (sb.2 _ nb).trans e
    refine wpAny_pure ⟨plainId_quiet PyProof.Rows.F.plain_set_update_loop _, ih (j + 1) _ (by omega) lt (W.frame _ s2 _ _ st2 (Nat.le_succ _) fun b hb o e => off (fun q => far (q ▸ hb)) e) z4 fun s4 mv2 z5 => ?_⟩
    exact fin s4 (Moved.trans W.gtrans ((mv.mono fun b hb => .tail _ hb).then_heap (Nat.le_succ _) fun b o nb e => off (fun q => nb (q ▸ .head _)) e) mv2) z5
end
section
variable {P : Program} {w : World} {A : Around} {E : Value → Shared → Prop} {s : Shared}
abbrev set0 (led : Bool) : Obj := { cls := .type "set", dict := none, data := .set #[] 0 (.fresh 0 0 led) }
/-- set(x), by what set.__init__ does to the new set -/
theorem set_made {x : Value} {Z : Shared → Prop} {Q : Value → Shared → Prop}
    (fill : ∀ led : Bool, wpAny (model P w) A.in1.in1 (Builtin.«set.__init__» ⟨[.ref s.heap.objs.size, x], []⟩)
      (fun fin s2 => match fin with | .done f => wants (fun r s3 => r = .none ∧ Z s3) E (.ok f) s2 | .again c => c.quiet = true ∧ codeAny (model P w) A.in1 c (wants (fun r s3 => r = .none ∧ Z s3) E) s2)
      (fun e s2 => wants (fun r s3 => r = .none ∧ Z s3) E (.error e) s2) { s with heap := s.heap.push (set0 led) })
    (use : ∀ s3, Z s3 → Q (.ref s.heap.objs.size) s3) : wpAny (model P w) A (call (.type "set") [x]) Q E s := by
  obtain ⟨mc, mt, road⟩ := PySem.F.called_set.mro
  have mk1 := PySem.F.called_set.made
  have mk2 := PySem.F.called_set.sub
  have mk3 := PySem.F.called_set.notType
  have mk4 := PySem.F.called_set.canCreate
  have mk5 := PySem.F.typeCall_set_1 x
  refine wpAny_call (codeAny_of_tree (show wpAny (model P w) _ (callAny (.type "set") ⟨[x], []⟩) _ _ s from wpAny_pure ⟨Code.quiet_builtin _ (by decide +kernel), codeAny_builtin PySem.F.entry_type_call ?_⟩))
  rw [Around.under_plain (weight_type_call_type "set" [x] []) rfl]
  repeat (any_goals (first | assumption | wp_step))
  refine codeAny_mono (code_set_new_1 x (E := E) (Q₁ := fun D s2 => ∃ led : Bool, D = .ref s.heap.objs.size ∧ s2 = { s with heap := s.heap.push (set0 led) }) fun led => ⟨led, rfl, rfl⟩) fun r s2 end1 => ?_
  cases r with
  | error e => exact end1
  | ok fl =>
    cases fl with
    | ret D =>
      obtain ⟨led, eD, eS⟩ := end1
      subst eD eS
      have at0 : (s.heap.push (set0 led)).get? s.heap.objs.size = some (set0 led) := Heap.get?_push_size _ rfl
      have ty0 : Shared.TypeIs { s with heap := s.heap.push (set0 led) } (.ref s.heap.objs.size) "set" := ⟨_, at0, rfl⟩
      have in1 := PySem.F.called_set.init.lookup
      have in2 := PySem.F.called_set.init.bind (.ref s.heap.objs.size)
      repeat (any_goals (first | assumption | wp_step))
      refine codeAny_mono (codeAny_call_builtin PySem.F.called_set.init.plain PySem.F.entry_set_init (check_set_init_1 ty0 (fill led))) fun r2 s3 end2 => ?_
      cases r2 with
      | error e => exact end2
      | ok fl2 =>
        cases fl2 with
        | ret r =>
          obtain ⟨er, z⟩ := end2
          subst er
          repeat (any_goals (first | assumption | wp_step))
          exact use _ z
        | _ => exact end2.elim
    | _ => exact end1.elim
end
end Bh

set_option Elab.async false
set_option linter.all false
set_option maxRecDepth 100000
set_option maxHeartbeats 3200000
namespace Bh
open PySem PySem.Spec PyProof.Rows L2
theorem texts_at : ∀ {ys : List Str} {us : List Value}, Vals (ys.map V.str) us → ∀ (j : Nat) (v : Value), us[j]? = some v → ∃ t, v = .str (ys.getD j Str.empty) t
  | [], _, .nil, j, v, h => by simp at h
  | y :: ys, _, .cons ⟨t, e⟩ _, 0, v, h => ⟨t, by simp at h; rw [← h, e]; rfl⟩
  | y :: ys, _, .cons _ more, j + 1, v, h => by
    obtain ⟨t, e⟩ := texts_at more j v (by simpa using h)
    exact ⟨t, by rw [e] <;> rfl⟩
section
variable {P : Program} {w : World} {A : Around} {E : Value → Shared → Prop} {s : Shared}
/-- what stands behind set(x): the set of the texts at the new address -/
def Filled (P : Program) (w : World) (s : Shared) (ys : List Str) (s3 : Shared) : Prop :=
  ∃ h3 t3, s3 = { s with heap := h3, toks := t3 } ∧ TakeSet P w h3 s.heap.objs.size ys ys.length ∧ ∀ b o, b < s.heap.objs.size → s.heap.get? b = some o → h3.get? b = some o
theorem fill_end {s2 : Shared} {D : Addr} {led : Bool} {ob : Obj} {ys : List Str} (mv : Moved [D, (s.heap.push (set0 led)).objs.size] (fun a b => b = a) { s with heap := (s.heap.push (set0 led)).push ob } s2) (eD : D = s.heap.objs.size) (z : TakeSet P w s2.heap D ys ys.length) : Filled P w s ys s2 := by
  subst eD
  refine ⟨s2.heap, s2.toks, ?_, z, fun b o lt e => mv.heap b o ?_ (Heap.get?_push_of_some _ (Heap.get?_push_of_some _ e))⟩
  · obtain ⟨h, g, d, t, os⟩ := s2
    have e1 : g = s.gens := mv.gens
    have e2 : d = s.drawn := mv.drawn
    have e3 : os = s.os := mv.os
    rw [e1, e2, e3]
  · rw [Heap.size_push]
    intro q
    rcases List.mem_cons.mp q with q | q
    · exact Nat.ne_of_lt lt q
    · exact Nat.ne_of_lt (Nat.lt_succ_of_lt lt) (List.mem_singleton.mp q)
theorem fill_list {l : Addr} {us : List Value} {ys : List Str} (hh : A.handled = none) (hl : s.heap.IsList l us.toArray) (rv : Vals (ys.map V.str) us) (d : ys.Nodup) (few : ys.length + 1 < scanBound) (led : Bool) :
    wpAny (model P w) A.in1.in1 (Builtin.«set.__init__» ⟨[.ref s.heap.objs.size, .ref l], []⟩)
      (fun fin s2 => match fin with | .done f => wants (fun r s3 => r = .none ∧ Filled P w s ys s3) E (.ok f) s2 | .again c => c.quiet = true ∧ codeAny (model P w) A.in1 c (wants (fun r s3 => r = .none ∧ Filled P w s ys s3) E) s2)
      (fun e s2 => wants (fun r s3 => r = .none ∧ Filled P w s ys s3) E (.error e) s2) { s with heap := s.heap.push (set0 led) } := by
  have ll : l < s.heap.objs.size := by
    obtain ⟨o, e, _⟩ := id hl
    exact Heap.lt_size e
  obtain ⟨⟨oc, od, odt, osl⟩, oe, ec, on, ed⟩ := id hl
  simp only at ec ed
  subst ec ed
  have at0 : (s.heap.push (set0 led)).get? s.heap.objs.size = some (set0 led) := Heap.get?_push_size _ rfl
  have oe2 : (s.heap.push (set0 led)).get? l = some { cls := .type "list", dict := od, data := .seq us.toArray on, slots := osl } := Heap.get?_push_of_some _ oe
  have no1 := PySem.F.sub_list_set
  have no2 := PySem.F.sub_list_frozenset
  have no3 : (Value.type "list" == Value.type "dict") = false := by decide
  have hl2 : (s.heap.push (set0 led)).IsList l us.toArray := ⟨_, oe2, rfl, on, rfl⟩
  unfold Builtin.«set.__init__» noKeywords Builtin.Frozenset.updateFrom
  generalize ePI : pyIter = PI
  wp_walk
  subst ePI
  refine wpAny_pyIter_list hl2 (wpAny_bind (wpAny_runValue ?_))
  have hh3 : A.in1.in1.in1.handled = none := by simp [hh]
  have ne1 : l ≠ (s.heap.push (set0 led)).objs.size := by rw [Heap.size_push]; exact Nat.ne_of_lt (Nat.lt_succ_of_lt ll)
  have len : us.toArray.size = ys.length := by rw [List.size_toArray, ← rv.length, List.length_map]
  refine fillLoop ((Walks.list hh3 _ l ne1 us.toArray).toS) s.heap.objs.size ?far ys len.symm (by rw [len]; exact few) d (fun j v e => texts_at rv j v (by simpa using e)) us.toArray.size 0 _ rfl (Nat.zero_le _)
    ⟨⟨_, Heap.get?_push_size _ rfl, rfl, rfl⟩, hl2.push _⟩ ?beg fun s2 mv z => ?fin
  case far =>
    rw [Heap.size_push]
    intro q
    rcases List.mem_cons.mp q with q | q
    · exact Nat.ne_of_lt (Nat.lt_succ_self _) q
    · exact Nat.ne_of_gt ll (List.mem_singleton.mp q)
  case beg => exact SetOf_congr ((setObjOf_fresh (knd := strKind P w) led).setOf (Heap.get?_push_of_some _ at0) (by unfold scanBound; omega)) (fun _ => rfl) rfl
  case fin =>
    rw [len] at z
    exact wpAny_pure (wpAny_pure ⟨rfl, fill_end mv rfl z⟩)
theorem fill_tuple {l : Addr} {us : List Value} {ys : List Str} (hh : A.handled = none) (hl : s.heap.IsTuple l us.toArray) (rv : Vals (ys.map V.str) us) (d : ys.Nodup) (few : ys.length + 1 < scanBound) (led : Bool) :
    wpAny (model P w) A.in1.in1 (Builtin.«set.__init__» ⟨[.ref s.heap.objs.size, .ref l], []⟩)
      (fun fin s2 => match fin with | .done f => wants (fun r s3 => r = .none ∧ Filled P w s ys s3) E (.ok f) s2 | .again c => c.quiet = true ∧ codeAny (model P w) A.in1 c (wants (fun r s3 => r = .none ∧ Filled P w s ys s3) E) s2)
      (fun e s2 => wants (fun r s3 => r = .none ∧ Filled P w s ys s3) E (.error e) s2) { s with heap := s.heap.push (set0 led) } := by
  have ll : l < s.heap.objs.size := by
    obtain ⟨o, e, _⟩ := id hl
    exact Heap.lt_size e
  obtain ⟨⟨oc, od, odt, osl⟩, oe, ec, on, ed⟩ := id hl
  simp only at ec ed
  subst ec ed
  have at0 : (s.heap.push (set0 led)).get? s.heap.objs.size = some (set0 led) := Heap.get?_push_size _ rfl
  have oe2 : (s.heap.push (set0 led)).get? l = some { cls := .type "tuple", dict := od, data := .seq us.toArray on, slots := osl } := Heap.get?_push_of_some _ oe
  have no1 := PySem.F.sub_tuple_set
  have no2 := PySem.F.sub_tuple_frozenset
  have no3 : (Value.type "tuple" == Value.type "dict") = false := by decide
  have hl2 : (s.heap.push (set0 led)).IsTuple l us.toArray := ⟨_, oe2, rfl, on, rfl⟩
  unfold Builtin.«set.__init__» noKeywords Builtin.Frozenset.updateFrom
  generalize ePI : pyIter = PI
  wp_walk
  subst ePI
  refine wpAny_pyIter_tuple hl2 (wpAny_bind (wpAny_runValue ?_))
  have hh3 : A.in1.in1.in1.handled = none := by simp [hh]
  have ne1 : l ≠ (s.heap.push (set0 led)).objs.size := by rw [Heap.size_push]; exact Nat.ne_of_lt (Nat.lt_succ_of_lt ll)
  have len : us.toArray.size = ys.length := by rw [List.size_toArray, ← rv.length, List.length_map]
  refine fillLoop ((Walks.tuple hh3 _ l ne1 us.toArray).toS) s.heap.objs.size ?far ys len.symm (by rw [len]; exact few) d (fun j v e => texts_at rv j v (by simpa using e)) us.toArray.size 0 _ rfl (Nat.zero_le _)
    ⟨⟨_, Heap.get?_push_size _ rfl, rfl, rfl⟩, hl2.push _⟩ ?beg fun s2 mv z => ?fin
  case far =>
    rw [Heap.size_push]
    intro q
    rcases List.mem_cons.mp q with q | q
    · exact Nat.ne_of_lt (Nat.lt_succ_self _) q
    · exact Nat.ne_of_gt ll (List.mem_singleton.mp q)
  case beg => exact SetOf_congr ((setObjOf_fresh (knd := strKind P w) led).setOf (Heap.get?_push_of_some _ at0) (by unfold scanBound; omega)) (fun _ => rfl) rfl
  case fin =>
    rw [len] at z
    exact wpAny_pure (wpAny_pure ⟨rfl, fill_end mv rfl z⟩)
end
def tLenSetS (K : PySem.W.Frag) (ta : TE) : TE := fun σ H Q => ta σ H fun x H1 => ∃ (l : Addr) (xs : List Str), x = .ref l ∧ (SqL K H1 l (xs.map V.str) ∨ SqT K H1 l (xs.map V.str)) ∧ xs.Nodup ∧ xs.length ≤ 1000 ∧ Q (.int xs.length) H1
theorem pe_lenSetS {X : Cx} {K : PySem.W.Frag} (hK : X.K = K) {a : Expr} {ta : TE} {p p2 q pos : Pos} (hc : X.calm = true) (hg : Gl X "len") (hm : X.mg "len" = none) (hg2 : Gl X "set") (hm2 : X.mg "set" = none) (ha : PE X a ta)
    (na : starEach [a] X.env = (false, eval a X.env) :: starEach [] X.env := by rfl) : PE X (.Call (.Name "len" p) [.Call (.Name "set" p2) [a] [] q] [] pos) (tLenSetS K ta) := by
  subst hK
  refine ⟨fun pins s σ H Q I h => Call_ (ld_blt I hg hm boot_len (callWith_builtin1 (args_cons ?_ rfl) rfl rfl))⟩
  refine Call_ (ld_blt I hg2 hm2 boot_set (callWith_type1 (args_cons (thn (ha.run pins s σ H _ I h) fun v s1 ⟨x, H1, I1, r1, q1⟩ => args_nil ?_) na) na rfl))
  obtain ⟨l, xs, rfl, hq, nd, few, q1⟩ := q1
  cases r1
  have hcalm := I1.ok.hd hc
  have room : xs.length + 1 < scanBound := by unfold scanBound; omega
  have after : ∀ s3, Filled X.prog X.w s1 xs s3 → wpAny (model X.prog X.w) X.A (spliced (backTo pos (starEach [] X.env))) (fun vs s₂ => wpAny (model X.prog X.w) X.A (call (.builtin "len") (Value.ref s1.heap.objs.size :: vs)) (EP X pins σ Q) X.xe s₂) X.xe s3 := by
    intro s3 ⟨h3, t3, e3, z, kp⟩
    subst e3
    refine args_nil ?_
    obtain ⟨o, es, ep, t, ho, hex, hd, _, _, _, hf, hn⟩ := z
    have I2 : Inv X pins σ H1 { s1 with heap := h3, toks := t3 } := I1.kept fun b o e => kp b o (Heap.lt_size e) e
    exact call_len_set ho hex hd hf (by rw [hn] <;> omega) ⟨.int xs.length, H1, I2.tok _, ⟨_, by rw [hn]⟩, q1⟩
  rcases hq with hq | hq
  · obtain ⟨its, r, pl, hz⟩ := I1.list hq
    exact set_made (fill_list hcalm pl.isList r nd room) after
  · obtain ⟨its, r, pl, hz⟩ := I1.tuple hq
    exact set_made (fill_tuple hcalm pl r nd room) after
end Bh


set_option Elab.async false
set_option linter.all false
set_option maxRecDepth 100000
set_option maxHeartbeats 1000000
namespace Bh
open PySem PySem.Spec PyProof.Rows L2
section
variable {P : Program} {w : World} {K : PySem.W.Frag} {mg : Str → Option Value} {base : Heap}
theorem map_str_inj : ∀ {l m : List Str}, l.map PyData.str = m.map PyData.str → l = m
  | [], [], _ => rfl
  | [], _ :: _, e => by cases e
  | _ :: _, [], e => by cases e
  | a :: l, b :: m, e => by
    have e1 := List.cons.inj e
    have e2 : a = b := by
      have := e1.1
      injection this
    rw [e2, map_str_inj e1.2]
theorem dF_inj {f g : Fld} (e : dF f = dF g) : f = g := by
  unfold dF at e
  injection e with e
  have e1 := List.cons.inj e
  have e2 := List.cons.inj e1.2
  have h1 : f.1 = g.1 := by
    have := e1.1
    injection this
  have h2 : f.2 = g.2 := by
    have := e2.1
    injection this with h
    exact map_str_inj h
  exact Prod.ext h1 h2
/-- how many values the first fields have -/
def FsV (fs : List Fld) : Prop := ∀ i, (vals (fs.take i)).length ≤ 10000
def spValuesOf (K : PySem.W.Frag) : Sp := fun vs H Q _ => ∃ (v : V) (fs : List Fld), vs = [v] ∧ DpS K H v (fs.map dF) ∧ FsB fs ∧ FsV fs ∧ ∀ (p : Addr) (ys : List V) (H' : Hp), H p = none → Same H H' → H' p = some (.lst ys) → DpAll K H' ys ((vals fs).map dV) → Q (.ref p) H'
theorem ok_valuesof (T : Top K mg) : FnOk P w K mg base CX0 1 T.a_values_of T.fd_values_of ["fields"] (spValuesOf K) := by
  refine T.d_values_of.F.ok sc_values_of (fun vs H Q E h => ?_) (fun cdv A outer s H vs Q E hr h => ?_)
  · obtain ⟨v, fs, rfl, _⟩ := h
    rfl
  obtain ⟨v, fs, rfl, ⟨a, xs, rfl, hS, hD⟩, fb, fv, q⟩ := h
  refine ⟨_, (pss_cons (ps_set (i := 1) sc_values_of.nd rfl (Or.inl rfl) (pe_lst (pa_cons (pe_tup pa_nil) pa_nil)))
    (pss_cons (ps_for PassesOwn.never rfl (pi_seq_K (K := K) (by rfl) (pv 0)) (pg_tup_K (K := K) (by rfl) (n := 2) (by rfl) (pgs_cons (pg_name (i := 2) sc_values_of.nd rfl (Or.inl rfl)) (pgs_cons (pg_name (i := 3) sc_values_of.nd rfl (Or.inr rfl)) pgs_nil)))
      (pss_one (ps_setLc2 (i := 1) rfl sc_values_of.nd rfl rfl (sw_true rfl rfl rfl (by decide +kernel)) (pi_list_K (K := K) (by rfl) (pv 1)) (blkOk_by (own := [("value", 4), ("option", 5)]) (N := ["fields", "found", "_", "options", "value", "option"]) (sc := defScope s_values_of) (by decide +kernel)) (vs1 := [5]) (by decide) (fun _ _ _ _ _ => by exact (pg_name (i := 4) sc_values_of.nd rfl (Or.inl rfl))) (fun _ _ _ _ _ => by exact pts_nil) (fun _ _ _ _ _ => by exact (pi_tup_K (K := K) (by rfl) (pv 3))) (fun _ _ _ _ _ => by exact (pg_name (i := 5) sc_values_of.nd rfl (Or.inl rfl))) (fun _ _ _ _ _ => by exact pts_nil) (fun _ _ _ _ _ => by exact (pe_tup (pa_starK (K := K) (by rfl) (pv 4) (pa_cons (pv 5) pa_nil)))))))
    (pss_one (ps_ret (pv 1))))), ?_⟩
  have lx : xs.length = fs.length := by rw [DpAll.length hD, List.length_map]
  refine ⟨Nat.zero_le _, fun t0 n0 => ⟨(by show 1 ≤ sizeLine; decide), fun p0 m0 => ?_⟩⟩
  have s0 := (same_new (o := .tup []) n0).trans (same_new (o := .lst [.ref t0]) m0)
  have h0 : DpAll K (upd (upd H t0 (.tup [])) p0 (.lst [.ref t0])) [.ref t0] ((vals (fs.take 0)).map dV) := .cons (.tup (SqT.of ((same_new (o := .lst [.ref t0]) m0) _ _ upd_same)) .nil) .nil
  refine iSeqV rfl (seq_mono s0 hS) fun J G wk hG => for_it wk (fun i σ H' => ∃ p ys x2 x3, σ = [some (.ref a), some (.ref p), x2, x3, none, none] ∧ Same (upd (upd H t0 (.tup [])) p0 (.lst [.ref t0])) H' ∧ H p = none ∧ H' p = some (.lst ys) ∧ DpAll K H' ys ((vals (fs.take i)).map dV))
    ⟨p0, _, none, none, rfl, Same.refl _, (same_new n0).free m0, upd_same, h0⟩ (fun i σ H' _ ⟨_, _, _, _, _, s, _⟩ => hG H' s) ?_ ?_
  · rintro i y σ H' H'' hi ⟨p, ys, x2, x3, rfl, s1, np, hp, hys⟩ ⟨rfl, ey⟩
    obtain ⟨d, e1, e2⟩ := DpAll.get hD ey
    obtain ⟨f, hf, rfl⟩ := List.mem_map.mp (List.mem_of_getElem? e1)
    have ef : fs[i]? = some f := by
      rw [List.getElem?_map] at e1
      cases ef : fs[i]? with
      | none => rw [ef] at e1; cases e1
      | some g =>
        rw [ef] at e1
        have e3 : dF g = dF f := Option.some.inj e1
        have e4 : g = f := dF_inj e3
        rw [e4]
    obtain ⟨t, o, rfl, k1, k2⟩ := dp_dF (Dp.mono (s0.trans s1) e2)
    have ly : ys.length = (vals (fs.take i)).length := by rw [DpAll.length hys, List.length_map]
    have b1 := fv i
    have b2 := fv (i + 1)
    rw [vals_take ef] at b2
    refine ⟨t, _, rfl, k1, rfl, _, _, rfl, _, _, rfl, rfl, ?_⟩
    refine ⟨_, rfl, p, rfl, ⟨_, SqL.of hp⟩, fun D nD => ?_⟩
    refine walk_out walk_list (fun j H2 => Same H'' H2 ∧ ∃ acc, H2 D = some (.lst acc) ∧ DpAll K H2 acc ((ext1 ((vals (fs.take i)).take j) f).map dV)) ⟨same_new nD, [], upd_same, .nil⟩ (fun j H2 _ z => SqL.of (z.1 _ _ hp)) ?_ ?_
    · rintro j x H2 H3 hj ⟨s2, acc, hacc, dacc⟩ ⟨rfl, ex⟩
      obtain ⟨d, g1, g2⟩ := DpAll.get hys ex
      have ew : ∃ w0, (vals (fs.take i))[j]? = some w0 ∧ d = dV w0 := by
        rw [List.getElem?_map] at g1
        cases ew : (vals (fs.take i))[j]? with
        | none => rw [ew] at g1; cases g1
        | some w0 =>
          rw [ew] at g1
          exact ⟨w0, rfl, (Option.some.inj g1).symm⟩
      obtain ⟨w0, ew, rfl⟩ := ew
      obtain ⟨u, us, rfl, hu, hus⟩ := dp_tup g2
      obtain rfl := dp_strs hus
      have lu : (ext1 ((vals (fs.take i)).take j) f).length + f.2.length ≤ 10000 := by
        refine Nat.le_trans ?_ b2
        unfold ext1
        rw [flat_len, flat_len, List.length_take, ← Nat.succ_mul]
        have : j < (vals (fs.take i)).length := (List.getElem?_eq_some_iff.mp ew).1
        exact Nat.mul_le_mul_right _ (by omega)
      have lw : w0.length ≤ 1000 := by
        have z := (vals_ok (fs := fs.take i) w0 (List.mem_of_getElem? ew)).1
        rw [List.length_take] at z
        have := fb.len
        omega
      have la : acc.length = (ext1 ((vals (fs.take i)).take j) f).length := by rw [DpAll.length dacc, List.length_map]
      refine ⟨rfl, _, rfl, o, rfl, ⟨_, Same.tup s2 k2⟩, ?_⟩
      refine walk_out walk_tup (fun k H4 => Same H'' H4 ∧ ∃ acc4, H4 D = some (.lst acc4) ∧ DpAll K H4 acc4 ((ext1 ((vals (fs.take i)).take j) f ++ (f.2.take k).map fun o => w0 ++ [o]).map dV)) ⟨s2, acc, hacc, by rw [List.take_zero, List.map_nil, List.append_nil]; exact dacc⟩ (fun k H4 _ z => Same.tup z.1 k2) ?_ ?_
      · rintro k x H4 H5 hk ⟨s4, acc4, hacc4, dacc4⟩ ⟨rfl, ex2⟩
        rw [List.getElem?_map] at ex2
        cases eo : f.2[k]? with
        | none => rw [eo] at ex2; cases ex2
        | some o2 =>
          rw [eo] at ex2
          cases ex2
          have lk : k < f.2.length := (List.getElem?_eq_some_iff.mp eo).1
          have l4 : acc4.length ≤ 10000 := by
            rw [DpAll.length dacc4, List.length_map, List.length_append, List.length_map, List.length_take]
            omega
          refine ⟨rfl, _, rfl, u, _, rfl, .inl (Same.tup s4 hu), _, rfl, (by rw [List.length_append, List.length_map]; show _ + 1 ≤ sizeLine; exact le_line (by omega)), fun tq nq => ?_⟩
          have s5 : Same H5 (upd H5 tq (.tup (w0.map V.str ++ [.str o2]))) := same_new nq
          have im : Imm (upd H5 tq (.tup (w0.map V.str ++ [.str o2]))) (upd (upd H5 tq (.tup (w0.map V.str ++ [.str o2]))) D (.lst (acc4 ++ [.ref tq]))) := imm_upd (s5 _ _ hacc4)
          refine ⟨acc4, s5 _ _ hacc4, lt_line (by omega), same_mut (s4.trans s5) nD, _, upd_same, ?_⟩
          have eL : ((ext1 ((vals (fs.take i)).take j) f ++ (f.2.take (k + 1)).map fun o => w0 ++ [o]).map dV) = ((ext1 ((vals (fs.take i)).take j) f ++ (f.2.take k).map fun o => w0 ++ [o]).map dV) ++ [dV (w0 ++ [o2])] := by
            rw [List.take_add_one, eo]
            simp
          rw [eL]
          have ht : upd H5 tq (.tup (w0.map V.str ++ [.str o2])) tq = some (.tup ((w0 ++ [o2]).map V.str)) := by rw [upd_same, List.map_append]; rfl
          exact dpa_snoc (DpAll.imm im (noLs_map noL_dV _) (DpAll.mono s5 dacc4)) (Dp.imm im (noL_dV _) (.tup (SqT.of ht) (strs_dp _)))
      · rintro H4 ⟨s4, acc4, hacc4, dacc4⟩
        rw [List.length_map, List.take_length] at dacc4
        refine ⟨s4, acc4, hacc4, ?_⟩
        rw [List.take_add_one, ew]
        unfold ext1 at dacc4 ⊢
        rw [List.flatMap_append]
        simpa using dacc4
    · rintro H2 ⟨s2, acc, hacc, dacc⟩
      rw [ly, List.take_length] at dacc
      refine ⟨D, acc, _, _, rfl, s1.trans s2, (s0.trans s1).free nD, hacc, ?_⟩
      rw [vals_take ef]
      exact dacc
  · rintro σ H' ⟨p, ys, x2, x3, rfl, s1, np, hp, hys⟩
    rw [lx, List.take_length] at hys
    exact ⟨_, rfl, q _ _ _ np (s0.trans s1) hp hys⟩
/-- names of options -/
def IsOp (o : Str) : Prop := wordB o lettersD = true ∧ o.length ≤ 8
def spAreOpts (K : PySem.W.Frag) : Sp := fun vs H Q _ => ∃ (a : Addr) (os : List Str), vs = [.ref a] ∧ SqT K H a (os.map V.str) ∧ 2 ≤ os.length ∧ os.length ≤ 6 ∧ os.Nodup ∧ (∀ o ∈ os, IsOp o) ∧ ∀ H', Same H H' → Q (.bl true) H'
theorem ok_areopts (T : Top K mg) : FnOk P w K mg base CX0 3 T.a_are_options T.fd_are_options ["value"] (spAreOpts K) := by
  have G_is_tuple := ok_tup (P := P) (w := w) (base := base) T
  have G_is_option := ok_option (P := P) (w := w) (base := base) T
  refine T.d_are_options.F.ok sc_are_options (fun vs H Q E h => ?_) (fun cdv A outer s H vs Q E hr h => ?_)
  · obtain ⟨a, os, rfl, _⟩ := h
    rfl
  obtain ⟨a, os, rfl, hx, l1, l2, nd, hop, q⟩ := h
  refine ⟨_, (pss_cons (ps_if (pt_not (pt_val (pe_call G_is_tuple (hr.mono (by decide)) (by rfl) T.d_is_tuple.g T.d_is_tuple.kp T.d_is_tuple.b .nil pass0 (pa_cons (pv 0) (pa_cons (pe_gI rfl T.g_LEAST_OPTIONS) (pa_cons (pe_gI rfl T.g_MOST_OPTIONS) pa_nil)))))) (pss_one (ps_ret pe_bl)) pss_nil)
    (pss_one (ps_ret (pe_and (pe_callB (cr_all_K (K := K) (by rfl) rfl) (by rfl) T.b_all (by decide +kernel) (pa_cons (pe_lc (own := [("option", 1)]) rfl sc_are_options.nd (pi_tup_K (K := K) (by rfl) (pv 0)) (blkOk_by (own := [("option", 1)]) (N := ["value", "option"]) (sc := defScope s_are_options) (by decide +kernel)) (fun _ _ _ _ _ => by exact (pg_name (i := 1) sc_are_options.nd rfl (Or.inl rfl))) (fun _ _ _ _ _ => by exact pts_nil) (fun _ _ _ _ _ => by exact (pe_call G_is_option (hr.mono (by decide)) (by rfl) T.d_is_option.g T.d_is_option.kp T.d_is_option.b .nil pass0 (pa_cons (pv 1) pa_nil)))) pa_nil)) (pe_one (pe_cmpR op_eq (pe_lenSetS (K := K) (by rfl) rfl (by rfl) T.b_len (by rfl) T.b_set (pv 0)) (pe_callB (call_len_seq_K (K := K) (by rfl)) (by rfl) T.b_len PySem.boot_len (pa_cons (pv 0) pa_nil)) (nomark _))))))), ?_⟩
  have lo : (os.map V.str).length = os.length := List.length_map _
  refine ⟨_, rfl, a, _, 2, 6, rfl, hx, by omega, by omega, _, rfl, iteF ?_⟩
  refine ⟨_, rfl, a, rfl, ⟨_, hx⟩, fun D nD => ?_⟩
  refine lc_trues walk_tup nD (by omega) (fun H' s => Same.tup s hx) (fun i x H' R R' ex s1 k => ?_) (fun H1 s1 hD => ?_)
  · rw [List.getElem?_map] at ex
    cases eo : os[i]? with
    | none => rw [eo] at ex; cases ex
    | some o =>
      rw [eo] at ex
      cases ex
      have ho := hop o (List.mem_of_getElem? eo)
      refine ⟨rfl, _, rfl, o, rfl, Nat.le_trans ho.2 (by decide), fun H4 s4 => ?_⟩
      rw [ho.1]
      exact k H4 s4
  refine ⟨D, _, rfl, SqL.of hD, ?_⟩
  rw [bls_true]
  refine ⟨_, rfl, iteT ?_⟩
  refine ⟨_, rfl, a, os, rfl, .inr (Same.tup s1 hx), nd, by omega, _, rfl, a, _, rfl, .inr (Same.tup s1 hx), rfl, ?_⟩
  show Q (.bl (decide (V.int (os.length : Int) = V.int ((os.map V.str).length : Int)))) H1
  rw [lo, decide_eq_true rfl]
  exact q _ s1
theorem names_hd {H : Hp} {v : V} {fs : List Fld} (h : DpS K H v (fs.map dF)) : HdS K H v (fs.map (·.1)) := by
  have hns := HdS.of h (fun d hd => by
    obtain ⟨f, _, rfl⟩ := List.mem_map.mp hd
    exact named_dF f)
  rw [List.map_map] at hns
  exact hns
/-- a field that may stand behind these -/
structure OkFld (fs : List Fld) (f : Fld) : Prop where
  few : fs.length < 3
  no : f.1 ∉ fs.map (·.1)
  nm : IsNm f.1
  lo : 2 ≤ f.2.length
  hi : f.2.length ≤ 6
  nd : f.2.Nodup
  op : ∀ o ∈ f.2, IsOp o
  fb : FsB (fs ++ [f])
  fv : FsV (fs ++ [f])
  sz : (vals (fs ++ [f])).length ≤ 24
def spFieldFits (K : PySem.W.Frag) : Sp := fun vs H Q _ => ∃ (b t : V) (fs : List Fld) (f : Fld), vs = [b, t] ∧ DpS K H b (fs.map dF) ∧ Dp K H t (dF f) ∧ OkFld fs f ∧ ∀ H', Same H H' → Q (.bl true) H'
theorem ok_fieldfits (T : Top K mg) : FnOk P w K mg base CX0 4 T.a_field_fits T.fd_field_fits ["before", "field"] (spFieldFits K) := by
  have G_is_tuple := ok_tup (P := P) (w := w) (base := base) T
  have G_name_fits := ok_namefits (P := P) (w := w) (base := base) T
  have G_are_options := ok_areopts (P := P) (w := w) (base := base) T
  have G_values_of := ok_valuesof (P := P) (w := w) (base := base) T
  refine T.d_field_fits.F.ok sc_field_fits (fun vs H Q E h => ?_) (fun cdv A outer s H vs Q E hr h => ?_)
  · obtain ⟨b, t, fs, f, rfl, _⟩ := h
    rfl
  obtain ⟨b, t, fs, f, rfl, hb, ht, ok, q⟩ := h
  obtain ⟨a, o, rfl, h1, h2⟩ := dp_dF ht
  refine ⟨_, (pss_cons (ps_if (PW.pt (pw_or (pt_not (pt_val (pe_call G_is_tuple (hr.mono (by decide)) (by rfl) T.d_is_tuple.g T.d_is_tuple.kp T.d_is_tuple.b .nil pass0 (pa_cons (pv 1) (pa_cons pe_int (pa_cons pe_int pa_nil)))))) (pw_or (pt_not (pt_val (pe_call G_name_fits (hr.mono (by decide)) (by rfl) T.d_name_fits.g T.d_name_fits.kp T.d_name_fits.b .nil pass0 (pa_cons (pv 0) (pa_cons (pe_ix (ix_tup_K (K := K) (by rfl)) (pv 1) pe_int (fun _ _ => rfl)) (pa_cons (pe_gI rfl T.g_MOST_FIELDS) pa_nil)))))) (pw_or1 (pt_not (pt_val (pe_call G_are_options (hr.mono (by decide)) (by rfl) T.d_are_options.g T.d_are_options.kp T.d_are_options.b .nil pass0 (pa_cons (pe_ix (ix_tup_K (K := K) (by rfl)) (pv 1) pe_int (fun _ _ => rfl)) pa_nil)))))))) (pss_one (ps_ret pe_bl)) pss_nil)
    (pss_one (ps_ret (pe_cmpR op_le (pe_callB (call_len_seq_K (K := K) (by rfl)) (by rfl) T.b_len PySem.boot_len (pa_cons (pe_call G_values_of (hr.mono (by decide)) (by rfl) T.d_values_of.g T.d_values_of.kp T.d_values_of.b .nil pass0 (pa_cons (pe_lst (pa_starK (K := K) (by rfl) (pv 0) (pa_cons (pv 1) pa_nil))) pa_nil)) pa_nil)) (pe_gI rfl T.g_MOST_VALUES) (nomark _))))), ?_⟩
  have few := ok.few
  have lf : (fs.map (·.1)).length = fs.length := List.length_map _
  refine ⟨_, rfl, a, _, 2, 2, rfl, h1, (by show (2 : Int) ≤ 2; decide), (by show (2 : Int) ≤ 2; decide), _, rfl, iteF ?_⟩
  refine ⟨_, rfl, _, rfl, a, _, (0 : Int), .str f.1, rfl, rfl, h1, at_nn (by decide) rfl, b, fs.map (·.1), f.1, 3, rfl, names_hd hb, by omega, by omega, ok.nm, ok.no, fun H1 s1 => ⟨_, rfl, iteF ?_⟩⟩
  refine ⟨_, rfl, a, _, (1 : Int), .ref o, rfl, rfl, Same.tup s1 h1, at_nn (by decide) rfl, o, f.2, rfl, Same.tup s1 h2, ok.lo, ok.hi, ok.nd, ok.op, fun H2 s2 => ⟨_, rfl, iteF ?_⟩⟩
  have s12 := s1.trans s2
  obtain ⟨ab, bs, rfl, hS, hD⟩ := hb.mono s12
  have lb : bs.length = fs.length := by rw [DpAll.length hD, List.length_map]
  refine ⟨_, rfl, ab, bs, rfl, hS.symm, _, rfl, (by rw [List.length_append, lb]; show _ + 1 ≤ sizeLine; exact le_line (by omega)), fun p np => ?_⟩
  have s3 := same_new (o := .lst (bs ++ [.ref a])) np
  refine ⟨.ref p, fs ++ [f], rfl, ⟨p, _, rfl, .inl (SqL.of upd_same), ?_⟩, ok.fb, ok.fv, fun p2 ys H4 _ s4 hp2 hys => ?_⟩
  · rw [List.map_append]
    exact dpa_snoc (DpAll.mono s3 hD) (Dp.mono (s12.trans s3) ht)
  have ly : ys.length = (vals (fs ++ [f])).length := by rw [DpAll.length hys, List.length_map]
  refine ⟨p2, ys, rfl, .inl (SqL.of hp2), _, _, rfl, rfl, ?_⟩
  show Q (.bl (decide ((ys.length : Int) ≤ 24))) H4
  have sz := ok.sz
  rw [decide_eq_true (by omega)]
  exact q _ (s12.trans (s3.trans s4))
def spAreKeys (K : PySem.W.Frag) : Sp := fun vs H Q _ => ∃ (v t : V) (fs : List Fld) (ks : List (Str × Str)), vs = [v, t] ∧ DpS K H v (fs.map dF) ∧ FsB fs ∧ Dp K H t (.tuple (ks.map dKey)) ∧ OkKeys fs ks ∧ ∀ H', Same H H' → Q (.bl true) H'
theorem ok_arekeys (T : Top K mg) : FnOk P w K mg base CX0 3 T.a_are_keys T.fd_are_keys ["fields", "value"] (spAreKeys K) := by
  have G_is_tuple := ok_tup (P := P) (w := w) (base := base) T
  have G_is_key := ok_iskey (P := P) (w := w) (base := base) T
  have G_names_of := ok_namesof (P := P) (w := w) (base := base) T
  refine T.d_are_keys.F.ok sc_are_keys (fun vs H Q E h => ?_) (fun cdv A outer s H vs Q E hr h => ?_)
  · obtain ⟨v, t, fs, ks, rfl, _⟩ := h
    rfl
  obtain ⟨v, t, fs, ks, rfl, hv, fb, ht, ok, q⟩ := h
  obtain ⟨a, xs, rfl, h1, h2⟩ := dp_tup ht
  have lk : xs.length = ks.length := by rw [DpAll.length h2, List.length_map]
  have l1 := ok.hi
  have l2 := fb.len
  refine ⟨_, (pss_cons (ps_if (PW.pt (pw_or (pt_not (pt_val (pe_call G_is_tuple (hr.mono (by decide)) (by rfl) T.d_is_tuple.g T.d_is_tuple.kp T.d_is_tuple.b .nil pass0 (pa_cons (pv 1) (pa_cons pe_int (pa_cons (pe_callB (call_len_seq_K (K := K) (by rfl)) (by rfl) T.b_len PySem.boot_len (pa_cons (pv 0) pa_nil)) pa_nil)))))) (pw_or1 (pt_not (pt_val (pe_callB (cr_all_K (K := K) (by rfl) rfl) (by rfl) T.b_all (by decide +kernel) (pa_cons (pe_lc (own := [("key", 2)]) rfl sc_are_keys.nd (pi_tup_K (K := K) (by rfl) (pv 1)) (blkOk_by (own := [("key", 2)]) (N := ["fields", "value", "key"]) (sc := defScope s_are_keys) (by decide +kernel)) (fun _ _ _ _ _ => by exact (pg_name (i := 2) sc_are_keys.nd rfl (Or.inl rfl))) (fun _ _ _ _ _ => by exact pts_nil) (fun _ _ _ _ _ => by exact (pe_call G_is_key (hr.mono (by decide)) (by rfl) T.d_is_key.g T.d_is_key.kp T.d_is_key.b .nil pass0 (pa_cons (pv 0) (pa_cons (pv 2) pa_nil))))) pa_nil))))))) (pss_one (ps_ret pe_bl)) pss_nil)
    (pss_one (ps_ret (pe_cmpR op_eq (pe_lenSetS (K := K) (by rfl) rfl (by rfl) T.b_len (by rfl) T.b_set (pe_call G_names_of (hr.mono (by decide)) (by rfl) T.d_names_of.g T.d_names_of.kp T.d_names_of.b .nil pass0 (pa_cons (pv 1) pa_nil))) (pe_callB (call_len_seq_K (K := K) (by rfl)) (by rfl) T.b_len PySem.boot_len (pa_cons (pv 1) pa_nil)) (nomark _))))), ?_⟩
  obtain ⟨av, vs', rfl, hS, hD⟩ := id hv
  have lv : vs'.length = fs.length := by rw [DpAll.length hD, List.length_map]
  refine ⟨_, rfl, _, rfl, av, vs', rfl, hS, a, xs, 0, (vs'.length : Int), rfl, h1, by omega, by omega, _, rfl, iteF ?_⟩
  refine ⟨_, rfl, a, rfl, ⟨_, h1⟩, fun D nD => ?_⟩
  refine lc_trues walk_tup nD (by omega) (fun H' s => Same.tup s h1) (fun i x H' R R' ex s1 k => ?_) (fun H1 s1 hD1 => ?_)
  · obtain ⟨d, g1, g2⟩ := DpAll.get h2 ex
    obtain ⟨ky, hm, rfl⟩ := List.mem_map.mp (List.mem_of_getElem? g1)
    exact ⟨rfl, _, rfl, _, rfl, .ref av, x, fs, ky, rfl, hv.mono s1, fb, Dp.mono s1 g2, (ok.all ky hm).1, (ok.all ky hm).2, k⟩
  refine ⟨D, _, rfl, SqL.of hD1, ?_⟩
  rw [bls_true]
  refine ⟨_, rfl, iteF ?_⟩
  have hns : HdS K H1 (.ref a) (ks.map (·.1)) := by
    have z := HdS.of (DpS.ofT (Dp.mono s1 ht)) (fun d hd => by
      obtain ⟨f, _, rfl⟩ := List.mem_map.mp hd
      exact ⟨_, _, rfl⟩)
    rw [List.map_map] at z
    exact z
  have lk2 : (ks.map (·.1)).length = ks.length := List.length_map _
  refine ⟨_, rfl, .ref a, ks.map (·.1), rfl, hns, by omega, fun p H2 _ s2 hp2 => ?_⟩
  refine ⟨p, ks.map (·.1), rfl, .inl (SqL.of hp2), ok.nd, by omega, _, rfl, a, xs, rfl, .inr (Same.tup (s1.trans s2) h1), rfl, ?_⟩
  show Q (.bl (decide (V.int ((ks.map (·.1)).length : Int) = V.int (xs.length : Int)))) H2
  rw [lk2, lk, decide_eq_true rfl]
  exact q _ (s1.trans s2)
def spIsValue (K : PySem.W.Frag) : Sp := fun vs H Q _ => ∃ (v t : V) (fs : List Fld) (u : List Str), vs = [v, t] ∧ DpS K H v (fs.map dF) ∧ FsB fs ∧ Dp K H t (dV u) ∧ FitV fs u ∧ ∀ H', Same H H' → Q (.bl true) H'
theorem ok_isvalue (T : Top K mg) : FnOk P w K mg base CX0 2 T.a_is_value T.fd_is_value ["fields", "value"] (spIsValue K) := by
  have G_is_tuple := ok_tup (P := P) (w := w) (base := base) T
  refine T.d_is_value.F.ok sc_is_value (fun vs H Q E h => ?_) (fun cdv A outer s H vs Q E hr h => ?_)
  · obtain ⟨v, t, fs, ks, rfl, _⟩ := h
    rfl
  obtain ⟨v, t, fs, u, rfl, hv, fb, ht, ok, q⟩ := h
  obtain ⟨a, xs, rfl, h1, h2⟩ := dp_tup ht
  obtain rfl := dp_strs h2
  have lu : (u.map V.str).length = u.length := List.length_map _
  have l1 := ok.1
  have l2 := fb.len
  refine ⟨_, (pss_cons (ps_if (pt_not (pt_val (pe_call G_is_tuple (hr.mono (by decide)) (by rfl) T.d_is_tuple.g T.d_is_tuple.kp T.d_is_tuple.b .nil pass0 (pa_cons (pv 1) (pa_cons (pe_callB (call_len_seq_K (K := K) (by rfl)) (by rfl) T.b_len PySem.boot_len (pa_cons (pv 0) pa_nil)) (pa_cons (pe_callB (call_len_seq_K (K := K) (by rfl)) (by rfl) T.b_len PySem.boot_len (pa_cons (pv 0) pa_nil)) pa_nil)))))) (pss_one (ps_ret pe_bl)) pss_nil)
    (pss_one (ps_ret (pe_callB (cr_all_K (K := K) (by rfl) rfl) (by rfl) T.b_all (by decide +kernel) (pa_cons (pe_lc (own := [("option", 2), ("_", 3), ("options", 4)]) rfl sc_is_value.nd (pi_zipM (K := K) (by rfl) (by rfl) T.b_zip (pa_cons (pv 1) (pa_cons (pv 0) pa_nil))) (blkOk_by (own := [("option", 2), ("_", 3), ("options", 4)]) (N := ["fields", "value", "option", "_", "options"]) (sc := defScope s_is_value) (by decide +kernel)) (fun _ _ _ _ _ => by exact (pg_tup_K (K := K) (by rfl) (n := 2) (by rfl) (pgs_cons (pg_name (i := 2) sc_is_value.nd rfl (Or.inl rfl)) (pgs_cons (pg_tup_K (K := K) (by rfl) (n := 2) (by rfl) (pgs_cons (pg_name (i := 3) sc_is_value.nd rfl (Or.inl rfl)) (pgs_cons (pg_name (i := 4) sc_is_value.nd rfl (Or.inl rfl)) pgs_nil))) pgs_nil)))) (fun _ _ _ _ _ => by exact pts_nil) (fun _ _ _ _ _ => by exact (pe_cmpR (op_in_seq_K (K := K) (by rfl)) (pv 2) (pv 4) (by rfl)))) pa_nil))))), ?_⟩
  obtain ⟨av, vs', rfl, hS, hD⟩ := id hv
  have lv : vs'.length = fs.length := by rw [DpAll.length hD, List.length_map]
  refine ⟨_, rfl, _, rfl, av, vs', rfl, hS, _, rfl, av, vs', rfl, hS, a, _, (vs'.length : Int), (vs'.length : Int), rfl, h1, by omega, by omega, _, rfl, iteF ?_⟩
  refine ⟨_, rfl, _, rfl, a, av, _, vs', rfl, h1, hS, fun J wk D nD => ?_⟩
  have lm : min (u.map V.str).length vs'.length = fs.length := by omega
  rw [lm] at wk
  refine lc_truesP wk nD (by omega) (fun H' s => s) (fun i x y T0 H' R R' ex ey s1 nT k => ?_) (fun H1 s1 hD1 => ?_)
  · obtain ⟨d, g1, g2⟩ := DpAll.get hD ey
    rw [List.getElem?_map] at g1 ex
    cases ef : fs[i]? with
    | none => rw [ef] at g1; cases g1
    | some f =>
      rw [ef] at g1
      cases g1
      cases eo : u[i]? with
      | none => rw [eo] at ex; cases ex
      | some o =>
        rw [eo] at ex
        cases ex
        have s2 := s1.trans (same_new (o := .tup [.str o, y]) nT)
        obtain ⟨t2, o2, rfl, k1, k2⟩ := dp_dF (Dp.mono s2 g2)
        refine ⟨T0, _, rfl, SqT.of upd_same, rfl, _, _, rfl, _, _, rfl, t2, _, rfl, k1, rfl, _, _, rfl, _, _, rfl, rfl, rfl, rfl, ?_⟩
        refine ⟨_, rfl, _, rfl, o2, _, rfl, .inr k2, rfl, flat_strs _, ?_⟩
        show R (.bl (inV (.str o) (f.2.map V.str))) _
        rw [in_strs, decide_eq_true (ok.2 i f o ef eo)]
        exact k _ (Same.refl _)
  refine ⟨D, _, rfl, SqL.of hD1, ?_⟩
  rw [bls_true]
  exact q _ s1
def spIsHolding (K : PySem.W.Frag) : Sp := fun vs H Q _ => ∃ (v t : V) (fs : List Fld) (u : Option (List Str)), vs = [v, t] ∧ DpS K H v (fs.map dF) ∧ FsB fs ∧ Dp K H t (dH u) ∧ (∀ w, u = some w → FitV fs w) ∧ ∀ H', Same H H' → Q (.bl true) H'
theorem ok_isholding (T : Top K mg) : FnOk P w K mg base CX0 3 T.a_is_holding T.fd_is_holding ["fields", "value"] (spIsHolding K) := by
  have G_is_value := ok_isvalue (P := P) (w := w) (base := base) T
  refine T.d_is_holding.F.ok sc_is_holding (fun vs H Q E h => ?_) (fun cdv A outer s H vs Q E hr h => ?_)
  · obtain ⟨v, t, fs, ks, rfl, _⟩ := h
    rfl
  obtain ⟨v, t, fs, u, rfl, hv, fb, ht, ok, q⟩ := h
  refine ⟨_, (pss_one (ps_ret (L2.pe_or (pe_cmpR op_isN (pv 1) pe_non (nomark _)) (pe_one (pe_call G_is_value (hr.mono (by decide)) (by rfl) T.d_is_value.g T.d_is_value.kp T.d_is_value.b .nil pass0 (pa_cons (pv 0) (pa_cons (pv 1) pa_nil))))))), ?_⟩
  cases u with
  | none =>
    obtain rfl := dp_non ht
    exact ⟨_, rfl, rfl, _, rfl, iteY rfl (q _ (Same.refl _))⟩
  | some w0 =>
    obtain ⟨a, xs, rfl, h1, h2⟩ := dp_tup ht
    exact ⟨_, rfl, rfl, _, rfl, iteN (fun z => by cases z) ⟨_, rfl, _, rfl, v, .ref a, fs, w0, rfl, hv, fb, ht, ok w0 rfl, q⟩⟩
def spKindFits (K : PySem.W.Frag) : Sp := fun vs H Q _ => ∃ (v b t : V) (fs : List Fld) (ns : List Str) (k : Knd), vs = [v, b, t] ∧ DpS K H v (fs.map dF) ∧ FsB fs ∧ HdS K H b ns ∧ ns.length < 3 ∧ k.name ∉ ns ∧ Dp K H t (dKnd k) ∧ OkKnd fs k ∧ ∀ H', Same H H' → Q (.bl true) H'
theorem ok_kindfits (T : Top K mg) : FnOk P w K mg base CX0 5 T.a_kind_fits T.fd_kind_fits ["fields", "before", "kind"] (spKindFits K) := by
  have G_is_tuple := ok_tup (P := P) (w := w) (base := base) T
  have G_is_program := ok_isprog (P := P) (w := w) (base := base) T
  have G_name_fits := ok_namefits (P := P) (w := w) (base := base) T
  have G_are_keys := ok_arekeys (P := P) (w := w) (base := base) T
  have G_is_holding := ok_isholding (P := P) (w := w) (base := base) T
  refine T.d_kind_fits.F.ok sc_kind_fits (fun vs H Q E h => ?_) (fun cdv A outer s H vs Q E hr h => ?_)
  · obtain ⟨v, b, t, fs, ns, c, rfl, _⟩ := h
    rfl
  obtain ⟨v, b, t, fs, ns, k, rfl, hv, fb, hb, hl, hno, ht, ok, q⟩ := h
  obtain ⟨a, xs, rfl, h1, h2⟩ := dp_tup ht
  obtain ⟨x1, r1, rfl, e1, h2⟩ := dpa_cons h2
  obtain ⟨x2, r2, rfl, e2, h2⟩ := dpa_cons h2
  obtain ⟨x3, r3, rfl, e3, h2⟩ := dpa_cons h2
  obtain ⟨x4, r4, rfl, e4, h2⟩ := dpa_cons h2
  obtain rfl := dpa_nil h2
  rw [dp_str e1] at h1
  refine ⟨_, (pss_cons (ps_if (pt_not (pt_val (pe_call G_is_tuple (hr.mono (by decide)) (by rfl) T.d_is_tuple.g T.d_is_tuple.kp T.d_is_tuple.b .nil pass0 (pa_cons (pv 2) (pa_cons pe_int (pa_cons pe_int pa_nil)))))) (pss_one (ps_ret pe_bl)) pss_nil)
    (pss_cons (ps_asg (pv 2) (pg_tup_K (K := K) (by rfl) (n := 4) (by rfl) (pgs_cons (pg_name (i := 3) sc_kind_fits.nd rfl (Or.inl rfl)) (pgs_cons (pg_name (i := 4) sc_kind_fits.nd rfl (Or.inl rfl)) (pgs_cons (pg_name (i := 5) sc_kind_fits.nd rfl (Or.inl rfl)) (pgs_cons (pg_name (i := 6) sc_kind_fits.nd rfl (Or.inl rfl)) pgs_nil))))))
    (pss_cons (ps_if (PW.pt (pw_or (pt_not (pt_val (pe_call G_name_fits (hr.mono (by decide)) (by rfl) T.d_name_fits.g T.d_name_fits.kp T.d_name_fits.b .nil pass0 (pa_cons (pv 1) (pa_cons (pv 3) (pa_cons (pe_gI rfl T.g_MOST_KINDS) pa_nil)))))) (pw_or1 (pt_not (pt_val (pe_call G_are_keys (hr.mono (by decide)) (by rfl) T.d_are_keys.g T.d_are_keys.kp T.d_are_keys.b .nil pass0 (pa_cons (pv 0) (pa_cons (pv 4) pa_nil)))))))) (pss_one (ps_ret pe_bl)) pss_nil)
    (pss_one (ps_ret (pe_and (L2.pe_or (pe_cmpR op_isN (pv 5) pe_non (nomark _)) (pe_one (pe_call G_is_program (hr.mono (by decide)) (by rfl) T.d_is_program.g T.d_is_program.kp T.d_is_program.b .nil pass0 (pa_cons (pv 0) (pa_cons (pv 5) pa_nil))))) (pe_one (pe_call G_is_holding (hr.mono (by decide)) (by rfl) T.d_is_holding.g T.d_is_holding.kp T.d_is_holding.b .nil pass0 (pa_cons (pv 0) (pa_cons (pv 6) pa_nil)))))))))), ?_⟩
  refine ⟨_, rfl, a, _, 4, 4, rfl, h1, (by show (4 : Int) ≤ 4; decide), (by show (4 : Int) ≤ 4; decide), _, rfl, iteF ?_⟩
  refine ⟨_, rfl, a, _, rfl, h1, rfl, _, _, rfl, _, _, rfl, _, _, rfl, _, _, rfl, rfl, ?_⟩
  refine ⟨_, rfl, _, rfl, b, ns, k.name, 3, rfl, hb, by omega, by omega, ok.nm, hno, fun H1 s1 => ⟨_, rfl, iteF ?_⟩⟩
  refine ⟨_, rfl, _, rfl, v, x2, fs, k.keys, rfl, hv.mono s1, fb, Dp.mono s1 e2, ok.ks, fun H2 s2 => ⟨_, rfl, iteF ?_⟩⟩
  have s12 := s1.trans s2
  have fin : ∀ H3, Same H2 H3 → tCall (spIsHolding K) [] E0 (tCons (tVar 0) (tCons (tVar 6) tNil)) [some v, some b, some (.ref a), some (.str k.name), some x2, some x3, some x4] H3 Q := fun H3 s3 =>
    ⟨_, rfl, _, rfl, v, x4, fs, k.birth, rfl, hv.mono (s12.trans s3), fb, Dp.mono (s12.trans s3) e4, ok.bt, fun H4 s4 => q _ (s12.trans (s3.trans s4))⟩
  cases hk : k.taking with
  | none =>
    rw [hk] at e3
    obtain rfl := dp_non e3
    exact ⟨_, rfl, rfl, _, rfl, iteY rfl ⟨_, rfl, iteT (fin _ (Same.refl _))⟩⟩
  | some p =>
    rw [hk] at e3
    obtain ⟨tp, us, rfl, g1, g2⟩ := dp_tup e3
    exact ⟨_, rfl, rfl, _, rfl, iteN (fun z => by cases z) ⟨_, rfl, _, rfl, v, _, fs, p, rfl, hv.mono s12, fb, Dp.mono s12 e3, ok.tk p hk, fun H3 s3 => ⟨_, rfl, iteT (fin _ s3)⟩⟩⟩
end
end Bh

set_option Elab.async false
set_option linter.all false
set_option maxRecDepth 100000
set_option maxHeartbeats 1000000
namespace Bh
open PySem PySem.Spec PyProof.Rows L2 LamX NdefX
section
variable {P : Program} {w : World} {K : PySem.W.Frag} {mg : Str → Option Value} {base : Heap}
/-- a call of the function value fv that the callee holds in its second slot -/
def tFit (fv : V) (I0 : Hp → Prop) (tl : List V → Hp → VK → Prop) (t : TA) : TE := fun σ H Q => σ[1]? = some (some fv) ∧ I0 H ∧ t σ H fun vs H1 => tl vs H1 Q
theorem isi_lt {H : Hp} {p a : Addr} {xs : List V} (hx : SqL K H a xs ∨ SqT K H a xs) (np : H p = none) {Q' : VK} (q : Q' (.bl true) (upd H p (.tup [.ty "list", .ty "tuple"]))) : rIsiT K [.ref a, .ref p] (upd H p (.tup [.ty "list", .ty "tuple"])) Q' := by
  rcases hx with hx | hx
  · exact ⟨_, p, _, _, _, true, rfl, upd_same, .cons (.ty _) (.cons (.ty _) .nil), tyL ((same_new np).seq hx), kitAny_cons (kit_ty (b := "list") (r := true) (by decide +kernel)) (fun z => nomatch z) (fun _ => rfl), q⟩
  · exact ⟨_, p, _, _, _, true, rfl, upd_same, .cons (.ty _) (.cons (.ty _) .nil), tyT (Same.tup (same_new np) hx), kitAny_cons (kit_ty (b := "list") (r := false) (by decide +kernel)) (fun _ => kitAny_cons (kit_ty (r := true) (by decide +kernel)) (fun z => nomatch z) (fun _ => rfl)) (fun z => nomatch z), q⟩
theorem fw_go {CXg : CXT} {E : XK} {cdv : Value} {A : Around} {outer : List Env} {s : Shared} {H : Hp} {Q : VK} (T : Top K mg) {fv : V} {I0 : Hp → Prop} {tl : List V → Hp → VK → Prop}
    (act : ∀ (e : Expr) (es : List Expr) (t : TA) (p1 p2 : Pos), PA (cxOf CXg P w K mg base ["items", "fits", "position", "item"] "_first_wrong" (defScope s_first_wrong) T.a_first_wrong cdv A outer s H E).nox (e :: es) t →
      starEach (e :: es) (cxOf CXg P w K mg base ["items", "fits", "position", "item"] "_first_wrong" (defScope s_first_wrong) T.a_first_wrong cdv A outer s H E).nox.env = (false, eval e (cxOf CXg P w K mg base ["items", "fits", "position", "item"] "_first_wrong" (defScope s_first_wrong) T.a_first_wrong cdv A outer s H E).nox.env) :: starEach es (cxOf CXg P w K mg base ["items", "fits", "position", "item"] "_first_wrong" (defScope s_first_wrong) T.a_first_wrong cdv A outer s H E).nox.env →
      (backTo p2 (starEach es (cxOf CXg P w K mg base ["items", "fits", "position", "item"] "_first_wrong" (defScope s_first_wrong) T.a_first_wrong cdv A outer s H E).nox.env)).any (·.1) = false →
      PE (cxOf CXg P w K mg base ["items", "fits", "position", "item"] "_first_wrong" (defScope s_first_wrong) T.a_first_wrong cdv A outer s H E).nox (.Call (.Name "fits" p1) (e :: es) [] p2) (tFit fv I0 tl t))
    (hI : ∀ H1 H2, Same H1 H2 → I0 H1 → I0 H2) (h0 : I0 H) {a : Addr} {xs : List V} (hx : SqL K H a xs ∨ SqT K H a xs) (ne : 1 ≤ xs.length) (hl : xs.length ≤ 1000)
    (hs : ∀ (i : Nat) (x : V) (b : Addr) (H' : Hp) (R : VK), xs[i]? = some x → Same H H' → (SqL K H' b (xs.take i) ∨ SqT K H' b (xs.take i)) → (∀ H2, Same H' H2 → R (.bl true) H2) → tl [.ref b, x] H' R)
    (q : ∀ H', Same H H' → Q .non H') :
    ∃ t, PSs (cxOf CXg P w K mg base ["items", "fits", "position", "item"] "_first_wrong" (defScope s_first_wrong) T.a_first_wrong cdv A outer s H E).nox (defBody s_first_wrong) t ∧ t { nx := fun _ H' => Q .non H', rt := Q } (L2.start ["items", "fits", "position", "item"] [.ref a, fv]) H := by
  refine ⟨_, (pss_cons (ps_if (PW.pt (pw_or (pt_not (pt_val (pe_callB (call_isiT_K (K := K) (by rfl)) (by rfl) T.b_isinstance (by decide +kernel) (pa_cons (pv 0) (pa_cons (pe_tup (pa_cons (pe_tyN "list" (by rfl) T.b_list (by decide +kernel)) (pa_cons (pe_tyN "tuple" (by rfl) T.b_tuple (by decide +kernel)) pa_nil))) pa_nil))))) (pw_or1 (pt_cmpR op_eq (pe_callB (call_len_seq_K (K := K) (by rfl)) (by rfl) T.b_len PySem.boot_len (pa_cons (pv 0) pa_nil)) pe_int (nomark _))))) (pss_one (ps_ret pe_int)) pss_nil)
    (pss_cons (ps_for PassesOwn.never rfl (pi_enumS (K := K) (by rfl) (by rfl) T.b_enumerate (pa_cons (pv 0) pa_nil)) (pg_tup_K (K := K) (by rfl) (n := 2) (by rfl) (pgs_cons (pg_name (i := 2) sc_first_wrong.nd rfl (Or.inl rfl)) (pgs_cons (pg_name (i := 3) sc_first_wrong.nd rfl (Or.inl rfl)) pgs_nil)))
      (pss_one (ps_if (pt_not (pt_val (act _ _ _ _ _ (pa_cons (pe_slice (SlR.or (sl_list_K (K := K) (by rfl)) (sl_tupA_K (K := K) (by rfl))) (pv 0) po_none (po_some (pv 2))) (pa_cons (pv 3) pa_nil)) (by rfl) (by rfl)))) (pss_one (ps_ret (pv 2))) pss_nil)))
    (pss_one (ps_ret pe_non)))), ?_⟩
  refine ⟨_, rfl, (by show 2 ≤ sizeLine; decide), fun p np => ?_⟩
  dsimp only [tNil]
  refine isi_lt hx np ?_
  have s0 := same_new (o := .tup [.ty "list", .ty "tuple"]) np
  have hx0 := seq_mono s0 hx
  refine ⟨_, rfl, iteF ?_⟩
  refine ⟨_, rfl, a, xs, rfl, hx0, rfl, _, rfl, iteN (fun z => by
    have z1 : ((xs.length : Nat) : Int) = 0 := by injection z
    omega) ?_⟩
  refine ⟨_, rfl, a, xs, rfl, hx0, fun J wk => for_it wk (fun i σ H' => ∃ x2 x3, σ = [some (.ref a), some fv, x2, x3] ∧ Same (upd H p (.tup [.ty "list", .ty "tuple"])) H') ⟨none, none, rfl, Same.refl _⟩ (fun i σ H' _ ⟨_, _, _, e⟩ => e) ?_ ?_⟩
  · rintro i y σ H' H'' hi ⟨x2, x3, rfl, s1⟩ ⟨T0, xi, yi, rfl, nT, rfl, ei, ey⟩
    cases ei
    have s2 := s1.trans (same_new (o := .tup [.int (i : Nat), yi]) nT)
    refine ⟨T0, _, rfl, SqT.of upd_same, rfl, _, _, rfl, _, _, rfl, rfl, ?_⟩
    have hx2 := seq_mono s2 hx0
    refine ⟨rfl, hI _ _ (s0.trans s2) h0, ?_⟩
    have key : ∀ (b : Addr) (H3 : Hp), Same (upd H' T0 (.tup [.int (i : Nat), yi])) H3 → (SqL K H3 b (xs.take i) ∨ SqT K H3 b (xs.take i)) → ∀ R : VK, (∀ H2, Same H3 H2 → R (.bl true) H2) → tl [.ref b, yi] H3 R := fun b H3 s3 hb R k => hs i yi b H3 R ey (s0.trans (s2.trans s3)) hb k
    have fin : ∀ (b : Addr) (o : HO), upd H' T0 (.tup [.int (i : Nat), yi]) b = none → ∀ H4, Same (upd (upd H' T0 (.tup [.int (i : Nat), yi])) b o) H4 → Same (upd H p (.tup [.ty "list", .ty "tuple"])) H4 := fun b o nb H4 s4 => s2.trans ((same_new nb).trans s4)
    refine ⟨_, rfl, _, rfl, (i : Int), rfl, ?_⟩
    rcases hx2 with hL | hT
    · refine .inl ⟨a, xs, rfl, hL, fun b nb => ⟨_, rfl, key b _ (same_new nb) (.inl (SqL.of ?_)) _ fun H4 s4 => ⟨_, rfl, iteF ⟨_, _, rfl, fin b _ nb _ s4⟩⟩⟩⟩
      rw [upd_same, cutV_take xs (by omega)]
      rfl
    · refine .inr ⟨a, xs, rfl, hT, fun ⟨_, z⟩ => ?_, fun _ b nb => ⟨_, rfl, key b _ (same_new nb) (.inr (SqT.of ?_)) _ fun H4 s4 => ⟨_, rfl, iteF ⟨_, _, rfl, fin b _ nb _ s4⟩⟩⟩⟩
      · rw [show HT.sIx xs.length xs.length (some (i : Int)) = min i xs.length from HT.sIx_nat _ _ i] at z
        omega
      · rw [upd_same, cutV_take xs (by omega)]
        rfl
  · rintro σ H' ⟨x2, x3, rfl, s1⟩
    exact q _ (s0.trans s1)
theorem pe_imp {X : Cx} {e : Expr} {t t' : TE} (h : PE X e t) (w : ∀ σ H Q, t' σ H Q → t σ H Q) : PE X e t' := ⟨fun pins s σ H Q I z => h.run pins s σ H Q I (w _ _ _ z)⟩
/-- what _first_wrong makes of a function that says True of each item behind those ahead of it -/
def TTfw (K : PySem.W.Frag) (tl : List V → Hp → VK → Prop) (v1 : V) (H : Hp) (Q : VK) : Prop := ∃ a xs, v1 = .ref a ∧ (SqL K H a xs ∨ SqT K H a xs) ∧ 1 ≤ xs.length ∧ xs.length ≤ 1000 ∧
  (∀ (i : Nat) (x : V) (b : Addr) (H' : Hp) (R : VK), xs[i]? = some x → Same H H' → (SqL K H' b (xs.take i) ∨ SqT K H' b (xs.take i)) → (∀ H2, Same H' H2 → R (.bl true) H2) → tl [.ref b, x] H' R) ∧
  ∀ H', Same H H' → Q .non H'
theorem fw_gives {X : Cx} (T : Top X.K X.mg) (cdg : Value) (q : Str) : GivesTo2 X ["items", "fits", "position", "item"] "_first_wrong" (defScope s_first_wrong) T.a_first_wrong cdg (defBody s_first_wrong) "fits" q 2 (TTfw X.K) := by
  intro f c' s H Q v1 N ws tb act hc h
  obtain ⟨a, xs, rfl, hx, ne, hl, hs, hq⟩ := h
  exact fw_go T (fv := .ref f) (I0 := fun H => H c' = some (CodeO c' q)) (tl := fun vs H1 Q => H1 c' = some (CodeO c' q) ∧ vs.length = 2 ∧ tb (startF N vs ws) H1 Q) act (fun H1 H2 s h => s _ _ h) hc hx ne hl
    (fun i x b H' R ex s1 hb k => ⟨s1 _ _ hc, rfl, hs i x b H' R ex s1 hb k⟩) hq
def spFw1 (K : PySem.W.Frag) (fv : Addr) : Sp := fun vs H Q _ => ∃ (a : Addr) (xs : List V) (fs : List Fld), vs = [.ref a, .ref fv] ∧ (SqL K H a xs ∨ SqT K H a xs) ∧ DpAll K H xs (fs.map dF) ∧ 1 ≤ fs.length ∧ fs.length ≤ 1000 ∧ (∀ (i : Nat) (f : Fld), fs[i]? = some f → OkFld (fs.take i) f) ∧ ∀ H', Same H H' → Q .non H'
theorem ok_fw1 (T : Top K mg) : FnOk P w K mg base CX0 5 T.a_first_wrong T.fd_first_wrong ["items", "fits"] (spFw1 K T.a_field_fits) := by
  have G_field_fits := ok_fieldfits (P := P) (w := w) (base := base) T
  refine T.d_first_wrong.F.ok sc_first_wrong (fun vs H Q E h => ?_) (fun cdv A outer s H vs Q E hr h => ?_)
  · obtain ⟨a, xs, fs, rfl, _⟩ := h
    rfl
  obtain ⟨a, xs, fs, rfl, hx, hD, l1, l2, ok, q⟩ := h
  have lx : xs.length = fs.length := by rw [DpAll.length hD, List.length_map]
  refine fw_go T (fv := .ref T.a_field_fits) (I0 := fun _ => True) (tl := fun vs H1 Q => spFieldFits K (vs ++ []) H1 Q E0)
    (fun e es t p1 p2 ha he hp => pe_imp (pe_callL (i := 1) (dvs := []) (E := E0) G_field_fits (hr.mono (by decide)) (by rfl) (.inl (by rfl)) T.d_field_fits.kp T.d_field_fits.b .nil pass0 ha (he := he) (hpl := hp)) (fun σ H Q z => ⟨z.1, z.2.2⟩)) (fun _ _ _ _ => trivial) trivial hx (by omega) (by omega) (fun i x b H' R ex s1 hb k => ?_) q
  obtain ⟨d, g1, g2⟩ := DpAll.get hD ex
  rw [List.getElem?_map] at g1
  cases ef : fs[i]? with
  | none => rw [ef] at g1; cases g1
  | some f =>
    rw [ef] at g1
    cases g1
    refine ⟨.ref b, x, fs.take i, f, rfl, ⟨b, _, rfl, hb, ?_⟩, Dp.mono s1 g2, ok i f ef, k⟩
    rw [List.map_take]
    exact DpAll.take i (DpAll.mono s1 hD)
end
end Bh

set_option Elab.async false
set_option linter.all false
set_option maxRecDepth 100000
set_option maxHeartbeats 1000000
namespace Bh
open PySem PySem.Spec PyProof.Rows L2 LamX NdefX
/-- what is known, but tables of code objects and the object x -/
def noT (x : Addr) (H : Hp) : Hp := fun a => if a = x then none else match H a with
  | some (.tbl _) => none
  | o => o
theorem noT_le {x : Addr} {H : Hp} : Same (noT x H) H := fun a o e => by
  unfold noT at e
  split at e
  · cases e
  · split at e
    · cases e
    · exact e
theorem noT_at {x : Addr} {H : Hp} {a : Addr} {o : HO} (e : H a = some o) (n : ∀ ps, o ≠ .tbl ps) (m : a ≠ x) : noT x H a = some o := by
  unfold noT
  rw [if_neg m, e]
  cases o with
  | tbl ps => exact absurd rfl (n ps)
  | _ => rfl
theorem noT_x {x : Addr} {H : Hp} : noT x H x = none := if_pos rfl
theorem noT_tbl {x : Addr} {H : Hp} {a : Addr} {ps : Array Value} (e : H a = some (.tbl ps)) : noT x H a = none := by
  unfold noT
  split
  · rfl
  · rw [e]
/-- x is an instance -/
def InsX (H : Hp) (x : Addr) : Prop := ∃ C dx fs, H x = some (.ins C dx fs)
theorem noT_lst {x : Addr} {H : Hp} (hx : InsX H x) {a : Addr} {o : HO} (e : H a = some o) (n : ∀ ps, o ≠ .tbl ps) (m : ∀ C dx fs, o ≠ .ins C dx fs) : noT x H a = some o :=
  noT_at e n fun z => by
    obtain ⟨C, dx, fs, h⟩ := hx
    rw [z, h] at e
    cases e
    exact m _ _ _ rfl
theorem ExtN.same {x : Addr} {H H' : Hp} (e : ExtN H H') : Same (noT x H) H' := fun a o h => e a o (noT_le a o h) fun ps z => by
  rw [noT_tbl (by rw [noT_le a o h, z])] at h
  cases h
/-- an instance changes -/
theorem Same.ins {D H : Hp} {a : Addr} {o : HO} (s : Same D H) (n : D a = none) : Same D (upd H a o) := fun b u e => by
  rw [upd_ne (ne_of_none e n)]
  exact s _ _ e
theorem SqL.nT {K : PySem.W.Frag} {H : Hp} {x a : Addr} {xs : List V} (hx : InsX H x) (h : SqL K H a xs) : SqL K (noT x H) a xs :=
  h.imp (fun h => h.imp (fun h => noT_lst hx h (fun _ z => nomatch z) fun _ _ _ z => nomatch z) fun ⟨o, h⟩ => ⟨o, noT_lst hx h (fun _ z => nomatch z) fun _ _ _ z => nomatch z⟩) id
theorem SqT.nT {K : PySem.W.Frag} {H : Hp} {x a : Addr} {xs : List V} (hx : InsX H x) (h : SqT K H a xs) : SqT K (noT x H) a xs :=
  h.imp (fun h => h.imp (fun h => noT_lst hx h (fun _ z => nomatch z) fun _ _ _ z => nomatch z) fun ⟨o, h⟩ => ⟨o, noT_lst hx h (fun _ z => nomatch z) fun _ _ _ z => nomatch z⟩) id
mutual
theorem Dp.nT {K : PySem.W.Frag} {H : Hp} {x : Addr} (hx : InsX H x) : ∀ {v : V} {d : PyData}, Dp K H v d → Dp K (noT x H) v d
  | _, _, .non => .non
  | _, _, .bl b => .bl b
  | _, _, .int i => .int i
  | _, _, .str x => .str x
  | _, _, .lst h all => .lst (SqL.nT hx h) (DpAll.nT hx all)
  | _, _, .tup h all => .tup (SqT.nT hx h) (DpAll.nT hx all)
theorem DpAll.nT {K : PySem.W.Frag} {H : Hp} {x : Addr} (hx : InsX H x) : ∀ {vs : List V} {ds : List PyData}, DpAll K H vs ds → DpAll K (noT x H) vs ds
  | _, _, .nil => .nil
  | _, _, .cons h t => .cons (Dp.nT hx h) (DpAll.nT hx t)
end
theorem DpS.nT {K : PySem.W.Frag} {H : Hp} {x : Addr} (hx : InsX H x) {v : V} {ds : List PyData} (h : DpS K H v ds) : DpS K (noT x H) v ds := by
  obtain ⟨a, xs, e, h1, h2⟩ := h
  exact ⟨a, xs, e, h1.imp (SqL.nT hx) (SqT.nT hx), DpAll.nT hx h2⟩
/-- a rulebook's parts -/
structure OkBook (fs : List Fld) (ts : List Tie) (ks : List Knd) : Prop where
  f1 : 1 ≤ fs.length
  f2 : fs.length ≤ 3
  fok : ∀ (i : Nat) (f : Fld), fs[i]? = some f → OkFld (fs.take i) f
  fb : FsB fs
  fv : FsV fs
  t1 : 1 ≤ ts.length
  t2 : ts.length ≤ 4
  tnd : (ts.map (·.1)).Nodup
  tok : ∀ t ∈ ts, IsNm t.1 ∧ OkPrg fs t.2
  k1 : 1 ≤ ks.length
  k2 : ks.length ≤ 3
  knd : (ks.map (·.name)).Nodup
  kok : ∀ k ∈ ks, OkKnd fs k
theorem TabS.ins {H : Hp} {P x C C2 dx dx2 : Addr} {fs fs2 : List (Str × V)} {q : Str} (t : TabS H P q) (hx : H x = some (.ins C2 dx2 fs2)) : TabS (upd H x (.ins C dx fs)) P q := by
  obtain ⟨ps, h1, h2, h3⟩ := t
  refine ⟨ps, ?_, h2, fun pos cv hc => ?_⟩
  · rw [upd_ne (fun z => by rw [z, hx] at h1; cases h1)]
    exact h1
  · obtain ⟨c, e1, e2⟩ := h3 pos cv hc
    refine ⟨c, e1, ?_⟩
    rw [upd_ne (fun z => by rw [z, hx] at e2; unfold CodeO at e2; cases e2)]
    exact e2
theorem tabs_ins {TL : List (Addr × Str)} {H : Hp} {x C C2 dx dx2 : Addr} {fs fs2 : List (Str × V)} (t : Tabs TL H) (hx : H x = some (.ins C2 dx2 fs2)) : Tabs TL (upd H x (.ins C dx fs)) := fun p hp => TabS.ins (t p hp) hx
theorem nd_take {l : List Str} {i : Nat} {x : Str} (nd : l.Nodup) (h : l[i]? = some x) : x ∉ l.take i := fun m => by
  obtain ⟨j, hj⟩ := List.getElem?_of_mem m
  have lj : j < i := by
    have := (List.getElem?_eq_some_iff.mp hj).1
    rw [List.length_take] at this
    omega
  rw [List.getElem?_take_of_lt lj] at hj
  have e := (List.getElem?_inj (List.getElem?_eq_some_iff.mp hj).1 nd).mp (hj.trans h.symm)
  omega
theorem nd_takeM {α : Type} {f : α → Str} {l : List α} {i : Nat} {x : α} (nd : (l.map f).Nodup) (h : l[i]? = some x) : f x ∉ (l.take i).map f := by
  rw [List.map_take]
  exact nd_take nd (by rw [List.getElem?_map, h]; rfl)
section
variable {P : Program} {w : World} {K : PySem.W.Frag} {mg : Str → Option Value} {base : Heap}
def rbF (a1 a2 a3 : Addr) : List (Str × V) := [("_fields", .ref a1), ("_ties", .ref a2), ("_kinds", .ref a3)]
/-- the class Rulebook -/
structure RbC (K : PySem.W.Frag) (mg : Str → Option Value) : Type where
  C : Addr
  g : mg "Rulebook" = some (.ref C)
  cl : Cls K C
  n1 : NoAttr K C "_fields"
  n2 : NoAttr K C "_ties"
  n3 : NoAttr K C "_kinds"
  ha : PySem.W.findIn K (.ref C) "__class__" = some (some (.builtin "object.__class__"))
  hn : PySem.W.specialIn K (.builtin "object.__class__") "__get__" = some (some (.builtin "getset_descriptor.__get__"))
  ht : PySem.W.takesIn K (.builtin "object.__class__") = some true
  hm : PySem.W.mroIn K C (.type "object") = some true
  k1 : PySem.W.kitOne K (.ref C) (.ref C) = some true
  k2 : PySem.W.kitOne K (.type "tuple") (.ref C) = some false
abbrev rbQ : Str := "Rulebook.__init__.<locals>.<lambda>"
/-- a list or tuple of these items, that are this data -/
def DpX (K : PySem.W.Frag) (H : Hp) (v : V) (xs : List V) (ds : List PyData) : Prop := ∃ a : Addr, v = .ref a ∧ (SqL K H a xs ∨ SqT K H a xs) ∧ DpAll K H xs ds
theorem DpX.mono {H H' : Hp} {v : V} {xs : List V} {ds : List PyData} (s : Same H H') (h : DpX K H v xs ds) : DpX K H' v xs ds := by
  obtain ⟨a, e, h1, h2⟩ := h
  exact ⟨a, e, seq_mono s h1, DpAll.mono s h2⟩
def spInit (K : PySem.W.Frag) (TL : List (Addr × Str)) (C : Addr) : Sp := fun vs H Q _ => ∃ (x dx : Addr) (v1 v2 v3 : V) (y1 y2 y3 : List V) (fs : List Fld) (ts : List Tie) (ks : List Knd), vs = [.ref x, v1, v2, v3] ∧ H x = some (.ins C dx []) ∧ DpX K H v1 y1 (fs.map dF) ∧ DpX K H v2 y2 (ts.map dTie) ∧ DpX K H v3 y3 (ks.map dKnd) ∧ OkBook fs ts ks ∧ Tabs TL H ∧
  ∀ (H' : Hp) (a1 a2 a3 : Addr), Same (noT x H) H' → H' x = some (.ins C dx (rbF a1 a2 a3)) → H' a1 = some (.lst y1) → H' a2 = some (.lst y2) → H' a3 = some (.lst y3) → noT x H a1 = none → noT x H a2 = none → noT x H a3 = none → 
    DpAll K H' y1 (fs.map dF) → DpAll K H' y2 (ts.map dTie) → DpAll K H' y3 (ks.map dKnd) → Tabs TL H' → Q .non H'
theorem ok_rinit {fI cI pI : Addr} {od an : Option Addr} {oc kV doc pm ct : Value} {osl : Array (Option Value)} {TL : List (Addr × Str)} (T : Top K mg) (R : RbC K mg) (TB : TabB base mg cI pI) (mT0 : (pI, rbQ) ∈ TL) (uT0 : ∀ p ∈ TL, p.1 = pI → p.2 = rbQ)
    (lk : K.lookup fI = some ⟨oc, od, .func (PySem.W.fnOf "__init__" "Rulebook.__init__" (defArgs s_Rulebook__init) (defBody s_Rulebook__init) (defScope s_Rulebook__init) .none kV doc pm an (.ref cI) ct), osl⟩) (hcd : PySem.W.codeIn K (.ref cI) "Rulebook.__init__" = true) :
    FnOk P w K mg base CX0 9 fI (PySem.W.fnOf "__init__" "Rulebook.__init__" (defArgs s_Rulebook__init) (defBody s_Rulebook__init) (defScope s_Rulebook__init) .none kV doc pm an (.ref cI) ct) ["self", "fields", "ties", "kinds"] (spInit K TL R.C) := by
  have G_first_wrong := ok_fw1 (P := P) (w := w) (base := base) T
  have G_tie_fits := ok_tiefits (P := P) (w := w) (base := base) T
  have G_kind_fits := ok_kindfits (P := P) (w := w) (base := base) T
  obtain ⟨oc2, od2, kV2, doc2, pm2, an2, cdvF, ct2, osl2, eF, lkF, hcF⟩ := T.d_first_wrong.F.ex
  have bF := T.d_first_wrong.b
  rw [eF] at bF lkF
  refine fn_of lk hcd sc_Rulebook__init (fun vs H Q E h => ?_) (fun A outer s H vs Q E hr h => ?_)
  · obtain ⟨x, dx, v1, v2, v3, y1, y2, y3, fs, ts, ks, rfl, _⟩ := h
    rfl
  obtain ⟨x, dx, v1, v2, v3, x1, x2, x3, fs, ts, ks, rfl, hx, ⟨b1, rfl, hb1, hd1⟩, ⟨b2, rfl, hb2, hd2⟩, ⟨b3, rfl, hb3, hd3⟩, ok, hT, q⟩ := h
  have mT : (pI, ("Rulebook.__init__.<locals>." : Str) ++ "<lambda>") ∈ TL := by
    rw [show (("Rulebook.__init__.<locals>." : Str) ++ "<lambda>") = rbQ by decide +kernel]
    exact mT0
  have uT : ∀ p ∈ TL, p.1 = pI → p.2 = ("Rulebook.__init__.<locals>." : Str) ++ "<lambda>" := fun p hp e => (uT0 p hp e).trans (show rbQ = ("Rulebook.__init__.<locals>." : Str) ++ "<lambda>" by decide +kernel)
  refine ⟨_, PSs.nox (pss_cons (ps_set (i := 4) sc_Rulebook__init.nd rfl (Or.inl rfl) (pe_call G_first_wrong (hr.mono (by decide)) (by rfl) T.d_first_wrong.g T.d_first_wrong.kp T.d_first_wrong.b .nil pass0 (pa_cons (pv 1) (pa_cons (pe_gR rfl T.d_field_fits.g) pa_nil))))
    (pss_cons (ps_if (pt_cmpR op_notN (pv 4) pe_non (nomark _)) (pss_one ps_dead) pss_nil)
    (pss_cons (ps_set (i := 4) sc_Rulebook__init.nd rfl (Or.inl rfl) (pe_lamcall2 (T := TL) (TT := TTfw K) (a1 := "items") (a := "fits") (Ng := ["items", "fits", "position", "item"]) (N := ["before", "tie", "fields"]) (ps := ["before", "tie"]) (fr := ["fields"]) (js := [1]) (k := 5) (tb := tCall (spTieFits K) [] E0 (tCons (tVar 2) (tCons (tVar 0) (tCons (tVar 1) tNil)))) (by rfl) T.d_first_wrong.g T.d_first_wrong.kp lkF hcF bF sc_first_wrong rfl (.inl (by rfl)) (pv 2) (fw_gives (X := (cxOf CX0 P w K mg base ["self", "fields", "ties", "kinds", "wrong"] "Rulebook.__init__" (defScope s_Rulebook__init) fI (.ref cI) A outer s H E).nox) T cdvF _) TB rfl mT uT (hr.mono (by decide)) rfl (nscope_by (by decide +kernel)) (ndef_free (sc := defScope s_Rulebook__init) (fr := ["fields"]) (by decide +kernel)) (ndef_fr (sc := defScope s_Rulebook__init) (by decide +kernel)) rfl (fun _ _ _ _ _ us hl => match us, hl with | [_, _], _ => rfl) (fun A outer s H F f hF hr2 => by
      obtain ⟨fn, fq, fp, fb, fsc, fcl, fc⟩ := F
      cases hF
      exact (pe_call G_tie_fits (hr2.mono (by decide)) (by rfl) T.d_tie_fits.g T.d_tie_fits.kp T.d_tie_fits.b .nil pass0 (pa_cons (pv 2) (pa_cons (pv 0) (pa_cons (pv 1) pa_nil)))))))
    (pss_cons (ps_if (pt_cmpR op_notN (pv 4) pe_non (nomark _)) (pss_one ps_dead) pss_nil)
    (pss_cons (ps_set (i := 4) sc_Rulebook__init.nd rfl (Or.inl rfl) (pe_lamcall2 (T := TL) (TT := TTfw K) (a1 := "items") (a := "fits") (Ng := ["items", "fits", "position", "item"]) (N := ["before", "kind", "fields"]) (ps := ["before", "kind"]) (fr := ["fields"]) (js := [1]) (k := 5) (tb := tCall (spKindFits K) [] E0 (tCons (tVar 2) (tCons (tVar 0) (tCons (tVar 1) tNil)))) (by rfl) T.d_first_wrong.g T.d_first_wrong.kp lkF hcF bF sc_first_wrong rfl (.inl (by rfl)) (pv 3) (fw_gives (X := (cxOf CX0 P w K mg base ["self", "fields", "ties", "kinds", "wrong"] "Rulebook.__init__" (defScope s_Rulebook__init) fI (.ref cI) A outer s H E).nox) T cdvF _) TB rfl mT uT (hr.mono (by decide)) rfl (nscope_by (by decide +kernel)) (ndef_free (sc := defScope s_Rulebook__init) (fr := ["fields"]) (by decide +kernel)) (ndef_fr (sc := defScope s_Rulebook__init) (by decide +kernel)) rfl (fun _ _ _ _ _ us hl => match us, hl with | [_, _], _ => rfl) (fun A outer s H F f hF hr2 => by
      obtain ⟨fn, fq, fp, fb, fsc, fcl, fc⟩ := F
      cases hF
      exact (pe_call G_kind_fits (hr2.mono (by decide)) (by rfl) T.d_kind_fits.g T.d_kind_fits.kp T.d_kind_fits.b .nil pass0 (pa_cons (pv 2) (pa_cons (pv 0) (pa_cons (pv 1) pa_nil)))))))
    (pss_cons (ps_if (pt_cmpR op_notN (pv 4) pe_non (nomark _)) (pss_one ps_dead) pss_nil)
    (pss_cons (ps_fld (pv 0) (pe_callTy (call_list_of_K (K := K) (by rfl)) (by rfl) T.b_list (by decide +kernel) (pa_cons (pv 1) pa_nil)) (by rfl))
    (pss_cons (ps_fld (pv 0) (pe_callTy (call_list_of_K (K := K) (by rfl)) (by rfl) T.b_list (by decide +kernel) (pa_cons (pv 2) pa_nil)) (by rfl))
    (pss_one (ps_fld (pv 0) (pe_callTy (call_list_of_K (K := K) (by rfl)) (by rfl) T.b_list (by decide +kernel) (pa_cons (pv 3) pa_nil)) (by rfl))))))))))), ?_⟩
  have hX : InsX H x := ⟨_, _, _, hx⟩
  have hb1 := hb1.imp (SqL.nT hX) (SqT.nT hX)
  have hb2 := hb2.imp (SqL.nT hX) (SqT.nT hX)
  have hb3 := hb3.imp (SqL.nT hX) (SqT.nT hX)
  have hd1 := DpAll.nT hX hd1
  have hd2 := DpAll.nT hX hd2
  have hd3 := DpAll.nT hX hd3
  have d1 : DpS K (noT x H) (.ref b1) (fs.map dF) := ⟨b1, x1, rfl, hb1, hd1⟩
  have nx := (noT_x : noT x H x = none)
  have l1 : x1.length = fs.length := by rw [DpAll.length hd1, List.length_map]
  have l2 : x2.length = ts.length := by rw [DpAll.length hd2, List.length_map]
  have l3 : x3.length = ks.length := by rw [DpAll.length hd3, List.length_map]
  have f1 := ok.f1
  have f2 := ok.f2
  have t1 := ok.t1
  have t2 := ok.t2
  have k1 := ok.k1
  have k2 := ok.k2
  refine ⟨_, rfl, b1, x1, fs, rfl, seq_mono noT_le hb1, DpAll.mono noT_le hd1, f1, by omega, ok.fok, fun H1 s1 => ?_⟩
  refine ⟨_, rfl, rfl, _, rfl, iteB (fun z => by simp at z) (fun _ => ?_)⟩
  have g1 : Same (noT x H) H1 := noT_le.trans s1
  have T1 : Tabs TL H1 := hT.ext s1
  refine ⟨_, rfl, T1, fun H2 e2 T2 => ?_⟩
  have hx2 : H2 x = some (.ins R.C dx []) := e2 _ _ (s1 _ _ hx) fun _ z => nomatch z
  have g2 : Same (noT x H) H2 := fun a o h => e2 a o (g1 a o h) fun ps z => by
    rw [noT_tbl (by rw [noT_le a o h, z])] at h
    cases h
  have T2' : Tabs TL H2 := T2
  refine ⟨b2, x2, rfl, seq_mono g2 hb2, by omega, by omega, fun i y b H' R ex s' hb k => ?_, fun H3 s3 => ?_⟩
  · obtain ⟨d, e1, e2⟩ := DpAll.get hd2 ex
    rw [List.getElem?_map] at e1
    cases et : ts[i]? with
    | none => rw [et] at e1; cases e1
    | some c =>
      rw [et] at e1
      cases e1
      have gs := g2.trans s'
      have li : i < ts.length := (List.getElem?_eq_some_iff.mp et).1
      have hh : HdS K H' (.ref b) ((ts.take i).map (·.1)) := by
        have z := hds_of (DpAll.take i (DpAll.mono gs hd2)) (fun d hd => by
          obtain ⟨c2, _, rfl⟩ := List.mem_map.mp (List.mem_of_mem_take hd)
          exact named_dTie c2)
        rw [← List.map_take, List.map_map] at z
        exact ⟨b, _, rfl, hb, z⟩
      have tk := ok.tok c (List.mem_of_getElem? et)
      exact ⟨_, rfl, _, rfl, _, rfl, .ref b1, .ref b, y, fs, _, c, rfl, d1.mono gs, ok.fb, hh, by rw [List.length_map, List.length_take]; omega, nd_takeM (f := fun c : Tie => c.1) ok.tnd et, tk.1, Dp.mono gs e2, tk.2, k⟩
  refine ⟨_, rfl, rfl, _, rfl, iteB (fun z => by simp at z) (fun _ => ?_)⟩
  have g3 := g2.trans s3
  have hx3 := s3 _ _ hx2
  refine ⟨_, rfl, T2'.ext s3, fun H4 e4 T4 => ?_⟩
  have hx4 : H4 x = some (.ins R.C dx []) := e4 _ _ hx3 fun _ z => nomatch z
  have g4 : Same (noT x H) H4 := fun a o h => e4 a o (g3 a o h) fun ps z => by
    rw [noT_tbl (by rw [noT_le a o h, z])] at h
    cases h
  have T4' : Tabs TL H4 := T4
  refine ⟨b3, x3, rfl, seq_mono g4 hb3, by omega, by omega, fun i y b H' R ex s' hb k => ?_, fun H5 s5 => ?_⟩
  · obtain ⟨d, e1, e2⟩ := DpAll.get hd3 ex
    rw [List.getElem?_map] at e1
    cases et : ks[i]? with
    | none => rw [et] at e1; cases e1
    | some c =>
      rw [et] at e1
      cases e1
      have gs := g4.trans s'
      have li : i < ks.length := (List.getElem?_eq_some_iff.mp et).1
      have hh : HdS K H' (.ref b) ((ks.take i).map (·.name)) := by
        have z := hds_of (DpAll.take i (DpAll.mono gs hd3)) (fun d hd => by
          obtain ⟨c2, _, rfl⟩ := List.mem_map.mp (List.mem_of_mem_take hd)
          exact named_dKnd c2)
        rw [← List.map_take, List.map_map] at z
        exact ⟨b, _, rfl, hb, z⟩
      exact ⟨_, rfl, _, rfl, _, rfl, .ref b1, .ref b, y, fs, _, c, rfl, d1.mono gs, ok.fb, hh, by rw [List.length_map, List.length_take]; omega, nd_takeM (f := Knd.name) ok.knd et, Dp.mono gs e2, ok.kok c (List.mem_of_getElem? et), k⟩
  refine ⟨_, rfl, rfl, _, rfl, iteB (fun z => by simp at z) (fun _ => ?_)⟩
  have g5 := g4.trans s5
  have hx5 := s5 _ _ hx4
  have T5 := T4'.ext s5
  refine ⟨_, rfl, b1, x1, rfl, seq_mono g5 hb1, fun a1 n1 => ⟨_, rfl, x, R.C, dx, [], rfl, (same_new n1) _ _ hx5, R.cl, R.n1, by decide, ?_⟩⟩
  have n1x : a1 ≠ x := (ne_of_none hx5 n1).symm
  have g6 : Same (noT x H) (upd (upd H5 a1 (.lst x1)) x (.ins R.C dx [("_fields", .ref a1)])) := Same.ins (g5.trans (same_new n1)) nx
  refine ⟨_, rfl, b2, x2, rfl, seq_mono g6 hb2, fun a2 n2 => ⟨_, rfl, x, R.C, dx, [("_fields", .ref a1)], rfl, (same_new n2) _ _ upd_same, R.cl, R.n2, (by show 1 < 1000; decide), ?_⟩⟩
  have n2x : a2 ≠ x := (ne_of_none upd_same n2).symm
  have g7 : Same (noT x H) (upd (upd (upd (upd H5 a1 (.lst x1)) x (.ins R.C dx [("_fields", .ref a1)])) a2 (.lst x2)) x (.ins R.C dx [("_fields", .ref a1), ("_ties", .ref a2)])) := Same.ins (g6.trans (same_new n2)) nx
  refine ⟨_, rfl, b3, x3, rfl, seq_mono g7 hb3, fun a3 n3 => ⟨_, rfl, x, R.C, dx, [("_fields", .ref a1), ("_ties", .ref a2)], rfl, (same_new n3) _ _ upd_same, R.cl, R.n3, (by show 2 < 1000; decide), ?_⟩⟩
  have n3x : a3 ≠ x := (ne_of_none upd_same n3).symm
  have g8 : Same (noT x H) (upd (upd (upd (upd (upd (upd H5 a1 (.lst x1)) x (.ins R.C dx [("_fields", .ref a1)])) a2 (.lst x2)) x (.ins R.C dx [("_fields", .ref a1), ("_ties", .ref a2)])) a3 (.lst x3)) x (.ins R.C dx (rbF a1 a2 a3))) := Same.ins (g7.trans (same_new n3)) nx
  have e1 := (upd_ne (H := upd (upd (upd (upd (upd H5 a1 (.lst x1)) x (.ins R.C dx [("_fields", .ref a1)])) a2 (.lst x2)) x (.ins R.C dx [("_fields", .ref a1), ("_ties", .ref a2)])) a3 (.lst x3)) (o := .ins R.C dx (rbF a1 a2 a3)) n1x).trans ((same_new n3) _ _ ((upd_ne n1x).trans ((same_new n2) _ _ ((upd_ne n1x).trans upd_same))))
  have e2 := (upd_ne (H := upd (upd (upd (upd (upd H5 a1 (.lst x1)) x (.ins R.C dx [("_fields", .ref a1)])) a2 (.lst x2)) x (.ins R.C dx [("_fields", .ref a1), ("_ties", .ref a2)])) a3 (.lst x3)) (o := .ins R.C dx (rbF a1 a2 a3)) n2x).trans ((same_new n3) _ _ ((upd_ne n2x).trans upd_same))
  have e3 := (upd_ne (H := upd (upd (upd (upd (upd H5 a1 (.lst x1)) x (.ins R.C dx [("_fields", .ref a1)])) a2 (.lst x2)) x (.ins R.C dx [("_fields", .ref a1), ("_ties", .ref a2)])) a3 (.lst x3)) (o := .ins R.C dx (rbF a1 a2 a3)) n3x).trans upd_same
  have T6 := tabs_ins (C := R.C) (dx := dx) (fs := rbF a1 a2 a3) (((tabs_ins (C := R.C) (dx := dx) (fs := [("_fields", .ref a1), ("_ties", .ref a2)]) (((tabs_ins (C := R.C) (dx := dx) (fs := [("_fields", .ref a1)]) (T5.ext (same_new (o := .lst x1) n1)) ((same_new n1) _ _ hx5)).ext (same_new (o := .lst x2) n2))) ((same_new n2) _ _ upd_same)).ext (same_new (o := .lst x3) n3))) ((same_new n3) _ _ upd_same)
  exact q _ a1 a2 a3 g8 upd_same e1 e2 e3 (g5.free n1) (g6.free n2) (g7.free n3) (DpAll.mono g8 hd1) (DpAll.mono g8 hd2) (DpAll.mono g8 hd3) T6
end
end Bh

set_option Elab.async false
set_option linter.all false
set_option maxRecDepth 100000
namespace Bh
open PySem PySem.Spec PyProof.Rows L2
/-! ### ends of the law of programs -/
theorem at_last {α : Type} {xs : List α} {v : α} (h : xs.getLast? = some v) : atI xs (-1) = some v := by
  cases xs with
  | nil => cases h
  | cons x r =>
    have e : (x :: r).getLast? = (x :: r)[(x :: r).length - 1]? := List.getLast?_eq_getElem?
    unfold atI ixN
    rw [if_neg (by decide), if_pos (by rw [List.length_cons]; omega)]
    show (x :: r)[(-1 + ((x :: r).length : Int)).toNat]? = some v
    rw [show (-1 + ((x :: r).length : Int)).toNat = (x :: r).length - 1 by rw [List.length_cons]; omega, ← e]
    exact h
theorem vals_first : ∀ (fs : List Fld) (acc : List (List Str)) (h : List Str), acc[0]? = some h → (∀ f ∈ fs, f.2 ≠ []) → ∃ t : List Str, (fs.foldl ext1 acc)[0]? = some (h ++ t) ∧ ∀ f r, fs = f :: r → t[0]? = f.2[0]?
  | [], acc, h, h0, _ => ⟨[], by rw [List.append_nil]; exact h0, fun f r e => by cases e⟩
  | f :: r, acc, h, h0, hn => by
    cases ho : f.2 with
    | nil => exact absurd ho (hn f (List.mem_cons_self ..))
    | cons o os =>
      cases acc with
      | nil => cases h0
      | cons a as =>
        have eh : a = h := Option.some.inj h0
        subst eh
        have e1 : (ext1 (a :: as) f)[0]? = some (a ++ [o]) := by
          unfold ext1
          rw [List.flatMap_cons, ho]
          rfl
        obtain ⟨t, e2, _⟩ := vals_first r (ext1 (a :: as) f) (a ++ [o]) e1 (fun g hg => hn g (List.mem_cons_of_mem _ hg))
        refine ⟨o :: t, ?_, fun g r' e => ?_⟩
        · show (r.foldl ext1 (ext1 (a :: as) f))[0]? = _
          rw [e2, List.append_assoc]
          rfl
        · cases e
          rw [ho]
          rfl
theorem vals_zero {f : Fld} {r : List Fld} (hn : ∀ g ∈ f :: r, g.2 ≠ []) : ∃ v : List Str, (vals (f :: r))[0]? = some v ∧ v[0]? = f.2[0]? := by
  obtain ⟨t, e1, e2⟩ := vals_first (f :: r) [[]] [] rfl hn
  exact ⟨t, e1, e2 f r rfl⟩
theorem plus_steps {f : Fld} {r : List Fld} (nd : f.2.Nodup) : ∀ (m k : Nat) (v : List Str) (o : Str), v[0]? = some o → f.2[k]? = some o → (stepped (f :: r) (List.replicate m ((f.1, "+") : Stp)) v)[0]? = f.2[min (k + m) (f.2.length - 1)]?
  | 0, k, v, o, hv, hk => by
    have hl := (List.getElem?_eq_some_iff.mp hk).1
    show v[0]? = _
    rw [hv, Nat.add_zero, show min k (f.2.length - 1) = k by omega, hk]
  | m + 1, k, v, o, hv, hk => by
    have hl := (List.getElem?_eq_some_iff.mp hk).1
    have hp : posOf (f :: r) f.1 = 0 := by
      show ix (f.1 :: r.map (·.1)) f.1 = 0
      unfold ix
      rw [if_pos rfl]
    have ho : optsOf (f :: r) f.1 = f.2 := by
      unfold optsOf
      rw [hp]
      rfl
    have hlv : 0 < v.length := (List.getElem?_eq_some_iff.mp hv).1
    have hk2 : f.2[min (k + 1) (f.2.length - 1)]? = some (nextO f.2 o) := by
      have q := (next_mem (List.mem_of_getElem? hk)).1
      rw [ix_at nd hk] at q
      exact q
    have hv2 : (stepO (f :: r) v ((f.1, "+") : Stp))[0]? = some (nextO f.2 o) := by
      unfold stepO
      show (v.set (posOf (f :: r) f.1) _)[0]? = _
      rw [hp, List.getElem?_set_self hlv, if_pos rfl, ho, List.getD_eq_getElem?_getD, hv]
      rfl
    rw [List.replicate_succ]
    show (stepped (f :: r) (List.replicate m ((f.1, "+") : Stp)) (stepO (f :: r) v ((f.1, "+") : Stp)))[0]? = _
    rw [plus_steps nd m _ _ _ hv2 hk2]
    congr 1
    omega
def perm3 {α : Type} : List α → List α
  | [a, b, c] => [a, c, b]
  | _ => []
theorem perm3_rel {vs : List V} {us : List Value} (h : Vals vs us) : Vals (perm3 vs) (perm3 us) := by
  cases h with
  | nil => exact .nil
  | cons a h =>
    cases h with
    | nil => exact .nil
    | cons b h =>
      cases h with
      | nil => exact .nil
      | cons c h =>
        cases h with
        | nil => exact .cons a (.cons c (.cons b .nil))
        | cons d h => exact .nil
theorem Sh.strs (n : Nat) (zs : List Str) (h : zs.length ≤ 100000) : Sh (n + 1) (.tuple (zs.map PyData.str)) :=
  .tup (by rw [List.length_map]; exact h) fun d hd => by
    obtain ⟨z, _, rfl⟩ := List.mem_map.mp hd
    exact .str
end Bh

set_option Elab.async false
set_option linter.all false
set_option maxRecDepth 100000
set_option maxHeartbeats 1000000
namespace Bh
open PySem PySem.Spec PyProof.Rows L2
theorem wordsOf_nodup4 {z : Str} {k : Nat} {s : Int} {n : Nat} (h : k ≤ z.length) (hn : n ≤ 4) : (wordsOf z k s n).Nodup := by
  unfold wordsOf
  refine List.pairwise_map.mpr ((List.pairwise_lt_range (n := n)).imp_of_mem fun {a b} ha hb hab e => ?_)
  have h2 := List.mem_range.mp hb
  have q := wordK_inj h e
  omega
theorem tails_noz : ∀ z ∈ tails, z.length = 7 → ∃ c ∈ z.cps.toList, c ≠ 122 := by decide +kernel
theorem wordsOf_noz {z : Str} (hz : z ∈ tails) {k : Nat} {s : Int} {n : Nat} (h : k ≤ z.length) : ∀ w ∈ wordsOf z k s n, w ≠ "zzzzzzzz" := fun w hw e => by
  obtain ⟨i, _, rfl⟩ := List.mem_map.mp hw
  have l1 := wordK_length z k (97 + ((s + 5 * (i : Int)) % 26).toNat) h
  rw [e] at l1
  have l2 : ("zzzzzzzz" : Str).length = 8 := by decide +kernel
  rw [l2] at l1
  obtain ⟨c, hc, nc⟩ := tails_noz z hz (by omega)
  have e2 := wordK_cps z k (97 + ((s + 5 * (i : Int)) % 26).toNat) h
  rw [e] at e2
  have key : ∀ c ∈ ("zzzzzzzz" : Str).cps.toList, c = 122 := by decide +kernel
  refine nc (key c ?_)
  rw [e2]
  rw [← List.take_append_drop k z.cps.toList] at hc
  rcases List.mem_append.mp hc with q | q
  · exact List.mem_append_left _ q
  · exact List.mem_append_right _ (List.mem_cons_of_mem _ q)
def spWords5 : Sp := fun vs H Q _ => ∃ (b l : Addr) (G : Hp) (n : Int), vs = [.ref b, .int n] ∧ 0 ≤ n ∧ n ≤ 4 ∧ Wd b l G H ∧
  ∀ (G' H' : Hp) (p : Addr) (ws : List Str), Same G G' → Wd b l G' H' → G' p = some (.lst (ws.map V.str)) → ws.length = n.toNat → ws.Nodup → (∀ w ∈ ws, IsNm w ∧ w ≠ "zzzzzzzz") → Q (.ref p) H'
/-- fields of at most 24 values -/
structure FsOk5 (fs : List Fld) : Prop where
  ok : FsOk fs
  sz : (vals fs).length ≤ 24
theorem vals_snoc (fs : List Fld) (f : Fld) : (vals (fs ++ [f])).length = (vals fs).length * f.2.length := by
  unfold vals
  rw [List.foldl_append]
  show (ext1 _ f).length = _
  unfold ext1
  rw [flat_len]
theorem room_lt {left r : Int} (h : 2 ≤ left) (hr : r < (if (if left - 1 > 1 then left - 1 else 1) < 5 then (if left - 1 > 1 then left - 1 else 1) else 5)) : 2 + r ≤ left := by
  split at hr <;> split at hr <;> omega
theorem room_next {a m left : Int} (a0 : 0 ≤ a) (h : a * left ≤ 24) (h1 : 1 ≤ m) (h2 : m ≤ left) : a * m * (left / m) ≤ 24 ∧ 1 ≤ left / m := by
  refine ⟨Int.le_trans ?_ h, Int.le_ediv_of_mul_le (by omega) (by omega)⟩
  rw [Int.mul_assoc]
  refine Int.mul_le_mul_of_nonneg_left ?_ a0
  rw [Int.mul_comm]
  exact Int.ediv_mul_le left (by omega)
def spFields5 (K : PySem.W.Frag) : Sp := fun vs H Q _ => ∃ (b l : Addr) (G : Hp) (room : Int), vs = [.ref b, .int room] ∧ 2 ≤ room ∧ room ≤ 24 ∧ Wd b l G H ∧
  ∀ (G' H' : Hp) (p : Addr) (xs : List V) (fs : List Fld), Same G G' → Wd b l G' H' → G' p = some (.lst xs) → Paired (FdAt K G') xs fs → FsOk5 fs → Q (.ref p) H'
section
variable {P : Program} {w : World} {K : PySem.W.Frag} {mg : Str → Option Value} {base : Heap}
theorem ok_any (T : Top K mg) : FnOk P w K mg base CX0 2 T.a_l_any T.fd_l_any ["_law_bag_here", "_law_row"] (spAny K) := by
  have G_l_draw := ok_draw (P := P) (w := w) (base := base) T
  refine T.d_l_any.F.ok sc_l_any (fun vs H Q E h => ?_) (fun cdv A outer s H vs Q E hr h => ?_)
  · obtain ⟨b, l, a, G, xs, rfl, _⟩ := h
    rfl
  obtain ⟨b, l, a, G, xs, rfl, hS, ne, hl, wd, q⟩ := h
  refine ⟨_, (pss_one (ps_ret (pe_ix (ix_seq_K (K := K) (by rfl)) (pv 1) (pe_call G_l_draw (hr.mono (by decide)) (by rfl) T.d_l_draw.g T.d_l_draw.kp T.d_l_draw.b .nil pass0 (pa_cons (pv 0) (pa_cons (pe_callB (call_len_seq_K (K := K) (by rfl)) (by rfl) T.b_len PySem.boot_len (pa_cons (pv 1) pa_nil)) pa_nil))) (fun _ _ => rfl)))), ?_⟩
  have hp : 0 < xs.length := List.length_pos_iff.mpr ne
  refine ⟨_, rfl, _, rfl, _, rfl, a, xs, rfl, seq_mono wd.sm hS, b, l, G, _, rfl, by omega, by omega, wd, fun r H1 r0 r1 w1 => ?_⟩
  obtain ⟨v, e, hm⟩ := at_lt r0 r1
  exact rIx_go (seq_mono w1.sm hS) e (q v H1 hm w1)
theorem ok_mixed (T : Top K mg) : FnOk P w K mg base CX0 2 T.a_l_mixed T.fd_l_mixed ["_law_bag_here", "_law_row"] (spMixed K) := by
  have G_l_draw := ok_draw (P := P) (w := w) (base := base) T
  refine T.d_l_mixed.F.ok sc_l_mixed (fun vs H Q E h => ?_) (fun cdv A outer s H vs Q E hr h => ?_)
  · obtain ⟨b, l, a, G, xs, rfl, _⟩ := h
    rfl
  obtain ⟨b, l, a, G, xs, rfl, hS, hl, wd, q⟩ := h
  refine ⟨_, (pss_cons (ps_set (i := 2) sc_l_mixed.nd rfl (Or.inl rfl) (pe_lst pa_nil))
    (pss_cons (ps_for PassesOwn.never rfl (pi_list_K (K := K) (by rfl) (pv 1)) (pg_name (i := 3) sc_l_mixed.nd rfl (Or.inl rfl))
      (pss_one (ps_expr (pe_bm_K (K := K) (by rfl) PySem.F.plainAttrs_list PySem.F.slot_list_insert PySem.F.type_list_insert mt_insert (pv 2) (pa_cons (pe_call G_l_draw (hr.mono (by decide)) (by rfl) T.d_l_draw.g T.d_l_draw.kp T.d_l_draw.b .nil pass0 (pa_cons (pv 0) (pa_cons (pe_op op_add (pe_callB (call_len_seq_K (K := K) (by rfl)) (by rfl) T.b_len PySem.boot_len (pa_cons (pv 2) pa_nil)) pe_int) pa_nil))) (pa_cons (pv 3) pa_nil))))))
    (pss_one (ps_ret (pv 2))))), ?_⟩
  refine ⟨Nat.zero_le _, fun p np => ?_⟩
  have gp : G p = none := wd.free np
  refine ⟨_, rfl, a, rfl, ⟨_, (wd.sm.trans (same_new np)).seq hS⟩, for_it walk_list (fun i σ H' => ∃ v3 G' ys, σ = [some (.ref b), some (.ref a), some (.ref p), v3] ∧ Same G G' ∧ Wd b l G' H' ∧ G' p = some (.lst ys) ∧ ys.Perm (xs.take i))
    ⟨none, _, [], rfl, same_new gp, wd.new np, upd_same, .nil⟩ (fun i σ H' _ ⟨_, _, _, _, e, w', _⟩ => (e.trans w'.sm).seq hS) ?_ ?_⟩
  · rintro i x σ H' H'' hi ⟨v3, G', ys, rfl, sg, w1, hp, pm⟩ ⟨rfl, ex⟩
    have ly : ys.length = i := by
      rw [pm.length_eq, List.length_take]
      omega
    refine ⟨_, rfl, .inl ⟨rfl, _, SqL.of (w1.sm _ _ hp)⟩, _, rfl, _, rfl, p, ys, rfl, .inl (SqL.of (w1.sm _ _ hp)), _, _, rfl, rfl, b, l, G', _, rfl, by omega, by omega, w1, fun r H1 r0 r1 w2 => ?_⟩
    refine ⟨_, rfl, p, ys, r, x, rfl, rfl, w2.sm _ _ hp, lt_line (by omega), r0, by omega, ?_⟩
    refine ⟨_, _, ys.take r.toNat ++ [x] ++ ys.drop r.toNat, rfl, same_mut sg gp, w2.mut hp, upd_same, ?_⟩
    have e : xs.take (i + 1) = xs.take i ++ [x] := by rw [List.take_add_one, ex]; rfl
    rw [e]
    have k : (ys.take r.toNat ++ [x] ++ ys.drop r.toNat).Perm (ys.take r.toNat ++ ys.drop r.toNat ++ [x]) := by
      rw [List.append_assoc, List.append_assoc]
      exact List.Perm.append_left _ List.perm_append_comm
    rw [List.take_append_drop] at k
    exact k.trans (pm.append_right [x])
  · rintro σ H' ⟨v3, G', ys, rfl, sg, w1, hp, pm⟩
    rw [List.take_length] at pm
    exact ⟨_, rfl, q G' H' p ys sg w1 hp pm⟩
theorem ok_words (T : Top K mg) : FnOk P w K mg base CX0 3 T.a_l_words T.fd_l_words ["_law_bag_here", "_law_many"] spWords5 := by
  have G_l_draw := ok_draw (P := P) (w := w) (base := base) T
  have G_l_any := ok_any (P := P) (w := w) (base := base) T
  refine T.d_l_words.F.ok sc_l_words (fun vs H Q E h => ?_) (fun cdv A outer s H vs Q E hr h => ?_)
  · obtain ⟨b, l, G, n, rfl, _⟩ := h
    rfl
  obtain ⟨b, l, G, n, rfl, n0, n3, wd, q⟩ := h
  refine ⟨_, (pss_cons (ps_set (i := 2) sc_l_words.nd rfl (Or.inr rfl) (pe_call G_l_any (hr.mono (by decide)) (by rfl) T.d_l_any.g T.d_l_any.kp T.d_l_any.b .nil pass0 (pa_cons (pv 0) (pa_cons (pe_lst (pa_cons pe_str (pa_cons pe_str (pa_cons pe_str (pa_cons pe_str (pa_cons pe_str pa_nil)))))) pa_nil))))
    (pss_cons (ps_asg (pe_tup (pa_cons (pe_call G_l_draw (hr.mono (by decide)) (by rfl) T.d_l_draw.g T.d_l_draw.kp T.d_l_draw.b .nil pass0 (pa_cons (pv 0) (pa_cons (pe_op op_add (pe_callB call_len_str (by rfl) T.b_len PySem.boot_len (pa_cons (pv 2) pa_nil)) pe_int) pa_nil))) (pa_cons (pe_call G_l_draw (hr.mono (by decide)) (by rfl) T.d_l_draw.g T.d_l_draw.kp T.d_l_draw.b .nil pass0 (pa_cons (pv 0) (pa_cons pe_int pa_nil))) pa_nil))) (pg_tup_K (K := K) (by rfl) (n := 2) (by rfl) (pgs_cons (pg_name (i := 3) sc_l_words.nd rfl (Or.inr rfl)) (pgs_cons (pg_name (i := 4) sc_l_words.nd rfl (Or.inr rfl)) pgs_nil))))
    (pss_cons (ps_set (i := 5) sc_l_words.nd rfl (Or.inr rfl) pe_str)
    (pss_one (ps_ret (pe_lc (own := [("_law_k", 6)]) rfl sc_l_words.nd (pi_range1 rfl T.b_range (pa_cons (pv 1) pa_nil)) (blkOk_by (own := [("_law_k", 6)]) (N := ["_law_bag_here", "_law_many", "_law_tail", "_law_at", "_law_start", "_law_letters", "_law_k"]) (sc := defScope s_l_words) (by decide +kernel)) (fun _ _ _ _ _ => by exact (pg_name (i := 6) sc_l_words.nd rfl (Or.inl rfl))) (fun _ _ _ _ _ => by exact pts_nil) (fun _ _ _ _ _ => by exact (pe_op op_add_str (pe_op op_add_str (pe_slice sl_str (pv 2) po_none (po_some (pv 3))) (pe_ix ix_str (pv 5) (pe_op op_mod (pe_callTy call_int1 (by rfl) T.b_int (by decide +kernel) (pa_cons (pe_op op_add (pv 4) (pe_op op_mul pe_int (pv 6))) pa_nil)) pe_int) (fun _ _ => rfl))) (pe_slice sl_str (pv 2) (po_some (pv 3)) po_none))))))))), ?_⟩
  refine ⟨_, rfl, (by show 5 ≤ sizeLine; decide), fun p np => ?_⟩
  refine ⟨b, l, p, upd G p (.lst (tails.map V.str)), tails.map V.str, rfl, .inl (SqL.of upd_same), (fun z => by cases z), by decide, wd.new np, fun x H1 hx w1 => ?_⟩
  have s1 : Same G (upd G p (.lst (tails.map V.str))) := wd.sameG np
  obtain ⟨z, hz, rfl⟩ := List.mem_map.mp hx
  obtain ⟨z1, z2⟩ := tails_ok z hz
  refine ⟨_, rfl, _, rfl, z, rfl, le_line (by omega), _, _, rfl, rfl, b, l, _, _, rfl, by omega, by omega, w1, fun k H2 k0 k1 w2 => ?_⟩
  refine ⟨_, rfl, b, l, _, 26, rfl, by decide, by decide, w2, fun st H3 t0 t1 w3 => ?_⟩
  refine ⟨(by show 2 ≤ sizeLine; decide), fun t nt => ?_⟩
  have w4 := w3.new (o := .tup [.int k, .int st]) nt
  have s2 := s1.trans (w3.sameG (o := .tup [.int k, .int st]) nt)
  refine ⟨t, _, rfl, .inl (.inl upd_same), rfl, _, _, rfl, _, _, rfl, rfl, ?_⟩
  obtain ⟨kn, rfl⟩ : ∃ m : Nat, k = (m : Int) := ⟨k.toNat, by omega⟩
  have hk : kn ≤ z.length := by omega
  refine ⟨_, rfl, n, rfl, by omega, by omega, fun D nD => ?_⟩
  have gD := w4.free nD
  refine lc_it walk_range (fun i H' => ∃ G', Same G G' ∧ Wd b l G' H' ∧ G' D = some (.lst ((wordsOf z kn st i).map V.str))) ⟨_, s2.trans (w4.sameG nD), w4.new nD, upd_same⟩ (fun _ _ _ _ => True.intro) ?_ ?_
  · rintro i v H' H'' hi ⟨G', sg, w5, hD⟩ ⟨rfl, rfl⟩
    refine ⟨rfl, ?_⟩
    have a0 : (0 : Int) + (i : Int) = (i : Int) := by omega
    have ln1 : (cutS z none (some (kn : Int))).length ≤ z.length := cutS_length z _ _
    have ln2 : (cutS z (some (kn : Int)) none).length ≤ z.length := cutS_length z _ _
    have m0 := Int.emod_nonneg (st + 5 * ((0 : Int) + (i : Int))) (show (26 : Int) ≠ 0 by decide)
    have m1 := Int.emod_lt_of_pos (st + 5 * ((0 : Int) + (i : Int))) (show (0 : Int) < 26 by decide)
    refine ⟨_, rfl, _, rfl, _, rfl, z, rfl, le_line (by omega), _, rfl, _, rfl, _, rfl, _, _, rfl, rfl, .inl ⟨by decide, by decide⟩, _, _, rfl, rfl, .inl ⟨_, rfl, _, _, rfl, rfl, (show (0 : Int) < 26 by decide), letters, _, _, rfl, rfl, le_line (by decide +kernel), letters_at m0 m1, ?_⟩⟩
    refine ⟨_, _, rfl, rfl, ?_, _, rfl, _, rfl, _, rfl, z, rfl, le_line (by omega), _, _, rfl, rfl, ?_, _, w5.sm _ _ hD, ?_, ?_⟩
    · exact le_line (by show _ + 1 ≤ _; omega)
    · refine le_line ?_
      have e : (cutS z none (some (kn : Int)) ++ (⟨#[97 + ((st + 5 * ((0 : Int) + (i : Int))) % 26).toNat]⟩ : Str)).length = (cutS z none (some (kn : Int))).length + 1 := by
        show ((cutS z none (some (kn : Int))).cps ++ #[_]).size = _
        rw [Array.size_append]
        rfl
      rw [e]
      omega
    · rw [List.length_map, wordsOf_len]
      exact lt_line (by omega)
    · refine ⟨_, same_mut sg (s2.free gD), w5.mut hD, ?_⟩
      rw [upd_same]
      have e : wordsOf z kn st (i + 1) = wordsOf z kn st i ++ [wordK z kn (97 + ((st + 5 * (i : Int)) % 26).toNat)] := by
        unfold wordsOf
        rw [List.range_succ, List.map_append]
        rfl
      rw [e, List.map_append, a0]
      rfl
  · rintro H' ⟨G', sg, w5, hD⟩
    exact q G' H' D _ sg w5 hD wordsOf_len (wordsOf_nodup4 hk (by omega)) fun w hw => ⟨wordsOf_nm hz hk w hw, wordsOf_noz hz hk w hw⟩
theorem ok_options (T : Top K mg) : FnOk P w K mg base CX0 3 T.a_l_options T.fd_l_options ["_law_bag_here", "_law_many"] (spOptions K) := by
  have G_l_mixed := ok_mixed (P := P) (w := w) (base := base) T
  refine T.d_l_options.F.ok sc_l_options (fun vs H Q E h => ?_) (fun cdv A outer s H vs Q E hr h => ?_)
  · obtain ⟨b, l, G, n, rfl, _⟩ := h
    rfl
  obtain ⟨b, l, G, n, rfl, n2, n6, wd, q⟩ := h
  refine ⟨_, (pss_cons (ps_set (i := 2) sc_l_options.nd rfl (Or.inl rfl) (pe_lst (pa_cons pe_str (pa_cons pe_str (pa_cons pe_str (pa_cons pe_str (pa_cons pe_str (pa_cons pe_str (pa_cons pe_str (pa_cons pe_str (pa_cons pe_str (pa_cons pe_str pa_nil))))))))))))
    (pss_one (ps_ret (pe_callTy (call_tuple_of_P (K := K) (by rfl)) (by rfl) T.b_tuple (by decide +kernel) (pa_cons (pe_slice (sl_list_K (K := K) (by rfl)) (pe_call G_l_mixed (hr.mono (by decide)) (by rfl) T.d_l_mixed.g T.d_l_mixed.kp T.d_l_mixed.b .nil pass0 (pa_cons (pv 0) (pa_cons (pv 2) pa_nil))) po_none (po_some (pv 1))) pa_nil))))), ?_⟩
  refine ⟨(by show 10 ≤ sizeLine; decide), fun p np => ?_⟩
  refine ⟨_, rfl, _, rfl, b, l, p, upd G p (.lst (pool.map V.str)), pool.map V.str, rfl, SqL.of upd_same, by decide, wd.new np, fun G1 H1 p1 ys s1 w1 h1 pm => ?_⟩
  have s0 := (wd.sameG (o := .lst (pool.map V.str)) np).trans s1
  obtain ⟨zs, pz, rfl⟩ := perm_strs pm
  refine ⟨_, rfl, _, rfl, _, _, rfl, SqL.of (w1.sm _ _ h1), fun c nc => ?_⟩
  rw [cutV_take _ (by omega), ← List.map_take]
  have w2 := w1.new (o := .lst ((zs.take n.toNat).map V.str)) nc
  refine ⟨c, _, rfl, .inl ⟨SqL.of upd_same, fun t o nt ho => ?_⟩⟩
  have w3 := w2.new (o := .frz o (.tup ((zs.take n.toNat).map V.str))) nt
  have lz : zs.length = 10 := pz.length_eq
  refine q _ _ t (zs.take n.toNat) ((s0.trans (w1.sameG nc)).trans (w2.sameG nt)) w3 (SqP.new ho) (by rw [List.length_take]; omega) ((pz.nodup_iff.mpr pool_nodup).sublist (List.take_sublist _ _)) fun o' h' => pz.mem_iff.mp (List.mem_of_mem_take h')
theorem ok_fields (T : Top K mg) : FnOk P w K mg base CX0 4 T.a_l_fields T.fd_l_fields ["_law_bag_here", "_law_room"] (spFields5 K) := by
  have G_l_draw := ok_draw (P := P) (w := w) (base := base) T
  have G_l_words := ok_words (P := P) (w := w) (base := base) T
  have G_l_options := ok_options (P := P) (w := w) (base := base) T
  refine T.d_l_fields.F.ok sc_l_fields (fun vs H Q E h => ?_) (fun cdv A outer s H vs Q E hr h => ?_)
  · obtain ⟨b, l, G, room, rfl, _⟩ := h
    rfl
  obtain ⟨b, l, G, room, rfl, rm0, rm1, wd, q⟩ := h
  refine ⟨_, (pss_cons (ps_par3 (i := 2) (j := 3) (l := 4) (by rfl) sc_l_fields.nd rfl rfl rfl (by decide) (by decide) (by decide) rfl rfl rfl (pa_cons (pe_call G_l_words (hr.mono (by decide)) (by rfl) T.d_l_words.g T.d_l_words.kp T.d_l_words.b .nil pass0 (pa_cons (pv 0) (pa_cons pe_int pa_nil))) (pa_cons (pe_lst pa_nil) (pa_cons (pv 1) pa_nil))) (by rfl))
    (pss_cons (ps_for PassesOwn.never rfl (pi_range1 rfl T.b_range (pa_cons (pe_op op_add pe_int (pe_call G_l_draw (hr.mono (by decide)) (by rfl) T.d_l_draw.g T.d_l_draw.kp T.d_l_draw.b .nil pass0 (pa_cons (pv 0) (pa_cons pe_int pa_nil)))) pa_nil)) (pg_name (i := 5) sc_l_fields.nd rfl (Or.inl rfl))
      (pss_one (ps_if (PW.pt (pw_or (pt_cmpR op_ge (pv 4) pe_int (nomark _)) (pw_or1 (pt_cmpR (op_eqP (K := K) (by rfl) hr.units) (pv 3) (pe_lst pa_nil) (nomark _))))) (pss_cons (ps_set (i := 6) sc_l_fields.nd rfl (Or.inl rfl) (pe_op op_add pe_int (pe_call G_l_draw (hr.mono (by decide)) (by rfl) T.d_l_draw.g T.d_l_draw.kp T.d_l_draw.b .nil pass0 (pa_cons (pv 0) (pa_cons (pe_callB (call_min2 rfl) (by rfl) T.b_min (by decide +kernel) (pa_cons pe_int (pa_cons (pe_callB (call_max2 rfl) (by rfl) T.b_max (by decide +kernel) (pa_cons pe_int (pa_cons (pe_op op_sub (pv 4) pe_int) pa_nil))) pa_nil))) pa_nil)))))
        (pss_cons (ps_expr (pe_bm_K (K := K) (by rfl) PySem.F.plainAttrs_list PySem.F.slot_list_append PySem.F.type_list_append mt_append (pv 3) (pa_cons (pe_tup (pa_cons (pe_ix (ix_list_K (K := K) (by rfl)) (pv 2) (pv 5) (fun _ _ => rfl)) (pa_cons (pe_call G_l_options (hr.mono (by decide)) (by rfl) T.d_l_options.g T.d_l_options.kp T.d_l_options.b .nil pass0 (pa_cons (pv 0) (pa_cons (pv 6) pa_nil))) pa_nil))) pa_nil)))
        (pss_one (ps_set (i := 4) sc_l_fields.nd rfl (Or.inl rfl) (pe_op op_fdiv (pv 4) (pv 6)))))) pss_nil)))
    (pss_one (ps_ret (pv 3))))), ?_⟩
  refine ⟨_, rfl, b, l, G, 3, rfl, by decide, by decide, wd, fun G1 H1 p ws s1 w1 h1 lw ndw nmw => ?_⟩
  refine ⟨Nat.zero_le _, fun pf nf => ?_⟩
  have g1f : G pf = none := s1.free (w1.free nf)
  have w2 := w1.new (o := .lst []) nf
  have s2 := s1.trans (w1.sameG (o := .lst []) nf)
  have h1' : (upd G1 pf (.lst [])) p = some (.lst (ws.map V.str)) := by
    rw [upd_ne (ne_of_none h1 (w1.free nf))]
    exact h1
  have hpf : p ≠ pf := ne_of_none h1 (w1.free nf)
  refine ⟨_, rfl, _, _, _, rfl, ?_⟩
  refine ⟨_, rfl, b, l, _, 3, rfl, by decide, by decide, w2, fun r H4 r0 r1 w4 => ?_⟩
  refine ⟨_, _, rfl, rfl, _, rfl, by omega, by omega, ?_⟩
  refine for_it walk_range (fun i σ H' => ∃ x5 x6 G' xs fs left, σ = [some (.ref b), some (.int room), some (.ref p), some (.ref pf), some (.int left), x5, x6] ∧ Same G G' ∧ Wd b l G' H' ∧ G' pf = some (.lst xs) ∧ Paired (FdAt K G') xs fs ∧
      G' p = some (.lst (ws.map V.str)) ∧ fs.length ≤ i ∧ (0 < i → fs ≠ []) ∧ (fs ≠ [] ∨ 2 ≤ left) ∧ (∀ f ∈ fs, ∃ j, j < i ∧ ws[j]? = some f.1) ∧ (fs.map (·.1)).Nodup ∧ (∀ f ∈ fs, f.2.Nodup ∧ 2 ≤ f.2.length ∧ f.2.length ≤ 6 ∧ ∀ o ∈ f.2, o ∈ pool) ∧ ((vals fs).length : Int) * left ≤ 24 ∧ 1 ≤ left)
    ⟨none, none, _, [], [], room, rfl, s2, w4, upd_same, .nil, h1', Nat.le_refl _, fun z => absurd z (Nat.lt_irrefl _), .inr rm0, (fun f hf => by cases hf), .nil, (fun f hf => by cases hf), (by show ((1 : Nat) : Int) * room ≤ 24; omega), by omega⟩ (fun _ _ _ _ _ => True.intro) ?_ ?_
  · rintro i v σ H' H'' hi ⟨x5, x6, G', xs, fs, left, rfl, sg, w5, hx, hp, hw, hl, hne, hor, hj, nd, hos, hz, hz1⟩ ⟨rfl, rfl⟩
    have hi3 : i < 3 := by omega
    have lxs := fds_len hp
    have hwi : ws[i]? = some ws[i] := List.getElem?_eq_getElem (by rw [lw]; exact hi3)
    have body : 2 ≤ left → True := fun _ => True.intro
    refine ⟨_, rfl, _, _, rfl, rfl, _, rfl, ite3 (fun h2 => ?_) (fun h2 => ?_)⟩
    · refine ⟨_, rfl, _, rfl, _, _, rfl, rfl, _, _, rfl, _, _, rfl, b, l, G', _, rfl, (min_max_bound _).1, by have := (min_max_bound (left - 1)).2; omega, w5, fun r5 H5 r50 r51 w6 => ?_⟩
      have r6 := (min_max_bound (left - 1)).2
      have r7 := room_lt h2 r51
      obtain ⟨z1, z2⟩ := room_next (Int.natCast_nonneg _) hz (show 1 ≤ 2 + r5 by omega) r7
      refine ⟨_, _, rfl, rfl, ?_⟩
      refine ⟨_, rfl, .inl ⟨rfl, _, SqL.of (w6.sm _ _ hx)⟩, _, rfl, _, rfl, p, _, _, .str ws[i], rfl, rfl, SqL.of (w6.sm _ _ hw), at_nn (by omega) (by rw [show ((0 : Int) + (i : Int)).toNat = i by omega, List.getElem?_map, hwi]; rfl), ?_⟩
      refine ⟨_, rfl, _, rfl, b, l, G', 2 + r5, rfl, by omega, by omega, w6, fun G7 H7 po os s7 w7 hP7 lo ndo hpo => ?_⟩
      refine ⟨(by show 2 ≤ sizeLine; decide), fun t7 nt7 => ?_⟩
      have w8 := w7.new (o := .tup [.str ws[i], .ref po]) nt7
      have s8 := s7.trans (w7.sameG (o := .tup [.str ws[i], .ref po]) nt7)
      have hx8 := s8 _ _ hx
      refine ⟨pf, xs, _, rfl, rfl, w8.sm _ _ hx8, lt_line (by omega), ?_⟩
      refine ⟨_, rfl, _, rfl, _, _, rfl, rfl, ⟨by omega, by omega⟩, ?_⟩
      have hfd : FdAt K (upd (upd G7 t7 (.tup [.str ws[i], .ref po])) pf (.lst (xs ++ [.ref t7]))) (.ref t7) (ws[i], os) := by
        have nf7 : t7 ≠ pf := fun z => by
          have k := s7 _ _ hx
          rw [← z, w7.free nt7] at k
          cases k
        refine ⟨t7, po, rfl, .inl (.inl ?_), ?_⟩
        · rw [upd_ne nf7]
          exact upd_same
        · have k := hP7.mono (w7.sameG (o := .tup [.str ws[i], .ref po]) nt7)
          rcases k with ⟨o, k, ko⟩ | k
          · refine .inl ⟨o, ?_, ko⟩
            rw [upd_ne (ne_of k hx8 (by intro z; cases z))]
            exact k
          · exact .inr k
      have hp8 : Paired (FdAt K (upd (upd G7 t7 (.tup [.str ws[i], .ref po])) pf (.lst (xs ++ [.ref t7])))) xs fs := by
        have key : ∀ {ys : List V} {gs : List Fld}, Paired (FdAt K G') ys gs → Paired (FdAt K (upd (upd G7 t7 (.tup [.str ws[i], .ref po])) pf (.lst (xs ++ [.ref t7])))) ys gs := by
          intro ys gs k
          induction k with
          | nil => exact .nil
          | cons h _ ih =>
            refine .cons ?_ ih
            obtain ⟨a', o', e', k1, k2⟩ := h.mono s8
            refine ⟨a', o', e', ?_, ?_⟩
            · rcases k1 with (k1 | ⟨u, k1⟩) | k1
              · exact .inl (.inl (by rw [upd_ne (ne_of k1 hx8 (by intro z; cases z))]; exact k1))
              · exact .inl (.inr ⟨u, by rw [upd_ne (ne_of k1 hx8 (by intro z; cases z))]; exact k1⟩)
              · exact .inr k1
            · rcases k2 with ⟨u, k2, ku⟩ | k2
              · exact .inl ⟨u, by rw [upd_ne (ne_of k2 hx8 (by intro z; cases z))]; exact k2, ku⟩
              · exact .inr k2
        exact key hp
      refine ⟨_, _, _, _, fs ++ [(ws[i], os)], _, rfl, same_mut (sg.trans s8) g1f, w8.mut hx8, upd_same, fds_snoc hp8 hfd, ?_, ?_, fun _ z => by simp at z, .inl (by simp), ?_, ?_, ?_⟩
      · rw [upd_ne hpf]
        exact s8 _ _ hw
      · rw [List.length_append]
        exact Nat.succ_le_succ hl
      · intro f hf
        rcases List.mem_append.mp hf with hf | hf
        · obtain ⟨j, h1, h2⟩ := hj f hf
          exact ⟨j, by omega, h2⟩
        · cases List.mem_singleton.mp hf
          exact ⟨i, by omega, hwi⟩
      · rw [List.map_append]
        refine List.nodup_append.mpr ⟨nd, by simp, fun x hx1 y hy e => ?_⟩
        obtain ⟨f, hf, rfl⟩ := List.mem_map.mp hx1
        have ey : y = ws[i] := by simpa using hy
        obtain ⟨j, h1, h2⟩ := hj f hf
        rw [e, ey] at h2
        have := nd_ix ndw h2 hwi
        omega
      · refine ⟨fun f hf => ?_, ?_⟩
        rotate_left
        · rw [vals_snoc, Int.natCast_mul, show ((ws[i], os) : Fld).2.length = (2 + r5).toNat from lo, Int.toNat_of_nonneg (by omega)]
          exact ⟨z1, z2⟩
        rcases List.mem_append.mp hf with hf | hf
        · exact hos f hf
        · cases List.mem_singleton.mp hf
          exact ⟨ndo, by rw [lo]; omega, by rw [lo]; omega, hpo⟩
    · have hnn : fs ≠ [] := hor.resolve_right h2
      refine ⟨_, rfl, Nat.zero_le _, fun e ne => ?_⟩
      have w6 := w5.new (o := .lst []) ne
      have s6 := w5.sameG (o := .lst []) ne
      refine ⟨.list (fs.map dF), .list [], .lst (SqL.of (w6.sm _ _ (s6 _ _ hx))) (DpAll.mono (s6.trans w6.sm) (fds_dp hp)), .lst (SqL.of upd_same) .nil, ?_, _, rfl, ?_⟩
      · exact Nat.le_trans (Nat.min_le_right _ _) (by decide)
      have ev : PyData.eqv (.list (fs.map dF)) (.list []) = false := by
        cases fs with
        | nil => exact absurd rfl hnn
        | cons f r => rfl
      rw [ev]
      exact ⟨_, _, _, _, fs, left, rfl, sg.trans s6, w6, s6 _ _ hx, fds_mono s6 hp, s6 _ _ hw, by omega, fun _ => hnn, .inl hnn, (fun f hf => by obtain ⟨j, h1, h2⟩ := hj f hf; exact ⟨j, by omega, h2⟩), nd, hos, hz, hz1⟩
  · rintro σ H' ⟨x5, x6, G', xs, fs, left, rfl, sg, w5, hx, hp, hw, hl, hne, hor, hj, nd, hos, hz, hz1⟩
    refine ⟨_, rfl, q G' H' pf xs fs sg w5 hx hp ⟨⟨?_, by omega, nd, fun f hf => ?_, hos⟩, ?_⟩⟩
    · exact List.length_pos_iff.mpr (hne (by omega))
    · obtain ⟨j, h1, h2⟩ := hj f hf
      exact (nmw _ (List.mem_of_getElem? h2)).1
    · have z := Int.mul_le_mul_of_nonneg_left hz1 (Int.natCast_nonneg (vals fs).length)
      omega
end
end Bh

set_option Elab.async false
set_option linter.all false
set_option maxRecDepth 100000
set_option maxHeartbeats 1000000
namespace Bh
open PySem PySem.Spec PyProof.Rows L2
section
variable {P : Program} {w : World} {K : PySem.W.Frag} {mg : Str → Option Value} {base : Heap}
theorem ok_case (T : Top K mg) : FnOk P w K mg base CX0 3 T.a_l_case T.fd_l_case ["_law_bag_here", "_law_fields_here"] (spCase K) := by
  have G_l_draw := ok_draw (P := P) (w := w) (base := base) T
  have G_l_any := ok_any (P := P) (w := w) (base := base) T
  refine T.d_l_case.F.ok sc_l_case (fun vs H Q E h => ?_) (fun cdv A outer s H vs Q E hr h => ?_)
  · obtain ⟨b, l, a, G, xs, fs, rfl, _⟩ := h
    rfl
  obtain ⟨b, l, a, G, xs, fs, rfl, hS, hF, ok, wd, q⟩ := h
  refine ⟨_, (pss_cons (ps_par (i := 2) (j := 3) (by rfl) sc_l_case.nd rfl rfl (by decide) rfl rfl (pa_cons (pe_lst pa_nil) (pa_cons (pe_lst pa_nil) pa_nil)) (by rfl))
    (pss_cons (ps_for PassesOwn.never rfl (pi_range1 rfl T.b_range (pa_cons (pe_call G_l_draw (hr.mono (by decide)) (by rfl) T.d_l_draw.g T.d_l_draw.kp T.d_l_draw.b .nil pass0 (pa_cons (pv 0) (pa_cons pe_int pa_nil))) pa_nil)) (pg_name (i := 4) sc_l_case.nd rfl (Or.inl rfl))
      (pss_cons (ps_asg (pe_call G_l_any (hr.mono (by decide)) (by rfl) T.d_l_any.g T.d_l_any.kp T.d_l_any.b .nil pass0 (pa_cons (pv 0) (pa_cons (pv 1) pa_nil))) (pg_tup_K (K := K) (by rfl) (n := 2) (by rfl) (pgs_cons (pg_name (i := 5) sc_l_case.nd rfl (Or.inl rfl)) (pgs_cons (pg_name (i := 6) sc_l_case.nd rfl (Or.inl rfl)) pgs_nil))))
      (pss_one (ps_expr (pe_bm_K (K := K) (by rfl) PySem.F.plainAttrs_list PySem.F.slot_list_append PySem.F.type_list_append mt_append (pv 2) (pa_cons (pe_tup (pa_cons (pv 5) (pa_cons (pe_call G_l_any (hr.mono (by decide)) (by rfl) T.d_l_any.g T.d_l_any.kp T.d_l_any.b .nil pass0 (pa_cons (pv 0) (pa_cons (pe_lst (pa_cons pe_str (pa_cons pe_str (pa_cons pe_str (pa_cons pe_str pa_nil))))) pa_nil))) (pa_cons (pe_call G_l_any (hr.mono (by decide)) (by rfl) T.d_l_any.g T.d_l_any.kp T.d_l_any.b .nil pass0 (pa_cons (pv 0) (pa_cons (pv 6) pa_nil))) pa_nil)))) pa_nil))))))
    (pss_cons (ps_for PassesOwn.never rfl (pi_range1 rfl T.b_range (pa_cons (pe_call G_l_draw (hr.mono (by decide)) (by rfl) T.d_l_draw.g T.d_l_draw.kp T.d_l_draw.b .nil pass0 (pa_cons (pv 0) (pa_cons pe_int pa_nil))) pa_nil)) (pg_name (i := 4) sc_l_case.nd rfl (Or.inl rfl))
      (pss_cons (ps_asg (pe_call G_l_any (hr.mono (by decide)) (by rfl) T.d_l_any.g T.d_l_any.kp T.d_l_any.b .nil pass0 (pa_cons (pv 0) (pa_cons (pv 1) pa_nil))) (pg_tup_K (K := K) (by rfl) (n := 2) (by rfl) (pgs_cons (pg_name (i := 5) sc_l_case.nd rfl (Or.inl rfl)) (pgs_cons (pg_name (i := 6) sc_l_case.nd rfl (Or.inl rfl)) pgs_nil))))
      (pss_one (ps_expr (pe_bm_K (K := K) (by rfl) PySem.F.plainAttrs_list PySem.F.slot_list_append PySem.F.type_list_append mt_append (pv 3) (pa_cons (pe_tup (pa_cons (pv 5) (pa_cons (pe_call G_l_any (hr.mono (by decide)) (by rfl) T.d_l_any.g T.d_l_any.kp T.d_l_any.b .nil pass0 (pa_cons (pv 0) (pa_cons (pe_op op_cat (pe_lst (pa_cons pe_str pa_nil)) (pe_callTy (call_list_of_K (K := K) (by rfl)) (by rfl) T.b_list (by decide +kernel) (pa_cons (pv 6) pa_nil))) pa_nil))) pa_nil))) pa_nil))))))
    (pss_one (ps_ret (pe_tup (pa_cons (pe_callTy (call_tuple_of_P (K := K) (by rfl)) (by rfl) T.b_tuple (by decide +kernel) (pa_cons (pv 2) pa_nil)) (pa_cons (pe_ifExp (pt_cmpR op_eq (pe_call G_l_draw (hr.mono (by decide)) (by rfl) T.d_l_draw.g T.d_l_draw.kp T.d_l_draw.b .nil pass0 (pa_cons (pv 0) (pa_cons pe_int pa_nil))) pe_int (nomark _)) pe_non (pe_callTy (call_tuple_of_P (K := K) (by rfl)) (by rfl) T.b_tuple (by decide +kernel) (pa_cons (pv 3) pa_nil))) pa_nil)))))))), ?_⟩
  have lxs := fds_len hF
  have xne : xs ≠ [] := fun z => by
    have := ok.ne
    rw [← lxs, z] at this
    cases this
  have xle : xs.length ≤ 100000 := by
    have := ok.le
    omega
  refine ⟨Nat.zero_le _, fun pt npt => ?_⟩
  have w1 := wd.new (o := .lst []) npt
  have gpt := wd.free npt
  refine ⟨Nat.zero_le _, fun ps nps => ?_⟩
  have w2 := w1.new (o := .lst []) nps
  have gps1 := w1.free nps
  have pts : pt ≠ ps := ne_of_none upd_same gps1
  have gps : G ps = none := by
    rw [upd_ne pts.symm] at gps1
    exact gps1
  have sG : ∀ {G' : Hp}, Same G G' → Same G (hid ps (hid pt G')) := fun e => hid_of (hid_of e gpt) gps
  refine ⟨_, _, rfl, ?_⟩
  refine ⟨_, rfl, b, l, _, 3, rfl, by decide, by decide, w2, fun r3 H3 r30 r31 w3 => ?_⟩
  refine ⟨_, rfl, by omega, by omega, ?_⟩
  refine for_it walk_range (fun i σ H' => ∃ x4 x5 x6 G' txs ts, σ = [some (.ref b), some (.ref a), some (.ref pt), some (.ref ps), x4, x5, x6] ∧ Same G (hid ps (hid pt G')) ∧ Wd b l G' H' ∧ G' pt = some (.lst txs) ∧ G' ps = some (.lst []) ∧
      DpAll K (hid ps (hid pt G')) txs (ts.map dT) ∧ ts.length = i ∧ ∀ t ∈ ts, FitT fs t ∧ t.2.1 ∈ signs)
    ⟨none, none, none, _, [], [], rfl, sG ((same_new gpt).trans (same_new gps1)), w3, (upd_ne pts).trans upd_same, upd_same, .nil, rfl, (fun t ht => by cases ht)⟩ (fun _ _ _ _ _ => True.intro) ?_ ?_
  · rintro i v σ H' H'' hi ⟨x4, x5, x6, G', txs, ts, rfl, sg, w4, hpt, hps, hD, lt, ht⟩ ⟨rfl, rfl⟩
    have sg' : Same G G' := sg.trans (hid_le.trans hid_le)
    refine ⟨_, rfl, _, rfl, b, l, a, G', xs, rfl, .inl (sg'.seq hS), xne, xle, w4, fun x H5 hx w5 => ?_⟩
    obtain ⟨f, hf, hfd⟩ := fds_mem hF hx
    obtain ⟨ta, oa, rfl, k1, k2⟩ := hfd
    have hfo := ok.os f hf
    have fit : ∀ o, o ∈ f.2 → f.1 ∈ fs.map (·.1) ∧ o ∈ optsOf fs f.1 := fun o ho => ⟨List.mem_map.mpr ⟨f, hf, rfl⟩, by rw [opts_of ok.nd hf]; exact ho⟩
    refine ⟨ta, _, rfl, Same.tup (sg'.trans w5.sm) k1, rfl, _, _, rfl, _, _, rfl, rfl, ?_⟩
    refine ⟨_, rfl, .inl ⟨rfl, _, SqL.of (w5.sm _ _ hpt)⟩, _, rfl, _, rfl, (by show 4 ≤ sizeLine; decide), fun p6 n6 => ?_⟩
    have w6 := w5.new (o := .lst (signs.map V.str)) n6
    have s6 := w5.sameG (o := .lst (signs.map V.str)) n6
    refine ⟨b, l, p6, _, signs.map V.str, rfl, .inl (SqL.of upd_same), (by simp [signs]), by decide, w6, fun y H7 hy w7 => ?_⟩
    obtain ⟨sg1, hsg, rfl⟩ := List.mem_map.mp hy
    have one : f.2 ≠ [] := fun z => by
      have := hfo.2.1
      rw [z] at this
      cases this
    have six : f.2.length ≤ 6 := hfo.2.2.1
    refine ⟨_, rfl, _, rfl, b, l, oa, _, f.2.map V.str, rfl, .inr (Same.tup (sg'.trans s6) k2.sqT), (by simpa using one), by rw [List.length_map]; omega, w7, fun y8 H8 hy8 w8 => ?_⟩
    obtain ⟨op, hop, rfl⟩ := List.mem_map.mp hy8
    refine ⟨(by show 3 ≤ sizeLine; decide), fun t nt => ?_⟩
    have w9 := w8.new (o := .tup [.str f.1, .str sg1, .str op]) nt
    have s9 := s6.trans (w8.sameG (o := .tup [.str f.1, .str sg1, .str op]) nt)
    have hpt9 := s9 _ _ hpt
    have hps9 := s9 _ _ hps
    have ltx : txs.length = i := by rw [DpAll.length hD, List.length_map, lt]
    refine ⟨pt, txs, _, rfl, rfl, w9.sm _ _ hpt9, lt_line (by omega), ?_⟩
    have ntp : t ≠ pt := fun z => by
      have k := s6 _ _ hpt
      rw [← z, w8.free nt] at k
      cases k
    have nts : t ≠ ps := fun z => by
      have k := s6 _ _ hps
      rw [← z, w8.free nt] at k
      cases k
    have sh : Same (hid ps (hid pt G')) (hid ps (hid pt (upd (upd (upd G' p6 (.lst (signs.map V.str))) t (.tup [.str f.1, .str sg1, .str op])) pt (.lst (txs ++ [.ref t]))))) := by
      rw [hid_upd]
      exact hid_same (hid_same s9)
    refine ⟨_, _, _, _, txs ++ [.ref t], ts ++ [(f.1, sg1, op)], rfl, sg.trans sh, w9.mut hpt9, upd_same, ?_, ?_, ?_, ?_⟩
    · rw [upd_ne pts.symm]
      exact hps9
    · rw [List.map_append]
      refine dpa_snoc (DpAll.mono sh hD) ?_
      refine .tup (xs := [.str f.1, .str sg1, .str op]) (.inl (.inl ?_)) (.cons (.str _) (.cons (.str _) (.cons (.str _) .nil)))
      rw [hid_ne nts, hid_ne ntp, upd_ne ntp, upd_same]
    · rw [List.length_append, lt]
      rfl
    · intro t' ht'
      rcases List.mem_append.mp ht' with h' | h'
      · exact ht t' h'
      · cases List.mem_singleton.mp h'
        exact ⟨fit op hop, hsg⟩
  · rintro σ H' ⟨x4, x5, x6, G', txs, ts, rfl, sg, w4, hpt, hps, hD, lt, ht⟩
    refine ⟨_, rfl, b, l, G', 3, rfl, by decide, by decide, w4, fun r5 H5 r50 r51 w5 => ?_⟩
    refine ⟨_, rfl, by omega, by omega, ?_⟩
    refine for_it walk_range (fun i σ H' => ∃ x4 x5 x6 G' sxs ss, σ = [some (.ref b), some (.ref a), some (.ref pt), some (.ref ps), x4, x5, x6] ∧ Same G (hid ps (hid pt G')) ∧ Wd b l G' H' ∧ G' pt = some (.lst txs) ∧ G' ps = some (.lst sxs) ∧
        DpAll K (hid ps (hid pt G')) txs (ts.map dT) ∧ DpAll K (hid ps (hid pt G')) sxs (ss.map dS) ∧ ss.length = i ∧ ∀ s ∈ ss, FitS fs s)
      ⟨x4, x5, x6, G', [], [], rfl, sg, w5, hpt, hps, hD, .nil, rfl, (fun t ht => by cases ht)⟩ (fun _ _ _ _ _ => True.intro) ?_ ?_
    · rintro i v σ H' H'' hi ⟨x4, x5, x6, G', sxs, ss, rfl, sg, w4, hpt, hps, hD, hE, ls, hs⟩ ⟨rfl, rfl⟩
      have sg' : Same G G' := sg.trans (hid_le.trans hid_le)
      refine ⟨_, rfl, _, rfl, b, l, a, G', xs, rfl, .inl (sg'.seq hS), xne, xle, w4, fun x H5 hx w5 => ?_⟩
      obtain ⟨f, hf, hfd⟩ := fds_mem hF hx
      obtain ⟨ta, oa, rfl, k1, k2⟩ := hfd
      have hfo := ok.os f hf
      have fit : ∀ o, o ∈ f.2 → f.1 ∈ fs.map (·.1) ∧ o ∈ optsOf fs f.1 := fun o ho => ⟨List.mem_map.mpr ⟨f, hf, rfl⟩, by rw [opts_of ok.nd hf]; exact ho⟩
      refine ⟨ta, _, rfl, Same.tup (sg'.trans w5.sm) k1, rfl, _, _, rfl, _, _, rfl, rfl, ?_⟩
      refine ⟨_, rfl, .inl ⟨rfl, _, SqL.of (w5.sm _ _ hps)⟩, _, rfl, _, rfl, (by show 1 ≤ sizeLine; decide), fun p6 n6 => ?_⟩
      have w6 := w5.new (o := .lst [.str "+"]) n6
      have s6 := w5.sameG (o := .lst [.str "+"]) n6
      refine ⟨_, rfl, oa, _, rfl, .inr (Same.tup (sg'.trans (s6.trans w6.sm)) k2.sqT), fun l7 n7 => ?_⟩
      have w7 := w6.new (o := .lst (f.2.map V.str)) n7
      have s7 := s6.trans (w6.sameG (o := .lst (f.2.map V.str)) n7)
      have six : f.2.length ≤ 6 := hfo.2.2.1
      refine ⟨p6, l7, [.str "+"], f.2.map V.str, rfl, rfl, (upd_ne (ne_of_none upd_same n7)).trans upd_same, upd_same, le_line (by rw [List.length_map]; show 1 + _ ≤ _; omega), fun c8 n8 => ?_⟩
      have w8 := w7.new (o := .lst ([.str "+"] ++ f.2.map V.str)) n8
      have s8 := s7.trans (w7.sameG (o := .lst ([.str "+"] ++ f.2.map V.str)) n8)
      refine ⟨b, l, c8, _, [.str "+"] ++ f.2.map V.str, rfl, .inl (SqL.of upd_same), (by simp), by rw [List.length_append, List.length_map]; show 1 + _ ≤ _; omega, w8, fun y H9 hy w9 => ?_⟩
      have hy' : ∃ o : Str, y = .str o ∧ (o ≠ "+" → o ∈ f.2) := by
        rcases List.mem_append.mp hy with h' | h'
        · exact ⟨"+", List.mem_singleton.mp h', fun z => absurd rfl z⟩
        · obtain ⟨o, ho, rfl⟩ := List.mem_map.mp h'
          exact ⟨o, rfl, fun _ => ho⟩
      obtain ⟨op, rfl, hop⟩ := hy'
      refine ⟨(by show 2 ≤ sizeLine; decide), fun t nt => ?_⟩
      have w10 := w9.new (o := .tup [.str f.1, .str op]) nt
      have s10 := s8.trans (w9.sameG (o := .tup [.str f.1, .str op]) nt)
      have hpt9 := s10 _ _ hpt
      have hps9 := s10 _ _ hps
      have ltx : sxs.length = i := by rw [DpAll.length hE, List.length_map, ls]
      refine ⟨ps, sxs, _, rfl, rfl, w10.sm _ _ hps9, lt_line (by omega), ?_⟩
      have ntp : t ≠ pt := fun z => by
        have k := s8 _ _ hpt
        rw [← z, w9.free nt] at k
        cases k
      have nts : t ≠ ps := fun z => by
        have k := s8 _ _ hps
        rw [← z, w9.free nt] at k
        cases k
      have sh : Same (hid ps (hid pt G')) (hid ps (hid pt (upd (upd (upd (upd (upd G' p6 (.lst [.str "+"])) l7 (.lst (f.2.map V.str))) c8 (.lst ([.str "+"] ++ f.2.map V.str))) t (.tup [.str f.1, .str op])) ps (.lst (sxs ++ [.ref t]))))) := by
        rw [hid_comm, hid_comm (p := ps) (q := pt), hid_upd]
        exact hid_same (hid_same s10)
      refine ⟨_, _, _, _, sxs ++ [.ref t], ss ++ [(f.1, op)], rfl, sg.trans sh, w10.mut hps9, ?_, upd_same, DpAll.mono sh hD, ?_, ?_, ?_⟩
      · rw [upd_ne pts]
        exact hpt9
      · rw [List.map_append]
        refine dpa_snoc (DpAll.mono sh hE) ?_
        refine .tup (xs := [.str f.1, .str op]) (.inl (.inl ?_)) (.cons (.str _) (.cons (.str _) .nil))
        rw [hid_ne nts, hid_ne ntp, upd_ne nts, upd_same]
      · rw [List.length_append, ls]
        rfl
      · intro s' hs'
        rcases List.mem_append.mp hs' with h' | h'
        · exact hs s' h'
        · cases List.mem_singleton.mp h'
          exact ⟨List.mem_map.mpr ⟨f, hf, rfl⟩, fun z => (fit op (hop z)).2⟩
    · rintro σ H' ⟨x4, x5, x6, G', sxs, ss, rfl, sg, w4, hpt, hps, hD, hE, ls, hs⟩
      have sg' : Same G G' := sg.trans (hid_le.trans hid_le)
      have hD' := DpAll.mono (hid_le.trans hid_le) hD
      have hE' := DpAll.mono (hid_le.trans hid_le) hE
      refine ⟨_, rfl, pt, txs, rfl, .inl ⟨SqL.of (w4.sm _ _ hpt), fun q1 o1 n1 d1 => ?_⟩⟩
      have w5 := w4.new (o := .frz o1 (.tup txs)) n1
      have s5 := w4.sameG (o := .frz o1 (.tup txs)) n1
      have tD : Dp K (upd G' q1 (.frz o1 (.tup txs))) (.ref q1) (.tuple (ts.map dT)) := .tup (SqP.new d1).sqT (DpAll.mono s5 hD')
      refine ⟨_, rfl, b, l, _, 5, rfl, by decide, by decide, w5, fun r6 H6 r60 r61 w6 => ⟨rfl, _, rfl, ite3 (fun e => ?_) (fun e => ?_)⟩⟩
      · refine ⟨(by show 2 ≤ sizeLine; decide), fun y ny => ?_⟩
        have w7 := w6.new (o := .tup [.ref q1, .non]) ny
        have s7 := w6.sameG (o := .tup [.ref q1, .non]) ny
        refine q _ _ _ (ts, none) (sg'.trans (s5.trans s7)) w7 (.tup (SqT.of upd_same) (.cons (Dp.mono s7 tD) (.cons .non .nil))) ⟨fun t h' => (ht t h').1, fun ss h' => (by cases h'), (by show ts.length ≤ 1000; omega), fun ss h' => (by cases h')⟩ (by show ts.length ≤ 2; omega) (fun ss h' => by cases h') fun t h' => (ht t h').2
      · refine ⟨_, rfl, ps, sxs, rfl, .inl ⟨SqL.of (w6.sm _ _ (s5 _ _ hps)), fun q2 o2 n2 d2 => ?_⟩⟩
        have w7 := w6.new (o := .frz o2 (.tup sxs)) n2
        have s7 := w6.sameG (o := .frz o2 (.tup sxs)) n2
        refine ⟨(by show 2 ≤ sizeLine; decide), fun y ny => ?_⟩
        have w8 := w7.new (o := .tup [.ref q1, .ref q2]) ny
        have s8 := w7.sameG (o := .tup [.ref q1, .ref q2]) ny
        refine q _ _ _ (ts, some ss) (sg'.trans (s5.trans (s7.trans s8))) w8 (.tup (SqT.of upd_same) (.cons (Dp.mono (s7.trans s8) tD) (.cons (Dp.mono s8 (.tup (SqP.new d2).sqT (DpAll.mono (s5.trans s7) hE'))) .nil))) ⟨fun t h' => (ht t h').1, fun ss' h' => (by cases h'; exact hs), (by show ts.length ≤ 1000; omega), fun ss' h' => (by cases h'; omega)⟩ (by show ts.length ≤ 2; omega) (fun ss' h' => by cases h'; omega) fun t h' => (ht t h').2
end
end Bh

set_option Elab.async false
set_option linter.all false
set_option maxRecDepth 100000
set_option maxHeartbeats 1000000
namespace Bh
open PySem PySem.Spec PyProof.Rows L2
section
variable {P : Program} {w : World} {K : PySem.W.Frag} {mg : Str → Option Value} {base : Heap}
theorem ok_program (T : Top K mg) : FnOk P w K mg base CX0 4 T.a_l_program T.fd_l_program ["_law_bag_here", "_law_fields_here", "_law_most"] (spProg K) := by
  have G_l_draw := ok_draw (P := P) (w := w) (base := base) T
  have G_l_case := ok_case (P := P) (w := w) (base := base) T
  refine T.d_l_program.F.ok sc_l_program (fun vs H Q E h => ?_) (fun cdv A outer s H vs Q E hr h => ?_)
  · obtain ⟨b, l, a, G, n, xs, fs, rfl, _⟩ := h
    rfl
  obtain ⟨b, l, a, G, n, xs, fs, rfl, hS, hF, ok, n0, n8, wd, q⟩ := h
  refine ⟨_, (pss_one (ps_ret (pe_callTy (call_tuple_of_P (K := K) (by rfl)) (by rfl) T.b_tuple (by decide +kernel) (pa_cons (pe_lc (own := [("_law_k", 3)]) rfl sc_l_program.nd (pi_range1 rfl T.b_range (pa_cons (pe_op op_add pe_int (pe_call G_l_draw (hr.mono (by decide)) (by rfl) T.d_l_draw.g T.d_l_draw.kp T.d_l_draw.b .nil pass0 (pa_cons (pv 0) (pa_cons (pv 2) pa_nil)))) pa_nil)) (blkOk_by (own := [("_law_k", 3)]) (N := ["_law_bag_here", "_law_fields_here", "_law_most", "_law_k"]) (sc := defScope s_l_program) (by decide +kernel)) (fun _ _ _ _ _ => by exact (pg_name (i := 3) sc_l_program.nd rfl (Or.inl rfl))) (fun _ _ _ _ _ => by exact pts_nil) (fun _ _ _ _ _ => by exact (pe_call G_l_case (hr.mono (by decide)) (by rfl) T.d_l_case.g T.d_l_case.kp T.d_l_case.b .nil pass0 (pa_cons (pv 0) (pa_cons (pv 1) pa_nil))))) pa_nil)))), ?_⟩
  refine ⟨_, rfl, _, rfl, b, l, G, n, rfl, n0, by omega, wd, fun r H1 r0 r1 w1 => ?_⟩
  refine ⟨_, _, rfl, rfl, _, rfl, by omega, by omega, fun D nD => ?_⟩
  have gD := w1.free nD
  refine lc_it walk_range (fun i H' => ∃ G' ys p, Same G G' ∧ Wd b l G' H' ∧ G' D = some (.lst ys) ∧ DpAll K G' ys (p.map dC) ∧ p.length = i ∧ ∀ c ∈ p, FitC fs c ∧ c.1.length ≤ 2 ∧ (∀ ss, c.2 = some ss → ss.length ≤ 2) ∧ ∀ t ∈ c.1, t.2.1 ∈ signs)
    ⟨_, [], [], w1.sameG nD, w1.new nD, upd_same, .nil, rfl, (fun c hc => by cases hc)⟩ (fun _ _ _ _ => True.intro) ?_ ?_
  · rintro i v H' H'' hi ⟨G', ys, p, sg, w2, hD, hp, lp, hc⟩ ⟨rfl, rfl⟩
    refine ⟨rfl, ?_⟩
    refine ⟨_, rfl, _, rfl, b, l, a, G', xs, fs, rfl, sg.seq hS, fds_mono sg hF, ok, w2, fun G3 H3 y c s3 w3 hy fc c2 c3 c4 => ?_⟩
    have hD3 := s3 _ _ hD
    refine ⟨ys, w3.sm _ _ hD3, lt_line (by rw [DpAll.length hp, List.length_map]; omega), ?_⟩
    have im : Imm G3 (upd G3 D (.lst (ys ++ [y]))) := imm_upd hD3
    refine ⟨_, ys ++ [y], p ++ [c], same_mut (sg.trans s3) gD, w3.mut hD3, upd_same, ?_, ?_, ?_⟩
    · rw [List.map_append]
      exact dpa_snoc (DpAll.imm im (noLs_map noL_dC p) (DpAll.mono s3 hp)) (Dp.imm im (noL_dC c) hy)
    · rw [List.length_append, lp]
      rfl
    · intro c' h'
      rcases List.mem_append.mp h' with h' | h'
      · exact hc c' h'
      · cases List.mem_singleton.mp h'
        exact ⟨fc, c2, c3, c4⟩
  · rintro H' ⟨G', ys, p, sg, w2, hD, hp, lp, hc⟩
    refine ⟨D, ys, rfl, .inl ⟨SqL.of (w2.sm _ _ hD), fun t o nt ho => ?_⟩⟩
    have w3 := w2.new (o := .frz o (.tup ys)) nt
    have s3 := w2.sameG (o := .frz o (.tup ys)) nt
    exact q _ _ _ p (sg.trans s3) w3 (.tup (SqP.new ho).sqT (DpAll.mono s3 hp)) hc (by omega) (by omega)
end
end Bh

set_option Elab.async false
set_option linter.all false
set_option maxRecDepth 100000
set_option maxHeartbeats 1000000
namespace Bh
open PySem PySem.Spec PyProof.Rows L2
theorem paired_perm {α β : Type} {R : α → β → Prop} {xs ys : List α} (p : ys.Perm xs) : ∀ {fs : List β}, Paired R xs fs → ∃ gs, gs.Perm fs ∧ Paired R ys gs := by
  induction p with
  | nil => intro fs h; cases h; exact ⟨[], .nil, .nil⟩
  | cons x _ ih =>
    intro fs h
    cases h with
    | cons h t =>
      obtain ⟨gs, g1, g2⟩ := ih t
      exact ⟨_ :: gs, g1.cons _, .cons h g2⟩
  | swap x y l =>
    intro fs h
    cases h with
    | cons h t =>
      cases t with
      | cons h2 t => exact ⟨_ :: _ :: _, .swap _ _ _, .cons h2 (.cons h t)⟩
  | trans _ _ ih1 ih2 =>
    intro fs h
    obtain ⟨gs, g1, g2⟩ := ih2 h
    obtain ⟨hs, h1, h2⟩ := ih1 g2
    exact ⟨hs, h1.trans g1, h2⟩
theorem paired_take {α β : Type} {R : α → β → Prop} : ∀ {xs : List α} {fs : List β} (n : Nat), Paired R xs fs → Paired R (xs.take n) (fs.take n)
  | _, _, 0, _ => by rw [List.take_zero, List.take_zero]; exact .nil
  | _, _, n + 1, .nil => .nil
  | _, _, n + 1, .cons h t => .cons h (paired_take n t)
theorem fit_snoc {fs : List Fld} {v : List Str} {i : Nat} {f : Fld} {o : Str} (h : FitV (fs.take i) v) (hf : fs[i]? = some f) (ho : o ∈ f.2) : FitV (fs.take (i + 1)) (v ++ [o]) := by
  have e : fs.take (i + 1) = fs.take i ++ [f] := by rw [List.take_add_one, hf]; rfl
  obtain ⟨l1, l2⟩ := h
  rw [e]
  refine ⟨by rw [List.length_append, List.length_append, l1]; rfl, fun j g p hg hp => ?_⟩
  by_cases hj : j < (fs.take i).length
  · rw [List.getElem?_append_left hj] at hg
    rw [List.getElem?_append_left (by omega)] at hp
    exact l2 j g p hg hp
  · rw [List.getElem?_append_right (by omega)] at hg
    rw [List.getElem?_append_right (by omega), l1] at hp
    have z : j - (fs.take i).length = 0 := by
      have := (List.getElem?_eq_some_iff.mp hg).1
      simp only [List.length_singleton] at this
      omega
    rw [z] at hg hp
    cases hg
    cases hp
    exact ho
theorem noL_dKey (k : Str × Str) : noL (dKey k) = true := rfl
def spValue5 (K : PySem.W.Frag) : Sp := fun vs H Q _ => ∃ (b l a : Addr) (G : Hp) (xs : List V) (fs : List Fld), vs = [.ref b, .ref a] ∧ SqL K G a xs ∧ Paired (FdAt K G) xs fs ∧ FsOk fs ∧ Wd b l G H ∧
  ∀ (G' H' : Hp) (y : V) (v : List Str), Same G G' → Wd b l G' H' → Dp K G' y (dV v) → FitV fs v → Q y H'
def spKeys5 (K : PySem.W.Frag) : Sp := fun vs H Q _ => ∃ (b l a : Addr) (G : Hp) (xs : List V) (fs : List Fld), vs = [.ref b, .ref a] ∧ SqL K G a xs ∧ Paired (FdAt K G) xs fs ∧ FsOk fs ∧ Wd b l G H ∧
  ∀ (G' H' : Hp) (y : V) (ks : List (Str × Str)), Same G G' → Wd b l G' H' → Dp K G' y (.tuple (ks.map dKey)) → OkKeys fs ks → Q y H'
def spKinds5 (K : PySem.W.Frag) : Sp := fun vs H Q _ => ∃ (b l a : Addr) (G : Hp) (xs : List V) (fs : List Fld) (most : Int), vs = [.ref b, .ref a, .int most] ∧ 1 ≤ most ∧ most ≤ 4 ∧ SqL K G a xs ∧ Paired (FdAt K G) xs fs ∧ FsOk fs ∧ Wd b l G H ∧
  ∀ (G' H' : Hp) (p : Addr) (ys : List V) (ks : List Knd), Same G G' → Wd b l G' H' → G' p = some (.lst ys) → DpAll K G' ys (ks.map dKnd) → 1 ≤ ks.length → ks.length ≤ 3 → (ks.map (·.name)).Nodup → (∀ k ∈ ks, OkKnd fs k) → Q (.ref p) H'
section
variable {P : Program} {w : World} {K : PySem.W.Frag} {mg : Str → Option Value} {base : Heap}
theorem ok_value5 (T : Top K mg) : FnOk P w K mg base CX0 3 T.a_l_value T.fd_l_value ["_law_bag_here", "_law_fields_here"] (spValue5 K) := by
  have G_l_any := ok_any (P := P) (w := w) (base := base) T
  refine T.d_l_value.F.ok sc_l_value (fun vs H Q E h => ?_) (fun cdv A outer s H vs Q E hr h => ?_)
  · obtain ⟨b, l, a, G, xs, fs, rfl, _⟩ := h
    rfl
  obtain ⟨b, l, a, G, xs, fs, rfl, hS, hF, ok, wd, q⟩ := h
  refine ⟨_, (pss_one (ps_ret (pe_callTy (call_tuple_of_P (K := K) (by rfl)) (by rfl) T.b_tuple (by decide +kernel) (pa_cons (pe_lc (own := [("_law_name", 2), ("_law_options_here", 3)]) rfl sc_l_value.nd (pi_list_K (K := K) (by rfl) (pv 1)) (blkOk_by (own := [("_law_name", 2), ("_law_options_here", 3)]) (N := ["_law_bag_here", "_law_fields_here", "_law_name", "_law_options_here"]) (sc := defScope s_l_value) (by decide +kernel)) (fun _ _ _ _ _ => by exact (pg_tup_K (K := K) (by rfl) (n := 2) (by rfl) (pgs_cons (pg_name (i := 2) sc_l_value.nd rfl (Or.inl rfl)) (pgs_cons (pg_name (i := 3) sc_l_value.nd rfl (Or.inl rfl)) pgs_nil)))) (fun _ _ _ _ _ => by exact pts_nil) (fun _ _ _ _ _ => by exact (pe_call G_l_any (hr.mono (by decide)) (by rfl) T.d_l_any.g T.d_l_any.kp T.d_l_any.b .nil pass0 (pa_cons (pv 0) (pa_cons (pv 3) pa_nil))))) pa_nil)))), ?_⟩
  have lxs := fds_len hF
  have le3 := ok.le
  refine ⟨_, rfl, a, rfl, ⟨_, wd.sm.seq hS⟩, fun D nD => ?_⟩
  have gD := wd.free nD
  refine lc_it walk_list (fun i H' => ∃ (G' : Hp) (v : List Str), Same G G' ∧ Wd b l G' H' ∧ G' D = some (.lst (v.map V.str)) ∧ v.length = i ∧ FitV (fs.take i) v)
    ⟨_, [], wd.sameG nD, wd.new nD, upd_same, rfl, rfl, fun i f o e => by simp at e⟩ (fun i H' _ ⟨G', _, sg, w1, _⟩ => (sg.trans w1.sm).seq hS) ?_ ?_
  · rintro i x H' H'' hi ⟨G', v, sg, w1, hD, lv, fv⟩ ⟨rfl, ex⟩
    have li : i < fs.length := by omega
    have hf : fs[i]? = some fs[i] := List.getElem?_eq_getElem li
    obtain ⟨x', ex', hfd⟩ := fds_get hF hf
    rw [ex] at ex'
    cases ex'
    have hos := ok.os _ (List.getElem_mem li)
    obtain ⟨t, o, rfl, k1, k2⟩ := hfd.mono sg
    refine ⟨t, _, rfl, Same.tup w1.sm k1, rfl, _, _, rfl, _, _, rfl, rfl, rfl, ?_⟩
    refine ⟨_, rfl, _, rfl, b, l, o, G', fs[i].2.map V.str, rfl, .inr k2.sqT, (fun z => ?_), ?_, w1, fun y H5 hy w5 => ?_⟩
    · have z1 := congrArg List.length z
      rw [List.length_map] at z1
      have := hos.2.1
      rw [z1] at this
      cases this
    · rw [List.length_map]
      omega
    · obtain ⟨op, hop, rfl⟩ := List.mem_map.mp hy
      refine ⟨v.map V.str, w5.sm _ _ hD, lt_line (by rw [List.length_map]; omega), _, v ++ [op], same_mut sg gD, w5.mut hD, ?_, ?_, fit_snoc fv hf hop⟩
      · rw [upd_same, List.map_append]
        rfl
      · rw [List.length_append, lv]
        rfl
  · rintro H' ⟨G', v, sg, w1, hD, lv, fv⟩
    rw [lxs, List.take_length] at fv
    refine ⟨D, v.map V.str, rfl, .inl ⟨SqL.of (w1.sm _ _ hD), fun t o nt ho => ?_⟩⟩
    have w3 := w1.new (o := .frz o (.tup (v.map V.str))) nt
    have s3 := w1.sameG (o := .frz o (.tup (v.map V.str))) nt
    exact q _ _ _ v (sg.trans s3) w3 (dV_dp (SqP.new ho).sqT) fv
theorem ok_keys5 (T : Top K mg) : FnOk P w K mg base CX0 3 T.a_l_keys T.fd_l_keys ["_law_bag_here", "_law_fields_here"] (spKeys5 K) := by
  have G_l_draw := ok_draw (P := P) (w := w) (base := base) T
  have G_l_any := ok_any (P := P) (w := w) (base := base) T
  have G_l_mixed := ok_mixed (P := P) (w := w) (base := base) T
  refine T.d_l_keys.F.ok sc_l_keys (fun vs H Q E h => ?_) (fun cdv A outer s H vs Q E hr h => ?_)
  · obtain ⟨b, l, a, G, xs, fs, rfl, _⟩ := h
    rfl
  obtain ⟨b, l, a, G, xs, fs, rfl, hS, hF, ok, wd, q⟩ := h
  refine ⟨_, (pss_cons (ps_set (i := 2) sc_l_keys.nd rfl (Or.inl rfl) (pe_slice (sl_list_K (K := K) (by rfl)) (pe_call G_l_mixed (hr.mono (by decide)) (by rfl) T.d_l_mixed.g T.d_l_mixed.kp T.d_l_mixed.b .nil pass0 (pa_cons (pv 0) (pa_cons (pv 1) pa_nil))) po_none (po_some (pe_call G_l_draw (hr.mono (by decide)) (by rfl) T.d_l_draw.g T.d_l_draw.kp T.d_l_draw.b .nil pass0 (pa_cons (pv 0) (pa_cons (pe_op op_add (pe_callB (call_len_seq_K (K := K) (by rfl)) (by rfl) T.b_len PySem.boot_len (pa_cons (pv 1) pa_nil)) pe_int) pa_nil))))))
    (pss_one (ps_ret (pe_callTy (call_tuple_of_P (K := K) (by rfl)) (by rfl) T.b_tuple (by decide +kernel) (pa_cons (pe_lc (own := [("_law_name", 3), ("_law_options_here", 4)]) rfl sc_l_keys.nd (pi_list_K (K := K) (by rfl) (pv 2)) (blkOk_by (own := [("_law_name", 3), ("_law_options_here", 4)]) (N := ["_law_bag_here", "_law_fields_here", "_law_chosen", "_law_name", "_law_options_here"]) (sc := defScope s_l_keys) (by decide +kernel)) (fun _ _ _ _ _ => by exact (pg_tup_K (K := K) (by rfl) (n := 2) (by rfl) (pgs_cons (pg_name (i := 3) sc_l_keys.nd rfl (Or.inl rfl)) (pgs_cons (pg_name (i := 4) sc_l_keys.nd rfl (Or.inl rfl)) pgs_nil)))) (fun _ _ _ _ _ => by exact pts_nil) (fun _ _ _ _ _ => by exact (pe_tup (pa_cons (pv 3) (pa_cons (pe_call G_l_any (hr.mono (by decide)) (by rfl) T.d_l_any.g T.d_l_any.kp T.d_l_any.b .nil pass0 (pa_cons (pv 0) (pa_cons (pe_lst (pa_cons pe_str (pa_cons pe_str pa_nil))) pa_nil))) pa_nil))))) pa_nil))))), ?_⟩
  have lxs := fds_len hF
  have le3 := ok.le
  refine ⟨_, rfl, _, rfl, b, l, a, G, xs, rfl, hS, by omega, wd, fun G1 H1 p ys s1 w1 hp pm => ?_⟩
  obtain ⟨gs, pg, hG⟩ := paired_perm pm hF
  have lg : gs.length = fs.length := pg.length_eq
  have lys : ys.length = xs.length := pm.length_eq
  refine ⟨_, rfl, _, rfl, a, xs, rfl, .inl ((s1.trans w1.sm).seq hS), _, _, rfl, rfl, b, l, G1, _, rfl, by omega, by omega, w1, fun r H2 r0 r1 w2 => ?_⟩
  refine ⟨_, rfl, p, ys, rfl, SqL.of (w2.sm _ _ hp), fun c nc => ?_⟩
  rw [cutV_take _ (by omega)]
  have w3 := w2.new (o := .lst (ys.take r.toNat)) nc
  have s3 := s1.trans (w2.sameG (o := .lst (ys.take r.toNat)) nc)
  have hP : Paired (FdAt K G) (ys.take r.toNat) (gs.take r.toNat) := paired_take _ hG
  generalize eU : ys.take r.toNat = us at w3 s3 hP
  generalize eV : gs.take r.toNat = vs at hP
  have lus := fds_len hP
  have lvs : vs.length ≤ fs.length := by rw [← eV, List.length_take]; omega
  have sub : ∀ f ∈ vs, f ∈ fs := fun f hf => pg.mem_iff.mp (List.mem_of_mem_take (eV ▸ hf))
  have nd : (vs.map (·.1)).Nodup := by
    rw [← eV, List.map_take]
    exact ((pg.map (·.1)).nodup_iff.mpr ok.nd).sublist (List.take_sublist _ _)
  have hc := upd_same (H := G1) (a := c) (o := .lst us)
  generalize eG : upd G1 c (.lst us) = G3 at w3 s3 hc
  generalize upd H2 c (.lst us) = H3 at w3
  refine ⟨_, rfl, c, rfl, ⟨_, SqL.of (w3.sm _ _ hc)⟩, fun D nD => ?_⟩
  have gD := w3.free nD
  refine lc_it walk_list (fun i H' => ∃ (G' : Hp) (ks : List (Str × Str)) (zs : List V), Same G3 G' ∧ Wd b l G' H' ∧ G' D = some (.lst zs) ∧ DpAll K G' zs (ks.map dKey) ∧ ks.map (·.1) = (vs.take i).map (·.1) ∧ ∀ k ∈ ks, k.2 = "+" ∨ k.2 = "-")
    ⟨_, [], [], w3.sameG nD, w3.new nD, upd_same, .nil, rfl, (fun k hk => by cases hk)⟩ (fun i H' _ ⟨G', _, _, sg, w4, _⟩ => SqL.of (w4.sm _ _ (sg _ _ hc))) ?_ ?_
  · rintro i x H' H'' hi ⟨G', ks, zs, sg, w4, hD, hK, ek, hk⟩ ⟨rfl, ex⟩
    have li : i < vs.length := by omega
    have hf : vs[i]? = some vs[i] := List.getElem?_eq_getElem li
    obtain ⟨x', ex', hfd⟩ := fds_get hP hf
    rw [ex] at ex'
    cases ex'
    obtain ⟨t, o, rfl, k1, k2⟩ := hfd.mono (s3.trans sg)
    have lk : ks.length = i := by
      have z := congrArg List.length ek
      rw [List.length_map, List.length_map, List.length_take] at z
      omega
    refine ⟨t, _, rfl, Same.tup w4.sm k1, rfl, _, _, rfl, _, _, rfl, rfl, rfl, ?_⟩
    refine ⟨_, rfl, _, rfl, (by show 2 ≤ sizeLine; decide), fun p6 n6 => ?_⟩
    have w6 := w4.new (o := .lst [.str "+", .str "-"]) n6
    have s6 := w4.sameG (o := .lst [.str "+", .str "-"]) n6
    refine ⟨b, l, p6, _, [.str "+", .str "-"], rfl, .inl (SqL.of upd_same), (fun z => by cases z), by decide, w6, fun y H7 hy w7 => ?_⟩
    obtain ⟨sg1, hsg, rfl⟩ : ∃ z : Str, (z = "+" ∨ z = "-") ∧ y = .str z := by
      rcases List.mem_cons.mp hy with e | e
      · exact ⟨_, .inl rfl, e⟩
      · exact ⟨_, .inr rfl, List.mem_singleton.mp e⟩
    refine ⟨(by show 2 ≤ sizeLine; decide), fun t8 n8 => ?_⟩
    have w8 := w7.new (o := .tup [.str vs[i].1, .str sg1]) n8
    have s8 := s6.trans (w7.sameG (o := .tup [.str vs[i].1, .str sg1]) n8)
    have hD8 := s8 _ _ hD
    refine ⟨zs, w8.sm _ _ hD8, lt_line (by rw [DpAll.length hK, List.length_map]; omega), ?_⟩
    have im : Imm (upd (upd G' p6 (.lst [.str "+", .str "-"])) t8 (.tup [.str vs[i].1, .str sg1])) (upd (upd (upd G' p6 (.lst [.str "+", .str "-"])) t8 (.tup [.str vs[i].1, .str sg1])) D (.lst (zs ++ [.ref t8]))) := imm_upd hD8
    refine ⟨_, ks ++ [(vs[i].1, sg1)], zs ++ [.ref t8], same_mut (sg.trans s8) gD, w8.mut hD8, upd_same, ?_, ?_, ?_⟩
    · rw [List.map_append]
      refine dpa_snoc (DpAll.imm im (noLs_map noL_dKey ks) (DpAll.mono s8 hK)) (Dp.imm im (noL_dKey _) (.tup (xs := [.str vs[i].1, .str sg1]) (.inl (.inl upd_same)) (.cons (.str _) (.cons (.str _) .nil))))
    · rw [List.map_append, ek, List.take_add_one, hf, List.map_append]
      rfl
    · intro k h'
      rcases List.mem_append.mp h' with h' | h'
      · exact hk k h'
      · cases List.mem_singleton.mp h'
        exact hsg
  · rintro H' ⟨G', ks, zs, sg, w4, hD, hK, ek, hk⟩
    rw [lus, List.take_length] at ek
    have lk : ks.length = vs.length := by
      have z := congrArg List.length ek
      rw [List.length_map, List.length_map] at z
      exact z
    refine ⟨D, zs, rfl, .inl ⟨SqL.of (w4.sm _ _ hD), fun t o nt ho => ?_⟩⟩
    have w5 := w4.new (o := .frz o (.tup zs)) nt
    have s5 := w4.sameG (o := .frz o (.tup zs)) nt
    refine q _ _ _ ks (s3.trans (sg.trans s5)) w5 (.tup (SqP.new ho).sqT (DpAll.mono s5 hK)) ⟨by omega, by rw [ek]; exact nd, fun k h' => ⟨?_, hk k h'⟩⟩
    have z : k.1 ∈ vs.map (·.1) := ek ▸ List.mem_map.mpr ⟨k, h', rfl⟩
    obtain ⟨f, hf, e⟩ := List.mem_map.mp z
    exact List.mem_map.mpr ⟨f, sub f hf, e⟩
end
end Bh

set_option Elab.async false
set_option linter.all false
set_option maxRecDepth 100000
set_option maxHeartbeats 1000000
namespace Bh
open PySem PySem.Spec PyProof.Rows L2
theorem min3_lo {m : Int} (h : 1 ≤ m) : 0 < (if 3 < m then 3 else m) := by split <;> omega
theorem min3_hi {m : Int} (h : m ≤ 4) : (if 3 < m then 3 else m) < 1073741824 := by split <;> omega
theorem min3_lt {m r : Int} (h : r < (if 3 < m then 3 else m)) : r < 3 := by split at h <;> omega
theorem meet3 {t1 t2 : TE} {σ : L2.St} {H : Hp} {k : VK} {b : Bool} (R : V → Hp → Prop) (h : ∀ k' : VK, (∀ y H', R y H' → k' y H') → if b = true then t1 σ H k' else t2 σ H k') (hk : ∀ y H', R y H' → k y H') : if b = true then t1 σ H k else t2 σ H k := h k hk
theorem noL_dH : ∀ o : Option (List Str), noL (dH o) = true
  | none => rfl
  | some v => noL_dV v
theorem noL_dOP : ∀ o : Option (List Cas), noL (dOP o) = true
  | none => rfl
  | some p => noLs_map noL_dC p
theorem noL_dKnd (k : Knd) : noL (dKnd k) = true := by
  show (true && (noLs (k.keys.map dKey) && (noL (dOP k.taking) && (noL (dH k.birth) && true)))) = true
  rw [noLs_map noL_dKey, noL_dOP, noL_dH]
  rfl
section
variable {P : Program} {w : World} {K : PySem.W.Frag} {mg : Str → Option Value} {base : Heap}
theorem ok_kinds5 (T : Top K mg) : FnOk P w K mg base CX0 5 T.a_l_kinds T.fd_l_kinds ["_law_bag_here", "_law_fields_here", "_law_most"] (spKinds5 K) := by
  have G_l_draw := ok_draw (P := P) (w := w) (base := base) T
  have G_l_words := ok_words (P := P) (w := w) (base := base) T
  have G_l_program := ok_program (P := P) (w := w) (base := base) T
  have G_l_value := ok_value5 (P := P) (w := w) (base := base) T
  have G_l_keys := ok_keys5 (P := P) (w := w) (base := base) T
  refine T.d_l_kinds.F.ok sc_l_kinds (fun vs H Q E h => ?_) (fun cdv A outer s H vs Q E hr h => ?_)
  · obtain ⟨b, l, a, G, xs, fs, most, rfl, _⟩ := h
    rfl
  obtain ⟨b, l, a, G, xs, fs, most, rfl, ms0, ms1, hS, hF, ok, wd, q⟩ := h
  refine ⟨_, (pss_cons (ps_par (i := 3) (j := 4) (by rfl) sc_l_kinds.nd rfl rfl (by decide) rfl rfl (pa_cons (pe_call G_l_words (hr.mono (by decide)) (by rfl) T.d_l_words.g T.d_l_words.kp T.d_l_words.b .nil pass0 (pa_cons (pv 0) (pa_cons pe_int pa_nil))) (pa_cons (pe_lst pa_nil) pa_nil)) (by rfl))
    (pss_cons (ps_for PassesOwn.never rfl (pi_range1 rfl T.b_range (pa_cons (pe_op op_add pe_int (pe_call G_l_draw (hr.mono (by decide)) (by rfl) T.d_l_draw.g T.d_l_draw.kp T.d_l_draw.b .nil pass0 (pa_cons (pv 0) (pa_cons (pe_callB (call_min2 rfl) (by rfl) T.b_min (by decide +kernel) (pa_cons (pv 2) (pa_cons pe_int pa_nil))) pa_nil)))) pa_nil)) (pg_name (i := 5) sc_l_kinds.nd rfl (Or.inl rfl))
      (pss_cons (ps_set (i := 6) sc_l_kinds.nd rfl (Or.inl rfl) (pe_ifExp (pt_cmpR op_eq (pe_call G_l_draw (hr.mono (by decide)) (by rfl) T.d_l_draw.g T.d_l_draw.kp T.d_l_draw.b .nil pass0 (pa_cons (pv 0) (pa_cons pe_int pa_nil))) pe_int (nomark _)) (pe_call G_l_program (hr.mono (by decide)) (by rfl) T.d_l_program.g T.d_l_program.kp T.d_l_program.b .nil pass0 (pa_cons (pv 0) (pa_cons (pv 1) (pa_cons pe_int pa_nil)))) pe_non))
      (pss_cons (ps_set (i := 7) sc_l_kinds.nd rfl (Or.inl rfl) (pe_ifExp (pt_cmpR op_eq (pe_call G_l_draw (hr.mono (by decide)) (by rfl) T.d_l_draw.g T.d_l_draw.kp T.d_l_draw.b .nil pass0 (pa_cons (pv 0) (pa_cons pe_int pa_nil))) pe_int (nomark _)) (pe_call G_l_value (hr.mono (by decide)) (by rfl) T.d_l_value.g T.d_l_value.kp T.d_l_value.b .nil pass0 (pa_cons (pv 0) (pa_cons (pv 1) pa_nil))) pe_non))
      (pss_one (ps_expr (pe_bm_K (K := K) (by rfl) PySem.F.plainAttrs_list PySem.F.slot_list_append PySem.F.type_list_append mt_append (pv 4) (pa_cons (pe_tup (pa_cons (pe_ix (ix_list_K (K := K) (by rfl)) (pv 3) (pv 5) (fun _ _ => rfl)) (pa_cons (pe_call G_l_keys (hr.mono (by decide)) (by rfl) T.d_l_keys.g T.d_l_keys.kp T.d_l_keys.b .nil pass0 (pa_cons (pv 0) (pa_cons (pv 1) pa_nil))) (pa_cons (pv 6) (pa_cons (pv 7) pa_nil))))) pa_nil)))))))
    (pss_one (ps_ret (pv 4))))), ?_⟩
  refine ⟨_, rfl, b, l, G, 3, rfl, by decide, by decide, wd, fun G1 H1 p ws s1 w1 h1 lw ndw nmw => ?_⟩
  refine ⟨Nat.zero_le _, fun pf nf => ?_⟩
  have g1f : G1 pf = none := w1.free nf
  have gf : G pf = none := s1.free g1f
  have w2 := w1.new (o := .lst []) nf
  have s2 := s1.trans (w1.sameG (o := .lst []) nf)
  have hpf : p ≠ pf := ne_of_none h1 g1f
  refine ⟨_, _, rfl, ?_⟩
  refine ⟨_, rfl, _, rfl, _, _, rfl, b, l, _, _, rfl, min3_lo ms0, min3_hi ms1, w2, fun r H4 r0 r1 w4 => ?_⟩
  have r3 := min3_lt r1
  refine ⟨_, _, rfl, rfl, _, rfl, by omega, by omega, ?_⟩
  have h1' : (upd G1 pf (.lst [])) p = some (.lst (ws.map V.str)) := (upd_ne hpf).trans h1
  refine for_it walk_range (fun i σ H' => ∃ x5 x6 x7 G' ys ks, σ = [some (.ref b), some (.ref a), some (.int most), some (.ref p), some (.ref pf), x5, x6, x7] ∧ Same G G' ∧ Wd b l G' H' ∧ G' pf = some (.lst ys) ∧ DpAll K G' ys (ks.map dKnd) ∧
      G' p = some (.lst (ws.map V.str)) ∧ ks.map (·.name) = ws.take i ∧ ∀ k ∈ ks, OkKnd fs k)
    ⟨none, none, none, _, [], [], rfl, s2, w4, upd_same, .nil, h1', rfl, (fun k hk => by cases hk)⟩ (fun _ _ _ _ _ => True.intro) ?_ ?_
  · rintro i v σ H' H'' hi ⟨x5, x6, x7, G', ys, ks, rfl, sg, w5, hx, hK, hw, ek, hk⟩ ⟨rfl, rfl⟩
    have sg' := sg
    have i3 : i < 3 := by omega
    refine ⟨_, rfl, b, l, _, 3, rfl, by decide, by decide, w5, fun r5 H5 r50 r51 w6 => ⟨rfl, _, rfl, ?_⟩⟩
    refine meet3 (fun y H6 => ∃ (G6 : Hp) (o : Option (List Cas)), Same G' G6 ∧ Wd b l G6 H6 ∧ Dp K G6 y (dOP o) ∧ ∀ p, o = some p → OkPrg fs p) (fun k' hk' => ?_) fun y6 H6 ⟨G6, o6, s6, w7, d6, t6⟩ => ?_
    · refine ite3 (fun e => ?_) (fun e => ?_)
      · refine ⟨_, rfl, _, rfl, b, l, a, G', 2, xs, fs, rfl, sg'.seq hS, fds_mono sg' hF, ok, by decide, by decide, w6, fun G7 H7 y7 pg s7 w7 d7 hc l1 l8 => ?_⟩
        exact hk' _ _ ⟨G7, some pg, s7, w7, d7, fun p e => by cases e; exact ⟨l1, l8, fun c h => ⟨(hc c h).1, by have := (hc c h).2.1; omega, fun ss e => by have := (hc c h).2.2.1 ss e; omega, (hc c h).2.2.2⟩⟩⟩
      · exact hk' _ _ ⟨G', none, Same.refl _, w6, .non, fun p e => by cases e⟩
    refine ⟨_, rfl, b, l, _, 2, rfl, by decide, by decide, w7, fun r7 H7 r70 r71 w8 => ⟨rfl, _, rfl, ?_⟩⟩
    refine meet3 (fun y H6 => ∃ (G8 : Hp) (o : Option (List Str)), Same G6 G8 ∧ Wd b l G8 H6 ∧ Dp K G8 y (dH o) ∧ ∀ v, o = some v → FitV fs v) (fun k' hk' => ?_) fun y8 H8 ⟨G8, o8, s8, w9, d8, t8⟩ => ?_
    · refine ite3 (fun e => ?_) (fun e => ?_)
      · have sg6 := sg.trans s6
        refine ⟨_, rfl, _, rfl, b, l, a, G6, xs, fs, rfl, sg6.seq hS, fds_mono sg6 hF, ok, w8, fun G7 H7 y7 v s7 w7 d7 hv => ?_⟩
        exact hk' _ _ ⟨G7, some v, s7, w7, d7, fun u e => by cases e; exact hv⟩
      · exact hk' _ _ ⟨G6, none, Same.refl _, w8, .non, fun p e => by cases e⟩
    have s68 := s6.trans s8
    have sg8 := sg.trans s68
    have hwi : ws[i]? = some ws[i] := List.getElem?_eq_getElem (by rw [lw]; exact i3)
    refine ⟨_, rfl, .inl ⟨rfl, _, SqL.of (w9.sm _ _ (s68 _ _ hx))⟩, _, rfl, _, rfl, p, _, _, .str ws[i], rfl, rfl, SqL.of (w9.sm _ _ (s68 _ _ hw)), at_nn (by omega) (by rw [show ((0 : Int) + (i : Int)).toNat = i by omega, List.getElem?_map, hwi]; rfl), ?_⟩
    refine ⟨_, rfl, _, rfl, b, l, a, G8, xs, fs, rfl, sg8.seq hS, fds_mono sg8 hF, ok, w9, fun G9 H9 y9 k9 s9 w10 d9 ok9 => ?_⟩
    refine ⟨_, rfl, _, rfl, (by show 4 ≤ sizeLine; decide), fun t nt => ?_⟩
    have w11 := w10.new (o := .tup [.str ws[i], y9, y6, y8]) nt
    have s11 := w10.sameG (o := .tup [.str ws[i], y9, y6, y8]) nt
    have sA := s68.trans (s9.trans s11)
    have hxA := sA _ _ hx
    have lks : ks.length = i := by
      have z := congrArg List.length ek
      rw [List.length_map, List.length_take, lw] at z
      omega
    refine ⟨pf, ys, _, rfl, rfl, w11.sm _ _ hxA, lt_line (by rw [DpAll.length hK, List.length_map]; omega), ?_⟩
    have im : Imm (upd G9 t (.tup [.str ws[i], y9, y6, y8])) (upd (upd G9 t (.tup [.str ws[i], y9, y6, y8])) pf (.lst (ys ++ [.ref t]))) := imm_upd hxA
    refine ⟨_, _, _, _, ys ++ [.ref t], ks ++ [⟨ws[i], k9, o6, o8⟩], rfl, same_mut (sg.trans sA) gf, w11.mut hxA, upd_same, ?_, ?_, ?_, ?_⟩
    · rw [List.map_append]
      refine dpa_snoc (DpAll.imm im (noLs_map noL_dKnd ks) (DpAll.mono sA hK)) (Dp.imm im (noL_dKnd _) ?_)
      exact .tup (SqT.of upd_same) (.cons (.str _) (.cons (Dp.mono s11 d9) (.cons (Dp.mono (s8.trans (s9.trans s11)) d6) (.cons (Dp.mono (s9.trans s11) d8) .nil))))
    · rw [upd_ne hpf]
      exact sA _ _ hw
    · rw [List.map_append, ek, List.take_add_one, hwi]
      rfl
    · intro k h'
      rcases List.mem_append.mp h' with h' | h'
      · exact hk k h'
      · cases List.mem_singleton.mp h'
        exact ⟨(nmw _ (List.mem_of_getElem? hwi)).1, ok9, t6, t8⟩
  · rintro σ H' ⟨x5, x6, x7, G', ys, ks, rfl, sg, w5, hx, hK, hw, ek, hk⟩
    have lk : ks.length = (1 + r).toNat := by
      have z := congrArg List.length ek
      rw [List.length_map, List.length_take, lw] at z
      omega
    refine ⟨_, rfl, q G' H' pf ys ks sg w5 hx hK (by omega) (by omega) ?_ hk⟩
    rw [ek]
    exact ndw.sublist (List.take_sublist _ _)
end
end Bh

set_option Elab.async false
set_option linter.all false
set_option maxRecDepth 100000
set_option maxHeartbeats 1000000
namespace Bh
open PySem PySem.Spec PyProof.Rows L2
theorem ext_ge : ∀ (fs : List Fld) (acc : List (List Str)), (∀ f ∈ fs, 1 ≤ f.2.length) → acc.length ≤ (fs.foldl ext1 acc).length
  | [], _, _ => Nat.le_refl _
  | f :: r, acc, h => by
    refine Nat.le_trans ?_ (ext_ge r (ext1 acc f) fun g hg => h g (List.mem_cons_of_mem _ hg))
    unfold ext1
    rw [flat_len]
    exact Nat.le_mul_of_pos_right _ (h f (List.mem_cons_self ..))
theorem vals_pre {fs : List Fld} (h : ∀ f ∈ fs, 1 ≤ f.2.length) (i : Nat) : (vals (fs.take i)).length ≤ (vals fs).length := by
  have e : vals fs = (fs.drop i).foldl ext1 (vals (fs.take i)) := by
    unfold vals
    rw [← List.foldl_append, List.take_append_drop]
  rw [e]
  exact ext_ge _ _ fun f hf => h f (List.mem_of_mem_drop hf)
theorem pool_op : ∀ o ∈ pool, IsOp o := by
  unfold IsOp
  decide +kernel
theorem FsOk5.pos {fs : List Fld} (h : FsOk5 fs) : ∀ f ∈ fs, 1 ≤ f.2.length := fun f hf => by
  have := (h.ok.os f hf).2.1
  omega
theorem FsOk5.fv {fs : List Fld} (h : FsOk5 fs) (i : Nat) : FsV (fs.take i) := fun j => by
  rw [List.take_take]
  have z := vals_pre h.pos (min j i)
  have := h.sz
  omega
theorem FsOk5.fb {fs : List Fld} (h : FsOk5 fs) (i : Nat) : FsB (fs.take i) := by
  refine ⟨?_, ?_, fun f hf => ?_⟩
  · rw [List.map_take]
    exact h.ok.nd.sublist (List.take_sublist _ _)
  · rw [List.length_take]
    have := h.ok.le
    omega
  · have := (h.ok.os f (List.mem_of_mem_take hf)).2.2.1
    omega
theorem FsOk5.fld {fs : List Fld} (h : FsOk5 fs) {i : Nat} {f : Fld} (hf : fs[i]? = some f) : OkFld (fs.take i) f := by
  have li := (List.getElem?_eq_some_iff.mp hf).1
  have hm := List.mem_of_getElem? hf
  have e : fs.take i ++ [f] = fs.take (i + 1) := by rw [List.take_add_one, hf]; rfl
  have os := h.ok.os f hm
  have le := h.ok.le
  refine ⟨?_, nd_takeM (f := fun f : Fld => f.1) h.ok.nd hf, h.ok.nm f hm, os.2.1, os.2.2.1, os.1, fun o ho => pool_op o (os.2.2.2 o ho), ?_, ?_, ?_⟩
  · rw [List.length_take]
    omega
  · rw [e]
    exact h.fb _
  · rw [e]
    exact h.fv _
  · rw [e]
    exact Nat.le_trans (vals_pre h.pos _) h.sz
theorem okbook_of {fs : List Fld} {ts : List Tie} {ks : List Knd} (h : FsOk5 fs) (t1 : 1 ≤ ts.length) (t2 : ts.length ≤ 4) (tnd : (ts.map (·.1)).Nodup) (tok : ∀ t ∈ ts, IsNm t.1 ∧ OkPrg fs t.2) (k1 : 1 ≤ ks.length) (k2 : ks.length ≤ 3) (knd : (ks.map (·.name)).Nodup) (kok : ∀ k ∈ ks, OkKnd fs k) : OkBook fs ts ks := by
  have z := h.fb fs.length
  have z2 := h.fv fs.length
  rw [List.take_length] at z z2
  exact ⟨h.ok.ne, h.ok.le, fun i f e => h.fld e, z, z2, t1, t2, tnd, tok, k1, k2, knd, kok⟩
theorem noL_dTie (t : Tie) : noL (dTie t) = true := by
  show (true && (noLs (t.2.map dC) && true)) = true
  rw [noLs_map noL_dC]
  rfl
def spBook5 (K : PySem.W.Frag) : Sp := fun vs H Q _ => ∃ (b l : Addr) (G : Hp) (room most : Int), vs = [.ref b, .int room, .int most] ∧ 2 ≤ room ∧ room ≤ 24 ∧ 1 ≤ most ∧ most ≤ 4 ∧ Wd b l G H ∧
  ∀ (G' H' : Hp) (t p1 p2 p3 : Addr) (y1 y2 y3 : List V) (fs : List Fld) (ts : List Tie) (ks : List Knd), Same G G' → Wd b l G' H' → G' t = some (.tup [.ref p1, .ref p2, .ref p3]) → G' p1 = some (.lst y1) → G' p2 = some (.lst y2) → G' p3 = some (.lst y3) →
    Paired (FdAt K G') y1 fs → DpAll K G' y2 (ts.map dTie) → DpAll K G' y3 (ks.map dKnd) → FsOk5 fs → OkBook fs ts ks → Q (.ref t) H'
section
variable {P : Program} {w : World} {K : PySem.W.Frag} {mg : Str → Option Value} {base : Heap}
theorem ok_book5 (T : Top K mg) : FnOk P w K mg base CX0 6 T.a_l_book T.fd_l_book ["_law_bag_here", "_law_room", "_law_most"] (spBook5 K) := by
  have G_l_draw := ok_draw (P := P) (w := w) (base := base) T
  have G_l_words := ok_words (P := P) (w := w) (base := base) T
  have G_l_fields := ok_fields (P := P) (w := w) (base := base) T
  have G_l_program := ok_program (P := P) (w := w) (base := base) T
  have G_l_kinds := ok_kinds5 (P := P) (w := w) (base := base) T
  refine T.d_l_book.F.ok sc_l_book (fun vs H Q E h => ?_) (fun cdv A outer s H vs Q E hr h => ?_)
  · obtain ⟨b, l, G, room, most, rfl, _⟩ := h
    rfl
  obtain ⟨b, l, G, room, most, rfl, rm0, rm1, ms0, ms1, wd, q⟩ := h
  refine ⟨_, (pss_cons (ps_set (i := 3) sc_l_book.nd rfl (Or.inr rfl) (pe_call G_l_fields (hr.mono (by decide)) (by rfl) T.d_l_fields.g T.d_l_fields.kp T.d_l_fields.b .nil pass0 (pa_cons (pv 0) (pa_cons (pv 1) pa_nil))))
    (pss_cons (ps_set (i := 4) sc_l_book.nd rfl (Or.inr rfl) (pe_call G_l_words (hr.mono (by decide)) (by rfl) T.d_l_words.g T.d_l_words.kp T.d_l_words.b .nil pass0 (pa_cons (pv 0) (pa_cons pe_int pa_nil))))
    (pss_cons (ps_setLc (i := 5) (own := [("_law_k", 6)]) rfl sc_l_book.nd rfl rfl (sw_true rfl rfl rfl (by decide +kernel)) (pi_range1 rfl T.b_range (pa_cons (pe_op op_add pe_int (pe_call G_l_draw (hr.mono (by decide)) (by rfl) T.d_l_draw.g T.d_l_draw.kp T.d_l_draw.b .nil pass0 (pa_cons (pv 0) (pa_cons (pv 2) pa_nil)))) pa_nil)) (blkOk_by (own := [("_law_k", 6)]) (N := ["_law_bag_here", "_law_room", "_law_most", "_law_fields_here", "_law_names", "_law_ties_z", "_law_k"]) (sc := defScope s_l_book) (by decide +kernel)) (fun _ _ _ _ _ => by exact (pg_name (i := 6) sc_l_book.nd rfl (Or.inl rfl))) (fun _ _ _ _ _ => by exact pts_nil) (fun _ _ _ _ _ => by exact (pe_tup (pa_cons (pe_ix (ix_list_K (K := K) (by rfl)) (pv 4) (pv 6) (fun _ _ => rfl)) (pa_cons (pe_call G_l_program (hr.mono (by decide)) (by rfl) T.d_l_program.g T.d_l_program.kp T.d_l_program.b .nil pass0 (pa_cons (pv 0) (pa_cons (pv 3) (pa_cons pe_int pa_nil)))) pa_nil)))))
    (pss_one (ps_ret (pe_tup (pa_cons (pv 3) (pa_cons (pv 5) (pa_cons (pe_call G_l_kinds (hr.mono (by decide)) (by rfl) T.d_l_kinds.g T.d_l_kinds.kp T.d_l_kinds.b .nil pass0 (pa_cons (pv 0) (pa_cons (pv 3) (pa_cons (pv 2) pa_nil)))) pa_nil))))))))), ?_⟩
  refine ⟨_, rfl, _, rfl, b, l, G, room, rfl, rm0, rm1, wd, fun G1 H1 p1 y1 fs s1 w1 h1 hF ok5 => ?_⟩
  refine ⟨_, rfl, b, l, G1, 4, rfl, by decide, by decide, w1, fun G2 H2 p ws s2 w2 h2 lw ndw nmw => ?_⟩
  refine ⟨_, rfl, _, rfl, b, l, G2, most, rfl, by omega, by omega, w2, fun r H3 r0 r1 w3 => ?_⟩
  refine ⟨_, _, rfl, rfl, _, rfl, by omega, by omega, fun D nD => ?_⟩
  have gD := w3.free nD
  refine lc_it walk_range (fun i H' => ∃ (G' : Hp) (ts : List Tie) (zs : List V), Same G2 G' ∧ Wd b l G' H' ∧ G' D = some (.lst zs) ∧ DpAll K G' zs (ts.map dTie) ∧ ts.map (·.1) = ws.take i ∧ ∀ t ∈ ts, (IsNm t.1 ∧ OkPrg fs t.2) ∧ t.1 ≠ "zzzzzzzz")
    ⟨_, [], [], w3.sameG nD, w3.new nD, upd_same, .nil, rfl, (fun k hk => by cases hk)⟩ (fun _ _ _ _ => True.intro) ?_ ?_
  · rintro i v H' H'' hi ⟨G', ts, zs, sg, w4, hD, hK, ek, hk⟩ ⟨rfl, rfl⟩
    refine ⟨rfl, ?_⟩
    have i3 : i < 4 := by omega
    have hwi : ws[i]? = some ws[i] := List.getElem?_eq_getElem (by rw [lw]; exact i3)
    have lts : ts.length = i := by
      have z := congrArg List.length ek
      rw [List.length_map, List.length_take, lw] at z
      omega
    refine ⟨_, rfl, _, rfl, p, _, _, .str ws[i], rfl, rfl, SqL.of (w4.sm _ _ (sg _ _ h2)), at_nn (by omega) (by rw [show ((0 : Int) + (i : Int)).toNat = i by omega, List.getElem?_map, hwi]; rfl), ?_⟩
    have sG := s2.trans sg
    refine ⟨_, rfl, _, rfl, b, l, p1, G', 3, y1, fs, rfl, SqL.of (sG _ _ h1), fds_mono sG hF, ok5.ok, by decide, by decide, w4, fun G5 H5 y pg s5 w5 d5 hc l1 l8 => ?_⟩
    refine ⟨(by show 2 ≤ sizeLine; decide), fun t nt => ?_⟩
    have w6 := w5.new (o := .tup [.str ws[i], y]) nt
    have s6 := w5.sameG (o := .tup [.str ws[i], y]) nt
    have sA := s5.trans s6
    have hDA := sA _ _ hD
    refine ⟨zs, w6.sm _ _ hDA, lt_line (by rw [DpAll.length hK, List.length_map]; omega), ?_⟩
    have im : Imm (upd G5 t (.tup [.str ws[i], y])) (upd (upd G5 t (.tup [.str ws[i], y])) D (.lst (zs ++ [.ref t]))) := imm_upd hDA
    refine ⟨_, ts ++ [(ws[i], pg)], zs ++ [.ref t], same_mut (sg.trans sA) gD, w6.mut hDA, upd_same, ?_, ?_, ?_⟩
    · rw [List.map_append]
      refine dpa_snoc (DpAll.imm im (noLs_map noL_dTie ts) (DpAll.mono sA hK)) (Dp.imm im (noL_dTie _) ?_)
      exact .tup (SqT.of upd_same) (.cons (.str _) (.cons (Dp.mono s6 d5) .nil))
    · rw [List.map_append, ek, List.take_add_one, hwi]
      rfl
    · intro k h'
      rcases List.mem_append.mp h' with h' | h'
      · exact hk k h'
      · cases List.mem_singleton.mp h'
        have z := nmw _ (List.mem_of_getElem? hwi)
        exact ⟨⟨z.1, l1, l8, fun c h => ⟨(hc c h).1, by have := (hc c h).2.1; omega, fun ss e => by have := (hc c h).2.2.1 ss e; omega, (hc c h).2.2.2⟩⟩, z.2⟩
  · rintro H' ⟨G', ts, zs, sg, w4, hD, hK, ek, hk⟩
    have sG := s2.trans sg
    have lts : ts.length = (1 + r).toNat := by
      have z := congrArg List.length ek
      rw [List.length_map, List.length_take, lw] at z
      omega
    refine ⟨_, rfl, _, rfl, _, rfl, _, rfl, _, rfl, b, l, p1, G', y1, fs, most, rfl, ms0, ms1, SqL.of (sG _ _ h1), fds_mono sG hF, ok5.ok, w4, fun G5 H5 p3 y3 ks s5 w5 h3 d3 k1 k2 knd kok => ?_⟩
    refine ⟨(by show 3 ≤ sizeLine; decide), fun t nt => ?_⟩
    have w6 := w5.new (o := .tup [.ref p1, .ref D, .ref p3]) nt
    have s6 := w5.sameG (o := .tup [.ref p1, .ref D, .ref p3]) nt
    have s56 := s5.trans s6
    refine q _ _ t p1 D p3 y1 zs y3 fs ts ks (s1.trans (sG.trans s56)) w6 upd_same (s56 _ _ (sG _ _ h1)) (s56 _ _ hD) (s6 _ _ h3) (fds_mono (sG.trans s56) hF) (DpAll.mono s56 hK) (DpAll.mono s6 d3) ok5 (okbook_of ok5 (by omega) (by omega) ?_ (fun t h => (hk t h).1) k1 k2 knd kok)
    rw [ek]
    exact ndw.sublist (List.take_sublist _ _)
end
end Bh

set_option Elab.async false
set_option linter.all false
set_option maxRecDepth 100000
namespace Bh
open PySem PySem.Spec PyProof.Rows L2
/-! ### None in a list of tuples and Nones -/
def nonU : Value → Bool
  | .none => true
  | _ => false
def nonV : V → Bool
  | .non => true
  | _ => false
def rInNone (K : PySem.W.Frag) : R2 := fun x y H Q => ∃ p xs, x = .non ∧ y = .ref p ∧ SqL K H p xs ∧ (∀ v ∈ xs, v = .non ∨ ∃ a ys, v = .ref a ∧ SqT K H a ys) ∧ Q (.bl (xs.any nonV)) H
theorem vals_mem : ∀ {xs : List V} {us : List Value}, Vals xs us → ∀ u ∈ us, ∃ v ∈ xs, RelV v u
  | _, _, .nil, u, h => by cases h
  | x :: xs, w :: us, .cons r t, u, h => by
    rcases List.mem_cons.mp h with rfl | h
    · exact ⟨x, List.mem_cons_self .., r⟩
    · obtain ⟨v, h1, h2⟩ := vals_mem t u h
      exact ⟨v, List.mem_cons_of_mem _ h1, h2⟩
theorem any_non {K : PySem.W.Frag} {H : Hp} : ∀ {xs : List V} {us : List Value}, Vals xs us → (∀ v ∈ xs, v = .non ∨ ∃ a ys, v = .ref a ∧ SqT K H a ys) → us.any nonU = xs.any nonV
  | _, _, .nil, _ => rfl
  | x :: xs, w :: us, .cons r t, h => by
    rw [List.any_cons, List.any_cons, any_non t fun v hv => h v (List.mem_cons_of_mem _ hv)]
    rcases h x (List.mem_cons_self ..) with e | ⟨a, ys, e, _⟩
    · subst e
      cases r
      rfl
    · subst e
      cases r
      rfl
theorem op_inNone {X : Cx} {K : PySem.W.Frag} (hK : X.K = K) (hu : X.A.units + 64 < cLine) : OpR X (compareOp .In) (rInNone K) := by
  subst hK
  intro pins s σ H x y v u Q I rx ry h
  obtain ⟨p, xs, rfl, rfl, hq, hall, q⟩ := h
  cases rx
  cases ry
  obtain ⟨its, r, pl, hz⟩ := I.list hq
  refine SeqAt.in_listAt nonU pl.isList (fun w hw => ?_) ⟨.bl _, H, I, rfl, ?_⟩
  · obtain ⟨v, hv, rv⟩ := vals_mem r w (by simpa using hw)
    rcases hall v hv with e | ⟨a, ys, e, hT⟩
    · subst e
      cases rv
      exact SeqAt.EqAt.same _
    · subst e
      cases rv
      obtain ⟨its2, _, pl2, _⟩ := I.tuple hT
      obtain ⟨o, k1, k2, n, k3⟩ := pl2
      exact SeqAt.EqAt.tuple_none ⟨o, k1, k2, n, k3⟩ (show X.A.units + 1 < cLine by omega)
  · rw [show its.toArray.any nonU = its.any nonU by simp, any_non r hall]
    exact q
end Bh

set_option Elab.async false
set_option linter.all false
set_option maxRecDepth 100000
namespace Bh
open PySem PySem.Spec PyProof.Rows L2
/-! ### how long lines are -/
theorem len_app (a b : Str) : (a ++ b).length = a.length + b.length := by rw [TL.len_tl, TL.len_tl, TL.len_tl, TL.tl_append, List.length_append]
theorem join_len (y : Str) {m : Nat} : ∀ ps : List Str, (∀ p ∈ ps, p.length ≤ m) → (Txt.join y ps).length ≤ ps.length * (m + y.length)
  | [], _ => Nat.zero_le _
  | [p], h => by
    have q := h p (List.mem_cons_self ..)
    show p.length ≤ 1 * _
    omega
  | p :: q :: r, h => by
    have k1 := h p (List.mem_cons_self ..)
    have k2 := join_len y (q :: r) fun z hz => h z (List.mem_cons_of_mem _ hz)
    rw [TL.join_eq] at k2 ⊢
    show (p ++ y ++ Str.join y (q :: r)).length ≤ _
    rw [len_app, len_app, List.length_cons, Nat.succ_mul]
    omega
theorem join_part (y : Str) : ∀ (ps : List Str) (p : Str), p ∈ ps → p.length ≤ (Txt.join y ps).length
  | [], _, h => by cases h
  | [p], z, h => by
    cases List.mem_singleton.mp h
    exact Nat.le_refl _
  | p :: q :: r, z, h => by
    have e : (Txt.join y (p :: q :: r)).length = p.length + y.length + (Txt.join y (q :: r)).length := by
      rw [TL.join_eq, TL.join_eq]
      show (p ++ y ++ Str.join y (q :: r)).length = _
      rw [len_app, len_app]
    rw [e]
    rcases List.mem_cons.mp h with rfl | h
    · omega
    · have := join_part y (q :: r) z h
      omega
theorem split_part {x y p : Str} (h : p ∈ Txt.split x y) : p.length ≤ x.length := by
  have q := join_part y _ p h
  rw [TL.join_eq, StrLaws.join_split] at q
  exact q
theorem part_len (x y : Str) (hy : TL.tl y ≠ []) : (Txt.partition x y).1.length ≤ x.length ∧ (Txt.partition x y).2.2.length ≤ x.length := by
  rcases part_cases x y hy with ⟨a, b, e1, e2⟩ | e1
  · have l : x.length = a.length + y.length + b.length := by rw [e2, len_app, len_app]
    rw [e1]
    show a.length ≤ _ ∧ b.length ≤ _
    omega
  · rw [e1]
    exact ⟨Nat.le_refl _, Nat.zero_le _⟩
theorem sign_len : ∀ s ∈ signs, s.length = 1 := by decide +kernel
theorem lineT_len {t : Tst} (h : OkT t) : (lineT t).length ≤ 17 := by
  have l1 := (word_len h.1).2
  have l2 := sign_len _ h.2.1
  have l3 := (word_len h.2.2).2
  unfold lineT
  rw [len_app, len_app]
  omega
theorem lineS_len {s : Stp} (h : OkS s) : (lineS s).length ≤ 17 := by
  obtain ⟨a, b⟩ := s
  obtain ⟨h1, h2⟩ := h
  have l1 := (word_len h1).2
  have h1' : a.length ≤ 8 := l1
  by_cases e : b = "+"
  · subst e
    have el : lineS (a, "+") = a ++ "+" := if_pos rfl
    rw [el, len_app]
    show _ + 1 ≤ 17
    omega
  · have l2 := (word_len (h2.resolve_left e)).2
    have l2' : b.length ≤ 8 := l2
    have el : lineS (a, b) = a ++ ":" ++ b := if_neg e
    rw [el, len_app, len_app]
    show _ + 1 + _ ≤ 17
    omega
theorem left_len {ts : List Tst} (h : ∀ t ∈ ts, OkT t) (n : ts.length ≤ 6) : (leftL ts).length ≤ 132 := by
  unfold leftL
  by_cases e : ts = []
  · rw [if_pos e]
    show 6 ≤ 132
    decide
  · rw [if_neg e]
    have q := join_len " and " (m := 17) (ts.map lineT) fun p hp => by
      obtain ⟨t, ht, rfl⟩ := List.mem_map.mp hp
      exact lineT_len (h t ht)
    rw [List.length_map] at q
    have q2 : (Txt.join " and " (ts.map lineT)).length ≤ ts.length * (17 + 5) := q
    omega
theorem right_len {so : Option (List Stp)} (h : ∀ ss, so = some ss → ∀ s ∈ ss, OkS s) (n : ∀ ss, so = some ss → ss.length ≤ 6) : (rightL so).length ≤ 132 := by
  cases so with
  | none =>
    show 4 ≤ 132
    decide
  | some ss =>
    have h := h ss rfl
    have n := n ss rfl
    show (if ss = [] then ("keep" : Str) else Txt.join ", " (ss.map lineS)).length ≤ 132
    by_cases e : ss = []
    · rw [if_pos e]
      show 4 ≤ 132
      decide
    · rw [if_neg e]
      have q := join_len ", " (m := 17) (ss.map lineS) fun p hp => by
        obtain ⟨t, ht, rfl⟩ := List.mem_map.mp hp
        exact lineS_len (h t ht)
      rw [List.length_map] at q
      have q2 : (Txt.join ", " (ss.map lineS)).length ≤ ss.length * (17 + 2) := q
      omega
theorem line_len {c : Cas} (h : OkC c) : (lineC c).length ≤ 300 := by
  have l1 := left_len h.t h.n
  have l2 := right_len h.s h.m
  unfold lineC
  rw [len_app, len_app, len_app]
  show 5 + _ + 4 + _ ≤ 300
  omega
theorem sum_len {α : Type} {f : α → Str} {m : Nat} : ∀ l : List α, (∀ x ∈ l, (f x).length ≤ m) → (((l.map f).map (·.length)).sum) ≤ l.length * m
  | [], _ => Nat.zero_le _
  | x :: r, h => by
    have k1 := h x (List.mem_cons_self ..)
    have k2 := sum_len (f := f) r fun z hz => h z (List.mem_cons_of_mem _ hz)
    rw [List.map_cons, List.map_cons, List.sum_cons, List.length_cons, Nat.succ_mul]
    omega
/-! data of what is read -/
def dOpt {α : Type} (f : α → PyData) : Option α → PyData
  | none => .none
  | some x => f x
theorem seqO_map {α β : Type} (f : α → β) : ∀ l : List (Option α), seqO (l.map (Option.map f)) = (seqO l).map (List.map f)
  | [] => rfl
  | none :: _ => rfl
  | some x :: r => by
    show (seqO (r.map (Option.map f))).map (f x :: ·) = ((seqO r).map (x :: ·)).map (List.map f)
    rw [seqO_map f r]
    cases seqO r <;> rfl
theorem allR_map {α β : Type} (f : α → β) (l : List (Option α)) : allR (l.map (Option.map f)) = (allR l).map (List.map f) := by
  unfold allR
  rw [List.length_map]
  by_cases h : l.length ≤ 6
  · rw [if_pos h, if_pos h, seqO_map]
  · rw [if_neg h, if_neg h]
    rfl
theorem seqO_none {α : Type} : ∀ {l : List (Option α)}, none ∈ l → seqO l = none
  | none :: _, _ => rfl
  | some x :: r, h => by
    show (seqO r).map (x :: ·) = none
    rcases List.mem_cons.mp h with h | h
    · cases h
    · rw [seqO_none h]
      rfl
theorem noL_opt {α : Type} {f : α → PyData} (h : ∀ x, noL (f x) = true) : ∀ o, noL (dOpt f o) = true
  | none => rfl
  | some x => h x
/-- all there: the tuple of these -/
theorem dp_all {K : PySem.W.Frag} {H : Hp} : ∀ {xs : List V} {l : List (Option PyData)}, DpAll K H xs (l.map (dOpt id)) → (∀ d, some d ∈ l → ∃ ds, d = .tuple ds) → xs.any nonV = false → ∃ ds, seqO l = some ds ∧ DpAll K H xs ds
  | _, [], h, _, _ => ⟨[], rfl, h⟩
  | _, o :: l, .cons h t, hT, hn => by
    rw [List.any_cons, Bool.or_eq_false_iff] at hn
    obtain ⟨ds, e1, e2⟩ := dp_all t (fun d hd => hT d (List.mem_cons_of_mem _ hd)) hn.2
    cases o with
    | none =>
      have q := dp_non (show Dp K H _ .none from h)
      rw [q] at hn
      exact absurd hn.1 (by decide)
    | some d =>
      refine ⟨d :: ds, ?_, .cons h e2⟩
      show (seqO l).map (d :: ·) = _
      rw [e1]
      rfl
theorem dp_some {K : PySem.W.Frag} {H : Hp} : ∀ {xs : List V} {l : List (Option PyData)}, DpAll K H xs (l.map (dOpt id)) → (∀ d, some d ∈ l → ∃ ds, d = .tuple ds) → ∀ v ∈ xs, v = .non ∨ ∃ a ys, v = .ref a ∧ SqT K H a ys
  | _, [], .nil, _, v, hv => by cases hv
  | _, o :: l, .cons h t, hT, v, hv => by
    rcases List.mem_cons.mp hv with rfl | hv
    · cases o with
      | none => exact .inl (dp_non h)
      | some d =>
        obtain ⟨ds, rfl⟩ := hT d (List.mem_cons_self ..)
        obtain ⟨a, ys, e, k, _⟩ := dp_tup (show Dp K H _ (.tuple ds) from h)
        exact .inr ⟨a, ys, e, k⟩
    · exact dp_some t (fun d hd => hT d (List.mem_cons_of_mem _ hd)) v hv
theorem dp_hasnone {K : PySem.W.Frag} {H : Hp} : ∀ {xs : List V} {l : List (Option PyData)}, DpAll K H xs (l.map (dOpt id)) → (∀ d, some d ∈ l → ∃ ds, d = .tuple ds) → xs.any nonV = true → seqO l = none
  | _, [], .nil, _, h => by cases h
  | _, o :: l, .cons h t, hT, hn => by
    cases o with
    | none => rfl
    | some d =>
      obtain ⟨ds, rfl⟩ := hT d (List.mem_cons_self ..)
      obtain ⟨a, ys, rfl, k, _⟩ := dp_tup (show Dp K H _ (.tuple ds) from h)
      show (seqO l).map _ = none
      rw [dp_hasnone t (fun d hd => hT d (List.mem_cons_of_mem _ hd)) hn]
      rfl
/-! what a def leaves that knows nothing of the bag -/
theorem Wd.fresh {b l : Addr} {G H H' : Hp} (w : Wd b l G H) (e : Same H H') : Wd b l (hid b (hid l H')) H' ∧ Same G (hid b (hid l H')) ∧ Imm H' (hid b (hid l H')) := by
  have hb := w.bag.same e
  obtain ⟨ns, i, c, s, h1, h2, _⟩ := id hb
  refine ⟨⟨?_, ?_, hid_le.trans hid_le, hb⟩, hid_of (hid_of (w.sm.trans e) w.nl) w.nb, fun a u k n => ?_⟩
  · unfold hid
    rw [if_pos rfl]
  · show hid b (hid l H') l = none
    rw [hid_comm]
    unfold hid
    rw [if_pos rfl]
  · have nb : a ≠ b := fun z => by
      rw [z, h1] at k
      exact n _ (Option.some.inj k).symm
    have nl : a ≠ l := fun z => by
      rw [z, h2] at k
      exact n _ (Option.some.inj k).symm
    rw [hid_ne nb, hid_ne nl]
    exact k
end Bh

set_option Elab.async false
set_option linter.all false
set_option maxRecDepth 100000
set_option maxHeartbeats 1000000
namespace Bh
open PySem PySem.Spec PyProof.Rows L2
section
variable {P : Program} {w : World} {K : PySem.W.Frag} {mg : Str → Option Value} {base : Heap}
def spStepT : Sp := fun vs H Q _ => ∃ (a b : Str), vs = [.str a, .str b] ∧ a.length ≤ 1000 ∧ b.length ≤ 1000 ∧ Q (.str (lineS (a, b))) H
theorem ok_steptext (T : Top K mg) : FnOk P w K mg base CX0 1 T.a_step_text T.fd_step_text ["field", "option"] spStepT := by
  refine T.d_step_text.F.ok sc_step_text (fun vs H Q E h => ?_) (fun cdv A outer s H vs Q E hr h => ?_)
  · obtain ⟨a, b, rfl, _⟩ := h
    rfl
  obtain ⟨a, b, rfl, h1, h2, q⟩ := h
  refine ⟨_, (pss_cons (ps_if (pt_cmpR op_eq (pv 1) (pe_gS rfl T.g_NEXT) (nomark _)) (pss_one (ps_ret (pe_op op_add_str (pv 0) (pe_gS rfl T.g_NEXT)))) pss_nil)
    (pss_one (ps_ret (pe_op op_add_str (pe_op op_add_str (pv 0) pe_str) (pv 1))))), ?_⟩
  refine ⟨_, rfl, rfl, _, rfl, ite3 (fun e => ?_) (fun e => ?_)⟩
  · have el : lineS (a, b) = a ++ "+" := if_pos (V.str.inj e)
    rw [el] at q
    exact ⟨_, rfl, _, _, rfl, rfl, le_line (by show _ + 1 ≤ _; omega), q⟩
  · have el : lineS (a, b) = a ++ ":" ++ b := if_neg (str_ne e)
    rw [el] at q
    exact ⟨_, rfl, _, _, rfl, rfl, le_line (by show _ + 1 ≤ _; omega), _, rfl, _, _, rfl, rfl, le_line (by rw [len_app]; show _ + 1 + _ ≤ _; omega), q⟩
def spLeft (K : PySem.W.Frag) : Sp := fun vs H Q _ => ∃ (y : V) (ts : List Tst), vs = [y] ∧ Dp K H y (.tuple (ts.map dT)) ∧ ts.length ≤ 6 ∧ (∀ t ∈ ts, OkT t) ∧ ∀ H', Same H H' → Q (.str (leftL ts)) H'
theorem ok_left (T : Top K mg) : FnOk P w K mg base CX0 1 T.a_tests_text T.fd_tests_text ["tests"] (spLeft K) := by
  refine T.d_tests_text.F.ok sc_tests_text (fun vs H Q E h => ?_) (fun cdv A outer s H vs Q E hr h => ?_)
  · obtain ⟨y, ts, rfl, _⟩ := h
    rfl
  obtain ⟨y, ts, rfl, hD, h6, hT, q⟩ := h
  refine ⟨_, (pss_cons (ps_if (pt_cmpR op_eq (pe_callB (call_len_seq_K (K := K) (by rfl)) (by rfl) T.b_len PySem.boot_len (pa_cons (pv 0) pa_nil)) pe_int (nomark _)) (pss_one (ps_ret pe_str)) pss_nil)
    (pss_one (ps_ret (pe_join_K (K := K) (by rfl) pe_str (pe_lc (own := [("field", 1), ("sign", 2), ("option", 3)]) rfl sc_tests_text.nd (pi_tup_K (K := K) (by rfl) (pv 0)) (blkOk_by (own := [("field", 1), ("sign", 2), ("option", 3)]) (N := ["tests", "field", "sign", "option"]) (sc := defScope s_tests_text) (by decide +kernel)) (fun _ _ _ _ _ => by exact (pg_tup_K (K := K) (by rfl) (n := 3) (by rfl) (pgs_cons (pg_name (i := 1) sc_tests_text.nd rfl (Or.inl rfl)) (pgs_cons (pg_name (i := 2) sc_tests_text.nd rfl (Or.inl rfl)) (pgs_cons (pg_name (i := 3) sc_tests_text.nd rfl (Or.inl rfl)) pgs_nil))))) (fun _ _ _ _ _ => by exact pts_nil) (fun _ _ _ _ _ => by exact (pe_op op_add_str (pe_op op_add_str (pv 1) (pv 2)) (pv 3)))))))), ?_⟩
  obtain ⟨a, xs, rfl, hS, hA⟩ := dp_tup hD
  have lx : xs.length = ts.length := by rw [DpAll.length hA, List.length_map]
  refine ⟨_, rfl, a, xs, rfl, .inr hS, rfl, _, rfl, ite3 (fun e => ?_) (fun e => ?_)⟩
  · have e0 : ts = [] := by
      injection e with e
      exact List.length_eq_zero_iff.mp (by omega)
    have k := q H (Same.refl _)
    rw [e0] at k
    exact k
  · have e0 : ts ≠ [] := fun z => e (by rw [lx, z]; rfl)
    have el : leftL ts = Txt.join " and " (ts.map lineT) := if_neg e0
    rw [el] at q
    refine ⟨⟨_, rfl⟩, _, rfl, a, rfl, ⟨_, hS⟩, fun D nD => ?_⟩
    refine lc_it walk_tup (fun i H' => Same H H' ∧ H' D = some (.lst (((ts.map lineT).take i).map V.str))) ⟨same_new nD, upd_same⟩ (fun i H' _ p => Same.tup p.1 hS) ?_ ?_
    · rintro i y H' H'' hi ⟨s1, hDl⟩ ⟨rfl, ey⟩
      obtain ⟨d, e1, e2⟩ := DpAll.get hA ey
      rw [List.getElem?_map] at e1
      cases et : ts[i]? with
      | none =>
        rw [et] at e1
        cases e1
      | some t =>
        rw [et] at e1
        cases e1
        obtain ⟨c, rfl, hC⟩ := dp_dT (Dp.mono s1 e2)
        have ok := hT t (List.mem_of_getElem? et)
        have l1 := (word_len ok.1).2
        have l2 := sign_len _ ok.2.1
        have l3 := (word_len ok.2.2).2
        refine ⟨c, _, rfl, hC, rfl, _, _, rfl, _, _, rfl, _, _, rfl, rfl, ?_⟩
        refine ⟨rfl, _, rfl, _, rfl, _, _, rfl, rfl, le_line (by omega), _, rfl, _, _, rfl, rfl, le_line (by rw [len_app]; omega), _, hDl, ?_, same_mut s1 nD, ?_⟩
        · rw [List.length_map, List.length_take, List.length_map]
          exact lt_line (by omega)
        · rw [upd_same, List.take_add_one, List.getElem?_map, et, List.map_append]
          rfl
    · rintro H' ⟨s1, hDl⟩
      rw [lx, List.take_of_length_le (by rw [List.length_map]; exact Nat.le_refl _)] at hDl
      have sm := sum_len (f := lineT) (m := 17) ts fun t ht => lineT_len (hT t ht)
      exact ⟨_, D, ts.map lineT, rfl, rfl, .inl (SqL.of hDl), by rw [List.length_map]; show _ + _ * 5 ≤ 16777216; omega, q _ s1⟩
def spRight (K : PySem.W.Frag) : Sp := fun vs H Q _ => ∃ (y : V) (so : Option (List Stp)), vs = [y] ∧ Dp K H y (dO so) ∧ (∀ ss, so = some ss → ss.length ≤ 6) ∧ (∀ ss, so = some ss → ∀ s ∈ ss, OkS s) ∧ ∀ H', Same H H' → Q (.str (rightL so)) H'
theorem ok_right (T : Top K mg) : FnOk P w K mg base CX0 2 T.a_steps_text T.fd_steps_text ["steps"] (spRight K) := by
  have G_step_text := ok_steptext (P := P) (w := w) (base := base) T
  refine T.d_steps_text.F.ok sc_steps_text (fun vs H Q E h => ?_) (fun cdv A outer s H vs Q E hr h => ?_)
  · obtain ⟨y, ts, rfl, _⟩ := h
    rfl
  obtain ⟨y, so, rfl, hD, h6, hT, q⟩ := h
  refine ⟨_, (pss_cons (ps_if (pt_cmpR op_isN (pv 0) pe_non (nomark _)) (pss_one (ps_ret pe_str)) pss_nil)
    (pss_cons (ps_if (pt_cmpR op_eq (pe_callB (call_len_seq_K (K := K) (by rfl)) (by rfl) T.b_len PySem.boot_len (pa_cons (pv 0) pa_nil)) pe_int (nomark _)) (pss_one (ps_ret pe_str)) pss_nil)
    (pss_one (ps_ret (pe_join_K (K := K) (by rfl) pe_str (pe_lc (own := [("field", 1), ("option", 2)]) rfl sc_steps_text.nd (pi_tup_K (K := K) (by rfl) (pv 0)) (blkOk_by (own := [("field", 1), ("option", 2)]) (N := ["steps", "field", "option"]) (sc := defScope s_steps_text) (by decide +kernel)) (fun _ _ _ _ _ => by exact (pg_tup_K (K := K) (by rfl) (n := 2) (by rfl) (pgs_cons (pg_name (i := 1) sc_steps_text.nd rfl (Or.inl rfl)) (pgs_cons (pg_name (i := 2) sc_steps_text.nd rfl (Or.inl rfl)) pgs_nil)))) (fun _ _ _ _ _ => by exact pts_nil) (fun _ _ _ _ _ => by exact (pe_call G_step_text (hr.mono (by decide)) (by rfl) T.d_step_text.g T.d_step_text.kp T.d_step_text.b .nil pass0 (pa_cons (pv 1) (pa_cons (pv 2) pa_nil)))))))))), ?_⟩
  cases so with
  | none =>
    cases dp_non hD
    exact ⟨_, rfl, rfl, _, rfl, iteY rfl (q _ (Same.refl _))⟩
  | some ss =>
  have h6 := h6 ss rfl
  have hT := hT ss rfl
  obtain ⟨a, xs, rfl, hS, hA⟩ := dp_tup hD
  have lx : xs.length = ss.length := by rw [DpAll.length hA, List.length_map]
  refine ⟨_, rfl, rfl, _, rfl, iteN (by intro z; cases z) ?_⟩
  refine ⟨_, rfl, a, xs, rfl, .inr hS, rfl, _, rfl, ite3 (fun e => ?_) (fun e => ?_)⟩
  · have e0 : ss = [] := by
      injection e with e
      exact List.length_eq_zero_iff.mp (by omega)
    have k := q H (Same.refl _)
    rw [e0] at k
    exact k
  · have e0 : ss ≠ [] := fun z => e (by rw [lx, z]; rfl)
    have el : rightL (some ss) = Txt.join ", " (ss.map lineS) := if_neg e0
    rw [el] at q
    refine ⟨⟨_, rfl⟩, _, rfl, a, rfl, ⟨_, hS⟩, fun D nD => ?_⟩
    refine lc_it walk_tup (fun i H' => Same H H' ∧ H' D = some (.lst (((ss.map lineS).take i).map V.str))) ⟨same_new nD, upd_same⟩ (fun i H' _ p => Same.tup p.1 hS) ?_ ?_
    · rintro i y H' H'' hi ⟨s1, hDl⟩ ⟨rfl, ey⟩
      obtain ⟨d, e1, e2⟩ := DpAll.get hA ey
      rw [List.getElem?_map] at e1
      cases et : ss[i]? with
      | none =>
        rw [et] at e1
        cases e1
      | some t =>
        rw [et] at e1
        cases e1
        obtain ⟨c, rfl, hC⟩ := dp_dS (Dp.mono s1 e2)
        have ok := hT t (List.mem_of_getElem? et)
        have l1 := (word_len ok.1).2
        have l2 : t.2.length ≤ 8 := by
          rcases ok.2 with e | e
          · rw [e]
            show 1 ≤ 8
            decide
          · exact (word_len e).2
        refine ⟨c, _, rfl, hC, rfl, _, _, rfl, _, _, rfl, rfl, rfl, _, rfl, _, rfl, t.1, t.2, rfl, by omega, by omega, _, hDl, ?_, same_mut s1 nD, ?_⟩
        · rw [List.length_map, List.length_take, List.length_map]
          exact lt_line (by omega)
        · rw [upd_same, List.take_add_one, List.getElem?_map, et, List.map_append]
          rfl
    · rintro H' ⟨s1, hDl⟩
      rw [lx, List.take_of_length_le (by rw [List.length_map]; exact Nat.le_refl _)] at hDl
      have sm := sum_len (f := lineS) (m := 17) ss fun t ht => lineS_len (hT t ht)
      exact ⟨_, D, ss.map lineS, rfl, rfl, .inl (SqL.of hDl), by rw [List.length_map]; show _ + _ * 2 ≤ 16777216; omega, q _ s1⟩
def spLine (K : PySem.W.Frag) : Sp := fun vs H Q _ => ∃ (y : V) (c : Cas), vs = [y] ∧ Dp K H y (dC c) ∧ OkC c ∧ ∀ H', Same H H' → Q (.str (lineC c)) H'
theorem ok_casetext (T : Top K mg) : FnOk P w K mg base CX0 3 T.a_case_text T.fd_case_text ["case"] (spLine K) := by
  have G_tests_text := ok_left (P := P) (w := w) (base := base) T
  have G_steps_text := ok_right (P := P) (w := w) (base := base) T
  refine T.d_case_text.F.ok sc_case_text (fun vs H Q E h => ?_) (fun cdv A outer s H vs Q E hr h => ?_)
  · obtain ⟨y, c, rfl, _⟩ := h
    rfl
  obtain ⟨y, c, rfl, hD, ok, q⟩ := h
  refine ⟨_, (pss_cons (ps_asg (pv 0) (pg_tup_K (K := K) (by rfl) (n := 2) (by rfl) (pgs_cons (pg_name (i := 1) sc_case_text.nd rfl (Or.inl rfl)) (pgs_cons (pg_name (i := 2) sc_case_text.nd rfl (Or.inl rfl)) pgs_nil))))
    (pss_one (ps_ret (pe_op op_add_str (pe_op op_add_str (pe_op op_add_str pe_str (pe_call G_tests_text (hr.mono (by decide)) (by rfl) T.d_tests_text.g T.d_tests_text.kp T.d_tests_text.b .nil pass0 (pa_cons (pv 1) pa_nil))) pe_str) (pe_call G_steps_text (hr.mono (by decide)) (by rfl) T.d_steps_text.g T.d_steps_text.kp T.d_steps_text.b .nil pass0 (pa_cons (pv 2) pa_nil)))))), ?_⟩
  obtain ⟨cc, tt, yy, rfl, hC, hTs, hSt⟩ := dp_dC hD
  have l1 := left_len ok.t ok.n
  have l2 := right_len ok.s ok.m
  refine ⟨_, rfl, cc, _, rfl, hC, rfl, _, _, rfl, _, _, rfl, rfl, ?_⟩
  refine ⟨_, rfl, .ref tt, c.1, rfl, hTs, ok.n, ok.t, fun H1 s1 => ⟨_, _, rfl, rfl, le_line (by show 5 + _ ≤ _; omega), _, _, rfl, rfl, le_line (by rw [len_app]; show 5 + _ + 4 ≤ _; omega), ?_⟩⟩
  refine ⟨_, rfl, yy, c.2, rfl, Dp.mono s1 hSt, ok.m, ok.s, fun H2 s2 => ⟨_, _, rfl, rfl, le_line (by rw [len_app, len_app]; show 5 + _ + 4 + _ ≤ _; omega), q _ (s1.trans s2)⟩⟩
end
end Bh

set_option Elab.async false
set_option linter.all false
set_option maxRecDepth 100000
set_option maxHeartbeats 1000000
namespace Bh
open PySem PySem.Spec PyProof.Rows L2
def spOne (K : PySem.W.Frag) {α : Type} (f : α → PyData) (read : Str → Option α) : Sp := fun vs H Q _ => ∃ (x : Str), vs = [.str x] ∧ x.length ≤ 10000 ∧ ∀ H' v, Same H H' → Dp K H' v (dOpt f (read x)) → Q v H'
def spAllR (K : PySem.W.Frag) : Sp := fun vs H Q _ => ∃ (a : Addr) (xs : List V) (l : List (Option PyData)), vs = [.ref a] ∧ SqL K H a xs ∧ DpAll K H xs (l.map (dOpt id)) ∧ (∀ d, some d ∈ l → ∃ ds, d = .tuple ds) ∧ ∀ H' v, Same H H' → Dp K H' v (dOpt PyData.tuple (allR l)) → Q v H'
theorem sign_tl (y : Str) (h : y ∈ signs) : TL.tl y ≠ [] := by
  obtain ⟨c, hc⟩ := sign_one y h
  rw [hc]
  simp
theorem dOpt_map {α : Type} (f : α → PyData) : ∀ o : Option α, dOpt id (o.map f) = dOpt f o
  | none => rfl
  | some _ => rfl
theorem dAll {α : Type} (f : α → PyData) (l : List (Option α)) : dOpt PyData.tuple (allR (l.map (Option.map f))) = dOpt (fun ts => PyData.tuple (ts.map f)) (allR l) := by
  rw [allR_map]
  cases allR l <;> rfl
section
variable {P : Program} {w : World} {K : PySem.W.Frag} {mg : Str → Option Value} {base : Heap}
theorem ok_allread (T : Top K mg) : FnOk P w K mg base CX0 1 T.a_all_read T.fd_all_read ["items"] (spAllR K) := by
  refine T.d_all_read.F.ok sc_all_read (fun vs H Q E h => ?_) (fun cdv A outer s H vs Q E hr h => ?_)
  · obtain ⟨a, xs, l, rfl, _⟩ := h
    rfl
  obtain ⟨a, xs, l, rfl, hS, hD, hT, q⟩ := h
  refine ⟨_, (pss_cons (ps_if (PW.pt (pw_or (pt_cmpR op_gt (pe_callB (call_len_seq_K (K := K) (by rfl)) (by rfl) T.b_len PySem.boot_len (pa_cons (pv 0) pa_nil)) (pe_gI rfl T.g_MOST_ITEMS) (nomark _)) (pw_or1 (pt_cmpR (op_inNone (K := K) (by rfl) hr.units) pe_non (pv 0) (by rfl))))) (pss_one (ps_ret pe_non)) pss_nil)
    (pss_one (ps_ret (pe_callTy (call_tuple_of_P (K := K) (by rfl)) (by rfl) T.b_tuple (by decide +kernel) (pa_cons (pv 0) pa_nil))))), ?_⟩
  have lx : xs.length = l.length := by rw [DpAll.length hD, List.length_map]
  have k0 : allR l = none → Q .non H := fun z => q H .non (Same.refl _) (by rw [z]; exact .non)
  refine ⟨_, rfl, a, xs, rfl, .inl hS, _, _, rfl, rfl, _, rfl, ite3 (fun e => ?_) (fun e => ?_)⟩
  · refine k0 ?_
    unfold allR
    rw [if_neg (by omega)]
  · have eA : allR l = seqO l := by
      unfold allR
      rw [if_pos (by omega)]
    refine ⟨_, rfl, a, xs, rfl, rfl, hS, dp_some hD hT, _, rfl, iteB (fun hn => ?_) (fun hn => ?_)⟩
    · exact k0 (by rw [eA]; exact dp_hasnone hD hT hn)
    · obtain ⟨ds, e1, e2⟩ := dp_all hD hT hn
      refine ⟨_, rfl, a, xs, rfl, .inl ⟨hS, fun p o np hd => q _ _ (same_new np) ?_⟩⟩
      rw [eA, e1]
      exact .tup (SqP.new hd).sqT (DpAll.mono (same_new np) e2)
theorem ok_readtest (T : Top K mg) : FnOk P w K mg base CX0 3 T.a_read_test T.fd_read_test ["text"] (spOne K dT readT) := by
  have G_is_name := ok_name (P := P) (w := w) (base := base) T
  have G_is_option := ok_option (P := P) (w := w) (base := base) T
  refine T.d_read_test.F.ok sc_read_test (fun vs H Q E h => ?_) (fun cdv A outer s H vs Q E hr h => ?_)
  · obtain ⟨x, rfl, _⟩ := h
    rfl
  obtain ⟨x, rfl, hl, q⟩ := h
  refine ⟨_, (pss_cons (ps_for PassesOwn.never rfl (pi_tup_K (K := K) (by rfl) (pe_gR rfl T.g_SIGNS)) (pg_name (i := 1) sc_read_test.nd rfl (Or.inl rfl))
      (pss_cons (ps_asg (pe_partition (pv 0) (pv 1)) (pg_tup_K (K := K) (by rfl) (n := 3) (by rfl) (pgs_cons (pg_name (i := 2) sc_read_test.nd rfl (Or.inl rfl)) (pgs_cons (pg_name (i := 3) sc_read_test.nd rfl (Or.inl rfl)) (pgs_cons (pg_name (i := 4) sc_read_test.nd rfl (Or.inl rfl)) pgs_nil)))))
      (pss_one (ps_if (PW.pt (pw_and (pt_val (pe_call G_is_name (hr.mono (by decide)) (by rfl) T.d_is_name.g T.d_is_name.kp T.d_is_name.b .nil pass0 (pa_cons (pv 2) pa_nil))) (pw_and1 (pt_val (pe_call G_is_option (hr.mono (by decide)) (by rfl) T.d_is_option.g T.d_is_option.kp T.d_is_option.b .nil pass0 (pa_cons (pv 4) pa_nil)))))) (pss_one (ps_ret (pe_tup (pa_cons (pv 2) (pa_cons (pv 1) (pa_cons (pv 4) pa_nil)))))) pss_nil))))
    (pss_one (ps_ret pe_non))), ?_⟩
  refine ⟨T.a_SIGNS, rfl, ⟨_, T.k_SIGNS _⟩, for_it walk_tup (fun i σ H' => ∃ x1 x2 x3 x4, σ = [some (.str x), x1, x2, x3, x4] ∧ Same H H' ∧ readT x = (signs.drop i).findSome? (tryT x))
    ⟨none, none, none, none, rfl, Same.refl _, rfl⟩ (fun i σ H' _ _ => T.k_SIGNS _) ?_ ?_⟩
  · rintro i y σ H' H'' hi ⟨x1, x2, x3, x4, rfl, s1, ed⟩ ⟨rfl, ey⟩
    have ey' : (signs.map V.str)[i]? = some y := ey
    rw [List.getElem?_map] at ey'
    cases es : signs[i]? with
    | none =>
      rw [es] at ey'
      cases ey'
    | some sg =>
      rw [es] at ey'
      cases ey'
      have hs : sg ∈ signs := List.mem_of_getElem? es
      have hi2 := (List.getElem?_eq_some_iff.mp es).1
      have dr : signs.drop i = sg :: signs.drop (i + 1) := by rw [List.drop_eq_getElem_cons hi2, (List.getElem?_eq_some_iff.mp es).2]
      rw [dr, List.findSome?_cons] at ed
      obtain ⟨n1, n2⟩ := part_len x sg (sign_tl sg hs)
      have h0 : (sg.length == 0) = false := by rw [sign_len sg hs]; rfl
      refine ⟨_, rfl, ⟨_, rfl⟩, _, rfl, x, sg, rfl, rfl, h0, le_line (by omega), fun p np => ?_⟩
      have s2 := s1.trans (same_new (o := .tup [.str (Txt.partition x sg).1, .str (Txt.partition x sg).2.1, .str (Txt.partition x sg).2.2]) np)
      have miss : (wordB (Txt.partition x sg).1 letters && wordB (Txt.partition x sg).2.2 lettersD) = false → readT x = (signs.drop (i + 1)).findSome? (tryT x) := fun z => by
        rw [ed]
        have e0 : tryT x sg = none := by
          unfold tryT
          rw [z]
          exact if_neg Bool.false_ne_true
        rw [e0]
      refine ⟨p, _, rfl, SqT.of upd_same, rfl, _, _, rfl, _, _, rfl, _, _, rfl, rfl, ?_⟩
      refine ⟨_, rfl, _, rfl, by omega, fun H1 sA => ⟨_, rfl, iteB (fun h1 => ?_) (fun h1 => ?_)⟩⟩
      · refine ⟨_, rfl, _, rfl, by omega, fun H2 sB => ⟨_, rfl, iteB (fun h2 => ?_) (fun h2 => ?_)⟩⟩
        · refine ⟨_, rfl, _, rfl, _, rfl, (by show 3 ≤ sizeLine; decide), fun t nt => q _ _ (s2.trans (sA.trans (sB.trans (same_new nt)))) ?_⟩
          have e0 : tryT x sg = some ((Txt.partition x sg).1, sg, (Txt.partition x sg).2.2) := by
            unfold tryT
            rw [h1, h2]
            exact if_pos rfl
          rw [ed, e0]
          exact .tup (SqT.of upd_same) (.cons (.str _) (.cons (.str _) (.cons (.str _) .nil)))
        · exact ⟨_, _, _, _, rfl, s2.trans (sA.trans sB), miss (by rw [h1, h2]; rfl)⟩
      · exact ⟨_, _, _, _, rfl, s2.trans sA, miss (by rw [h1]; rfl)⟩
  · rintro σ H' ⟨x1, x2, x3, x4, rfl, s1, ed⟩
    refine q _ _ s1 ?_
    rw [ed]
    exact .non
theorem ok_readstep (T : Top K mg) : FnOk P w K mg base CX0 3 T.a_read_step T.fd_read_step ["text"] (spOne K dS readS) := by
  have G_is_name := ok_name (P := P) (w := w) (base := base) T
  have G_is_option := ok_option (P := P) (w := w) (base := base) T
  refine T.d_read_step.F.ok sc_read_step (fun vs H Q E h => ?_) (fun cdv A outer s H vs Q E hr h => ?_)
  · obtain ⟨x, rfl, _⟩ := h
    rfl
  obtain ⟨x, rfl, hl, q⟩ := h
  refine ⟨_, (pss_cons (ps_if (pt_val (pe_m1 PySem.F.slot_str_endswith PySem.F.type_str_endswith mt_endswith (pv 0) (pe_gS rfl T.g_NEXT))) (pss_cons (ps_set (i := 1) sc_read_step.nd rfl (Or.inl rfl) (pe_m1 PySem.F.slot_str_removesuffix PySem.F.type_str_removesuffix mt_removesuffix (pv 0) (pe_gS rfl T.g_NEXT)))
      (pss_one (ps_ret (pe_ifExp (pt_val (pe_call G_is_name (hr.mono (by decide)) (by rfl) T.d_is_name.g T.d_is_name.kp T.d_is_name.b .nil pass0 (pa_cons (pv 1) pa_nil))) (pe_tup (pa_cons (pv 1) (pa_cons (pe_gS rfl T.g_NEXT) pa_nil))) pe_non)))) pss_nil)
    (pss_cons (ps_asg (pe_partition (pv 0) pe_str) (pg_tup_K (K := K) (by rfl) (n := 3) (by rfl) (pgs_cons (pg_name (i := 1) sc_read_step.nd rfl (Or.inl rfl)) (pgs_cons (pg_name (i := 2) sc_read_step.nd rfl (Or.inl rfl)) (pgs_cons (pg_name (i := 3) sc_read_step.nd rfl (Or.inl rfl)) pgs_nil)))))
    (pss_one (ps_ret (pe_ifExp (PW.pt (pw_and (pt_val (pe_call G_is_name (hr.mono (by decide)) (by rfl) T.d_is_name.g T.d_is_name.kp T.d_is_name.b .nil pass0 (pa_cons (pv 1) pa_nil))) (pw_and1 (pt_val (pe_call G_is_option (hr.mono (by decide)) (by rfl) T.d_is_option.g T.d_is_option.kp T.d_is_option.b .nil pass0 (pa_cons (pv 3) pa_nil)))))) (pe_tup (pa_cons (pv 1) (pa_cons (pv 3) pa_nil))) pe_non))))), ?_⟩
  unfold readS at q
  refine ⟨_, rfl, ⟨_, rfl⟩, x, ("+" : Str), rfl, rfl, _, rfl, iteB (fun he => ?_) (fun he => ?_)⟩
  · rw [if_pos he] at q
    have ln : (Txt.removesuffix x "+").length ≤ x.length := by
      have z := congrArg Str.length (suffix_spec he)
      rw [len_app] at z
      omega
    refine ⟨_, rfl, ⟨_, rfl⟩, x, ("+" : Str), rfl, rfl, le_line (by omega), ?_⟩
    refine ⟨_, rfl, _, rfl, by omega, fun H1 sA => ⟨_, rfl, iteB (fun h1 => ?_) (fun h1 => ?_)⟩⟩
    · rw [if_pos h1] at q
      exact ⟨_, rfl, (by show 2 ≤ sizeLine; decide), fun t nt => q _ _ (sA.trans (same_new nt)) (.tup (SqT.of upd_same) (.cons (.str _) (.cons (.str _) .nil)))⟩
    · rw [if_neg (by rw [h1]; exact Bool.false_ne_true)] at q
      exact q _ _ sA .non
  · rw [if_neg (by rw [he]; exact Bool.false_ne_true)] at q
    obtain ⟨n1, n2⟩ := part_len x ":" (by decide +kernel)
    refine ⟨_, rfl, ⟨_, rfl⟩, x, (":" : Str), rfl, rfl, rfl, le_line (by omega), fun p np => ?_⟩
    have s2 := same_new (o := .tup [.str (Txt.partition x ":").1, .str (Txt.partition x ":").2.1, .str (Txt.partition x ":").2.2]) np
    refine ⟨p, _, rfl, SqT.of upd_same, rfl, _, _, rfl, _, _, rfl, _, _, rfl, rfl, ?_⟩
    refine ⟨_, rfl, _, rfl, by omega, fun H1 sA => ⟨_, rfl, iteB (fun h1 => ?_) (fun h1 => ?_)⟩⟩
    · refine ⟨_, rfl, _, rfl, by omega, fun H2 sB => ⟨_, rfl, iteB (fun h2 => ?_) (fun h2 => ?_)⟩⟩
      · rw [if_pos (by rw [h1, h2]; rfl)] at q
        exact ⟨_, rfl, _, rfl, (by show 2 ≤ sizeLine; decide), fun t nt => q _ _ (s2.trans (sA.trans (sB.trans (same_new nt)))) (.tup (SqT.of upd_same) (.cons (.str _) (.cons (.str _) .nil)))⟩
      · rw [if_neg (by rw [h1, h2]; exact Bool.false_ne_true)] at q
        exact q _ _ (s2.trans (sA.trans sB)) .non
    · rw [if_neg (by rw [h1]; exact Bool.false_ne_true)] at q
      exact q _ _ (s2.trans sA) .non
def dTs (ts : List Tst) : PyData := .tuple (ts.map dT)
def dSs (ss : List Stp) : PyData := .tuple (ss.map dS)
theorem ok_readtests (T : Top K mg) : FnOk P w K mg base CX0 4 T.a_read_tests T.fd_read_tests ["text"] (spOne K dTs readTs) := by
  have G_read_test := ok_readtest (P := P) (w := w) (base := base) T
  have G_all_read := ok_allread (P := P) (w := w) (base := base) T
  refine T.d_read_tests.F.ok sc_read_tests (fun vs H Q E h => ?_) (fun cdv A outer s H vs Q E hr h => ?_)
  · obtain ⟨x, rfl, _⟩ := h
    rfl
  obtain ⟨x, rfl, hl, q⟩ := h
  refine ⟨_, (pss_cons (ps_if (pt_cmpR op_eq (pv 0) pe_str (nomark _)) (pss_one (ps_ret (pe_tup pa_nil))) pss_nil)
    (pss_one (ps_ret (pe_call G_all_read (hr.mono (by decide)) (by rfl) T.d_all_read.g T.d_all_read.kp T.d_all_read.b .nil pass0 (pa_cons (pe_lc (own := [("part", 1)]) rfl sc_read_tests.nd (pi_list_K (K := K) (by rfl) (pe_split (pv 0) pe_str)) (blkOk_by (own := [("part", 1)]) (N := ["text", "part"]) (sc := defScope s_read_tests) (by decide +kernel)) (fun _ _ _ _ _ => by exact (pg_name (i := 1) sc_read_tests.nd rfl (Or.inl rfl))) (fun _ _ _ _ _ => by exact pts_nil) (fun _ _ _ _ _ => by exact (pe_call G_read_test (hr.mono (by decide)) (by rfl) T.d_read_test.g T.d_read_test.kp T.d_read_test.b .nil pass0 (pa_cons (pv 1) pa_nil)))) pa_nil))))), ?_⟩
  unfold readTs at q
  refine ⟨_, rfl, rfl, _, rfl, ite3 (fun e => ?_) (fun e => ?_)⟩
  · rw [if_pos (V.str.inj e)] at q
    exact ⟨Nat.zero_le _, fun t nt => q _ _ (same_new nt) (.tup (SqT.of upd_same) .nil)⟩
  · rw [if_neg (str_ne e)] at q
    obtain ⟨ps, eps⟩ : ∃ ps, ps = Txt.split x " and " := ⟨_, rfl⟩
    have lps : ps.length ≤ x.length + 2 := by
      rw [eps]
      exact PyProof.Rows.split_le x " and "
    have mps : ∀ p ∈ ps, p.length ≤ 10000 := fun p hp => by
      rw [eps] at hp
      exact Nat.le_trans (split_part hp) hl
    refine ⟨_, rfl, ⟨_, rfl⟩, x, (" and " : Str), rfl, rfl, rfl, le_line (by omega), fun p np => ?_⟩
    rw [← eps] at q ⊢
    have sp : Same H (upd H p (.lst (ps.map V.str))) := same_new np
    refine ⟨p, rfl, ⟨_, SqL.of upd_same⟩, fun D nD => ?_⟩
    refine lc_it walk_list (fun i H' => ∃ ys, Same (upd H p (.lst (ps.map V.str))) H' ∧ H' D = some (.lst ys) ∧ DpAll K H' ys (((ps.take i).map readT).map (dOpt dT))) ⟨[], same_new nD, upd_same, .nil⟩ (fun i H' _ ⟨_, e, _⟩ => SqL.of (e _ _ upd_same)) ?_ ?_
    · rintro i y H' H'' hi ⟨ys, s1, hDl, hY⟩ ⟨rfl, ey⟩
      rw [List.getElem?_map] at ey
      cases et : ps[i]? with
      | none =>
        rw [et] at ey
        cases ey
      | some part =>
        rw [et] at ey
        cases ey
        have ly : ys.length < sizeLine := lt_line (by rw [DpAll.length hY, List.length_map, List.length_map, List.length_take]; omega)
        refine ⟨rfl, _, rfl, part, rfl, mps part (List.mem_of_getElem? et), fun H1 r sA hr1 => ?_⟩
        have hD1 := sA _ _ hDl
        have im : Imm H1 (upd H1 D (.lst (ys ++ [r]))) := imm_upd hD1
        refine ⟨ys, hD1, ly, ys ++ [r], same_mut (s1.trans sA) nD, upd_same, ?_⟩
        rw [List.take_add_one, et, List.map_append, List.map_append]
        refine dpa_snoc (DpAll.imm im ?_ (DpAll.mono sA hY)) (Dp.imm im (noL_opt noL_dT _) hr1)
        exact noLs_map (noL_opt noL_dT) _
    · rintro H' ⟨ys, s1, hDl, hY⟩
      rw [List.length_map, List.take_length] at hY
      refine ⟨D, ys, (ps.map readT).map (Option.map dT), rfl, SqL.of hDl, ?_, ?_, fun H1 v sA hv => q _ _ (sp.trans (s1.trans sA)) ?_⟩
      · rw [List.map_map, show (dOpt id ∘ Option.map dT) = dOpt dT from funext fun o => dOpt_map dT o]
        exact hY
      · intro d hd
        obtain ⟨o, _, ho⟩ := List.mem_map.mp hd
        cases o with
        | none => cases ho
        | some t =>
          cases ho
          exact ⟨_, rfl⟩
      · rw [dAll] at hv
        exact hv
theorem ok_readsteps (T : Top K mg) : FnOk P w K mg base CX0 4 T.a_read_steps T.fd_read_steps ["text"] (spOne K dSs readSs) := by
  have G_read_step := ok_readstep (P := P) (w := w) (base := base) T
  have G_all_read := ok_allread (P := P) (w := w) (base := base) T
  refine T.d_read_steps.F.ok sc_read_steps (fun vs H Q E h => ?_) (fun cdv A outer s H vs Q E hr h => ?_)
  · obtain ⟨x, rfl, _⟩ := h
    rfl
  obtain ⟨x, rfl, hl, q⟩ := h
  refine ⟨_, (pss_cons (ps_if (pt_cmpR op_eq (pv 0) pe_str (nomark _)) (pss_one (ps_ret (pe_tup pa_nil))) pss_nil)
    (pss_one (ps_ret (pe_call G_all_read (hr.mono (by decide)) (by rfl) T.d_all_read.g T.d_all_read.kp T.d_all_read.b .nil pass0 (pa_cons (pe_lc (own := [("part", 1)]) rfl sc_read_steps.nd (pi_list_K (K := K) (by rfl) (pe_split (pv 0) pe_str)) (blkOk_by (own := [("part", 1)]) (N := ["text", "part"]) (sc := defScope s_read_steps) (by decide +kernel)) (fun _ _ _ _ _ => by exact (pg_name (i := 1) sc_read_steps.nd rfl (Or.inl rfl))) (fun _ _ _ _ _ => by exact pts_nil) (fun _ _ _ _ _ => by exact (pe_call G_read_step (hr.mono (by decide)) (by rfl) T.d_read_step.g T.d_read_step.kp T.d_read_step.b .nil pass0 (pa_cons (pv 1) pa_nil)))) pa_nil))))), ?_⟩
  unfold readSs at q
  refine ⟨_, rfl, rfl, _, rfl, ite3 (fun e => ?_) (fun e => ?_)⟩
  · rw [if_pos (V.str.inj e)] at q
    exact ⟨Nat.zero_le _, fun t nt => q _ _ (same_new nt) (.tup (SqT.of upd_same) .nil)⟩
  · rw [if_neg (str_ne e)] at q
    obtain ⟨ps, eps⟩ : ∃ ps, ps = Txt.split x ", " := ⟨_, rfl⟩
    have lps : ps.length ≤ x.length + 2 := by
      rw [eps]
      exact PyProof.Rows.split_le x ", "
    have mps : ∀ p ∈ ps, p.length ≤ 10000 := fun p hp => by
      rw [eps] at hp
      exact Nat.le_trans (split_part hp) hl
    refine ⟨_, rfl, ⟨_, rfl⟩, x, (", " : Str), rfl, rfl, rfl, le_line (by omega), fun p np => ?_⟩
    rw [← eps] at q ⊢
    have sp : Same H (upd H p (.lst (ps.map V.str))) := same_new np
    refine ⟨p, rfl, ⟨_, SqL.of upd_same⟩, fun D nD => ?_⟩
    refine lc_it walk_list (fun i H' => ∃ ys, Same (upd H p (.lst (ps.map V.str))) H' ∧ H' D = some (.lst ys) ∧ DpAll K H' ys (((ps.take i).map readS).map (dOpt dS))) ⟨[], same_new nD, upd_same, .nil⟩ (fun i H' _ ⟨_, e, _⟩ => SqL.of (e _ _ upd_same)) ?_ ?_
    · rintro i y H' H'' hi ⟨ys, s1, hDl, hY⟩ ⟨rfl, ey⟩
      rw [List.getElem?_map] at ey
      cases et : ps[i]? with
      | none =>
        rw [et] at ey
        cases ey
      | some part =>
        rw [et] at ey
        cases ey
        have ly : ys.length < sizeLine := lt_line (by rw [DpAll.length hY, List.length_map, List.length_map, List.length_take]; omega)
        refine ⟨rfl, _, rfl, part, rfl, mps part (List.mem_of_getElem? et), fun H1 r sA hr1 => ?_⟩
        have hD1 := sA _ _ hDl
        have im : Imm H1 (upd H1 D (.lst (ys ++ [r]))) := imm_upd hD1
        refine ⟨ys, hD1, ly, ys ++ [r], same_mut (s1.trans sA) nD, upd_same, ?_⟩
        rw [List.take_add_one, et, List.map_append, List.map_append]
        refine dpa_snoc (DpAll.imm im ?_ (DpAll.mono sA hY)) (Dp.imm im (noL_opt noL_dS _) hr1)
        exact noLs_map (noL_opt noL_dS) _
    · rintro H' ⟨ys, s1, hDl, hY⟩
      rw [List.length_map, List.take_length] at hY
      refine ⟨D, ys, (ps.map readS).map (Option.map dS), rfl, SqL.of hDl, ?_, ?_, fun H1 v sA hv => q _ _ (sp.trans (s1.trans sA)) ?_⟩
      · rw [List.map_map, show (dOpt id ∘ Option.map dS) = dOpt dS from funext fun o => dOpt_map dS o]
        exact hY
      · intro d hd
        obtain ⟨o, _, ho⟩ := List.mem_map.mp hd
        cases o with
        | none => cases ho
        | some t =>
          cases ho
          exact ⟨_, rfl⟩
      · rw [dAll] at hv
        exact hv
theorem ok_readcase (T : Top K mg) : FnOk P w K mg base CX0 5 T.a_read_case T.fd_read_case ["line"] (spOne K dC readC) := by
  have G_read_tests := ok_readtests (P := P) (w := w) (base := base) T
  have G_read_steps := ok_readsteps (P := P) (w := w) (base := base) T
  refine T.d_read_case.F.ok sc_read_case (fun vs H Q E h => ?_) (fun cdv A outer s H vs Q E hr h => ?_)
  · obtain ⟨x, rfl, _⟩ := h
    rfl
  obtain ⟨x, rfl, hl, q⟩ := h
  refine ⟨_, (pss_cons (ps_if (pt_not (pt_val (pe_m1 PySem.F.slot_str_startswith PySem.F.type_str_startswith mt_startswith (pv 0) pe_str))) (pss_one (ps_ret pe_non)) pss_nil)
    (pss_cons (ps_asg (pe_partition (pe_m1 PySem.F.slot_str_removeprefix PySem.F.type_str_removeprefix mt_removeprefix (pv 0) pe_str) pe_str) (pg_tup_K (K := K) (by rfl) (n := 3) (by rfl) (pgs_cons (pg_name (i := 1) sc_read_case.nd rfl (Or.inl rfl)) (pgs_cons (pg_name (i := 2) sc_read_case.nd rfl (Or.inl rfl)) (pgs_cons (pg_name (i := 3) sc_read_case.nd rfl (Or.inl rfl)) pgs_nil)))))
    (pss_cons (ps_set (i := 4) sc_read_case.nd rfl (Or.inl rfl) (pe_call G_read_tests (hr.mono (by decide)) (by rfl) T.d_read_tests.g T.d_read_tests.kp T.d_read_tests.b .nil pass0 (pa_cons (pv 1) pa_nil)))
    (pss_cons (ps_if (pt_cmpR op_isN (pv 4) pe_non (nomark _)) (pss_one (ps_ret pe_non)) pss_nil)
    (pss_cons (ps_if (pt_cmpR op_eq (pv 3) pe_str (nomark _)) (pss_one (ps_ret (pe_tup (pa_cons (pv 4) (pa_cons pe_non pa_nil))))) pss_nil)
    (pss_cons (ps_set (i := 5) sc_read_case.nd rfl (Or.inl rfl) (pe_call G_read_steps (hr.mono (by decide)) (by rfl) T.d_read_steps.g T.d_read_steps.kp T.d_read_steps.b .nil pass0 (pa_cons (pv 3) pa_nil)))
    (pss_cons (ps_if (pt_cmpR op_isN (pv 5) pe_non (nomark _)) (pss_one (ps_ret pe_non)) pss_nil)
    (pss_one (ps_ret (pe_tup (pa_cons (pv 4) (pa_cons (pv 5) pa_nil)))))))))))), ?_⟩
  unfold readC at q
  refine ⟨_, rfl, ⟨_, rfl⟩, x, ("when " : Str), rfl, rfl, _, rfl, ?_⟩
  by_cases he : Txt.startswith x "when " = true
  · rw [if_pos he] at q
    rw [he]
    have ln : (Txt.removeprefix x "when ").length ≤ x.length := by
      have z := congrArg Str.length (prefix_spec he)
      rw [len_app] at z
      omega
    obtain ⟨y, ey⟩ : ∃ y, y = Txt.removeprefix x "when " := ⟨_, rfl⟩
    rw [← ey] at q ln
    obtain ⟨n1, n2⟩ := part_len y " do " (by decide +kernel)
    refine ⟨_, rfl, ⟨_, rfl⟩, x, ("when " : Str), rfl, rfl, le_line (by omega), ?_⟩
    rw [← ey]
    refine ⟨⟨_, rfl⟩, y, (" do " : Str), rfl, rfl, rfl, le_line (by omega), fun p np => ?_⟩
    have s1 := same_new (o := .tup [.str (Txt.partition y " do ").1, .str (Txt.partition y " do ").2.1, .str (Txt.partition y " do ").2.2]) np
    refine ⟨p, _, rfl, SqT.of upd_same, rfl, _, _, rfl, _, _, rfl, _, _, rfl, rfl, ?_⟩
    refine ⟨_, rfl, _, rfl, by omega, fun H1 v1 sA h1 => ?_⟩
    unfold readP at q
    cases e1 : readTs (Txt.partition y " do ").1 with
    | none =>
      rw [e1] at q h1
      cases dp_non h1
      exact ⟨_, rfl, rfl, _, rfl, iteY rfl (q _ _ (s1.trans sA) .non)⟩
    | some ts =>
      rw [e1] at q h1
      obtain ⟨a, xs, rfl, k1, k2⟩ := dp_tup (show Dp K H1 v1 (.tuple (ts.map dT)) from h1)
      refine ⟨_, rfl, rfl, _, rfl, iteN (by intro z; cases z) ?_⟩
      have q : ∀ (H' : Hp) (v : V), Same H H' → Dp K H' v (dOpt dC (if (Txt.partition y " do ").2.2 = "drop" then some (ts, none) else match readSs (Txt.partition y " do ").2.2 with | none => none | some ss => some (ts, some ss))) → Q v H' := q
      refine ⟨_, rfl, rfl, _, rfl, ite3 (fun e => ?_) (fun e => ?_)⟩
      · rw [if_pos (V.str.inj e)] at q
        exact ⟨_, rfl, (by show 2 ≤ sizeLine; decide), fun t nt => q _ _ (s1.trans (sA.trans (same_new nt))) (.tup (SqT.of upd_same) (.cons (Dp.mono (same_new nt) h1) (.cons .non .nil)))⟩
      · rw [if_neg (str_ne e)] at q
        refine ⟨_, rfl, _, rfl, by omega, fun H2 v2 sB h2 => ?_⟩
        cases e2 : readSs (Txt.partition y " do ").2.2 with
        | none =>
          rw [e2] at q h2
          cases dp_non h2
          exact ⟨_, rfl, rfl, _, rfl, iteY rfl (q _ _ (s1.trans (sA.trans sB)) .non)⟩
        | some ss =>
          rw [e2] at q h2
          obtain ⟨a2, xs2, rfl, k3, k4⟩ := dp_tup (show Dp K H2 v2 (.tuple (ss.map dS)) from h2)
          refine ⟨_, rfl, rfl, _, rfl, iteN (by intro z; cases z) ?_⟩
          exact ⟨_, rfl, _, rfl, (by show 2 ≤ sizeLine; decide), fun t nt => q _ _ (s1.trans (sA.trans (sB.trans (same_new nt)))) (.tup (SqT.of upd_same) (.cons (Dp.mono (sB.trans (same_new nt)) h1) (.cons (Dp.mono (same_new nt) h2) .nil)))⟩
  · rw [if_neg he] at q
    rw [Bool.eq_false_iff.mpr he]
    exact q _ _ (Same.refl _) .non
end
end Bh

set_option Elab.async false
set_option linter.all false
set_option maxRecDepth 100000
set_option maxHeartbeats 1000000
namespace Bh
open PySem PySem.Spec PyProof.Rows L2
section
variable {P : Program} {w : World} {K : PySem.W.Frag} {mg : Str → Option Value} {base : Heap}
theorem eqv_nilT : ∀ ts : List PyData, PyData.eqv (.tuple ts) (.tuple []) = decide (ts = [])
  | [] => rfl
  | _ :: _ => rfl
theorem eqv_nilL : ∀ ts : List PyData, PyData.eqv (.list ts) (.list []) = decide (ts = [])
  | [] => rfl
  | _ :: _ => rfl
theorem meet {b : Bool} {i : Nat} {σ : L2.St} {H : Hp} {c z : V} {k : VK} (h1 : b = true → σ[i]? = some (some z)) (h2 : b = false → c = z) (hk : k z H) : (fun (c' : Bool) (H1 : Hp) => if c' = true then tVar i σ H1 k else tC c σ H1 k) b H := by
  cases b
  · show k c H
    rw [h2 rfl]
    exact hk
  · exact ⟨z, h1 rfl, hk⟩
theorem ok_lline (T : Top K mg) : FnOk P w K mg base CX0 1 T.a_l_line T.fd_l_line ["_law_case_here"] (spLine K) := by
  refine T.d_l_line.F.ok sc_l_line (fun vs H Q E h => ?_) (fun cdv A outer s H vs Q E hr h => ?_)
  · obtain ⟨y, c, rfl, _⟩ := h
    rfl
  obtain ⟨y, c, rfl, hD, ok, q⟩ := h
  refine ⟨_, (pss_cons (ps_asg (pv 0) (pg_tup_K (K := K) (by rfl) (n := 2) (by rfl) (pgs_cons (pg_name (i := 1) sc_l_line.nd rfl (Or.inl rfl)) (pgs_cons (pg_name (i := 2) sc_l_line.nd rfl (Or.inl rfl)) pgs_nil))))
    (pss_cons (ps_set (i := 3) sc_l_line.nd rfl (Or.inl rfl) (pe_join_K (K := K) (by rfl) pe_str (pe_lc (own := [("_law_name", 4), ("_law_sign", 7), ("_law_option", 5)]) rfl sc_l_line.nd (pi_tup_K (K := K) (by rfl) (pv 1)) (blkOk_by (own := [("_law_name", 4), ("_law_sign", 7), ("_law_option", 5)]) (N := ["_law_case_here", "_law_tests", "_law_steps", "_law_left", "_law_name", "_law_option", "_law_words_here", "_law_sign"]) (sc := defScope s_l_line) (by decide +kernel)) (fun _ _ _ _ _ => by exact (pg_tup_K (K := K) (by rfl) (n := 3) (by rfl) (pgs_cons (pg_name (i := 4) sc_l_line.nd rfl (Or.inl rfl)) (pgs_cons (pg_name (i := 7) sc_l_line.nd rfl (Or.inl rfl)) (pgs_cons (pg_name (i := 5) sc_l_line.nd rfl (Or.inl rfl)) pgs_nil))))) (fun _ _ _ _ _ => by exact pts_nil) (fun _ _ _ _ _ => by exact (pe_op op_add_str (pe_op op_add_str (pv 4) (pv 7)) (pv 5))))))
    (pss_cons (ps_set (i := 3) sc_l_line.nd rfl (Or.inl rfl) (pe_ifExp (pt_cmpR (op_neP (K := K) (by rfl) hr.units) (pv 1) (pe_tup pa_nil) (nomark _)) (pv 3) pe_str))
    (pss_cons (ps_if (pt_cmpR op_isN (pv 2) pe_non (nomark _)) (pss_one (ps_ret (pe_op op_add_str (pe_op op_add_str pe_str (pv 3)) pe_str))) pss_nil)
    (pss_cons (ps_set (i := 6) sc_l_line.nd rfl (Or.inl rfl) (pe_lst pa_nil))
    (pss_cons (ps_for PassesOwn.never rfl (pi_tup_K (K := K) (by rfl) (pv 2)) (pg_tup_K (K := K) (by rfl) (n := 2) (by rfl) (pgs_cons (pg_name (i := 4) sc_l_line.nd rfl (Or.inl rfl)) (pgs_cons (pg_name (i := 5) sc_l_line.nd rfl (Or.inl rfl)) pgs_nil)))
      (pss_one (ps_expr (pe_bm_K (K := K) (by rfl) PySem.F.plainAttrs_list PySem.F.slot_list_append PySem.F.type_list_append mt_append (pv 6) (pa_cons (pe_ifExp (pt_cmpR op_eq (pv 5) pe_str (nomark _)) (pe_op op_add_str (pv 4) pe_str) (pe_op op_add_str (pe_op op_add_str (pv 4) pe_str) (pv 5))) pa_nil)))))
    (pss_one (ps_ret (pe_op op_add_str (pe_op op_add_str (pe_op op_add_str pe_str (pv 3)) pe_str) (pe_ifExp (pt_cmpR (op_neP (K := K) (by rfl) hr.units) (pv 6) (pe_lst pa_nil) (nomark _)) (pe_join_K (K := K) (by rfl) pe_str (pv 6)) pe_str)))))))))), ?_⟩
  obtain ⟨ts, so⟩ := c
  obtain ⟨cc, tt, yy, rfl, hC, hTs, hSt⟩ := dp_dC hD
  have l1 := left_len ok.t ok.n
  have l2 := right_len ok.s ok.m
  have hTs0 := hTs
  obtain ⟨_, xs, hz, hS, hA⟩ := dp_tup hTs
  cases hz
  have lx : xs.length = ts.length := by rw [DpAll.length hA, List.length_map]
  have h6 : ts.length ≤ 6 := ok.n
  refine ⟨_, rfl, cc, _, rfl, hC, rfl, _, _, rfl, _, _, rfl, rfl, ?_⟩
  refine ⟨⟨_, rfl⟩, _, rfl, tt, rfl, ⟨_, hS⟩, fun D nD => ?_⟩
  refine lc_it walk_tup (fun i H' => Same H H' ∧ H' D = some (.lst (((ts.map lineT).take i).map V.str))) ⟨same_new nD, upd_same⟩ (fun i H' _ p => Same.tup p.1 hS) ?_ ?_
  · rintro i y H' H'' hi ⟨s1, hDl⟩ ⟨rfl, ey⟩
    obtain ⟨d, e1, e2⟩ := DpAll.get hA ey
    rw [List.getElem?_map] at e1
    cases et : ts[i]? with
    | none =>
      rw [et] at e1
      cases e1
    | some t =>
      rw [et] at e1
      cases e1
      obtain ⟨c, rfl, hC⟩ := dp_dT (Dp.mono s1 e2)
      have okt := ok.t t (List.mem_of_getElem? et)
      have k1 := (word_len okt.1).2
      have k2 := sign_len _ okt.2.1
      have k3 := (word_len okt.2.2).2
      refine ⟨c, _, rfl, hC, rfl, _, _, rfl, _, _, rfl, _, _, rfl, rfl, rfl, _, rfl, _, rfl, _, _, rfl, rfl, le_line (by omega), _, rfl, _, _, rfl, rfl, le_line (by rw [len_app]; omega), _, hDl, ?_, same_mut s1 nD, ?_⟩
      · rw [List.length_map, List.length_take, List.length_map]
        exact lt_line (by omega)
      · rw [upd_same, List.take_add_one, List.getElem?_map, et, List.map_append]
        rfl
  · rintro H1 ⟨s1, hDl⟩
    rw [lx, List.take_of_length_le (by rw [List.length_map]; exact Nat.le_refl _)] at hDl
    have sm := sum_len (f := lineT) (m := 17) ts fun t ht => lineT_len (ok.t t ht)
    refine ⟨_, D, ts.map lineT, rfl, rfl, .inl (SqL.of hDl), by rw [List.length_map]; show _ + _ * 5 ≤ 16777216; omega, ?_⟩
    refine ⟨_, rfl, Nat.zero_le _, fun e0 ne0 => ?_⟩
    have s2 : Same H1 (upd H1 e0 (.tup [])) := same_new ne0
    refine ⟨.tuple (ts.map dT), .tuple [], Dp.mono (s1.trans s2) hTs0, .tup (SqT.of upd_same) .nil, (by show min _ 1 ≤ 64; omega), _, rfl, ?_⟩
    rw [eqv_nilT]
    refine meet (z := .str (leftL ts)) (fun hb => ?_) (fun hb => ?_) ?_
    · have e : ts ≠ [] := fun z => by
        rw [z] at hb
        cases hb
      have el : leftL ts = Txt.join " and " (ts.map lineT) := if_neg e
      rw [el]
      rfl
    · have e : ts = [] := by
        cases ts with
        | nil => rfl
        | cons t r => cases hb
      rw [e]
      rfl
    have l1 : (leftL ts).length ≤ 132 := l1
    cases so with
    | none =>
      cases dp_non hSt
      refine ⟨_, rfl, rfl, _, rfl, iteY rfl ?_⟩
      refine ⟨_, rfl, _, _, rfl, rfl, le_line (by show 5 + _ ≤ _; omega), _, _, rfl, rfl, le_line (by rw [len_app]; show 5 + _ + 8 ≤ _; omega), ?_⟩
      have k := q _ (s1.trans s2)
      unfold lineC at k
      have e : ("when " ++ leftL (ts, (none : Option (List Stp))).1 ++ " do " ++ rightL (ts, (none : Option (List Stp))).2 : Str) = "when " ++ leftL ts ++ " do drop" := by
        rw [app_assoc, show (" do " ++ rightL none : Str) = " do drop" by decide +kernel]
      rw [e] at k
      exact k
    | some ss =>
    have n6 := ok.m ss rfl
    have oks := ok.s ss rfl
    obtain ⟨a, ys, rfl, hS2, hA2⟩ := dp_tup (show Dp K H yy (.tuple (ss.map dS)) from hSt)
    have ly : ys.length = ss.length := by rw [DpAll.length hA2, List.length_map]
    refine ⟨_, rfl, rfl, _, rfl, iteN (by intro z; cases z) ?_⟩
    refine ⟨Nat.zero_le _, fun W nW => ?_⟩
    have s12 := s1.trans s2
    have nW' : H W = none := s12.free nW
    refine ⟨_, rfl, a, rfl, ⟨_, Same.tup (s12.trans (same_new nW)) hS2⟩, for_it walk_tup (fun i σ H' => ∃ x4 x5, σ = [some (.ref cc), some (.ref tt), some (.ref a), some (.str (leftL ts)), x4, x5, some (.ref W), none] ∧ Same H H' ∧ H' W = some (.lst (((ss.map lineS).take i).map V.str)))
      ⟨none, none, rfl, s12.trans (same_new nW), upd_same⟩ (fun i σ H' _ ⟨_, _, _, e, _⟩ => Same.tup e hS2) ?_ ?_⟩
    · rintro i y σ H' H'' hi ⟨x4, x5, rfl, s3, hW⟩ ⟨rfl, ey⟩
      obtain ⟨d, e1, e2⟩ := DpAll.get hA2 ey
      rw [List.getElem?_map] at e1
      cases et : ss[i]? with
      | none =>
        rw [et] at e1
        cases e1
      | some t =>
        rw [et] at e1
        cases e1
        obtain ⟨c, rfl, hC⟩ := dp_dS (Dp.mono s3 e2)
        have okt := oks t (List.mem_of_getElem? et)
        have k1 := (word_len okt.1).2
        have k2 : t.2.length ≤ 8 := by
          rcases okt.2 with e | e
          · rw [e]
            show 1 ≤ 8
            decide
          · exact (word_len e).2
        have lt : (((ss.map lineS).take i).map V.str).length < sizeLine := lt_line (by rw [List.length_map, List.length_take, List.length_map]; omega)
        have fin : ∀ z, z = lineS t → upd H'' W (.lst (((ss.map lineS).take i).map V.str ++ [V.str z])) W = some (.lst (((ss.map lineS).take (i + 1)).map V.str)) := fun z ez => by
          rw [upd_same, List.take_add_one, List.getElem?_map, et, List.map_append, ez]
          rfl
        refine ⟨c, _, rfl, hC, rfl, _, _, rfl, _, _, rfl, rfl, ?_⟩
        refine ⟨_, rfl, .inl ⟨rfl, _, SqL.of hW⟩, _, rfl, rfl, _, rfl, ite3 (fun e => ?_) (fun e => ?_)⟩
        · refine ⟨_, rfl, _, _, rfl, rfl, le_line (by show _ + 1 ≤ _; omega), W, _, _, rfl, rfl, hW, lt, _, _, rfl, same_mut s3 nW', fin _ ?_⟩
          unfold lineS
          rw [if_pos (V.str.inj e)]
        · refine ⟨_, rfl, _, _, rfl, rfl, le_line (by show _ + 1 ≤ _; omega), _, rfl, _, _, rfl, rfl, le_line (by rw [len_app]; show _ + 1 + _ ≤ _; omega), W, _, _, rfl, rfl, hW, lt, _, _, rfl, same_mut s3 nW', fin _ ?_⟩
          unfold lineS
          rw [if_neg (str_ne e)]
    · rintro σ H' ⟨x4, x5, rfl, s3, hW⟩
      rw [ly, List.take_of_length_le (by rw [List.length_map]; exact Nat.le_refl _)] at hW
      have hDW : Dp K H' (.ref W) (.list ((ss.map lineS).map PyData.str)) := .lst (SqL.of hW) (strs_dp _)
      refine ⟨_, rfl, _, _, rfl, rfl, le_line (by show 5 + _ ≤ _; omega), _, _, rfl, rfl, le_line (by rw [len_app]; show 5 + _ + 4 ≤ _; omega), ?_⟩
      refine ⟨_, rfl, Nat.zero_le _, fun e0 ne0 => ?_⟩
      have s4 : Same H' (upd H' e0 (.lst [])) := same_new ne0
      refine ⟨_, .list [], Dp.mono s4 hDW, .lst (SqL.of upd_same) .nil, (by show min _ 1 ≤ 64; omega), _, rfl, ?_⟩
      rw [eqv_nilL]
      have k := q _ (s3.trans s4)
      have l2 : (rightL (some ss)).length ≤ 132 := l2
      refine iteB (fun hb => ?_) (fun hb => ?_)
      · have e : ss ≠ [] := fun z => by
          rw [z] at hb
          cases hb
        have el : rightL (some ss) = Txt.join ", " (ss.map lineS) := if_neg e
        have sm := sum_len (f := lineS) (m := 17) ss fun t ht => lineS_len (oks t ht)
        have k : Q (.str ("when " ++ leftL ts ++ " do " ++ rightL (some ss))) _ := k
        rw [el] at k l2
        exact ⟨⟨_, rfl⟩, _, rfl, _, W, ss.map lineS, rfl, rfl, .inl (SqL.of (s4 _ _ hW)), by rw [List.length_map]; show _ + _ * 2 ≤ 16777216; omega, _, _, rfl, rfl, le_line (by rw [len_app, len_app]; show 5 + _ + 4 + _ ≤ _; omega), k⟩
      · have e : ss = [] := by
          cases ss with
          | nil => rfl
          | cons t r => cases hb
        have k : Q (.str ("when " ++ leftL ts ++ " do " ++ rightL (some ss))) _ := k
        rw [e] at k
        exact ⟨_, _, rfl, rfl, le_line (by rw [len_app, len_app]; show 5 + _ + 4 + 4 ≤ _; omega), k⟩
end
end Bh

set_option Elab.async false
set_option linter.all false
set_option maxRecDepth 100000
set_option maxHeartbeats 1000000
set_option autoImplicit false
namespace Bh
open PySem PySem.Spec PyProof.Rows L2
/-! ### the lines of a rulebook -/
def keyL (a : Str × Str) : Str := a.1 ++ a.2
def fldL (f : Fld) : Str := Txt.join " " ("field" :: f.1 :: f.2)
def tieL (n : Str) : Str := "tie " ++ n
def kndL (n : Str) (ks : List (Str × Str)) : Str := Txt.join " " ("cell" :: n :: ks.map keyL)
def bornL (v : List Str) : Str := Txt.join " " ("born" :: v)
def casL (p : List Cas) : List Str := p.map lineC
def tieLs (t : Tie) : List Str := tieL t.1 :: casL t.2
def kndLs (k : Knd) : List Str := kndL k.name k.keys :: (casL (k.taking.getD []) ++ (match k.birth with | none => [] | some v => [bornL v]))
def bookLs (fs : List Fld) (ts : List Tie) (ks : List Knd) : List Str := fs.map fldL ++ (ts.map tieLs).flatten ++ (ks.map kndLs).flatten
/-! ### words without gaps -/
theorem nm_free {n : Str} (h : IsNm n) : 32 ∉ TL.tl n := word_free (word_letD h.word) (by decide +kernel)
theorem op_free {o : Str} (h : IsOp o) : 32 ∉ TL.tl o := word_free h.1 (by decide +kernel)
theorem opts_op {fs : List Fld} (h : ∀ f ∈ fs, IsNm f.1 ∧ ∀ o ∈ f.2, IsOp o) {n o : Str} (m : o ∈ optsOf fs n) : IsOp o := by
  unfold optsOf at m
  cases e : fs[posOf fs n]? with
  | none => rw [e] at m; cases m
  | some f =>
    rw [e] at m
    exact (h f (List.mem_of_getElem? e)).2 o m
theorem okC_of {fs : List Fld} (h : ∀ f ∈ fs, IsNm f.1 ∧ ∀ o ∈ f.2, IsOp o) {c : Cas} (k : OkCas fs c) : OkC c := by
  have nm : ∀ {n : Str}, n ∈ fs.map (·.1) → wordB n letters = true := fun m => by
    obtain ⟨f, hf, rfl⟩ := List.mem_map.mp m
    exact (h f hf).1.word
  refine ⟨k.nt, fun t ht => ⟨nm (k.fit.t t ht).1, k.sg t ht, (opts_op h (k.fit.t t ht).2).1⟩, k.ns, fun ss e s hs => ⟨nm (k.fit.s ss e s hs).1, ?_⟩⟩
  by_cases z : s.2 = "+"
  · exact .inl z
  · exact .inr (opts_op h ((k.fit.s ss e s hs).2 z)).1
theorem part_sp {a b : Str} (h : 32 ∉ TL.tl a) : Txt.partition (a ++ " " ++ b) " " = (a, (" " : Str), b) := TL.partition_app (y := " ") (s := 32) (S := []) (by decide +kernel) h
theorem split_sp {ws : List Str} (ne : ws ≠ []) (h : ∀ w ∈ ws, 32 ∉ TL.tl w) : Txt.split (Txt.join " " ws) " " = ws := TL.split_join (y := " ") (s := 32) (S := []) (by decide +kernel) (by decide +kernel) ne h
theorem join_cons {w : Str} {ws : List Str} (ne : ws ≠ []) : Txt.join " " (w :: ws) = w ++ " " ++ Txt.join " " ws := by
  cases ws with
  | nil => exact absurd rfl ne
  | cons a r =>
    rw [TL.join_eq, TL.join_eq]
    rfl
/-- the first word of a line and the rest -/
theorem part_join {w : Str} {ws : List Str} (ne : ws ≠ []) (h : 32 ∉ TL.tl w) : Txt.partition (Txt.join " " (w :: ws)) " " = (w, (" " : Str), Txt.join " " ws) := by
  rw [join_cons ne]
  exact part_sp h
theorem part_fld (f : Fld) : Txt.partition (fldL f) " " = (("field" : Str), (" " : Str), Txt.join " " (f.1 :: f.2)) := part_join (by simp) (by decide +kernel)
theorem part_tie (n : Str) : Txt.partition (tieL n) " " = (("tie" : Str), (" " : Str), n) := by
  have e : tieL n = ("tie" : Str) ++ " " ++ n := by
    unfold tieL
    rw [show (("tie" : Str) ++ " ") = "tie " by decide +kernel]
  rw [e]
  exact part_sp (by decide +kernel)
theorem part_knd (n : Str) (ks : List (Str × Str)) : Txt.partition (kndL n ks) " " = (("cell" : Str), (" " : Str), Txt.join " " (n :: ks.map keyL)) := part_join (by simp) (by decide +kernel)
theorem part_born {v : List Str} (ne : v ≠ []) : Txt.partition (bornL v) " " = (("born" : Str), (" " : Str), Txt.join " " v) := part_join ne (by decide +kernel)
theorem part_case (c : Cas) : ∃ r, Txt.partition (lineC c) " " = (("when" : Str), (" " : Str), r) := by
  have e : lineC c = ("when" : Str) ++ " " ++ (leftL c.1 ++ " do " ++ rightL c.2) := by
    unfold lineC
    rw [show (("when" : Str) ++ " ") = "when " by decide +kernel, app_assoc, app_assoc, app_assoc]
  exact ⟨_, by rw [e]; exact part_sp (by decide +kernel)⟩
end Bh

set_option Elab.async false
set_option linter.all false
set_option maxRecDepth 100000
set_option maxHeartbeats 1000000
set_option autoImplicit false
namespace Bh
open PySem PySem.Spec PyProof.Rows L2
/-! ### a draft, line by line -/
abbrev Dft := List Fld × List Tie × List Knd
def onLast {α : Type} (f : α → α) (l : List α) : List α := match l.getLast? with
  | none => l
  | some x => l.dropLast ++ [f x]
theorem onLast_snoc {α : Type} (f : α → α) (l : List α) (x : α) : onLast f (l ++ [x]) = l ++ [f x] := by
  unfold onLast
  rw [List.getLast?_concat, List.dropLast_concat]
def unkey (w : Str) : Str × Str := (cutS w none (some (-1)), cutS w (some (-1)) none)
theorem unkey_key {k : Str × Str} (h : k.2 = "+" ∨ k.2 = "-") : unkey (keyL k) = k := by
  have one : k.2.cps.toList.length = 1 := by
    rcases h with h | h <;> rw [h] <;> decide +kernel
  have len : (keyL k).length = k.1.cps.toList.length + 1 := by
    show (k.1.cps ++ k.2.cps).size = _
    rw [Array.size_append, ← Array.length_toList, ← Array.length_toList, one]
  have tl : (keyL k).cps.toList = k.1.cps.toList ++ k.2.cps.toList := by
    show (k.1.cps ++ k.2.cps).toList = _
    rw [Array.toList_append]
  have l2 : (keyL k).cps.toList.length = k.1.cps.toList.length + 1 := by rw [tl, List.length_append, one]
  have s1 : HT.sIx (keyL k).length (keyL k).length (some (-1)) = k.1.cps.toList.length := by
    show (if (-1 : Int) < 0 then ((-1 : Int) + ((keyL k).length : Int)).toNat else min (-1 : Int).toNat (keyL k).length) = _
    rw [if_pos (by decide), len]
    omega
  have s2 : HT.sIx (keyL k).length 0 (some (-1)) = k.1.cps.toList.length := by
    show (if (-1 : Int) < 0 then ((-1 : Int) + ((keyL k).length : Int)).toNat else min (-1 : Int).toNat (keyL k).length) = _
    rw [if_pos (by decide), len]
    omega
  have e1 : cutS (keyL k) none (some (-1)) = k.1 := by
    refine TL.ext_tl ?_
    show ((((keyL k).cps.toList.drop (HT.sIx (keyL k).length 0 none)).take (HT.sIx (keyL k).length (keyL k).length (some (-1)) - HT.sIx (keyL k).length 0 none)).toArray).toList = k.1.cps.toList
    rw [HT.sIx_none, s1, List.drop_zero, Nat.sub_zero, tl, List.take_left]
  have e2 : cutS (keyL k) (some (-1)) none = k.2 := by
    refine TL.ext_tl ?_
    show ((((keyL k).cps.toList.drop (HT.sIx (keyL k).length 0 (some (-1)))).take (HT.sIx (keyL k).length (keyL k).length none - HT.sIx (keyL k).length 0 (some (-1)))).toArray).toList = k.2.cps.toList
    rw [HT.sIx_none, s2, len, tl, List.drop_left, Nat.add_sub_cancel_left]
    exact List.take_of_length_le (by rw [one]; exact Nat.le_refl _)
  unfold unkey
  rw [e1, e2]
theorem key_free {k : Str × Str} (h1 : IsNm k.1) (h : k.2 = "+" ∨ k.2 = "-") : 32 ∉ TL.tl (keyL k) := fun m => by
  unfold keyL at m
  rw [TL.tl_append] at m
  rcases List.mem_append.mp m with z | z
  · exact nm_free h1 z
  · rcases h with h | h <;> rw [h] at z <;> exact absurd z (by decide +kernel)
/-- what comes behind a line that fits -/
inductive Nx : Dft → Str → Dft → Prop
  | fld {fs : List Fld} {f : Fld} : OkFld fs f → Nx (fs, [], []) (fldL f) (fs ++ [f], [], [])
  | tie {fs : List Fld} {ts : List Tie} {n : Str} : fs ≠ [] → (∀ t ∈ ts, t.2 ≠ []) → ts.length < 4 → IsNm n → n ∉ ts.map (·.1) → Nx (fs, ts, []) (tieL n) (fs, ts ++ [(n, [])], [])
  | tcas {fs : List Fld} {ts : List Tie} {n : Str} {p : List Cas} {c : Cas} : FsB fs → OkCas fs c → OkC c → p.length < 8 → Nx (fs, ts ++ [(n, p)], []) (lineC c) (fs, ts ++ [(n, p ++ [c])], [])
  | knd {fs : List Fld} {ts : List Tie} {ks : List Knd} {n : Str} {a : List (Str × Str)} : FsB fs → ts ≠ [] → (∀ t ∈ ts, t.2 ≠ []) → ks.length < 3 → n ∉ ks.map (·.name) → OkKnd fs ⟨n, a, none, none⟩ → (∀ k ∈ a, IsNm k.1) → Nx (fs, ts, ks) (kndL n a) (fs, ts, ks ++ [⟨n, a, none, none⟩])
  | kcas {fs : List Fld} {ts : List Tie} {ks : List Knd} {n : Str} {a : List (Str × Str)} {o : Option (List Cas)} {c : Cas} : FsB fs → OkCas fs c → OkC c → (o.getD []).length < 8 →
      Nx (fs, ts, ks ++ [⟨n, a, o, none⟩]) (lineC c) (fs, ts, ks ++ [⟨n, a, some (o.getD [] ++ [c]), none⟩])
  | born {fs : List Fld} {ts : List Tie} {ks : List Knd} {n : Str} {a : List (Str × Str)} {o : Option (List Cas)} {v : List Str} : FsB fs → v ≠ [] → FitV fs v → (∀ o ∈ v, IsOp o) → Nx (fs, ts, ks ++ [⟨n, a, o, none⟩]) (bornL v) (fs, ts, ks ++ [⟨n, a, o, some v⟩])
def dec (D : Dft) (l : Str) : Dft :=
  let p := Txt.partition l " "
  if p.1 = "field" then (match Txt.split p.2.2 " " with | n :: os => (D.1 ++ [(n, os)], D.2) | [] => D)
  else if p.1 = "tie" then (D.1, D.2.1 ++ [(p.2.2, [])], D.2.2)
  else if p.1 = "when" then (match readC l with
    | none => D
    | some c => if D.2.2.isEmpty = true then (D.1, onLast (fun t => (t.1, t.2 ++ [c])) D.2.1, []) else (D.1, D.2.1, onLast (fun k => ⟨k.name, k.keys, some (k.taking.getD [] ++ [c]), k.birth⟩) D.2.2))
  else if p.1 = "cell" then (match Txt.split p.2.2 " " with | n :: ws => (D.1, D.2.1, D.2.2 ++ [⟨n, ws.map unkey, none, none⟩]) | [] => D)
  else if p.1 = "born" then (D.1, D.2.1, onLast (fun k => ⟨k.name, k.keys, k.taking, some (Txt.split p.2.2 " ")⟩) D.2.2)
  else D
theorem dec_of {D E : Dft} {l : Str} (h : Nx D l E) : dec D l = E := by
  cases h with
  | fld ok =>
    rename_i fs f
    unfold dec
    rw [part_fld]
    dsimp only
    rw [if_pos rfl, split_sp (by simp) (fun w hw => by
      rcases List.mem_cons.mp hw with rfl | hw
      · exact nm_free ok.nm
      · exact op_free (ok.op w hw))]
  | tie =>
    unfold dec
    rw [part_tie]
    dsimp only
    rw [if_neg (by decide +kernel), if_pos rfl]
  | tcas h1 h2 okc h4 =>
    rename_i fs ts n p c
    obtain ⟨r, e⟩ := part_case c
    unfold dec
    rw [e]
    dsimp only
    rw [if_neg (by decide +kernel), if_neg (by decide +kernel), if_pos rfl, readC_line okc]
    dsimp only
    rw [if_pos (show ([] : List Knd).isEmpty = true from rfl), onLast_snoc]
  | knd h1 h2 h3 h4 h5 ok kn =>
    rename_i fs ts ks n a
    unfold dec
    rw [part_knd]
    dsimp only
    have kf : ∀ w ∈ a.map keyL, 32 ∉ TL.tl w := fun w hw => by
      obtain ⟨k, hk, rfl⟩ := List.mem_map.mp hw
      exact key_free (kn k hk) (ok.ks.all k hk).2
    rw [if_neg (by decide +kernel), if_neg (by decide +kernel), if_neg (by decide +kernel), if_pos rfl, split_sp (by simp) (fun w hw => by
      rcases List.mem_cons.mp hw with rfl | hw
      · exact nm_free ok.nm
      · exact kf w hw)]
    dsimp only
    rw [List.map_map]
    have id1 : a.map (unkey ∘ keyL) = a := by
      have : ∀ l : List (Str × Str), (∀ k ∈ l, k.2 = "+" ∨ k.2 = "-") → l.map (unkey ∘ keyL) = l := fun l => by
        induction l with
        | nil => intro _; rfl
        | cons k l ih =>
          intro h
          rw [List.map_cons, ih fun k hk => h k (List.mem_cons_of_mem _ hk)]
          show unkey (keyL k) :: l = _
          rw [unkey_key (h k List.mem_cons_self)]
      exact this a fun k hk => (ok.ks.all k hk).2
    rw [id1]
  | kcas h1 h2 okc h4 =>
    rename_i fs ts ks n a o c
    obtain ⟨r, e⟩ := part_case c
    unfold dec
    rw [e]
    dsimp only
    rw [if_neg (by decide +kernel), if_neg (by decide +kernel), if_pos rfl, readC_line okc]
    dsimp only
    rw [if_neg (by simp), onLast_snoc]
  | born h1 ne h3 hv =>
    rename_i fs ts ks n a o v
    unfold dec
    rw [part_born ne]
    dsimp only
    rw [if_neg (by decide +kernel), if_neg (by decide +kernel), if_neg (by decide +kernel), if_neg (by decide +kernel), if_pos rfl, onLast_snoc, split_sp ne fun w hw => op_free (hv w hw)]
inductive Run : Dft → List Str → Dft → Prop
  | nil (D : Dft) : Run D [] D
  | cons {D D1 D2 : Dft} {l : Str} {ls : List Str} : Nx D l D1 → Run D1 ls D2 → Run D (l :: ls) D2
theorem Run.append {D D1 D2 : Dft} {a b : List Str} (h : Run D a D1) (k : Run D1 b D2) : Run D (a ++ b) D2 := by
  induction h with
  | nil => exact k
  | cons x _ ih => exact .cons x (ih k)
theorem Run.eq {D D1 : Dft} {a : List Str} (h : Run D a D1) : a.foldl dec D = D1 := by
  induction h with
  | nil => rfl
  | cons x _ ih =>
    rw [List.foldl_cons, dec_of x]
    exact ih
theorem Run.at_ {D D1 : Dft} {a : List Str} (h : Run D a D1) : ∀ {i : Nat} {l : Str}, a[i]? = some l → Nx ((a.take i).foldl dec D) l ((a.take (i + 1)).foldl dec D) := by
  induction h with
  | nil => intro i l e; cases e
  | cons x r ih =>
    intro i l e
    cases i with
    | zero =>
      cases e
      show Nx _ _ (dec _ _)
      rw [dec_of x]
      exact x
    | succ i =>
      rw [List.getElem?_cons_succ] at e
      have := ih e
      rw [List.take_succ_cons, List.take_succ_cons, List.foldl_cons, List.foldl_cons, dec_of x]
      exact this
end Bh

set_option Elab.async false
set_option linter.all false
set_option maxRecDepth 100000
set_option maxHeartbeats 1000000
set_option autoImplicit false
namespace Bh
open PySem PySem.Spec PyProof.Rows L2
/-- the fields' words -/
def FsW (fs : List Fld) : Prop := ∀ f ∈ fs, IsNm f.1 ∧ ∀ o ∈ f.2, IsOp o
theorem OkBook.words {fs : List Fld} {ts : List Tie} {ks : List Knd} (h : OkBook fs ts ks) : FsW fs := fun f hf => by
  obtain ⟨i, hi⟩ := List.mem_iff_getElem?.mp hf
  have k := h.fok i f hi
  exact ⟨k.nm, k.op⟩
theorem run_flds : ∀ (gs fs : List Fld), (∀ (i : Nat) (f : Fld), (fs ++ gs)[i]? = some f → OkFld ((fs ++ gs).take i) f) → Run (fs, [], []) (gs.map fldL) (fs ++ gs, [], [])
  | [], fs, _ => by
    rw [List.append_nil]
    exact .nil _
  | g :: gs, fs, h => by
    have e : fs ++ g :: gs = (fs ++ [g]) ++ gs := by simp
    have k := h fs.length g (by rw [List.getElem?_append_right (Nat.le_refl _), Nat.sub_self]; rfl)
    rw [List.take_left] at k
    rw [List.map_cons, e]
    exact .cons (.fld k) (run_flds gs (fs ++ [g]) (by rw [← e]; exact h))
theorem run_tcas {fs : List Fld} (fb : FsB fs) (fw : FsW fs) {ts : List Tie} {n : Str} : ∀ (cs p : List Cas), (∀ c ∈ cs, OkCas fs c) → (p ++ cs).length ≤ 8 → Run (fs, ts ++ [(n, p)], []) (casL cs) (fs, ts ++ [(n, p ++ cs)], [])
  | [], p, _, _ => by
    rw [List.append_nil]
    exact .nil _
  | c :: cs, p, h, l => by
    have e : p ++ c :: cs = (p ++ [c]) ++ cs := by simp
    have hc := h c List.mem_cons_self
    rw [e]
    rw [e, List.length_append, List.length_append] at l
    exact .cons (.tcas fb hc (okC_of fw hc) (by simp only [List.length_cons, List.length_nil] at l; omega)) (run_tcas fb fw cs (p ++ [c]) (fun d hd => h d (List.mem_cons_of_mem _ hd)) (by rw [List.length_append, List.length_append]; exact l))
theorem run_ties {fs : List Fld} (fb : FsB fs) (fw : FsW fs) (ne : fs ≠ []) : ∀ (us ts : List Tie), (∀ t ∈ ts, t.2 ≠ []) → (ts ++ us).length ≤ 4 → ((ts ++ us).map (·.1)).Nodup → (∀ t ∈ us, IsNm t.1 ∧ OkPrg fs t.2) → Run (fs, ts, []) ((us.map tieLs).flatten) (fs, ts ++ us, [])
  | [], ts, _, _, _, _ => by
    rw [List.append_nil]
    exact .nil _
  | u :: us, ts, h0, hl, nd, h => by
    obtain ⟨n, p⟩ := u
    have e : ts ++ (n, p) :: us = (ts ++ [(n, p)]) ++ us := by simp
    obtain ⟨nm, pr⟩ := h (n, p) List.mem_cons_self
    rw [e] at hl nd ⊢
    rw [List.map_cons, List.flatten_cons]
    have l1 : ts.length < 4 := by
      rw [List.length_append, List.length_append] at hl
      simp only [List.length_cons, List.length_nil] at hl
      omega
    have nin : n ∉ ts.map (·.1) := fun m => by
      rw [List.map_append, List.map_append, List.append_assoc, List.nodup_append] at nd
      exact nd.2.2 n m n (by simp) rfl
    have pne : p ≠ [] := fun z => by
      have := pr.lo
      rw [show ((n, p) : Tie).2 = p from rfl, z] at this
      cases this
    refine Run.append (D1 := (fs, ts ++ [(n, p)], [])) (.cons (.tie ne h0 l1 nm nin) ?_) ?_
    · have := run_tcas fb fw (ts := ts) (n := n) p [] pr.all (by rw [List.nil_append]; exact pr.hi)
      rw [List.nil_append] at this
      exact this
    · exact run_ties fb fw ne us (ts ++ [(n, p)]) (fun t ht => by
        rcases List.mem_append.mp ht with ht | ht
        · exact h0 t ht
        · rw [List.mem_singleton.mp ht]; exact pne) hl nd fun t ht => h t (List.mem_cons_of_mem _ ht)
theorem run_kcas {fs : List Fld} (fb : FsB fs) (fw : FsW fs) {ts : List Tie} {ks : List Knd} {n : Str} {a : List (Str × Str)} : ∀ (cs p : List Cas), (∀ c ∈ cs, OkCas fs c) → (p ++ cs).length ≤ 8 → Run (fs, ts, ks ++ [⟨n, a, some p, none⟩]) (casL cs) (fs, ts, ks ++ [⟨n, a, some (p ++ cs), none⟩])
  | [], p, _, _ => by
    rw [List.append_nil]
    exact .nil _
  | c :: cs, p, h, l => by
    have e : p ++ c :: cs = (p ++ [c]) ++ cs := by simp
    have hc := h c List.mem_cons_self
    rw [e]
    rw [e, List.length_append, List.length_append] at l
    exact .cons (.kcas (o := some p) fb hc (okC_of fw hc) (by simp only [List.length_cons, List.length_nil, Option.getD_some] at l ⊢; omega)) (run_kcas fb fw cs (p ++ [c]) (fun d hd => h d (List.mem_cons_of_mem _ hd)) (by rw [List.length_append, List.length_append]; exact l))
theorem run_take {fs : List Fld} (fb : FsB fs) (fw : FsW fs) {ts : List Tie} {ks : List Knd} {n : Str} {a : List (Str × Str)} : ∀ (o : Option (List Cas)), (∀ p, o = some p → OkPrg fs p) → Run (fs, ts, ks ++ [⟨n, a, none, none⟩]) (casL (o.getD [])) (fs, ts, ks ++ [⟨n, a, o, none⟩])
  | none, _ => .nil _
  | some [], h => by
    have := (h [] rfl).lo
    cases this
  | some (c :: cs), h => by
    have pr := h _ rfl
    have hc := pr.all c List.mem_cons_self
    refine .cons (.kcas (o := none) fb hc (okC_of fw hc) (by decide)) ?_
    exact run_kcas fb fw cs [c] (fun d hd => pr.all d (List.mem_cons_of_mem _ hd)) pr.hi
theorem fit_op {fs : List Fld} (fw : FsW fs) {v : List Str} (h : FitV fs v) : ∀ o ∈ v, IsOp o := fun o ho => by
  obtain ⟨i, hi⟩ := List.mem_iff_getElem?.mp ho
  have li : i < fs.length := by
    rw [← h.1]
    exact (List.getElem?_eq_some_iff.mp hi).1
  have ef : fs[i]? = some fs[i] := List.getElem?_eq_getElem li
  exact (fw _ (List.mem_of_getElem? ef)).2 o (h.2 i _ o ef hi)
theorem run_knds {fs : List Fld} (fb : FsB fs) (fw : FsW fs) (fne : fs ≠ []) {ts : List Tie} (ne : ts ≠ []) (h0 : ∀ t ∈ ts, t.2 ≠ []) : ∀ (us ks : List Knd), (ks ++ us).length ≤ 3 → ((ks ++ us).map (·.name)).Nodup → (∀ k ∈ us, OkKnd fs k) → Run (fs, ts, ks) ((us.map kndLs).flatten) (fs, ts, ks ++ us)
  | [], ks, _, _, _ => by
    rw [List.append_nil]
    exact .nil _
  | u :: us, ks, hl, nd, h => by
    obtain ⟨n, a, o, v⟩ := u
    have e : ks ++ ⟨n, a, o, v⟩ :: us = (ks ++ [⟨n, a, o, v⟩]) ++ us := by simp
    have ok := h ⟨n, a, o, v⟩ List.mem_cons_self
    rw [e] at hl nd ⊢
    rw [List.map_cons, List.flatten_cons]
    have l1 : ks.length < 3 := by
      rw [List.length_append, List.length_append] at hl
      simp only [List.length_cons, List.length_nil] at hl
      omega
    have nin : n ∉ ks.map (·.name) := fun m => by
      rw [List.map_append, List.map_append, List.append_assoc, List.nodup_append] at nd
      exact nd.2.2 n m n (by simp) rfl
    have kn : ∀ k ∈ a, IsNm k.1 := fun k hk => by
      obtain ⟨f, hf, e⟩ := List.mem_map.mp (ok.ks.all k hk).1
      rw [← show f.1 = k.1 from e]
      exact (fw f hf).1
    refine Run.append (D1 := (fs, ts, ks ++ [⟨n, a, o, v⟩])) (.cons (.knd fb ne h0 l1 nin ⟨ok.nm, ok.ks, (fun p e => nomatch e), fun p e => nomatch e⟩ kn) (Run.append (D1 := (fs, ts, ks ++ [⟨n, a, o, none⟩])) (run_take fb fw o ok.tk) ?_)) ?_
    · cases v with
      | none => exact .nil _
      | some w =>
        have fv := ok.bt w rfl
        have wne : w ≠ [] := fun z => by
          have := fv.1
          rw [z] at this
          exact fne (List.length_eq_zero_iff.mp this.symm)
        exact .cons (.born fb wne fv (fit_op fw fv)) (.nil _)
    · exact run_knds fb fw fne ne h0 us _ hl nd fun k hk => h k (List.mem_cons_of_mem _ hk)
theorem run_book {fs : List Fld} {ts : List Tie} {ks : List Knd} (h : OkBook fs ts ks) : Run ([], [], []) (bookLs fs ts ks) (fs, ts, ks) := by
  have fne : fs ≠ [] := fun z => by
    have := h.f1
    rw [z] at this
    cases this
  have tne : ts ≠ [] := fun z => by
    have := h.t1
    rw [z] at this
    cases this
  have tp : ∀ t ∈ ts, t.2 ≠ [] := fun t ht z => by
    have := (h.tok t ht).2.lo
    rw [z] at this
    cases this
  refine Run.append (D1 := (fs, ts, [])) (Run.append (D1 := (fs, [], [])) (run_flds fs [] h.fok) ?_) ?_
  · exact run_ties h.fb h.words fne ts [] (fun t ht => nomatch ht) h.t2 h.tnd h.tok
  · exact run_knds h.fb h.words fne tne tp ks [] h.k2 h.knd h.kok
/-- the lines tell the book -/
theorem lines_inj {fs fs' : List Fld} {ts ts' : List Tie} {ks ks' : List Knd} (h : OkBook fs ts ks) (h' : OkBook fs' ts' ks') (e : bookLs fs ts ks = bookLs fs' ts' ks') : fs = fs' ∧ ts = ts' ∧ ks = ks' := by
  have a := (run_book h).eq
  have b := (run_book h').eq
  rw [e, b] at a
  exact ⟨(congrArg (·.1) a).symm, (congrArg (·.2.1) a).symm, (congrArg (·.2.2) a).symm⟩
end Bh

set_option Elab.async false
set_option linter.all false
set_option maxRecDepth 100000
set_option maxHeartbeats 1000000
set_option autoImplicit false
namespace Bh
open PySem PySem.Spec PyProof.Rows L2
/-! ### texts without line ends -/
def NoNl (s : Str) : Prop := 10 ∉ TL.tl s
theorem NoNl.app {a b : Str} (h : NoNl a) (k : NoNl b) : NoNl (a ++ b) := fun m => by
  rw [TL.tl_append] at m
  rcases List.mem_append.mp m with z | z
  · exact h z
  · exact k z
theorem NoNl.join {y : Str} (hy : NoNl y) : ∀ {ps : List Str}, (∀ p ∈ ps, NoNl p) → NoNl (Txt.join y ps)
  | [], _ => by
    rw [TL.join_eq]
    exact fun m => nomatch m
  | [p], h => by
    rw [TL.join_eq]
    exact h p List.mem_cons_self
  | p :: q :: r, h => by
    have e : Txt.join y (p :: q :: r) = p ++ y ++ Txt.join y (q :: r) := by
      rw [TL.join_eq, TL.join_eq]
      rfl
    rw [e]
    exact ((h p List.mem_cons_self).app hy).app (NoNl.join hy fun z hz => h z (List.mem_cons_of_mem _ hz))
theorem nm_nl {n : Str} (h : wordB n letters = true) : NoNl n := word_free (word_letD h) (by decide +kernel)
theorem op_nl {n : Str} (h : wordB n lettersD = true) : NoNl n := word_free h (by decide +kernel)
theorem sign_nn : ∀ s ∈ signs, NoNl s := by
  have : ∀ s ∈ signs, 10 ∉ TL.tl s := by decide +kernel
  exact this
theorem lineT_nl {t : Tst} (h : OkT t) : NoNl (lineT t) := ((nm_nl h.1).app (sign_nn _ h.2.1)).app (op_nl h.2.2)
theorem lineS_nl {s : Stp} (h : OkS s) : NoNl (lineS s) := by
  unfold lineS
  split
  · exact (nm_nl h.1).app (by show 10 ∉ TL.tl "+"; decide +kernel)
  · rename_i n
    exact ((nm_nl h.1).app (by show 10 ∉ TL.tl ":"; decide +kernel)).app (op_nl (h.2.resolve_left n))
theorem lineC_nl {c : Cas} (h : OkC c) : NoNl (lineC c) := by
  have l1 : NoNl (leftL c.1) := by
    unfold leftL
    split
    · show 10 ∉ TL.tl "always"
      decide +kernel
    · refine NoNl.join (by show 10 ∉ TL.tl " and "; decide +kernel) fun p hp => ?_
      obtain ⟨t, ht, rfl⟩ := List.mem_map.mp hp
      exact lineT_nl (h.t t ht)
  have l2 : NoNl (rightL c.2) := by
    cases e : c.2 with
    | none =>
      show 10 ∉ TL.tl "drop"
      decide +kernel
    | some ss =>
      unfold rightL
      dsimp only
      split
      · show 10 ∉ TL.tl "keep"
        decide +kernel
      · refine NoNl.join (by show 10 ∉ TL.tl ", "; decide +kernel) fun p hp => ?_
        obtain ⟨t, ht, rfl⟩ := List.mem_map.mp hp
        exact lineS_nl (h.s ss e t ht)
  unfold lineC
  exact (((show NoNl "when " from by show 10 ∉ TL.tl "when "; decide +kernel).app l1).app (by show 10 ∉ TL.tl " do "; decide +kernel)).app l2
theorem sp_nl : NoNl " " := by show 10 ∉ TL.tl " "; decide +kernel
theorem nx_nl {D E : Dft} {l : Str} (h : Nx D l E) : NoNl l := by
  cases h with
  | fld ok =>
    refine NoNl.join sp_nl fun p hp => ?_
    rcases List.mem_cons.mp hp with rfl | hp
    · show 10 ∉ TL.tl "field"
      decide +kernel
    rcases List.mem_cons.mp hp with rfl | hp
    · exact nm_nl ok.nm.word
    · exact op_nl (ok.op p hp).1
  | tie h1 h2 h3 nm h5 => exact NoNl.app (by show 10 ∉ TL.tl "tie "; decide +kernel) (nm_nl nm.word)
  | tcas h1 h2 okc h4 => exact lineC_nl okc
  | knd h1 h2 h3 h4 h5 ok kn =>
    refine NoNl.join sp_nl fun p hp => ?_
    rcases List.mem_cons.mp hp with rfl | hp
    · show 10 ∉ TL.tl "cell"
      decide +kernel
    rcases List.mem_cons.mp hp with rfl | hp
    · exact nm_nl ok.nm.word
    · obtain ⟨k, hk, rfl⟩ := List.mem_map.mp hp
      refine NoNl.app (nm_nl (kn k hk).word) ?_
      rcases (ok.ks.all k hk).2 with e | e <;> rw [e]
      · show 10 ∉ TL.tl "+"
        decide +kernel
      · show 10 ∉ TL.tl "-"
        decide +kernel
  | kcas h1 h2 okc h4 => exact lineC_nl okc
  | born h1 ne h3 hv =>
    refine NoNl.join sp_nl fun p hp => ?_
    rcases List.mem_cons.mp hp with rfl | hp
    · show 10 ∉ TL.tl "born"
      decide +kernel
    · exact op_nl (hv p hp).1
theorem run_nl {D E : Dft} {ls : List Str} (h : Run D ls E) : ∀ l ∈ ls, NoNl l := by
  induction h with
  | nil => intro l hl; cases hl
  | cons x _ ih =>
    intro l hl
    rcases List.mem_cons.mp hl with rfl | hl
    · exact nx_nl x
    · exact ih l hl
/-! ### the whole text -/
def textL (ls : List Str) : Str := Txt.join "" (ls.map fun l => l ++ "\n")
theorem text_join : ∀ ls : List Str, textL ls = Txt.join "\n" (ls ++ [Str.empty])
  | [] => by
    unfold textL
    rw [TL.join_eq, TL.join_eq]
    rfl
  | l :: ls => by
    have e1 : Txt.join "\n" ((l :: ls) ++ [Str.empty]) = l ++ "\n" ++ Txt.join "\n" (ls ++ [Str.empty]) := by
      cases ls with
      | nil => rw [TL.join_eq, TL.join_eq]; rfl
      | cons a r => rw [TL.join_eq, TL.join_eq]; rfl
    have e2 : textL (l :: ls) = l ++ "\n" ++ textL ls := by
      unfold textL
      cases ls with
      | nil =>
        rw [TL.join_eq, TL.join_eq]
        exact TL.ext_tl (by rw [TL.tl_append]; show _ = _ ++ ([] : List Nat); rw [List.append_nil]; rfl)
      | cons a r =>
        rw [TL.join_eq, TL.join_eq]
        show (l ++ "\n") ++ ("" : Str) ++ _ = _
        exact TL.ext_tl (by rw [TL.tl_append, TL.tl_append, TL.tl_append, show TL.tl (("" : Str)) = [] from by decide +kernel, List.append_nil, TL.tl_append, TL.tl_append])
    rw [e1, e2, text_join ls]
theorem text_split {ls : List Str} (h : ∀ l ∈ ls, NoNl l) : Txt.split (textL ls) "\n" = ls ++ [Str.empty] := by
  rw [text_join]
  refine TL.split_join (y := "\n") (s := 10) (S := []) (by decide +kernel) (by decide +kernel) (by simp) fun p hp => ?_
  rcases List.mem_append.mp hp with hp | hp
  · exact h p hp
  · rw [List.mem_singleton.mp hp]
    exact fun m => nomatch m
theorem text_inj {a b : List Str} (h : ∀ l ∈ a, NoNl l) (k : ∀ l ∈ b, NoNl l) (e : textL a = textL b) : a = b := by
  have := text_split h
  rw [e, text_split k] at this
  exact (List.append_cancel_right this).symm
def textB (fs : List Fld) (ts : List Tie) (ks : List Knd) : Str := textL (bookLs fs ts ks)
theorem textB_inj {fs fs' : List Fld} {ts ts' : List Tie} {ks ks' : List Knd} (h : OkBook fs ts ks) (h' : OkBook fs' ts' ks') : textB fs ts ks = textB fs' ts' ks' ↔ fs = fs' ∧ ts = ts' ∧ ks = ks' :=
  ⟨fun e => lines_inj h h' (text_inj (run_nl (run_book h)) (run_nl (run_book h')) e), fun ⟨a, b, c⟩ => by rw [a, b, c]⟩
end Bh

set_option Elab.async false
set_option linter.all false
set_option maxRecDepth 100000
set_option maxHeartbeats 2000000
namespace Bh
open PySem PySem.Spec PyProof.Rows L2
/-! ### own == and repr -/
/-- x == y by the class's own __eq__; y an instance of the class, or a tuple -/
def rEqIns (K : PySem.W.Frag) (C : Addr) (sp : Sp) : R2 := fun x y H Q => ∃ (a dx : Addr) (fs : List (Str × V)), x = .ref a ∧ H a = some (.ins C dx fs) ∧
  ((∃ (b dy : Addr) (gs : List (Str × V)), y = .ref b ∧ H b = some (.ins C dy gs)) ∨ ∃ (b : Addr) (zs : List V), y = .ref b ∧ SqT K H b zs) ∧ sp [x, y] H (fun v H' => (∃ r, v = .bl r) ∧ Q v H') C8.E0
section
variable {X : Cx} {C f : Addr} {fd : FuncData} {k : Nat} {sp : Sp} {p1 p2 : Str}
/-- the def f called with two values by the interpreter itself -/
theorem own_two (F : FnOk X.prog X.w X.K X.mg X.base C8.CX0 k f fd [p1, p2] sp) (hb : Binds X.K fd [p1, p2] []) {A : Around} (hr : Room k A) (fr : A.frames = X.A.frames) {pins : List (Addr × Obj)} {s : Shared} {σ : L2.St} {H : Hp} {x y : V} {u v : Value} {Q : VK} {E : Value → Shared → Prop}
    (I : Inv X pins σ H s) (rx : RelV x u) (ry : RelV y v) (h : sp [x, y] H Q C8.E0) : wpAny (model X.prog X.w) A (call (.ref f) [u, v]) (EP X pins σ Q) E s := by
  have en := I.env0
  have e0 : Env0 X.prog X.w X.K X.mg X.base A X.stack s H := ⟨by rw [fr]; exact en.frames, en.mod, en.bs, en.bsz, en.funs, en.frf, en.hok, en.bare⟩
  have bnd := hb s [u, v] I.kIn rfl
  rw [List.append_nil] at bnd
  refine wpAny_call (codeAny_mono (F.run A X.stack s H ⟨[u, v], []⟩ [u, v] [x, y] Q C8.E0 hr e0 bnd (.cons rx (.cons ry .nil)) h) fun r s2 z => ?_)
  cases r with
  | error e => exact (show False from z).elim
  | ok fl =>
    cases fl with
    | ret w => exact I.after z
    | next => exact z.elim
    | brk => exact z.elim
    | cont => exact z.elim
theorem op_eqIns (F : FnOk X.prog X.w X.K X.mg X.base C8.CX0 k f fd [p1, p2] sp) (hs : PySem.W.findIn X.K (.ref C) "__eq__" = some (some (.ref f))) (hf : PySem.W.isFn X.K (.ref f) = true) (hb : Binds X.K fd [p1, p2] []) (hr : Room k X.A)
    (ht : PySem.W.subIn X.K (.type "tuple") (.ref C) = some false) : OpR X (compareOp .Eq) (rEqIns X.K C sp) := by
  intro pins s σ H x y v u Q I rx ry h
  obtain ⟨a, dx, fs, rfl, ha, hy, hsp⟩ := h
  cases rx
  obtain ⟨mA, J, _⟩ := ins_get I.hok ha
  obtain ⟨od, J, _⟩ := J.look
  obtain ⟨m, hF⟩ := I.fr
  have body := own_two F hb hr rfl (E := X.xe) I (x := .ref a) (y := y) (u := .ref a) (v := u) rfl ry hsp
  show wpAny (model X.prog X.w) X.A (richCompare .Eq (.ref a) u) (EP X pins σ Q) X.xe s
  have go : ∀ tb, PySem.W.Looks (model X.prog X.w) s.heap (typeOf u) tb → PySem.W.notFirst X.K C tb = true → wpAny (model X.prog X.w) X.A (richCompare .Eq (.ref a) u) (EP X pins σ Q) X.xe s := fun tb h1 h2 => by
    refine PySem.W.cmp_K (op := .Eq) (tb := tb) hr.units0 hF I.ok.mod.kin J h1 h2 hs hf (wpAny_mono body (fun w s' z => ?_) fun _ _ e => e)
    obtain ⟨vr, H', I', rv, ⟨r, rfl⟩, q⟩ := z
    cases rv
    exact ⟨.bl r, H', I', rfl, q⟩
  rcases hy with ⟨b, dy, gs, rfl, hb'⟩ | ⟨b, zs, rfl, hz⟩
  · cases ry
    obtain ⟨mB, J', _⟩ := ins_get I.hok hb'
    obtain ⟨od', J', _⟩ := J'.look
    exact go _ J'.type (by simp [PySem.W.notFirst])
  · cases ry
    obtain ⟨its, _, pl, _⟩ := I.tuple hz
    obtain ⟨ob, ho, hc, _⟩ := id pl
    exact go (.type "tuple") (hc ▸ (PySem.W.Looks.ld ho).andThen .now) (by unfold PySem.W.notFirst; rw [ht]; rfl)
/-- repr(x) by the class's own __repr__ -/
def rReprIns (C : Addr) (sp : Sp) : List V → Hp → VK → Prop := fun xs H Q => ∃ (a dx : Addr) (fs : List (Str × V)), xs = [.ref a] ∧ H a = some (.ins C dx fs) ∧ sp xs H (fun v H' => (∃ r, v = .str r) ∧ Q v H') C8.E0
theorem own_one (F : FnOk X.prog X.w X.K X.mg X.base C8.CX0 k f fd [p1] sp) (hb : Binds X.K fd [p1] []) {A : Around} (hr : Room k A) (fr : A.frames = X.A.frames) {pins : List (Addr × Obj)} {s : Shared} {σ : L2.St} {H : Hp} {x : V} {u : Value} {Q : VK} {E : Value → Shared → Prop}
    (I : Inv X pins σ H s) (rx : RelV x u) (h : sp [x] H Q C8.E0) : wpAny (model X.prog X.w) A (call (.ref f) [u]) (EP X pins σ Q) E s := by
  have en := I.env0
  have e0 : Env0 X.prog X.w X.K X.mg X.base A X.stack s H := ⟨by rw [fr]; exact en.frames, en.mod, en.bs, en.bsz, en.funs, en.frf, en.hok, en.bare⟩
  have bnd := hb s [u] I.kIn rfl
  rw [List.append_nil] at bnd
  refine wpAny_call (codeAny_mono (F.run A X.stack s H ⟨[u], []⟩ [u] [x] Q C8.E0 hr e0 bnd (.cons rx .nil) h) fun r s2 z => ?_)
  cases r with
  | error e => exact (show False from z).elim
  | ok fl =>
    cases fl with
    | ret w => exact I.after z
    | next => exact z.elim
    | brk => exact z.elim
    | cont => exact z.elim
theorem call_reprIns (F : FnOk X.prog X.w X.K X.mg X.base C8.CX0 k f fd [p1] sp) (hs : PySem.W.findIn X.K (.ref C) "__repr__" = some (some (.ref f))) (hf : PySem.W.isFn X.K (.ref f) = true) (hb : Binds X.K fd [p1] []) (hr : Room (k + 1) X.A) : CallR X (.builtin "repr") (rReprIns C sp) := by
  intro pins s σ H xs us Q I r h
  obtain ⟨a, dx, fs, rfl, ha, hsp⟩ := h
  obtain ⟨u, rfl, rx⟩ := vals1 r
  cases rx
  obtain ⟨mA, J, _⟩ := ins_get I.hok ha
  obtain ⟨od, J, _⟩ := J.look
  obtain ⟨m, hF⟩ := I.fr
  have body := own_one F hb hr.in1 rfl (E := X.xe) I (x := .ref a) (u := .ref a) rfl hsp
  refine PySem.W.repr_K hr.in1.units0 hF I.ok.mod.kin J hs hf (wpAny_mono body (fun w s' z => ?_) fun _ _ e => e)
  obtain ⟨vr, H', I', rv, ⟨r, rfl⟩, q⟩ := z
  obtain ⟨t, rfl⟩ := rv
  exact ⟨.str r, H', I', ⟨t, rfl⟩, q⟩
/-- the class's own names: its __eq__, no __ne__ -/
def nsB (K : PySem.W.Frag) (N f : Addr) : Bool := match K.lookup N with
  | some ⟨_, _, .dict es _, _⟩ => (es.toList.all fun e => match e.key with
      | .str _ _ => true
      | _ => false) && (decide (nsFind es "__eq__" = some (.ref f)) && decide (nsFind es "__ne__" = none))
  | _ => false
/-- a class over object alone -/
structure NeC (K : PySem.W.Frag) (C f : Addr) : Prop where
  lk : ∃ nm q N bs hdct sn sub ab col dd k0 k1 k2 k3 k5 newId, K.lookup C = some (excClassObj nm q C N bs [.type "object"] hdct sn sub ab col dd k0 k1 k2 k3 k5 newId) ∧ nsB K N f = true
  fn : ∃ o : Obj, K.lookup f = some o ∧ o.cls = .type "function"
theorem NeC.own {K : PySem.W.Frag} {C f x : Addr} {h : Heap} {ox : Obj} (c : NeC K C f) (X : K.In h) (hx : h.get? x = some ox) (hc : ox.cls = .ref C) : h.OwnEqNoNe x C f "object" [.type "object"] := by
  obtain ⟨nm, q, N, bs, hdct, sn, sub, ab, col, dd, k0, k1, k2, k3, k5, newId, lk, hn⟩ := c.lk
  obtain ⟨of, lf, cf⟩ := c.fn
  unfold nsB at hn
  cases e : K.lookup N with
  | none => rw [e] at hn; cases hn
  | some o =>
    obtain ⟨oc, od, dt, osl⟩ := o
    rw [e] at hn
    cases dt with
    | dict es ep =>
      have hn : ((es.toList.all fun e => match e.key with
        | .str _ _ => true
        | _ => false) && (decide (nsFind es "__eq__" = some (.ref f)) && decide (nsFind es "__ne__" = none))) = true := hn
      rw [Bool.and_eq_true, Bool.and_eq_true, decide_eq_true_eq, decide_eq_true_eq] at hn
      obtain ⟨n1, n2, n3⟩ := hn
      have sk : StrKeys es := fun u hu => by
        have z := List.all_eq_true.mp n1 u (Array.mem_toList_iff.mpr hu)
        cases ek : u.key with
        | str a b => exact ⟨a, b, rfl⟩
        | _ => rw [ek] at z; cases z
      exact ⟨ox, of, nm, q, N, bs, hdct, sn, sub, ab, col, dd, k0, k1, k2, k3, k5, newId, nsFind es, _, hx, hc, X _ _ lk, ⟨_, es, ep, X _ _ e, rfl, sk, fun _ => rfl⟩, n2, X _ _ lf, cf, F.cmp_object.mro, F.cmp_object.eq.lookup, n3⟩
    | _ => cases hn
/-- x != y of two instances of a class with its own __eq__ -/
def rNeIns (C : Addr) (sp : Sp) : R2 := fun x y H Q => ∃ (a dx : Addr) (fs : List (Str × V)) (b dy : Addr) (gs : List (Str × V)), x = .ref a ∧ H a = some (.ins C dx fs) ∧ y = .ref b ∧ H b = some (.ins C dy gs) ∧ sp [x, y] H (fun v H' => ∃ r, v = .bl r ∧ Q (.bl (!r)) H') C8.E0
theorem op_neIns (F : FnOk X.prog X.w X.K X.mg X.base C8.CX0 k f fd [p1, p2] sp) (c : NeC X.K C f) (hb : Binds X.K fd [p1, p2] []) (hr : Room (k + 1) X.A) : OpR X (compareOp .NotEq) (rNeIns C sp) := by
  intro pins s σ H x y v u Q I rx ry h
  obtain ⟨a, dx, fs, b, dy, gs, rfl, ha, rfl, hb', hsp⟩ := h
  cases rx
  cases ry
  obtain ⟨mA, J, _⟩ := ins_get I.hok ha
  obtain ⟨od, J, _⟩ := J.look
  obtain ⟨mB, J', _⟩ := ins_get I.hok hb'
  obtain ⟨od', J', _⟩ := J'.look
  have body := own_two F hb hr.in1 rfl (E := X.xe) I (x := .ref a) (y := .ref b) (u := .ref a) (v := .ref b) rfl rfl hsp
  refine compareOp_ne_ownEq PySem.F.cmp_object (c.own I.kIn J.at_ J.cls) J'.at_ J'.cls (by have := hr.units; omega) (wpAny_mono body (fun w s' z => ?_) fun _ _ e => e)
  obtain ⟨vr, H', I', rv, r, rfl, q⟩ := z
  cases rv
  exact ⟨r, rfl, .bl (!r), H', I', rfl, q⟩
end
end Bh

set_option Elab.async false
set_option linter.all false
set_option maxRecDepth 100000
set_option maxHeartbeats 2000000
set_option autoImplicit false
namespace Bh
open PySem PySem.Spec PyProof.Rows L2
/-! ### dicts whose keys are tuples: del d[t], a comprehension -/
theorem paired_filter {α β : Type} {F : α → β → Prop} {p : α → Bool} {q : β → Bool} (e : ∀ a b, F a b → p a = q b) : ∀ {as : List α} {bs : List β}, Paired F as bs → Paired F (as.filter p) (bs.filter q)
  | _, _, .nil => .nil
  | _, _, .cons h t => by
    have ih := paired_filter e t
    simp only [List.filter_cons, e _ _ h]
    split
    · exact .cons h ih
    · exact ih
theorem KT_without {H : Hp} (k : List L2.Key) {kvs : List (List L2.Key × V)} {xs : List (List L2.Key × Addr × Value)} (r : KT H kvs xs) : KT H (dropK kvs k) (withoutH xs k) :=
  paired_filter (fun a b h => by rw [h.1]) r
section
variable {X : Cx} {pins : List (Addr × Obj)} {σ : L2.St} {H : Hp} {s : Shared} {E : Value → Shared → Prop} {a b D : Addr} {kvs : List (List L2.Key × V)} {k : List L2.Key} {v : V} {r : Value}
/-- another table of tuples at a -/
theorem dt_back {h' : Heap} {t' : Nat} {kvs' : List (List L2.Key × V)} {xs' : List (List L2.Key × Addr × Value)} (I : Inv X pins σ H s) (e : H a = some (.dT kvs)) (r : KT H kvs' xs') (few : kvs'.length ≤ sizeLine) (d : h'.DictOfH (tupleKind (mixKind X.prog X.w)) a xs') (sb : Heap.SameBut a s.heap h') :
    Inv X pins σ (upd H a (.dT kvs')) { s with heap := h', toks := t' } := by
  have nm := (dt_of I.hok e).2.1
  have ks : KT (upd H a (.dT kvs')) kvs' xs' := KT.keeps r fun c ys ec => (upd_ne (ne_of ec e (fun z => nomatch z))).trans ec
  obtain ⟨o, es, ep, g, x, da, en, _, nd⟩ := d
  exact d_write I (by rw [e]; exact True.intro) sb ⟨o, g⟩ ⟨few, nm, xs', ks, o, es, ep, g, x, da, en, nd⟩
theorem d_delT {A : Around} {Q : Unit → Shared → Prop} (hu : A.units + 1 < cLine) (I : Inv X pins σ H s) (e : H a = some (.dT kvs)) (eb : H b = some (.tup (k.map kV))) (l : (valV kvs k).isSome = true) (h : ∀ s', Inv X pins σ (upd H a (.dT (dropK kvs k))) s' → Q () s') :
    wpAny (model X.prog X.w) A (delItem (.ref a) (.ref b)) Q E s := by
  obtain ⟨few, nm, xs, r, d⟩ := dt_of I.hok e
  obtain ⟨p, hp⟩ : ∃ p, atKey xs k = some p := by
    have q := (r.val k).isSome_eq
    rw [Option.isSome_map, l] at q
    exact Option.isSome_iff_exists.mp q.symm
  exact wpAny_delItem_heap (hsz := Nat.le_trans (Nat.le_of_eq (Paired.length r).symm) few) (tupleKind_room_in1 hu) (key_of I.hok eb) nm d hp fun h' d' sb => h _ (dt_back I e (KT_without k r) (Nat.le_trans (dropK_le kvs k) few) d' sb)
theorem d_dictSetT {Q : Unit → Shared → Prop} (hu : X.A.units + 1 < cLine) (I : Inv X pins σ H s) (e : H D = some (.dT kvs)) (eb : H b = some (.tup (k.map kV))) (hl : kvs.length < sizeLine)
    (rv : RelV v r) (h : ∀ s', Inv X pins σ (upd H D (.dT (putK kvs k v))) s' → Q () s') : wpAny (model X.prog X.w) X.A (dictSet D (.ref b) r) Q E s := by
  obtain ⟨few, nm, xs, rel, d⟩ := dt_of I.hok e
  exact wpAny_dictSet_heap (hsz := Nat.le_trans (Nat.le_of_eq (Paired.length rel).symm) few) (show (tupleKind (mixKind X.prog X.w)).room X.A from Nat.lt_of_succ_lt hu) (key_of I.hok eb) d fun h' d' sb => h _ (dt_back I e (rel.put k eb rv) (Nat.le_trans (length_putK kvs k v) hl) d' sb)
end
/-- del d[y], y a tuple -/
def sDDelT (td ty : TE) : TS := fun D σ H => td σ H fun x H1 => ty σ H1 fun y H2 => ∃ (a b : Addr) (kvs : List (List L2.Key × V)) (k : List L2.Key), x = .ref a ∧ y = .ref b ∧ H2 a = some (.dT kvs) ∧ H2 b = some (.tup (k.map kV)) ∧ (valV kvs k).isSome = true ∧ D.nx σ (upd H2 a (.dT (dropK kvs k)))
section
variable {X : Cx} {o i : Expr} {pos tpos : Pos} {td ty : TE}
theorem ps_ddelT (hu : X.A.units + 1 < cLine) (ho : PE X o td) (hi : PE X i ty) : PS X (.Delete [.Subscript o i tpos] pos) (sDDelT td ty) := by
  refine ⟨fun pins s σ H D I h => ?_⟩
  refine wpAny_Delete (wpAny_deleteEach_cons (wpAny_delete_Subscript (thn (ho.run pins s σ H _ I h) fun u s1 ⟨x, H1, I1, rx, q1⟩ => thn (hi.run pins s1 σ H1 _ I1 q1) fun iv s2 ⟨y, H2, I2, ry, a, b, kvs, k, ex, ey, e, eb, l, q2⟩ => ?_)))
  subst ex ey
  obtain rfl : u = Value.ref a := rx
  obtain rfl : iv = Value.ref b := ry
  exact d_delT hu I2 e eb l fun s3 I3 => wpAny_deleteEach_nil ⟨σ, _, I3, q2⟩
end
/-! ### {t: v for target in iter if ..}, the keys tuples -/
def tDcT (wi : TI) (g : TG) (tt : TT) (tk tv : TE) (vs : List Nat) : TE := fun σ H Q => wi σ H fun J H1 => ∀ D, H1 D = none → ∃ W : Nat → Nat → Hp → Prop, (∃ m, W 0 m (upd H1 D (.dT []))) ∧ ∀ i m h0, W i m h0 →
  (J.stop i h0 ∧ Q (.ref D) h0) ∨ (J.go i h0 ∧ ∃ Nx : Hp → Prop, (∀ h1, Nx h1 → ∃ m', m' < m ∧ W (i + 1) m' h1) ∧ ∀ x h1, J.yld i h0 x h1 → g x (wipe σ vs) h1 fun σ2 h2 => wipe σ2 vs = wipe σ vs ∧ tt σ2 h2 fun b h3 =>
    if b = true then tk σ2 h3 fun y h4 => tv σ2 h4 fun z h5 => ∃ (kvs : List (List L2.Key × V)) (k : List L2.Key) (q : Addr), y = .ref q ∧ h5 q = some (.tup (k.map kV)) ∧ h5 D = some (.dT kvs) ∧ kvs.length < sizeLine ∧ Nx (upd h5 D (.dT (putK kvs k z))) else Nx h3)
section
variable {X : Cx}
theorem pe_dcT {kx vx tg iter : Expr} {ifs : List Expr} {scope : Scope} {own : List (Str × Nat)} {pos : Pos} {wi : TI} {g : TG} {tt : TT} {tk tv : TE} (hu : X.A.units + 1 < cLine) (calm : X.calm = true) (nd : X.N.Nodup) (hi : PI X tg iter wi) (blk : BlkOk X.N X.env.scope scope own)
    (hg : ∀ s H C cl fp, PG (X.blk s H scope (compEnvC scope cl C X.env) fp) tg g) (ht : ∀ s H C cl fp, PTs (X.blk s H scope (compEnvC scope cl C X.env) fp) ifs tt)
    (hk : ∀ s H C cl fp, PE (X.blk s H scope (compEnvC scope cl C X.env) fp) kx tk) (hv : ∀ s H C cl fp, PE (X.blk s H scope (compEnvC scope cl C X.env) fp) vx tv) (hs : ∀ x, foldedSetIterable iter X.env x = pure x := by intro _; rfl) :
    PE X (.DictComp kx vx [⟨tg, iter, ifs, 0⟩] scope pos) (tDcT wi g tt tk tv (own.map (·.2))) := by
  constructor
  intro pins s σ H Q I h
  rw [arm_eval_DictComp]
  have caught : ∀ y ∈ scope.names, y.2 = .free → ∃ c, X.env.cells.lookup y.1 = some c := fun y hy e => (blk.free y hy e).elim (fun k => I.ok.has _ (.inl k)) fun k => I.ok.has _ (.inr k)
  apply wpAny_comprehension_free (use := none) rfl hs (closure_ok caught) blk.kind (fun y hy e => (blk.uniq y hy).trans (congrArg some e))
  refine thn (hi.run pins s σ H _ I h) fun w1 t1 k1 => thn k1 fun w2 t2 k2 => ?_
  obtain ⟨it, fp, tn, J, Ha, rfl, Ia, T, sta, fa, q⟩ := k2
  refine wpAny_newObj_type (newEnv_comp ?_)
  obtain ⟨D, hD⟩ : ∃ D, D = t2.heap.objs.size := ⟨_, rfl⟩
  have freeD : Ha D = none := Ia.hok.fresh (Nat.le_of_eq hD.symm)
  obtain ⟨W, ⟨m0, w0⟩, turn⟩ := q D freeD
  rw [← hD]
  obtain ⟨t3, h3⟩ : ∃ t3 : Shared, t3 = { t2 with heap := t2.heap.push { cls := .type "dict", data := .dict #[] } } := ⟨_, rfl⟩
  obtain ⟨Hb, hb⟩ : ∃ Hb, Hb = upd Ha D (.dT []) := ⟨_, rfl⟩
  have keep3 : ∀ b o, t2.heap.get? b = some o → t3.heap.get? b = some o := fun b o e => by subst h3; exact Heap.get?_push_of_some _ e
  have Ib : Inv X pins σ Hb t3 := by
    subst h3 hb
    exact Ia.laid (t' := t2.toks) (fun b o e => Heap.get?_push_of_some _ e) (Nat.le_of_eq hD.symm) (by rw [hD]; exact dt_empty t2.heap Ia.big)
  have low : ∀ b ∈ fp, b < t2.heap.objs.size := fun b m => (T.obj _ _ sta b m).elim fun o e => Heap.lt_size e.1
  have size3 : t3.heap.objs.size = t2.heap.objs.size + 1 := by subst h3; exact Heap.size_push _ _
  have fb : ∀ b ∈ fp, FpOk X pins Hb b ∧ b < t3.heap.objs.size := fun b m => by
    have l := low b m
    refine ⟨⟨?_, (fa b m).2⟩, Nat.lt_of_lt_of_le l (by rw [size3]; exact Nat.le_succ _)⟩
    subst hb
    rw [upd_ne (by rw [hD]; exact Nat.ne_of_lt l)]
    exact (fa b m).1
  have Ic := block_start Ib blk nd fb
  have nofp : ∀ b ∈ fp, Hb b = none := fun b m => (fb b m).1.1
  rw [show ({ t2 with heap := t2.heap.push { cls := .type "dict", data := .dict #[] } } : Shared) = t3 from h3.symm]
  obtain ⟨cells, hcells⟩ : ∃ l, l = cellsFrom (t3.heap.objs.size + 1) scope.names (cloFrom X.env.cells scope.names []) := ⟨_, rfl⟩
  rw [← hcells] at Ic ⊢
  have runG := hg t3 Hb t3.heap.objs.size cells fp
  have runT := ht t3 Hb t3.heap.objs.size cells fp
  have runK := hk t3 Hb t3.heap.objs.size cells fp
  have runV := hv t3 Hb t3.heap.objs.size cells fp
  obtain ⟨ce, hce⟩ : ∃ ce, ce = compEnvC scope cells t3.heap.objs.size X.env := ⟨_, rfl⟩
  have ceL : ce.locals = t3.heap.objs.size := by subst hce; rfl
  show codeAny _ _ (.compStart (.DictComp kx vx [⟨tg, iter, ifs, 0⟩] scope pos) 0 (.ref it) (.ref D) (compEnvC scope cells t3.heap.objs.size X.env)) (compPost (model X.prog X.w) X.A X.xe none (EP X pins σ Q) (.ref D) t3.heap.objs.size) { t3 with heap := pushCells (t3.heap.push { cls := .type "dict", data := .dict #[] }) scope.names }
  rw [← hce] at Ic runG runT runK runV ⊢
  rw [← hb] at w0
  obtain ⟨t4, h4⟩ : ∃ t4 : Shared, t4 = { t3 with heap := pushCells (t3.heap.push { cls := .type "dict", data := .dict #[] }) scope.names } := ⟨_, rfl⟩
  rw [← h4] at Ic ⊢
  have st3 : tn 0 t3.heap := T.keep _ _ _ sta fun b _ o e => keep3 b o e
  have st4 : tn 0 t4.heap := T.keep _ _ _ st3 fun b _ o e => by subst h4; exact pushCells_keeps _ _ _ _ (Heap.get?_push_of_some _ e)
  have own' : ∀ {σ' : L2.St} {H' : Hp} {s' : Shared}, Inv (X.blk t3 Hb scope ce fp) [] σ' H' s' → (∀ b ∈ fp, H' b = none) → ∀ b ∈ fp, FpOk (X.blk t3 Hb scope ce fp) [] H' b := fun J' n b m =>
    ⟨n b m, (J'.ok.exf b m).1, J'.ok.exfs b m, .inl m, fun x c e => (J'.ok.exf b m).2 x c e, fun p hp => by cases (show p ∈ ([] : List (Addr × Obj)) from hp)⟩
  have loop : codeAny (model X.prog X.w) X.A (.compLoop (.DictComp kx vx [⟨tg, iter, ifs, 0⟩] scope pos) 0 (.ref it) (.ref D) ce) (compPost (model X.prog X.w) X.A X.xe none (EP X pins σ Q) (.ref D) t3.heap.objs.size) t4 := by
    apply compLoop_anyD (fun n s' => ∃ i H', Inv (X.blk t3 Hb scope ce fp) [] (wipe σ (own.map (·.2))) H' s' ∧ tn i s'.heap ∧ (∀ b ∈ fp, H' b = none) ∧ W i n H') ?_ m0 ⟨0, Hb, Ic, st4, nofp, w0⟩
    intro n s5 ⟨i, H5, I5, st5, n5, w5⟩
    rcases turn i n H5 w5 with ⟨stop, fin⟩ | ⟨go, Nx, more, step⟩
    · refine thnF (T.done (X.blk t3 Hb scope ce fp) rfl rfl rfl calm i [] s5 _ H5 (fun _ _ => False) I5 (own' I5 n5) st5 stop) fun r s6 k6 => ?_
      obtain ⟨rfl, I6⟩ := k6
      have back : Inv X pins σ H5 s6 := Ib.call' (ch := fp) I6.os I6.base I6.hok I6.bare fun b m => ⟨(fb b m).1.2.2.2.1, (fb b m).1.2.1, (fb b m).1.2.2.2.2.1, (fb b m).1.2.2.2.2.2⟩
      have gone : H5 t3.heap.objs.size = none := ceL ▸ (show H5 ce.locals = none from I6.free)
      obtain ⟨m, ns, _⟩ := I6.loc
      have ns : s6.heap.Ns t3.heap.objs.size m := ceL ▸ (show s6.heap.Ns ce.locals m from ns)
      obtain ⟨f0, f1, f2, f3, f4, f5⟩ := Ib.fpOk (H' := H5) (Nat.le_refl _) gone
      exact ⟨m, ns, fun h'' sb => ⟨.ref D, H5, back.turned (t' := s6.toks) (fun b o hb e => (sb.2 b hb).trans e) f0 f1 f3 f4 f5, rfl, fin⟩⟩
    · refine thnF (T.item (X.blk t3 Hb scope ce fp) rfl rfl rfl calm i [] s5 _ H5 (fun _ _ => False) I5 (own' I5 n5) st5 go) fun r s6 k6 => ?_
      obtain ⟨u, rfl, k6⟩ := k6
      refine thnF k6 fun _ s7 k7 => ?_
      obtain ⟨x, H7, I7, r7, y7, st7, n7⟩ := k7
      have held := T.obj _ _ st7
      have turnEnd : ∀ {σ8 : L2.St} {H' : Hp} {s' : Shared}, wipe σ8 (own.map (·.2)) = wipe σ (own.map (·.2)) → Inv (X.blk t3 Hb scope ce fp) ([] ++ pinsAt fp s7.heap) σ8 H' s' → Nx H' →
          ∃ m, m < n ∧ ∃ i H', Inv (X.blk t3 Hb scope ce fp) [] (wipe σ (own.map (·.2))) H' s' ∧ tn i s'.heap ∧ (∀ b ∈ fp, H' b = none) ∧ W i m H' := by
        intro σ8 H' s' e8 J' nx
        obtain ⟨m', lt, w'⟩ := more H' nx
        have still : ∀ b ∈ fp, ∀ o, s7.heap.get? b = some o → s'.heap.get? b = some o ∧ H' b = none := fun b hb o e => by
          obtain ⟨z1, z2, _⟩ := J'.pin (b, o) (List.mem_append_right _ (List.mem_append_right _ (mem_pinsAt hb e)))
          exact ⟨z1, z2⟩
        have J2 : Inv (X.blk t3 Hb scope ce fp) [] σ8 H' s' := J'.unpinned (pins := [])
        refine ⟨m', lt, i + 1, H', J2.weak (by rw [← e8, wipe_length]) (fun j v e => (wipe_some (vs := own.map (·.2)) (by rw [e8]; exact e)).1), T.keep _ _ _ st7 fun b hb o e => (still b hb o e).1, fun b hb => ?_, w'⟩
        obtain ⟨o, e, _⟩ := held b hb
        exact (still b hb o e).2
      refine thnF (runG.run _ s7 _ H7 x u _ (I7.pinned (own' I7 n7) held) r7 (step x H7 y7)) fun _ s8 k8 => ?_
      obtain ⟨σ8, H8, I8, e8, q8⟩ := k8
      refine thnF (runT.run _ s8 σ8 H8 _ I8 q8) fun b s9 k9 => ?_
      obtain ⟨H9, I9, q9⟩ := k9
      by_cases kept : b = true
      · rw [if_pos kept] at q9 ⊢
        refine thnF (runK.run _ s9 σ8 H9 _ I9 q9) fun z s10 k10 => ?_
        obtain ⟨y, H10, I10, r10, q10⟩ := k10
        refine thnF (runV.run _ s10 σ8 H10 _ I10 q10) fun z2 s11 k11 => ?_
        obtain ⟨y2, H11, I11, r11, kvs, k, qa, rfl, eq, eD, few, nx⟩ := k11
        cases r10
        exact d_dictSetT (X := X.blk t3 Hb scope ce fp) hu I11 eD eq few r11 fun s12 I12 => turnEnd e8 I12 nx
      · rw [if_neg kept] at q9 ⊢
        exact turnEnd e8 I9 q9
  exact codeAny_compStart_dict loop (T.self _ 0 _ _ _ st4 loop)
end
/-- it over a walk -/
theorem dcT_it {J : It} {n : Nat} {G : Hp → Prop} {Y : Nat → Hp → V → Hp → Prop} (w : Walk J n G Y) {g : TG} {tt : TT} {tk tv : TE} {vs : List Nat} {σ : L2.St} {H1 : Hp} {D : Addr} {Qd : Hp → Prop} (Pv : Nat → Hp → Prop) (h0 : Pv 0 (upd H1 D (.dT []))) (hG : ∀ i H, i ≤ n → Pv i H → G H)
    (hs : ∀ i x H H', i < n → Pv i H → Y i H x H' → g x (wipe σ vs) H' fun σ2 h2 => wipe σ2 vs = wipe σ vs ∧ tt σ2 h2 fun b h3 =>
      if b = true then tk σ2 h3 fun y h4 => tv σ2 h4 fun z h5 => ∃ (kvs : List (List L2.Key × V)) (k : List L2.Key) (q : Addr), y = .ref q ∧ h5 q = some (.tup (k.map kV)) ∧ h5 D = some (.dT kvs) ∧ kvs.length < sizeLine ∧ Pv (i + 1) (upd h5 D (.dT (putK kvs k z))) else Pv (i + 1) h3) (hd : ∀ H, Pv n H → Qd H) :
    ∃ W : Nat → Nat → Hp → Prop, (∃ m, W 0 m (upd H1 D (.dT []))) ∧ ∀ i m h0, W i m h0 →
      (J.stop i h0 ∧ Qd h0) ∨ (J.go i h0 ∧ ∃ Nx : Hp → Prop, (∀ h1, Nx h1 → ∃ m', m' < m ∧ W (i + 1) m' h1) ∧ ∀ x h1, J.yld i h0 x h1 → g x (wipe σ vs) h1 fun σ2 h2 => wipe σ2 vs = wipe σ vs ∧ tt σ2 h2 fun b h3 =>
        if b = true then tk σ2 h3 fun y h4 => tv σ2 h4 fun z h5 => ∃ (kvs : List (List L2.Key × V)) (k : List L2.Key) (q : Addr), y = .ref q ∧ h5 q = some (.tup (k.map kV)) ∧ h5 D = some (.dT kvs) ∧ kvs.length < sizeLine ∧ Nx (upd h5 D (.dT (putK kvs k z))) else Nx h3) := by
  refine ⟨fun i m h => i ≤ n ∧ m + i = n ∧ Pv i h, ⟨n, Nat.zero_le _, rfl, h0⟩, fun i m h z => ?_⟩
  obtain ⟨le, em, p⟩ := z
  have gd := hG i h le p
  rcases Nat.lt_or_ge i n with lt | ge
  · exact .inr ⟨w.goes i h lt gd, Pv (i + 1), fun h1 p1 => ⟨m - 1, by omega, lt, by omega, p1⟩, fun x h1 y => hs i x h h1 lt p (w.yields i h x h1 lt gd y)⟩
  · have e : i = n := Nat.le_antisymm le ge
    rw [e] at p ⊢
    exact .inl ⟨w.stops h gd, hd h p⟩
end Bh

set_option Elab.async false
set_option linter.all false
set_option maxRecDepth 100000
set_option maxHeartbeats 2000000
set_option autoImplicit false
namespace Bh
open PySem PySem.Spec PyProof.Rows L2
/-! ### a class's own in, len, [] and []= -/
section
variable {X : Cx} {C f : Addr} {fd : FuncData} {k : Nat} {sp : Sp} {ps : List Str} {CX : CXT} {EX : XK}
/-- the interpreter itself calls the def f -/
theorem own_call (F : FnOk X.prog X.w X.K X.mg X.base CX k f fd ps sp) (hb : Binds X.K fd ps []) (hx : Passes CX X EX) {A : Around} (hr : Room k A) (fr : A.frames = X.A.frames) {pins : List (Addr × Obj)} {s : Shared} {σ : L2.St} {H : Hp} {vs : List V} {us : List Value} {Q : VK}
    (I : Inv X pins σ H s) (r : Vals vs us) (h : sp vs H Q EX) : wpAny (model X.prog X.w) A (call (.ref f) us) (EP X pins σ Q) X.xe s := by
  have en := I.env0
  have e0 : Env0 X.prog X.w X.K X.mg X.base A X.stack s H := ⟨by rw [fr]; exact en.frames, en.mod, en.bs, en.bsz, en.funs, en.frf, en.hok, en.bare⟩
  have hl := F.len _ _ _ _ h
  have bnd := hb s us I.kIn (by rw [List.append_nil, ← r.length]; exact hl)
  rw [List.append_nil] at bnd
  refine wpAny_call (codeAny_mono (F.run A X.stack s H ⟨us, []⟩ us vs Q EX hr e0 bnd r h) fun r s2 z => ?_)
  match r, z with
  | .error e, z => exact hx pins σ H s e s2 I z
  | .ok (.ret w), z => exact I.after z
/-- y in x, y not in x: x an instance of the class at C -/
def rInIns (C : Addr) (sp : Sp) (EX : XK) (neg : Bool) : R2 := fun y x H Q => ∃ (a dx : Addr) (fs : List (Str × V)), x = .ref a ∧ H a = some (.ins C dx fs) ∧ sp [x, y] H (fun v H' => ∃ b, v = .bl b ∧ Q (.bl (b != neg)) H') EX
theorem op_inIns (F : FnOk X.prog X.w X.K X.mg X.base CX k f fd ps sp) (hs : PySem.W.findIn X.K (.ref C) "__contains__" = some (some (.ref f))) (hf : PySem.W.isFn X.K (.ref f) = true) (hb : Binds X.K fd ps []) (hx : Passes CX X EX) (hr : Room k X.A) :
    OpR X (compareOp .In) (rInIns C sp EX false) := by
  intro pins s σ H y x v u Q I ry rx h
  obtain ⟨a, dx, fs, rfl, ha, hsp⟩ := h
  cases rx
  obtain ⟨mA, J, _⟩ := ins_get I.hok ha
  obtain ⟨od, J, _⟩ := J.look
  obtain ⟨m, hF⟩ := I.fr
  refine PySem.W.in_K hF I.ok.mod.kin J hs hf (wpAny_mono (own_call F hb hx hr rfl I (vs := [.ref a, y]) (us := [.ref a, v]) (.cons rfl (.cons ry .nil)) hsp) (fun w s' z => ?_) fun _ _ e => e)
  obtain ⟨vr, H', I', rv, b, rfl, q⟩ := z
  cases rv
  refine wpAny_truthy_bool ?_
  rw [Bool.bne_false] at q
  exact ⟨.bl b, H', I', rfl, q⟩
theorem op_notInIns (F : FnOk X.prog X.w X.K X.mg X.base CX k f fd ps sp) (hs : PySem.W.findIn X.K (.ref C) "__contains__" = some (some (.ref f))) (hf : PySem.W.isFn X.K (.ref f) = true) (hb : Binds X.K fd ps []) (hx : Passes CX X EX) (hr : Room k X.A) :
    OpR X (compareOp .NotIn) (rInIns C sp EX true) := by
  intro pins s σ H y x v u Q I ry rx h
  obtain ⟨a, dx, fs, rfl, ha, hsp⟩ := h
  cases rx
  obtain ⟨mA, J, _⟩ := ins_get I.hok ha
  obtain ⟨od, J, _⟩ := J.look
  obtain ⟨m, hF⟩ := I.fr
  refine PySem.W.notIn_K hF I.ok.mod.kin J hs hf (wpAny_mono (own_call F hb hx hr rfl I (vs := [.ref a, y]) (us := [.ref a, v]) (.cons rfl (.cons ry .nil)) hsp) (fun w s' z => ?_) fun _ _ e => e)
  obtain ⟨vr, H', I', rv, b, rfl, q⟩ := z
  cases rv
  refine wpAny_truthy_bool ?_
  rw [Bool.bne_true] at q
  exact ⟨.bl (!b), H', I', rfl, q⟩
/-- len(x) -/
def rLenIns (C : Addr) (sp : Sp) (EX : XK) : List V → Hp → VK → Prop := fun xs H Q => ∃ (a dx : Addr) (fs : List (Str × V)), xs = [.ref a] ∧ H a = some (.ins C dx fs) ∧ sp xs H (fun v H' => ∃ n : Nat, v = .int n ∧ n ≤ sizeLine ∧ Q v H') EX
theorem call_lenIns (F : FnOk X.prog X.w X.K X.mg X.base CX k f fd ps sp) (hs : PySem.W.findIn X.K (.ref C) "__len__" = some (some (.ref f))) (hf : PySem.W.isFn X.K (.ref f) = true) (hb : Binds X.K fd ps []) (hx : Passes CX X EX) (hr : Room (k + 1) X.A) :
    CallR X (.builtin "len") (rLenIns C sp EX) := by
  intro pins s σ H xs us Q I r h
  obtain ⟨a, dx, fs, rfl, ha, hsp⟩ := h
  obtain ⟨u, rfl, rx⟩ := vals1 r
  cases rx
  obtain ⟨mA, J, _⟩ := ins_get I.hok ha
  obtain ⟨od, J, _⟩ := J.look
  obtain ⟨m, hF⟩ := I.fr
  refine PySem.W.len_K hF I.ok.mod.kin J hs hf (wpAny_mono (own_call F hb hx hr.in1 rfl I (vs := [.ref a]) (us := [.ref a]) (.cons rfl .nil) hsp) (fun w s' z => ?_) fun _ _ e => e)
  obtain ⟨vr, H', I', rv, n, rfl, le, q⟩ := z
  obtain ⟨t, rfl⟩ := rv
  exact ⟨⟨by omega, by have := line63; omega⟩, .int n, H', I'.tok _, ⟨_, rfl⟩, q⟩
/-- x[y] -/
def rIxIns (C : Addr) (sp : Sp) (EX : XK) : R2 := fun x y H Q => ∃ (a dx : Addr) (fs : List (Str × V)), x = .ref a ∧ H a = some (.ins C dx fs) ∧ sp [x, y] H Q EX
theorem ix_ins (F : FnOk X.prog X.w X.K X.mg X.base CX k f fd ps sp) (hs : PySem.W.findIn X.K (.ref C) "__getitem__" = some (some (.ref f))) (hf : PySem.W.isFn X.K (.ref f) = true) (hfn : PySem.W.fnIn X.K f = true) (hb : Binds X.K fd ps []) (hx : Passes CX X EX) (hr : Room (k + 1) X.A)
    {value slice : Expr} {pos : Pos} {ta tb : TE} (ha : PE X value ta) (hi : PE X slice tb) (hsl : ∀ (a : Addr) (i : Value), subscripted slice true (.ref a) i = runValue (.builtin "lifetime.subscript" ⟨[.ref a, i], []⟩)) : PE X (.Subscript value slice pos) (tOp (rIxIns C sp EX) ta tb) := by
  refine ⟨fun pins s σ H Q I h => Subscript_ (binT ha hi I h fun v u s2 x y H2 I2 rx ry q => ?_)⟩
  obtain ⟨a, dx, fs, rfl, hA, hsp⟩ := q
  cases rx
  obtain ⟨mA, J, _⟩ := ins_get I2.hok hA
  obtain ⟨od, J, _⟩ := J.look
  obtain ⟨m, hF⟩ := I2.fr
  exact PySem.W.sub_K hF I2.ok.mod.kin J hs hfn hf (own_call F hb hx hr.in1 rfl I2 (vs := [.ref a, y]) (us := [.ref a, u]) (.cons rfl (.cons ry .nil)) hsp) (hsl a u)
/-- x[y] = v -/
def rSetIns (C : Addr) (sp : Sp) (EX : XK) : V → V → V → Hp → (Hp → Prop) → Prop := fun x y v H Q => ∃ (a dx : Addr) (fs : List (Str × V)), x = .ref a ∧ H a = some (.ins C dx fs) ∧ sp [x, y, v] H (fun _ H' => Q H') EX
theorem set_ins (F : FnOk X.prog X.w X.K X.mg X.base CX k f fd ps sp) (hq : PySem.W.noSeq X.K C = true) (hs : PySem.W.findIn X.K (.ref C) "__setitem__" = some (some (.ref f))) (hf : PySem.W.isFn X.K (.ref f) = true) (hb : Binds X.K fd ps []) (hx : Passes CX X EX) (hr : Room k X.A) :
    PSet X (rSetIns C sp EX) := by
  intro pins s σ H o i v ov iv u Q I ro ri rv h
  obtain ⟨a, dx, fs, rfl, ha, hsp⟩ := h
  cases ro
  obtain ⟨mA, J, _⟩ := ins_get I.hok ha
  obtain ⟨od, J, _⟩ := J.look
  obtain ⟨m, hF⟩ := I.fr
  refine PySem.W.ksp_setItem hF I.ok.mod.kin J hq hs hf (wpAny_mono (own_call F hb hx hr rfl I (vs := [.ref a, i, v]) (us := [.ref a, iv, u]) (.cons rfl (.cons ri (.cons rv .nil))) hsp) (fun w s' z => ?_) fun _ _ e => e)
  obtain ⟨vr, H', I', _, q⟩ := z
  exact ⟨H', I', q⟩
end
theorem u1 {k : Nat} {A : Around} (r : Room k A) : A.units + 1 < cLine := by
  have := r.un
  omega
section
variable {X : Cx}
/-- y in d, y not in d -/
def rInD (neg : Bool) : R2 := fun y x H Q => ∃ (a : Addr) (o : Option V), x = .ref a ∧ DGet H a y o ∧ Q (.bl (o.isSome != neg)) H
theorem op_inD (hu : X.A.units + 1 < cLine) : OpR X (compareOp .In) (rInD false) := by
  intro pins s σ H y x v u Q I ry rx h
  obtain ⟨a, o, rfl, g, q⟩ := h
  cases rx
  rw [Bool.bne_false] at q
  exact d_in hu I g ry fun s2 I2 => ⟨.bl o.isSome, H, I2, rfl, q⟩
theorem op_notInD (hu : X.A.units + 1 < cLine) : OpR X (compareOp .NotIn) (rInD true) := by
  intro pins s σ H y x v u Q I ry rx h
  obtain ⟨a, o, rfl, g, q⟩ := h
  cases rx
  rw [Bool.bne_true] at q
  exact d_notIn hu I g ry fun s2 I2 => ⟨.bl (!o.isSome), H, I2, rfl, q⟩
end
end Bh

set_option Elab.async false
set_option linter.all false
set_option maxRecDepth 100000
set_option maxHeartbeats 2000000
set_option autoImplicit false
namespace Bh
open PySem PySem.Spec PyProof.Rows L2
/-! ### a class's own | and |=, its own == with any other thing -/
/-- x | y of two instances of the class: the answer is an object -/
def rOrIns (C : Addr) (sp : Sp) (EX : XK) : R2 := fun x y H Q => ∃ (a dx : Addr) (fs : List (Str × V)) (b dy : Addr) (gs : List (Str × V)), x = .ref a ∧ H a = some (.ins C dx fs) ∧ y = .ref b ∧ H b = some (.ins C dy gs) ∧ sp [x, y] H (fun v H' => (∃ r, v = .ref r) ∧ Q v H') EX
section
variable {X : Cx} {C f : Addr} {fd : FuncData} {k : Nat} {sp : Sp} {ps : List Str} {CX : CXT} {EX : XK}
theorem op_orIns (F : FnOk X.prog X.w X.K X.mg X.base CX k f fd ps sp) (hs : PySem.W.findIn X.K (.ref C) (PySem.dunder "or") = some (some (.ref f))) (hf : PySem.W.isFn X.K (.ref f) = true) (sf : PySem.W.selfFirst X.K C = true) (hb : Binds X.K fd ps []) (hx : Passes CX X EX) (hr : Room k X.A) :
    OpR X (binaryOp .BitOr) (rOrIns C sp EX) := by
  intro pins s σ H x y v u Q I rx ry h
  obtain ⟨a, dx, fs, b, dy, gs, rfl, ha, rfl, hB, hsp⟩ := h
  cases rx
  cases ry
  obtain ⟨mA, J, _⟩ := ins_get I.hok ha
  obtain ⟨od, J, _⟩ := J.look
  obtain ⟨mB, J', _⟩ := ins_get I.hok hB
  obtain ⟨od', J', _⟩ := J'.look
  obtain ⟨m, hF⟩ := I.fr
  refine PySem.W.binop_K (op := .BitOr) hF I.ok.mod.kin J J'.type sf hs hf (wpAny_mono (own_call F hb hx hr rfl I (vs := [.ref a, .ref b]) (us := [.ref a, .ref b]) (.cons rfl (.cons rfl .nil)) hsp) (fun w s' z => ?_) fun _ _ e => e)
  obtain ⟨vr, H', I', rv, ⟨r, rfl⟩, q⟩ := z
  cases rv
  exact ⟨.ref r, H', I', rfl, q⟩
theorem ip_orIns (F : FnOk X.prog X.w X.K X.mg X.base CX k f fd ps sp) (hs : PySem.W.findIn X.K (.ref C) (PySem.dunderI "or") = some (some (.ref f))) (hf : PySem.W.isFn X.K (.ref f) = true) (sf : PySem.W.selfFirst X.K C = true) (hb : Binds X.K fd ps []) (hx : Passes CX X EX) (hr : Room k X.A) :
    PIp X .BitOr (rOrIns C sp EX) := by
  intro pins s σ H x y v u Q I rx ry h
  obtain ⟨a, dx, fs, b, dy, gs, rfl, ha, rfl, hB, hsp⟩ := h
  cases rx
  cases ry
  obtain ⟨mA, J, _⟩ := ins_get I.hok ha
  obtain ⟨od, J, _⟩ := J.look
  obtain ⟨m, hF⟩ := I.fr
  refine PySem.W.ksp_inplace (op := .BitOr) hF I.ok.mod.kin J sf hs hf (wpAny_mono (own_call F hb hx hr rfl I (vs := [.ref a, .ref b]) (us := [.ref a, .ref b]) (.cons rfl (.cons rfl .nil)) hsp) (fun w s' z => ?_) fun _ _ e => e)
  obtain ⟨vr, H', I', rv, ⟨r, rfl⟩, q⟩ := z
  cases rv
  exact ⟨.ref r, H', I', rfl, q⟩
end
/-- x == y by the class's own __eq__; y an instance of the class, a tuple or a text -/
def rEqX (K : PySem.W.Frag) (C : Addr) (sp : Sp) : R2 := fun x y H Q => ∃ (a dx : Addr) (fs : List (Str × V)), x = .ref a ∧ H a = some (.ins C dx fs) ∧
  ((∃ (b dy : Addr) (gs : List (Str × V)), y = .ref b ∧ H b = some (.ins C dy gs)) ∨ (∃ (b : Addr) (zs : List V), y = .ref b ∧ SqT K H b zs) ∨ ∃ z, y = .str z) ∧ sp [x, y] H (fun v H' => (∃ r, v = .bl r) ∧ Q v H') C8.E0
section
variable {X : Cx} {C f : Addr} {fd : FuncData} {k : Nat} {sp : Sp} {p1 p2 : Str}
theorem op_eqX (F : FnOk X.prog X.w X.K X.mg X.base C8.CX0 k f fd [p1, p2] sp) (hs : PySem.W.findIn X.K (.ref C) "__eq__" = some (some (.ref f))) (hf : PySem.W.isFn X.K (.ref f) = true) (hb : Binds X.K fd [p1, p2] []) (hr : Room k X.A)
    (ht : PySem.W.subIn X.K (.type "tuple") (.ref C) = some false) (ht2 : PySem.W.subIn X.K (.type "str") (.ref C) = some false) : OpR X (compareOp .Eq) (rEqX X.K C sp) := by
  intro pins s σ H x y v u Q I rx ry h
  obtain ⟨a, dx, fs, rfl, ha, hy, hsp⟩ := h
  cases rx
  obtain ⟨mA, J, _⟩ := ins_get I.hok ha
  obtain ⟨od, J, _⟩ := J.look
  obtain ⟨m, hF⟩ := I.fr
  have body := own_two F hb hr rfl (E := X.xe) I (x := .ref a) (y := y) (u := .ref a) (v := u) rfl ry hsp
  show wpAny (model X.prog X.w) X.A (richCompare .Eq (.ref a) u) (EP X pins σ Q) X.xe s
  have go : ∀ tb, PySem.W.Looks (model X.prog X.w) s.heap (typeOf u) tb → PySem.W.notFirst X.K C tb = true → wpAny (model X.prog X.w) X.A (richCompare .Eq (.ref a) u) (EP X pins σ Q) X.xe s := fun tb h1 h2 => by
    refine PySem.W.cmp_K (op := .Eq) (tb := tb) hr.units0 hF I.ok.mod.kin J h1 h2 hs hf (wpAny_mono body (fun w s' z => ?_) fun _ _ e => e)
    obtain ⟨vr, H', I', rv, ⟨r, rfl⟩, q⟩ := z
    cases rv
    exact ⟨.bl r, H', I', rfl, q⟩
  rcases hy with ⟨b, dy, gs, rfl, hb'⟩ | ⟨b, zs, rfl, hz⟩ | ⟨z, rfl⟩
  · cases ry
    obtain ⟨mB, J', _⟩ := ins_get I.hok hb'
    obtain ⟨od', J', _⟩ := J'.look
    exact go _ J'.type (by simp [PySem.W.notFirst])
  · cases ry
    obtain ⟨its, _, pl, _⟩ := I.tuple hz
    obtain ⟨ob, ho, hc, _⟩ := id pl
    exact go (.type "tuple") (hc ▸ (PySem.W.Looks.ld ho).andThen .now) (by unfold PySem.W.notFirst; rw [ht]; rfl)
  · obtain ⟨t, rfl⟩ := ry
    exact go (.type "str") .now (by unfold PySem.W.notFirst; rw [ht2]; rfl)
end
/-- o.f, .. = .. : an attribute as a target -/
def gFld (K : PySem.W.Frag) (ta : TE) (f : Str) : TG := fun v σ H Q => ta σ H fun x H2 => ∃ (a C dx : Addr) (fs : List (Str × V)), x = .ref a ∧ H2 a = some (.ins C dx fs) ∧ Cls K C ∧ NoAttr K C f ∧ fs.length < 1000 ∧ Q σ (upd H2 a (.ins C dx (putF f v fs)))
theorem pg_fld_K {X : Cx} {K : PySem.W.Frag} (hK : X.K = K) {o : Expr} {f : Str} {pos : Pos} {ta : TE} (ha : PE X o ta) : PG X (.Attribute o f pos) (gFld K ta f) := by
  subst hK
  refine ⟨fun pins s σ H v u Q I r h => ?_⟩
  rw [assign_Attribute]
  refine wpAny_bind (wpAny_holding (thn (ha.run pins s σ H _ I h) fun ov s2 ⟨x, H2, I2, rx, a, C, dx, fs, ex, ea, c, n, l, q2⟩ => ?_))
  subst ex
  obtain rfl : ov = Value.ref a := rx
  refine wpAny_bind (wpAny_standAt (wpAny_bind (wpAny_holding (setattr_ok I2 ea c n l r fun s3 I3 => ?_))))
  exact wpAny_release ⟨σ, _, I3, q2⟩
/-- a statement that only leaves (a raise), while the dict at d is locked: it leaves unlocked -/
def tUnl (H0 : Hp) (t : TS) : TS := fun _ σ H => ∃ (d : Addr) (od : Obj) (u : HO), H d = some (.frz od u) ∧ (∀ o' u', H0 d ≠ some (.frz o' u')) ∧ t { nx := fun _ _ => False, rt := fun _ _ => False } σ (upd H d u)
theorem ps_unl {X : Cx} {st : Stmt} {t : TS} (h : PS X st t) : PS X st (tUnl X.H_0 t) := by
  refine ⟨fun pins s σ H D I hw => ?_⟩
  obtain ⟨d, od, u, hd, hn, hw⟩ := hw
  refine thn (h.run pins s σ _ _ (I.unlock hd hn) hw) fun f s1 q => ?_
  cases f with
  | next => obtain ⟨_, _, _, z⟩ := q; exact z.elim
  | brk => obtain ⟨_, _, _, z⟩ := q; exact z.elim
  | cont => obtain ⟨_, _, _, z⟩ := q; exact z.elim
  | ret v => obtain ⟨_, _, _, _, _, z⟩ := q; exact z.elim
/-! ### == of two dicts whose values are texts -/
theorem hits_strs {A : Around} {s : Shared} {ls : List (L2.Key × V)} {vb : List (L2.Key × Value)} (rb : KV ls vb) (sb : ∀ p ∈ ls, ∃ z, p.2 = V.str z) {ks : List (L2.Key × V)} {va : List (L2.Key × Value)} (ra : KV ks va) :
    (∀ p ∈ ks, ∃ z, p.2 = V.str z) → PySem.W.KeqHits A s vb va (ks.all fun p => decide (valV ls p.1 = some p.2)) := by
  unfold KV at ra
  induction ra with
  | nil => intro _; exact .nil
  | @cons p q ps qs h t ih =>
    intro hp
    obtain ⟨h1, h2⟩ := h
    obtain ⟨z, ez⟩ := hp p List.mem_cons_self
    obtain ⟨k, v⟩ := q
    have h1' : p.1 = k := h1
    have rr := rb.val p.1
    have ih' := ih fun p' hm => hp p' (List.mem_cons_of_mem _ hm)
    rw [List.all_cons]
    cases e : valV ls p.1 with
    | none =>
      rw [e] at rr
      have hy : valueAt vb k = none := by
        rw [← h1']
        cases ey : valueAt vb p.1 with
        | none => rfl
        | some y => rw [ey] at rr; exact rr.elim
      rw [decide_eq_false (fun z => nomatch z), Bool.false_and]
      exact .miss hy
    | some x =>
      rw [e] at rr
      obtain ⟨y, hy, ry⟩ := rr.some_of
      obtain ⟨zx, ex⟩ : ∃ zx, x = V.str zx := by
        unfold valV at e
        obtain ⟨p', hp', rfl⟩ := Option.map_eq_some_iff.mp e
        exact sb p' (List.mem_of_find?_eq_some hp')
      rw [h1'] at hy
      rw [ex] at ry
      rw [ez] at h2
      obtain ⟨t1, rfl⟩ := ry
      obtain ⟨t2, rfl⟩ : ∃ t2, v = Value.str z t2 := h2
      have eb : decide (some x = some p.2) = (z == zx) := by
        rw [ex, ez]
        by_cases c : z = zx
        · rw [c]; simp
        · rw [decide_eq_false (fun w => c (by injection w with w; injection w with w; exact w.symm))]
          exact (beq_eq_false_iff_ne.mpr c).symm
      rw [eb]
      exact .hit hy (SeqAt.EqAt.str_str z t2 zx t1) ih'
def rEqKS : R2 := fun x y H Q => ∃ (a b : Addr) (ks ls : List (L2.Key × V)), x = .ref a ∧ y = .ref b ∧ H a = some (.dK ks) ∧ H b = some (.dK ls) ∧ (∀ p ∈ ks, ∃ z, p.2 = V.str z) ∧ (∀ p ∈ ls, ∃ z, p.2 = V.str z) ∧
  Q (.bl (ks.length == ls.length && ks.all fun p => decide (valV ls p.1 = some p.2))) H
theorem op_eqKS {X : Cx} (hu : X.A.units < cLine) : OpR X (compareOp .Eq) rEqKS := by
  intro pins s σ H x y v u Q I rx ry h
  obtain ⟨a, b, ks, ls, rfl, rfl, ea, eb, sa, sb, q⟩ := h
  cases rx
  cases ry
  obtain ⟨_, ya, va, ra, da⟩ := (show ObjOk X.prog X.w H s.heap a (.dK ks) from I.hok a _ ea)
  obtain ⟨_, yb, vb, rb, db⟩ := (show ObjOk X.prog X.w H s.heap b (.dK ls) from I.hok b _ eb)
  exact PySem.W.keq_eq (knd := mixKind X.prog X.w) ya yb da db hu (fun _ => hits_strs rb sb ra sa) (fin_bl I q (by rw [Paired.length ra, Paired.length rb]))
/-- o.f, over a named K (within a comprehension's block) -/
theorem pe_fld_K {X : Cx} {K : PySem.W.Frag} (hK : X.K = K) {e : Expr} {f : Str} {pos : Pos} {ta : TE} (he : PE X e ta) (hb : attributeBase e f X.env (eval e X.env) = eval e X.env) : PE X (.Attribute e f pos) (tFld K ta f) := by
  subst hK
  exact pe_fld he hb
/-! ### steps of a reading -/
theorem gn_step {i : Nat} {v : V} {σ : L2.St} {H : Hp} {Q : L2.St → Hp → Prop} (h : Q (σ.set i (some v)) H) : gName i v σ H Q := h
theorem sq_asg {te : TE} {g : TG} {B : TS} {D : Ends} {σ : L2.St} {H : Hp} (h : te σ H fun x H1 => g x σ H1 (B D)) : tSeq (tAsg te g) B D σ H := h
theorem cons_step {ta : TE} {t : TA} {σ : L2.St} {H : Hp} {Q : List V → Hp → Prop} (h : ta σ H fun x H1 => t σ H1 fun xs H2 => Q (x :: xs) H2) : tCons ta t σ H Q := h
theorem lst_step {t : TA} {σ : L2.St} {H : Hp} {Q : VK} (h : t σ H fun xs H1 => xs.length ≤ sizeLine ∧ ∀ p, H1 p = none → Q (.ref p) (upd H1 p (.lst xs))) : tLst t σ H Q := h
theorem tup_step {t : TA} {σ : L2.St} {H : Hp} {Q : VK} (h : t σ H fun xs H1 => xs.length ≤ sizeLine ∧ ∀ p, H1 p = none → Q (.ref p) (upd H1 p (.tup xs))) : tTup t σ H Q := h
theorem pair_at {α β : Type} {F : α → β → Prop} : ∀ {xs : List α} {ys : List β}, Paired F xs ys → ∀ {i : Nat} {x : α}, xs[i]? = some x → ∃ y, ys[i]? = some y ∧ F x y
  | _, _, .nil, _, _, e => nomatch e
  | _, _, .cons h t, 0, _, e => ⟨_, rfl, by cases e; exact h⟩
  | _, _, .cons h t, i + 1, _, e => pair_at t e
end Bh

set_option Elab.async false
set_option linter.all false
set_option maxRecDepth 100000
set_option maxHeartbeats 1000000
namespace Bh
open PySem PySem.Spec PyProof.Rows L2
theorem dp_knd {K : PySem.W.Frag} {H : Hp} {v : V} {k : Knd} (h : Dp K H v (dKnd k)) : ∃ (a : Addr) (w2 w3 w4 : V), v = .ref a ∧ SqT K H a [.str k.name, w2, w3, w4] ∧ Dp K H w2 (.tuple (k.keys.map dKey)) ∧ Dp K H w3 (dOP k.taking) ∧ Dp K H w4 (dH k.birth) := by
  obtain ⟨a, xs, rfl, h0, hx⟩ := dp_tup h
  cases hx with
  | cons e1 r =>
  cases r with
  | cons e2 r =>
  cases r with
  | cons e3 r =>
  cases r with
  | cons e4 r =>
  cases r
  cases e1
  exact ⟨a, _, _, _, rfl, h0, e2, e3, e4⟩
theorem dp_tie {K : PySem.W.Frag} {H : Hp} {v : V} {t : Tie} (h : Dp K H v (dTie t)) : ∃ (a : Addr) (w2 : V), v = .ref a ∧ SqT K H a [.str t.1, w2] ∧ Dp K H w2 (dP t.2) := by
  obtain ⟨a, xs, rfl, h0, hx⟩ := dp_tup h
  cases hx with
  | cons e1 r =>
  cases r with
  | cons e2 r =>
  cases r
  cases e1
  exact ⟨a, _, rfl, h0, e2⟩
theorem keys_at {K : PySem.W.Frag} {H : Hp} {xs : List V} {ks : List (Str × Str)} {i : Nat} {x : V} (h : DpAll K H xs (ks.map dKey)) (e : xs[i]? = some x) : ∃ (k : Str × Str) (a : Addr), ks[i]? = some k ∧ x = .ref a ∧ SqT K H a [.str k.1, .str k.2] := by
  obtain ⟨d, e1, e2⟩ := DpAll.get h e
  rw [List.getElem?_map] at e1
  obtain ⟨k, hk, rfl⟩ := Option.map_eq_some_iff.mp e1
  obtain ⟨a, ys, rfl, h1, h2⟩ := dp_tup e2
  have := dp_strs (zs := [k.1, k.2]) h2
  subst this
  exact ⟨k, a, hk, rfl, h1⟩
theorem sumw {m : Nat} : ∀ {ws : List Str}, (∀ w ∈ ws, w.length ≤ m) → (ws.map (·.length)).sum ≤ ws.length * m
  | [], _ => Nat.zero_le _
  | w :: ws, h => by
    have k1 := h w List.mem_cons_self
    have k2 := sumw (ws := ws) fun z hz => h z (List.mem_cons_of_mem _ hz)
    rw [List.map_cons, List.sum_cons, List.length_cons, Nat.succ_mul]
    omega
theorem join_ok {ws : List Str} {y : Str} {m : Nat} (h : ∀ w ∈ ws, w.length ≤ m) (n : ws.length * (m + y.length) ≤ 16777216) : (ws.map (·.length)).sum + ws.length * y.length ≤ 16777216 := by
  have := sumw h
  rw [Nat.mul_add] at n
  omega
theorem nx_len {D E : Dft} {l : Str} (h : Nx D l E) : l.length ≤ 20000 := by
  cases h with
  | fld ok =>
    rename_i fs f
    refine Nat.le_trans (join_len " " (m := 8) _ fun p hp => ?_) ?_
    · rcases List.mem_cons.mp hp with rfl | hp
      · decide +kernel
      rcases List.mem_cons.mp hp with rfl | hp
      · exact ok.nm.hi
      · exact (ok.op p hp).2
    · have := ok.hi
      show (f.2.length + 1 + 1) * (8 + 1) ≤ 20000
      omega
  | tie h1 h2 h3 nm h5 =>
    unfold tieL
    rw [len_app]
    have := nm.hi
    show 4 + _ ≤ _
    omega
  | tcas h1 h2 okc h4 => exact Nat.le_trans (line_len okc) (by decide)
  | knd fb h2 h3 h4 h5 ok kn =>
    rename_i fs ts ks n a
    refine Nat.le_trans (join_len " " (m := 9) _ fun p hp => ?_) ?_
    · rcases List.mem_cons.mp hp with rfl | hp
      · decide +kernel
      rcases List.mem_cons.mp hp with rfl | hp
      · exact Nat.le_succ_of_le ok.nm.hi
      · obtain ⟨k, hk, rfl⟩ := List.mem_map.mp hp
        unfold keyL
        rw [len_app]
        have := (kn k hk).hi
        have : k.2.length ≤ 1 := by rcases (ok.ks.all k hk).2 with e | e <;> rw [e] <;> decide +kernel
        omega
    · have l1 : a.length ≤ fs.length := ok.ks.hi
      have l2 := fb.len
      show ((a.map keyL).length + 1 + 1) * (9 + 1) ≤ 20000
      rw [List.length_map]
      omega
  | kcas h1 h2 okc h4 => exact Nat.le_trans (line_len okc) (by decide)
  | born fb ne h3 hv =>
    rename_i fs ts ks n a o v
    refine Nat.le_trans (join_len " " (m := 8) _ fun p hp => ?_) ?_
    · rcases List.mem_cons.mp hp with rfl | hp
      · decide +kernel
      · exact (hv p hp).2
    · have l1 := h3.1
      have l2 := fb.len
      show (v.length + 1) * (8 + 1) ≤ 20000
      omega
/-- the lines of cases, made in a comprehension -/
theorem read_cases {K : PySem.W.Frag} {H : Hp} {Q : VK} {w : V} {p : List Cas} {σ : L2.St} {i j : Nat} (ei : σ[i]? = some (some w)) (ej : ∀ v, (List.set (wipe σ [j]) j (some v))[j]? = some (some v)) (ew : ∀ v, wipe (List.set (wipe σ [j]) j (some v)) [j] = wipe σ [j])
    (h : Dp K H w (dP p)) (ok : ∀ c ∈ p, OkC c) (few : p.length ≤ 1000) (q : ∀ (H' : Hp) (D : Addr), Same H H' → H D = none → H' D = some (.lst ((casL p).map V.str)) → Q (.ref D) H') :
    tLc (iTup K (tVar i)) (gName j) tYes (tCall (spLine K) [] E0 (tCons (tVar j) tNil)) [j] σ H Q := by
  obtain ⟨a, xs, rfl, ha, dx⟩ := dp_tup h
  have lx : xs.length = p.length := by rw [DpAll.length dx, List.length_map]
  refine ⟨_, ei, a, rfl, ⟨_, ha⟩, fun D nD => ?_⟩
  refine lc_it walk_tup (fun i H' => Same H H' ∧ H' D = some (.lst (((casL p).take i).map V.str))) ⟨same_new nD, upd_same⟩ (fun i H' _ p => Same.tup p.1 ha) ?_ ?_
  · rintro i y H' H'' hi ⟨s1, hD⟩ ⟨rfl, ey⟩
    obtain ⟨d, e1, e2⟩ := DpAll.get dx ey
    rw [List.getElem?_map] at e1
    obtain ⟨c, hc, rfl⟩ := Option.map_eq_some_iff.mp e1
    refine ⟨ew y, y, ej y, y, c, rfl, Dp.mono s1 e2, ok c (List.mem_of_getElem? hc), fun H3 s3 => ⟨_, s3 _ _ hD, ?_, same_mut (s1.trans s3) nD, ?_⟩⟩
    · rw [List.length_map, List.length_take]
      unfold casL
      rw [List.length_map]
      exact lt_line (by omega)
    · rw [upd_same, List.take_add_one]
      unfold casL
      rw [List.getElem?_map, hc, List.map_append]
      rfl
  · rintro H' ⟨s1, hD⟩
    rw [lx, List.take_of_length_le (by unfold casL; rw [List.length_map]; exact Nat.le_refl _)] at hD
    exact q H' D s1 nD hD
theorem flat_le {α : Type} {f : α → List Str} {m : Nat} : ∀ (l : List α), (∀ x ∈ l, (f x).length ≤ m) → ((l.map f).flatten).length ≤ l.length * m
  | [], _ => Nat.zero_le _
  | x :: l, h => by
    have k1 := h x List.mem_cons_self
    have k2 := flat_le l fun z hz => h z (List.mem_cons_of_mem _ hz)
    rw [List.map_cons, List.flatten_cons, List.length_append, List.length_cons, Nat.succ_mul]
    omega
theorem flat_next {α : Type} {f : α → List Str} {l : List α} {i : Nat} {x : α} (e : l[i]? = some x) : ((l.take (i + 1)).map f).flatten = ((l.take i).map f).flatten ++ f x := by
  rw [List.take_add_one, e, List.map_append, List.flatten_append]
  simp
theorem casL_len (p : List Cas) : (casL p).length = p.length := by unfold casL; rw [List.length_map]
theorem tieLs_len {fs : List Fld} {t : Tie} (h : OkPrg fs t.2) : (tieLs t).length ≤ 9 := by
  show (casL t.2).length + 1 ≤ 9
  rw [casL_len]
  have := h.hi
  omega
theorem kndLs_len {fs : List Fld} {k : Knd} (h : OkKnd fs k) : (kndLs k).length ≤ 10 := by
  have h1 : (casL (k.taking.getD [])).length ≤ 8 := by
    rw [casL_len]
    cases e : k.taking with
    | none => exact Nat.zero_le _
    | some p => exact (h.tk p e).hi
  unfold kndLs
  rw [List.length_cons, List.length_append]
  cases k.birth with
  | none => show _ + 0 + 1 ≤ _; omega
  | some v => show _ + 1 + 1 ≤ _; omega
theorem bookLs_len {fs : List Fld} {ts : List Tie} {ks : List Knd} (h : OkBook fs ts ks) : (bookLs fs ts ks).length ≤ 100 := by
  have h1 := flat_le (f := tieLs) (m := 9) ts fun t ht => tieLs_len (h.tok t ht).2
  have h2 := flat_le (f := kndLs) (m := 10) ks fun k hk => kndLs_len (h.kok k hk)
  have h3 := h.f2
  have h4 := h.t2
  have h5 := h.k2
  unfold bookLs
  rw [List.length_append, List.length_append, List.length_map]
  omega
theorem run_mem {D E : Dft} {ls : List Str} (h : Run D ls E) : ∀ l ∈ ls, l.length ≤ 20000 := by
  induction h with
  | nil => intro l hl; cases hl
  | cons x _ ih =>
    intro l hl
    rcases List.mem_cons.mp hl with rfl | hl
    · exact nx_len x
    · exact ih l hl
def spKindLines (K : PySem.W.Frag) : Sp := fun vs H Q _ => ∃ (v : V) (fs : List Fld) (k : Knd), vs = [v] ∧ Dp K H v (dKnd k) ∧ FsW fs ∧ fs.length ≤ 3 ∧ OkKnd fs k ∧ ∀ (p : Addr) (H' : Hp), H p = none → Same H H' → H' p = some (.lst ((kndLs k).map V.str)) → Q (.ref p) H'
def spBookText (K : PySem.W.Frag) : Sp := fun vs H Q _ => ∃ (a1 a2 a3 : Addr) (y1 y2 y3 : List V) (fs : List Fld) (ts : List Tie) (ks : List Knd), vs = [.ref a1, .ref a2, .ref a3] ∧ SqL K H a1 y1 ∧ SqL K H a2 y2 ∧ SqL K H a3 y3 ∧ DpAll K H y1 (fs.map dF) ∧ DpAll K H y2 (ts.map dTie) ∧ DpAll K H y3 (ks.map dKnd) ∧ OkBook fs ts ks ∧ ∀ H', Same H H' → Q (.str (textB fs ts ks)) H'
section
variable {P : Program} {w : World} {K : PySem.W.Frag} {mg : Str → Option Value} {base : Heap}
theorem ok_kindlines (T : Top K mg) : FnOk P w K mg base CX0 4 T.a_kind_lines T.fd_kind_lines ["kind"] (spKindLines K) := by
  have G_case_text := ok_casetext (P := P) (w := w) (base := base) T
  refine T.d_kind_lines.F.ok sc_kind_lines (fun vs H Q E h => ?_) (fun cdv A outer s H vs Q E hr h => ?_)
  · obtain ⟨v, fs, k, rfl, _⟩ := h
    rfl
  obtain ⟨v, fs, k, rfl, hk, fw, f3, ok, q⟩ := h
  refine ⟨_, (pss_cons (ps_asg (pv 0) (pg_tup_K (K := K) (by rfl) (n := 4) (by rfl) (pgs_cons (pg_name (i := 1) sc_kind_lines.nd rfl (Or.inl rfl)) (pgs_cons (pg_name (i := 2) sc_kind_lines.nd rfl (Or.inl rfl)) (pgs_cons (pg_name (i := 3) sc_kind_lines.nd rfl (Or.inl rfl)) (pgs_cons (pg_name (i := 4) sc_kind_lines.nd rfl (Or.inl rfl)) pgs_nil))))))
    (pss_cons (ps_set (i := 5) sc_kind_lines.nd rfl (Or.inl rfl) (pe_lst (pa_cons (pe_join_K (K := K) (by rfl) pe_str (pe_lst (pa_cons pe_str (pa_cons (pv 1) (pa_starK (K := K) (by rfl) (pe_lc (own := [("field", 6), ("direction", 7)]) rfl sc_kind_lines.nd (pi_tup_K (K := K) (by rfl) (pv 2)) (blkOk_by (own := [("field", 6), ("direction", 7)]) (N := ["kind", "name", "keys", "taking", "birth", "lines", "field", "direction", "case"]) (sc := defScope s_kind_lines) (by decide +kernel)) (fun _ _ _ _ _ => by exact (pg_tup_K (K := K) (by rfl) (n := 2) (by rfl) (pgs_cons (pg_name (i := 6) sc_kind_lines.nd rfl (Or.inl rfl)) (pgs_cons (pg_name (i := 7) sc_kind_lines.nd rfl (Or.inl rfl)) pgs_nil)))) (fun _ _ _ _ _ => by exact pts_nil) (fun _ _ _ _ _ => by exact (pe_op op_add_str (pv 6) (pv 7)))) pa_nil))))) pa_nil)))
    (Evl.pss_cut (ps_if (pt_cmpR op_notN (pv 3) pe_non (nomark _)) (pss_one (ps_expr (pe_bm_K (K := K) (by rfl) PySem.F.plainAttrs_list PySem.F.slot_list_extend PySem.F.type_list_extend mt_extend (pv 5) (pa_cons (pe_lc (own := [("case", 8)]) rfl sc_kind_lines.nd (pi_tup_K (K := K) (by rfl) (pv 3)) (blkOk_by (own := [("case", 8)]) (N := ["kind", "name", "keys", "taking", "birth", "lines", "field", "direction", "case"]) (sc := defScope s_kind_lines) (by decide +kernel)) (fun _ _ _ _ _ => by exact (pg_name (i := 8) sc_kind_lines.nd rfl (Or.inl rfl))) (fun _ _ _ _ _ => by exact pts_nil) (fun _ _ _ _ _ => by exact (pe_call G_case_text (hr.mono (by decide)) (by rfl) T.d_case_text.g T.d_case_text.kp T.d_case_text.b .nil pass0 (pa_cons (pv 8) pa_nil)))) pa_nil)))) pss_nil)
    (pss_cons (ps_if (pt_cmpR op_notN (pv 4) pe_non (nomark _)) (pss_one (ps_expr (pe_bm_K (K := K) (by rfl) PySem.F.plainAttrs_list PySem.F.slot_list_append PySem.F.type_list_append mt_append (pv 5) (pa_cons (pe_join_K (K := K) (by rfl) pe_str (pe_lst (pa_cons pe_str (pa_starK (K := K) (by rfl) (pv 4) pa_nil)))) pa_nil)))) pss_nil)
    (pss_one (ps_ret (pv 5))))))), ?_⟩
  rw [show L2.start ["kind", "name", "keys", "taking", "birth", "lines", "field", "direction", "case"] [v] = [some v, none, none, none, none, none, none, none, none] from rfl]
  obtain ⟨a, w2, w3, w4, rfl, h0, hk2, hk3, hk4⟩ := dp_knd hk
  refine ⟨_, rfl, a, _, rfl, h0, rfl, _, _, rfl, _, _, rfl, _, _, rfl, _, _, rfl, rfl, ?_⟩
  obtain ⟨b, xs, rfl, hb, dx⟩ := dp_tup hk2
  have lx : xs.length = k.keys.length := by rw [DpAll.length dx, List.length_map]
  have kl : k.keys.length ≤ 1000 := by
    have := ok.ks.hi
    omega
  dsimp only [List.set]
  refine sq_asg ?_
  refine ⟨⟨_, rfl⟩, _, rfl, _, rfl, b, rfl, ⟨_, hb⟩, fun D nD => ?_⟩
  refine lc_it walk_tup (fun i H' => Same H H' ∧ H' D = some (.lst (((k.keys.map keyL).take i).map V.str))) ⟨same_new nD, upd_same⟩ (fun i H' _ p => Same.tup p.1 hb) ?_ ?_
  · rintro i y H' H'' hi ⟨s1, hD⟩ ⟨rfl, ey⟩
    obtain ⟨c, ca, hc, rfl, hca⟩ := keys_at dx ey
    refine ⟨ca, _, rfl, Same.tup s1 hca, rfl, _, _, rfl, _, _, rfl, rfl, ?_⟩
    have k1 := (ok.ks.all c (List.mem_of_getElem? hc))
    have nl : c.1.length ≤ 8 := by
      obtain ⟨f, hf, e⟩ := List.mem_map.mp k1.1
      rw [← show f.1 = c.1 from e]
      exact (fw f hf).1.hi
    have dl : c.2.length ≤ 1 := by
      rcases k1.2 with e | e <;> rw [e] <;> decide +kernel
    refine ⟨rfl, _, rfl, _, rfl, _, _, rfl, rfl, le_line (by omega), _, hD, ?_, same_mut s1 nD, ?_⟩
    · rw [List.length_map, List.length_take, List.length_map]
      exact lt_line (by omega)
    · rw [upd_same, List.take_add_one, List.getElem?_map, hc, List.map_append]
      rfl
  · rintro H' ⟨s1, hD⟩
    rw [lx, List.take_of_length_le (by rw [List.length_map]; exact Nat.le_refl _)] at hD
    refine ⟨D, _, rfl, .inr (SqL.of hD), ?_⟩
    dsimp only [tNil]
    rw [show (V.str "cell" :: V.str k.name :: (((k.keys.map keyL).map V.str) ++ [])) = (("cell" : Str) :: k.name :: k.keys.map keyL).map V.str by rw [List.append_nil]; rfl]
    refine ⟨le_line (by rw [List.length_map]; show _ + 1 + 1 ≤ _; rw [List.length_map]; omega), fun l1 nl1 => ?_⟩
    have s2 : Same H' (upd H' l1 (.lst ((("cell" : Str) :: k.name :: k.keys.map keyL).map V.str))) := same_new nl1
    refine ⟨_, l1, _, rfl, rfl, .inl (SqL.of upd_same), ?_, ?_⟩
    · refine join_ok (m := 9) (fun z hz => ?_) ?_
      · rcases List.mem_cons.mp hz with rfl | hz
        · decide +kernel
        rcases List.mem_cons.mp hz with rfl | hz
        · exact Nat.le_succ_of_le ok.nm.hi
        · obtain ⟨c, hc, rfl⟩ := List.mem_map.mp hz
          obtain ⟨k1, k2⟩ := ok.ks.all c hc
          obtain ⟨f, hf, e⟩ := List.mem_map.mp k1
          have n1 : c.1.length ≤ 8 := by
            rw [← show f.1 = c.1 from e]
            exact (fw f hf).1.hi
          have n2 : c.2.length ≤ 1 := by rcases k2 with e | e <;> rw [e] <;> decide +kernel
          unfold keyL
          rw [len_app]
          omega
      · show ((k.keys.map keyL).length + 1 + 1) * (9 + 1) ≤ 16777216
        rw [List.length_map]
        omega
    refine ⟨(by show 1 ≤ sizeLine; decide), fun l2 nl2 => ?_⟩
    have s3 := s2.trans (same_new (o := .lst [.str (kndL k.name k.keys)]) nl2)
    have sA := s1.trans s3
    have hl2 : upd (upd H' l1 (.lst ((("cell" : Str) :: k.name :: k.keys.map keyL).map V.str))) l2 (.lst [.str (kndL k.name k.keys)]) l2 = some (.lst (([kndL k.name k.keys] : List Str).map V.str)) := upd_same
    have nl2H : H l2 = none := (s1.trans s2).free nl2
    refine gn_step ?_
    dsimp only [List.set]
    show Evl.tCut _ _ _ _ (upd (upd H' l1 (.lst ((("cell" : Str) :: k.name :: k.keys.map keyL).map V.str))) l2 (.lst [.str (kndL k.name k.keys)]))
    generalize upd (upd H' l1 (.lst ((("cell" : Str) :: k.name :: k.keys.map keyL).map V.str))) l2 (.lst [.str (kndL k.name k.keys)]) = H3 at sA hl2 ⊢
    clear s3 s2 nl1 nl2 hD s1 nD
    refine ⟨fun σ H4 => σ = [some (.ref a), some (.str k.name), some (.ref b), some w3, some w4, some (.ref l2), none, none, none] ∧ Same H H4 ∧ H4 l2 = some (.lst ((kndL k.name k.keys :: casL (k.taking.getD [])).map V.str)), ?_, ?_⟩
    · cases et : k.taking with
      | none =>
        rw [et] at hk3
        cases hk3
        exact ⟨_, rfl, rfl, _, rfl, iteF ⟨rfl, sA, hl2⟩⟩
      | some p =>
        rw [et] at hk3
        have pr := ok.tk p et
        have okp : ∀ c ∈ p, OkC c := fun c hc => okC_of fw (pr.all c hc)
        obtain ⟨pa, px, rfl, _, _⟩ := dp_tup hk3
        refine ⟨_, rfl, rfl, _, rfl, iteT ?_⟩
        refine ⟨_, rfl, .inl ⟨rfl, _, SqL.of hl2⟩, ?_⟩
        refine read_cases rfl (fun _ => rfl) (fun _ => rfl) (Dp.mono sA hk3) okp (by have := pr.hi; omega) fun H5 D s5 nD hD => ?_
        refine ⟨l2, D, _, _, rfl, rfl, s5 _ _ hl2, hD, ?_, ?_⟩
        · rw [List.length_map, List.length_map]
          unfold casL
          rw [List.length_map]
          have := pr.hi
          exact le_line (by show 1 + _ ≤ _; omega)
        · refine ⟨rfl, same_mut (sA.trans s5) nl2H, ?_⟩
          rw [upd_same, ← List.map_append]
          rfl
    · rintro σ H4 ⟨rfl, s4, h4⟩
      cases eb : k.birth with
      | none =>
        rw [eb] at hk4
        cases hk4
        have e : kndLs k = kndL k.name k.keys :: casL (k.taking.getD []) := by
          unfold kndLs
          rw [eb, List.append_nil]
        rw [← e] at h4
        exact ⟨_, rfl, rfl, _, rfl, iteF ⟨_, rfl, q l2 _ nl2H s4 h4⟩⟩
      | some v =>
        rw [eb] at hk4
        have fv := ok.bt v eb
        have e : kndLs k = (kndL k.name k.keys :: casL (k.taking.getD [])) ++ [bornL v] := by
          unfold kndLs
          rw [eb]
          rfl
        obtain ⟨va, vx, rfl, hva, dvx⟩ := dp_tup hk4
        obtain rfl := dp_strs dvx
        have lv := fv.1
        refine ⟨_, rfl, rfl, _, rfl, iteT ?_⟩
        refine ⟨_, rfl, .inl ⟨rfl, _, SqL.of h4⟩, ⟨_, rfl⟩, _, rfl, va, _, rfl, .inl (Same.tup s4 hva), ?_⟩
        dsimp only [tNil]
        rw [show (V.str "born" :: ((v.map V.str) ++ [])) = (("born" : Str) :: v).map V.str by rw [List.append_nil]; rfl]
        refine ⟨le_line (by rw [List.length_map]; show _ + 1 ≤ _; omega), fun l3 nl3 => ?_⟩
        have s5 : Same H4 (upd H4 l3 (.lst ((("born" : Str) :: v).map V.str))) := same_new nl3
        refine ⟨_, l3, _, rfl, rfl, .inl (SqL.of upd_same), join_ok (m := 8) (fun z hz => ?_) ?_, ?_⟩
        · rcases List.mem_cons.mp hz with rfl | hz
          · decide +kernel
          · exact (fit_op fw fv z hz).2
        · show (v.length + 1) * (8 + 1) ≤ 16777216
          omega
        refine ⟨l2, _, _, rfl, rfl, s5 _ _ h4, ?_, ⟨_, rfl, ?_⟩⟩
        · rw [List.length_map]
          have : (casL (k.taking.getD [])).length ≤ 8 := by
            unfold casL
            rw [List.length_map]
            cases et : k.taking with
            | none => exact Nat.zero_le _
            | some p => exact (ok.tk p et).hi
          exact lt_line (by show _ + 1 ≤ _; omega)
        · refine q l2 _ nl2H (same_mut (s4.trans s5) nl2H) ?_
          rw [upd_same, e, List.map_append]
          rfl
theorem ok_booktext (T : Top K mg) : FnOk P w K mg base CX0 5 T.a_rulebook_text T.fd_rulebook_text ["fields", "ties", "kinds"] (spBookText K) := by
  have G_case_text := ok_casetext (P := P) (w := w) (base := base) T
  have G_kind_lines := ok_kindlines (P := P) (w := w) (base := base) T
  refine T.d_rulebook_text.F.ok sc_rulebook_text (fun vs H Q E h => ?_) (fun cdv A outer s H vs Q E hr h => ?_)
  · obtain ⟨a1, a2, a3, y1, y2, y3, fs, ts, ks, rfl, _⟩ := h
    rfl
  obtain ⟨a1, a2, a3, y1, y2, y3, fs, ts, ks, rfl, h1, h2, h3, d1, d2, d3, ok, q⟩ := h
  refine ⟨_, (pss_cons (ps_setLc (i := 3) (own := [("name", 4), ("options", 7)]) rfl sc_rulebook_text.nd rfl rfl (sw_true rfl rfl rfl (by decide +kernel)) (pi_list_K (K := K) (by rfl) (pv 0)) (blkOk_by (own := [("name", 4), ("options", 7)]) (N := ["fields", "ties", "kinds", "lines", "name", "program", "kind", "options", "case", "line"]) (sc := defScope s_rulebook_text) (by decide +kernel)) (fun _ _ _ _ _ => by exact (pg_tup_K (K := K) (by rfl) (n := 2) (by rfl) (pgs_cons (pg_name (i := 4) sc_rulebook_text.nd rfl (Or.inl rfl)) (pgs_cons (pg_name (i := 7) sc_rulebook_text.nd rfl (Or.inl rfl)) pgs_nil)))) (fun _ _ _ _ _ => by exact pts_nil) (fun _ _ _ _ _ => by exact (pe_join_K (K := K) (by rfl) pe_str (pe_lst (pa_cons pe_str (pa_cons (pv 4) (pa_starK (K := K) (by rfl) (pv 7) pa_nil)))))))
    (pss_cons (ps_for PassesOwn.never rfl (pi_list_K (K := K) (by rfl) (pv 1)) (pg_tup_K (K := K) (by rfl) (n := 2) (by rfl) (pgs_cons (pg_name (i := 4) sc_rulebook_text.nd rfl (Or.inl rfl)) (pgs_cons (pg_name (i := 5) sc_rulebook_text.nd rfl (Or.inl rfl)) pgs_nil)))
      (pss_cons (ps_expr (pe_bm_K (K := K) (by rfl) PySem.F.plainAttrs_list PySem.F.slot_list_append PySem.F.type_list_append mt_append (pv 3) (pa_cons (pe_op op_add_str pe_str (pv 4)) pa_nil)))
      (pss_one (ps_expr (pe_bm_K (K := K) (by rfl) PySem.F.plainAttrs_list PySem.F.slot_list_extend PySem.F.type_list_extend mt_extend (pv 3) (pa_cons (pe_lc (own := [("case", 8)]) rfl sc_rulebook_text.nd (pi_tup_K (K := K) (by rfl) (pv 5)) (blkOk_by (own := [("case", 8)]) (N := ["fields", "ties", "kinds", "lines", "name", "program", "kind", "options", "case", "line"]) (sc := defScope s_rulebook_text) (by decide +kernel)) (fun _ _ _ _ _ => by exact (pg_name (i := 8) sc_rulebook_text.nd rfl (Or.inl rfl))) (fun _ _ _ _ _ => by exact pts_nil) (fun _ _ _ _ _ => by exact (pe_call G_case_text (hr.mono (by decide)) (by rfl) T.d_case_text.g T.d_case_text.kp T.d_case_text.b .nil pass0 (pa_cons (pv 8) pa_nil)))) pa_nil))))))
    (pss_cons (ps_for PassesOwn.never rfl (pi_list_K (K := K) (by rfl) (pv 2)) (pg_name (i := 6) sc_rulebook_text.nd rfl (Or.inl rfl))
      (pss_one (ps_expr (pe_bm_K (K := K) (by rfl) PySem.F.plainAttrs_list PySem.F.slot_list_extend PySem.F.type_list_extend mt_extend (pv 3) (pa_cons (pe_call G_kind_lines (hr.mono (by decide)) (by rfl) T.d_kind_lines.g T.d_kind_lines.kp T.d_kind_lines.b .nil pass0 (pa_cons (pv 6) pa_nil)) pa_nil)))))
    (pss_one (ps_ret (pe_join_K (K := K) (by rfl) pe_str (pe_lc (own := [("line", 9)]) rfl sc_rulebook_text.nd (pi_list_K (K := K) (by rfl) (pv 3)) (blkOk_by (own := [("line", 9)]) (N := ["fields", "ties", "kinds", "lines", "name", "program", "kind", "options", "case", "line"]) (sc := defScope s_rulebook_text) (by decide +kernel)) (fun _ _ _ _ _ => by exact (pg_name (i := 9) sc_rulebook_text.nd rfl (Or.inl rfl))) (fun _ _ _ _ _ => by exact pts_nil) (fun _ _ _ _ _ => by exact (pe_op op_add_str (pv 9) pe_str))))))))), ?_⟩
  rw [show L2.start ["fields", "ties", "kinds", "lines", "name", "program", "kind", "options", "case", "line"] [.ref a1, .ref a2, .ref a3] = [some (.ref a1), some (.ref a2), some (.ref a3), none, none, none, none, none, none, none] from rfl]
  have fw := ok.words
  have l1 : y1.length = fs.length := by rw [DpAll.length d1, List.length_map]
  have l2 : y2.length = ts.length := by rw [DpAll.length d2, List.length_map]
  have l3 : y3.length = ks.length := by rw [DpAll.length d3, List.length_map]
  have f3 := ok.f2
  have t4 := ok.t2
  have k3 := ok.k2
  refine sq_asg ?_
  refine ⟨_, rfl, a1, rfl, ⟨_, h1⟩, fun D nD => ?_⟩
  refine lc_it walk_list (fun i H' => Same H H' ∧ H' D = some (.lst (((fs.map fldL).take i).map V.str))) ⟨same_new nD, upd_same⟩ (fun i H' _ p => p.1.seq h1) ?_ ?_
  · rintro i y H' H'' hi ⟨s1, hD⟩ ⟨rfl, ey⟩
    obtain ⟨d, e1, e2⟩ := DpAll.get d1 ey
    rw [List.getElem?_map] at e1
    obtain ⟨f, hf, rfl⟩ := Option.map_eq_some_iff.mp e1
    obtain ⟨a, o, rfl, k1, k2⟩ := dp_dF (Dp.mono s1 e2)
    have okf := ok.fok i f hf
    have hi6 := okf.hi
    refine ⟨a, _, rfl, k1, rfl, _, _, rfl, _, _, rfl, rfl, rfl, ⟨_, rfl⟩, _, rfl, _, rfl, o, _, rfl, .inl k2, ?_⟩
    dsimp only [tNil]
    rw [show (V.str "field" :: V.str f.1 :: ((f.2.map V.str) ++ [])) = (("field" : Str) :: f.1 :: f.2).map V.str by rw [List.append_nil]; rfl]
    refine ⟨le_line (by rw [List.length_map]; show _ + 1 + 1 ≤ _; omega), fun l nl => ?_⟩
    have s2 : Same H'' (upd H'' l (.lst ((("field" : Str) :: f.1 :: f.2).map V.str))) := same_new nl
    refine ⟨_, l, _, rfl, rfl, .inl (SqL.of upd_same), join_ok (m := 8) (fun z hz => ?_) ?_, ?_⟩
    · rcases List.mem_cons.mp hz with rfl | hz
      · decide +kernel
      rcases List.mem_cons.mp hz with rfl | hz
      · exact okf.nm.hi
      · exact (okf.op z hz).2
    · show (f.2.length + 1 + 1) * (8 + 1) ≤ 16777216
      omega
    refine ⟨_, s2 _ _ hD, ?_, same_mut (s1.trans s2) nD, ?_⟩
    · rw [List.length_map, List.length_take]
      exact lt_line (by rw [List.length_map]; omega)
    · rw [upd_same, List.take_add_one, List.getElem?_map, hf, List.map_append]
      rfl
  rintro H1 ⟨s1, hD1⟩
  rw [l1, List.take_of_length_le (by rw [List.length_map]; exact Nat.le_refl _)] at hD1
  refine gn_step ?_
  dsimp only [List.set]
  refine ⟨_, rfl, a2, rfl, ⟨_, s1.seq h2⟩, ?_⟩
  refine for_it walk_list (fun i σ H' => ∃ x4 x5, σ = [some (.ref a1), some (.ref a2), some (.ref a3), some (.ref D), x4, x5, none, none, none, none] ∧ Same H H' ∧ H' D = some (.lst ((fs.map fldL ++ ((ts.take i).map tieLs).flatten).map V.str))) ⟨none, none, rfl, s1, by rw [hD1]; rw [List.take_zero, List.map_nil, List.flatten_nil, List.append_nil]⟩ (fun i σ H' _ ⟨_, _, _, s, _⟩ => s.seq h2) ?_ ?_
  · rintro i y σ H' H'' hi ⟨x4, x5, rfl, s2, hD⟩ ⟨rfl, ey⟩
    obtain ⟨d, e1, e2⟩ := DpAll.get d2 ey
    rw [List.getElem?_map] at e1
    obtain ⟨t, ht, rfl⟩ := Option.map_eq_some_iff.mp e1
    obtain ⟨okn, okp⟩ := ok.tok t (List.mem_of_getElem? ht)
    obtain ⟨a, w2, rfl, ha, hw⟩ := dp_tie e2
    have len9 := flat_le (f := tieLs) (m := 9) (ts.take i) fun t ht => tieLs_len (ok.tok t (List.mem_of_mem_take ht)).2
    have li : (ts.take i).length ≤ 4 := by rw [List.length_take]; omega
    have ll : ((fs.map fldL ++ ((ts.take i).map tieLs).flatten).map V.str).length ≤ 50 := by
      rw [List.length_map, List.length_append, List.length_map]
      omega
    have nl := okn.hi
    refine ⟨a, _, rfl, Same.tup s2 ha, rfl, _, _, rfl, _, _, rfl, rfl, ?_⟩
    refine ⟨_, rfl, .inl ⟨rfl, _, SqL.of hD⟩, _, rfl, _, _, rfl, rfl, le_line (by show 4 + _ ≤ _; omega), ?_⟩
    refine ⟨D, _, _, rfl, rfl, hD, lt_line (by omega), ?_⟩
    have s3 := same_mut (o := .lst ((fs.map fldL ++ ((ts.take i).map tieLs).flatten).map V.str ++ [.str (tieL t.1)])) s2 nD
    have hw3 := Dp.mono s3 hw
    have p8 := okp.hi
    have okc : ∀ c ∈ t.2, OkC c := fun c hc => okC_of fw (okp.all c hc)
    refine ⟨_, rfl, .inl ⟨rfl, _, SqL.of upd_same⟩, ?_⟩
    refine read_cases rfl (fun _ => rfl) (fun _ => rfl) hw3 okc (by omega) fun H5 D2 s5 nD2 hD2 => ?_
    refine ⟨D, D2, _, _, rfl, rfl, s5 _ _ upd_same, hD2, ?_, ?_⟩
    · rw [List.length_append, List.length_map (f := V.str) (as := casL t.2), casL_len]
      exact le_line (by show _ + 1 + _ ≤ _; omega)
    · refine ⟨_, _, rfl, same_mut (s3.trans s5) nD, ?_⟩
      rw [upd_same, flat_next ht]
      simp only [List.map_append, List.append_assoc]
      rfl
  rintro σ H2 ⟨x4, x5, rfl, s2, hD2⟩
  rw [l2, List.take_length] at hD2
  refine ⟨_, rfl, a3, rfl, ⟨_, s2.seq h3⟩, ?_⟩
  refine for_it walk_list (fun i σ H' => ∃ x6, σ = [some (.ref a1), some (.ref a2), some (.ref a3), some (.ref D), x4, x5, x6, none, none, none] ∧ Same H H' ∧ H' D = some (.lst ((fs.map fldL ++ (ts.map tieLs).flatten ++ ((ks.take i).map kndLs).flatten).map V.str))) ⟨none, rfl, s2, by rw [hD2]; rw [List.take_zero, List.map_nil, List.flatten_nil, List.append_nil]⟩ (fun i σ H' _ ⟨_, _, s, _⟩ => s.seq h3) ?_ ?_
  · rintro i y σ H' H'' hi ⟨x6, rfl, s3, hD⟩ ⟨rfl, ey⟩
    obtain ⟨d, e1, e2⟩ := DpAll.get d3 ey
    rw [List.getElem?_map] at e1
    obtain ⟨k, hk, rfl⟩ := Option.map_eq_some_iff.mp e1
    have okk := ok.kok k (List.mem_of_getElem? hk)
    have len1 := flat_le (f := tieLs) (m := 9) ts fun t ht => tieLs_len (ok.tok t ht).2
    have len2 := flat_le (f := kndLs) (m := 10) (ks.take i) fun t ht => kndLs_len (ok.kok t (List.mem_of_mem_take ht))
    have li : (ks.take i).length ≤ 3 := by rw [List.length_take]; omega
    have lk := kndLs_len okk
    refine gn_step ?_
    dsimp only [List.set]
    refine ⟨_, rfl, .inl ⟨rfl, _, SqL.of hD⟩, _, rfl, y, fs, k, rfl, Dp.mono s3 e2, fw, f3, okk, fun p H5 np s5 hp => ?_⟩
    refine ⟨D, p, _, _, rfl, rfl, s5 _ _ hD, hp, ?_, ⟨_, rfl, same_mut (s3.trans s5) nD, ?_⟩⟩
    · rw [List.length_map, List.length_map, List.length_append, List.length_append, List.length_map]
      exact le_line (by omega)
    · rw [upd_same, flat_next hk, ← List.append_assoc, List.map_append (l₂ := kndLs k)]
  rintro σ H3 ⟨x6, rfl, s3, hD3⟩
  rw [l3, List.take_length] at hD3
  have lb := bookLs_len ok
  have rm := run_mem (run_book ok)
  have hD3' : H3 D = some (.lst ((bookLs fs ts ks).map V.str)) := hD3
  refine ⟨⟨_, rfl⟩, _, rfl, D, rfl, ⟨_, SqL.of hD3'⟩, fun E2 nE2 => ?_⟩
  refine lc_it walk_list (fun i H' => Same H3 H' ∧ H' E2 = some (.lst ((((bookLs fs ts ks).map fun l : Str => l ++ ("\n" : Str)).take i).map V.str))) ⟨same_new nE2, upd_same⟩ (fun i H' _ p => SqL.of (p.1 _ _ hD3')) ?_ ?_
  · rintro i y H' H'' hi ⟨s4, hE⟩ ⟨rfl, ey⟩
    rw [List.getElem?_map] at ey
    obtain ⟨l, hl, rfl⟩ := Option.map_eq_some_iff.mp ey
    have ln := rm l (List.mem_of_getElem? hl)
    refine ⟨rfl, _, rfl, _, _, rfl, rfl, le_line (by show _ + 1 ≤ _; omega), _, hE, ?_, same_mut s4 nE2, ?_⟩
    · rw [List.length_map, List.length_take, List.length_map]
      exact lt_line (by omega)
    · rw [upd_same, List.take_add_one, List.getElem?_map, hl, List.map_append]
      rfl
  · rintro H4 ⟨s4, hE⟩
    rw [List.length_map, List.take_of_length_le (by rw [List.length_map]; exact Nat.le_refl _)] at hE
    refine ⟨_, E2, _, rfl, rfl, .inl (SqL.of hE), join_ok (m := 20001) (fun z hz => ?_) ?_, q _ (s3.trans s4)⟩
    · obtain ⟨l, hl, rfl⟩ := List.mem_map.mp hz
      rw [len_app]
      have := rm l hl
      show _ + 1 ≤ _
      omega
    · rw [List.length_map]
      show _ * (20001 + 0) ≤ _
      omega
end
end Bh

set_option Elab.async false
set_option linter.all false
set_option maxRecDepth 100000
set_option maxHeartbeats 1000000
namespace Bh
open PySem PySem.Spec PyProof.Rows L2 LamX NdefX
/-- the rulebook x has these parts -/
def RbAt (K : PySem.W.Frag) (H : Hp) (C x : Addr) (fs : List Fld) (ts : List Tie) (ks : List Knd) : Prop := ∃ (dx a1 a2 a3 : Addr) (y1 y2 y3 : List V), H x = some (.ins C dx (rbF a1 a2 a3)) ∧ H a1 = some (.lst y1) ∧ H a2 = some (.lst y2) ∧ H a3 = some (.lst y3) ∧
  DpAll K H y1 (fs.map dF) ∧ DpAll K H y2 (ts.map dTie) ∧ DpAll K H y3 (ks.map dKnd)
theorem RbAt.mono {K : PySem.W.Frag} {H H' : Hp} {C x : Addr} {fs : List Fld} {ts : List Tie} {ks : List Knd} (s : Same H H') (h : RbAt K H C x fs ts ks) : RbAt K H' C x fs ts ks := by
  obtain ⟨dx, a1, a2, a3, y1, y2, y3, h0, h1, h2, h3, d1, d2, d3⟩ := h
  exact ⟨dx, a1, a2, a3, y1, y2, y3, s _ _ h0, s _ _ h1, s _ _ h2, s _ _ h3, DpAll.mono s d1, DpAll.mono s d2, DpAll.mono s d3⟩
/-- how deep the parts are -/
theorem sh_T (t : Tst) : Sh 1 (dT t) := .tup (by show 3 ≤ 100000; decide) fun d h => by
  simp only [List.mem_cons, List.not_mem_nil, or_false] at h
  rcases h with rfl | rfl | rfl <;> exact .str
theorem depth_map {α : Type} {f : α → PyData} {n : Nat} (h : ∀ x, (f x).depth ≤ n) (l : List α) : PyData.depthAll (l.map f) ≤ n := depth_all fun d hd => by
  obtain ⟨x, _, rfl⟩ := List.mem_map.mp hd
  exact h x
theorem dep_str (l : List Str) : PyData.depthAll (l.map PyData.str) ≤ 0 := depth_map (fun _ => Nat.le_refl 0) l
theorem dep_dF (f : Fld) : (dF f).depth ≤ 2 := Nat.succ_le_succ (Nat.max_le.mpr ⟨Nat.zero_le _, Nat.max_le.mpr ⟨Nat.succ_le_succ (dep_str _), Nat.zero_le _⟩⟩)
theorem dep_dT (t : Tst) : (dT t).depth ≤ 1 := (sh_T t).depth
theorem dep_dS (s : Stp) : (dS s).depth ≤ 1 := Nat.succ_le_succ (Nat.max_le.mpr ⟨Nat.le_refl 0, Nat.max_le.mpr ⟨Nat.le_refl 0, Nat.le_refl 0⟩⟩)
theorem dep_dO : ∀ o : Option (List Stp), (dO o).depth ≤ 2
  | none => Nat.zero_le _
  | some ss => Nat.succ_le_succ (depth_map dep_dS ss)
theorem dep_dC (c : Cas) : (dC c).depth ≤ 3 := Nat.succ_le_succ (Nat.max_le.mpr ⟨Nat.succ_le_succ (depth_map dep_dT c.1), Nat.max_le.mpr ⟨dep_dO c.2, Nat.zero_le _⟩⟩)
theorem dep_dP (p : List Cas) : (dP p).depth ≤ 4 := Nat.succ_le_succ (depth_map dep_dC p)
theorem dep_dTie (t : Tie) : (dTie t).depth ≤ 5 := Nat.succ_le_succ (Nat.max_le.mpr ⟨Nat.zero_le _, Nat.max_le.mpr ⟨dep_dP _, Nat.zero_le _⟩⟩)
theorem dep_dOP : ∀ o : Option (List Cas), (dOP o).depth ≤ 4
  | none => Nat.zero_le _
  | some p => dep_dP p
theorem dep_dH : ∀ o : Option (List Str), (dH o).depth ≤ 4
  | none => Nat.zero_le _
  | some v => Nat.le_trans (Nat.succ_le_succ (dep_str v)) (by decide)
theorem dep_dKey (k : Str × Str) : (dKey k).depth ≤ 1 := Nat.succ_le_succ (Nat.max_le.mpr ⟨Nat.le_refl 0, Nat.max_le.mpr ⟨Nat.le_refl 0, Nat.le_refl 0⟩⟩)
theorem dep_dKnd (k : Knd) : (dKnd k).depth ≤ 5 := Nat.succ_le_succ (Nat.max_le.mpr ⟨Nat.zero_le _, Nat.max_le.mpr ⟨Nat.le_trans (Nat.succ_le_succ (depth_map dep_dKey k.keys)) (by decide), Nat.max_le.mpr ⟨dep_dOP _, Nat.max_le.mpr ⟨dep_dH _, Nat.zero_le _⟩⟩⟩⟩)
theorem dep_F (a b : List Fld) : min (PyData.list (a.map dF)).depth (PyData.list (b.map dF)).depth ≤ 64 := Nat.le_trans (Nat.min_le_left _ _) (Nat.le_trans (Nat.succ_le_succ (depth_map dep_dF a)) (by decide))
theorem dep_T (a b : List Tie) : min (PyData.list (a.map dTie)).depth (PyData.list (b.map dTie)).depth ≤ 64 := Nat.le_trans (Nat.min_le_left _ _) (Nat.le_trans (Nat.succ_le_succ (depth_map dep_dTie a)) (by decide))
theorem dep_K (a b : List Knd) : min (PyData.list (a.map dKnd)).depth (PyData.list (b.map dKnd)).depth ≤ 64 := Nat.le_trans (Nat.min_le_left _ _) (Nat.le_trans (Nat.succ_le_succ (depth_map dep_dKnd a)) (by decide))
/-- a method without parameters: a new list of these -/
def spLs (K : PySem.W.Frag) (C : Addr) (sel : List Fld → List Tie → List Knd → List PyData) : Sp := fun vs H Q _ => ∃ (x : Addr) (fs : List Fld) (ts : List Tie) (ks : List Knd), vs = [.ref x] ∧ RbAt K H C x fs ts ks ∧ OkBook fs ts ks ∧
  ∀ (p : Addr) (H' : Hp) (ys : List V), H p = none → Same H H' → H' p = some (.lst ys) → DpAll K H' ys (sel fs ts ks) → Q (.ref p) H'
section
variable {P : Program} {w : World} {K : PySem.W.Frag} {mg : Str → Option Value} {base : Heap} {f : Addr} {fd : FuncData}
theorem ok_mfields (T : Top K mg) (R : RbC K mg) (F : Fun K "fields" "Rulebook.fields" s_Rulebook_fields f fd) : FnOk P w K mg base CX0 1 f fd ["self"] (spLs K R.C (fun fs _ _ => fs.map dF)) := by
  refine F.ok sc_Rulebook_fields (fun vs H Q E h => ?_) (fun cdv A outer s H vs Q E hr h => ?_)
  · obtain ⟨x, fs, ts, ks, rfl, _⟩ := h
    rfl
  obtain ⟨x, fs, ts, ks, rfl, ⟨dx, a1, a2, a3, y1, y2, y3, h0, h1, h2, h3, d1, d2, d3⟩, ok, q⟩ := h
  refine ⟨_, (pss_one (ps_ret (pe_callTy (call_list_of_K (K := K) (by rfl)) (by rfl) T.b_list (by decide +kernel) (pa_cons (pe_fld (pv 0) (by rfl)) pa_nil)))), ?_⟩
  exact ⟨_, rfl, x, R.C, dx, _, .ref a1, rfl, h0, R.cl, R.n1, rfl, a1, _, rfl, .inl (SqL.of h1), fun p np => q p _ _ np (same_new np) upd_same (DpAll.mono (same_new np) d1)⟩
theorem ok_mties (T : Top K mg) (R : RbC K mg) (F : Fun K "ties" "Rulebook.ties" s_Rulebook_ties f fd) : FnOk P w K mg base CX0 1 f fd ["self"] (spLs K R.C (fun _ ts _ => ts.map dTie)) := by
  refine F.ok sc_Rulebook_ties (fun vs H Q E h => ?_) (fun cdv A outer s H vs Q E hr h => ?_)
  · obtain ⟨x, fs, ts, ks, rfl, _⟩ := h
    rfl
  obtain ⟨x, fs, ts, ks, rfl, ⟨dx, a1, a2, a3, y1, y2, y3, h0, h1, h2, h3, d1, d2, d3⟩, ok, q⟩ := h
  refine ⟨_, (pss_one (ps_ret (pe_callTy (call_list_of_K (K := K) (by rfl)) (by rfl) T.b_list (by decide +kernel) (pa_cons (pe_fld (pv 0) (by rfl)) pa_nil)))), ?_⟩
  exact ⟨_, rfl, x, R.C, dx, _, .ref a2, rfl, h0, R.cl, R.n2, rfl, a2, _, rfl, .inl (SqL.of h2), fun p np => q p _ _ np (same_new np) upd_same (DpAll.mono (same_new np) d2)⟩
theorem ok_mkinds (T : Top K mg) (R : RbC K mg) (F : Fun K "kinds" "Rulebook.kinds" s_Rulebook_kinds f fd) : FnOk P w K mg base CX0 1 f fd ["self"] (spLs K R.C (fun _ _ ks => ks.map dKnd)) := by
  refine F.ok sc_Rulebook_kinds (fun vs H Q E h => ?_) (fun cdv A outer s H vs Q E hr h => ?_)
  · obtain ⟨x, fs, ts, ks, rfl, _⟩ := h
    rfl
  obtain ⟨x, fs, ts, ks, rfl, ⟨dx, a1, a2, a3, y1, y2, y3, h0, h1, h2, h3, d1, d2, d3⟩, ok, q⟩ := h
  refine ⟨_, (pss_one (ps_ret (pe_callTy (call_list_of_K (K := K) (by rfl)) (by rfl) T.b_list (by decide +kernel) (pa_cons (pe_fld (pv 0) (by rfl)) pa_nil)))), ?_⟩
  exact ⟨_, rfl, x, R.C, dx, _, .ref a3, rfl, h0, R.cl, R.n3, rfl, a3, _, rfl, .inl (SqL.of h3), fun p np => q p _ _ np (same_new np) upd_same (DpAll.mono (same_new np) d3)⟩
def spEqR (K : PySem.W.Frag) (C : Addr) : Sp := fun vs H Q _ => ∃ (x : Addr) (y : V) (fs : List Fld) (ts : List Tie) (ks : List Knd), vs = [.ref x, y] ∧ RbAt K H C x fs ts ks ∧ OkBook fs ts ks ∧
  ((∃ (z : Addr) (fs2 : List Fld) (ts2 : List Tie) (ks2 : List Knd), y = .ref z ∧ RbAt K H C z fs2 ts2 ks2 ∧ OkBook fs2 ts2 ks2 ∧ Q (.bl (PyData.eqv (.list (fs.map dF)) (.list (fs2.map dF)) && (PyData.eqv (.list (ts.map dTie)) (.list (ts2.map dTie)) && PyData.eqv (.list (ks.map dKnd)) (.list (ks2.map dKnd))))) H) ∨
   (∃ (z : Addr) (zs : List V), y = .ref z ∧ SqT K H z zs ∧ Q (.bl false) H))
theorem ok_meq (T : Top K mg) (R : RbC K mg) (F : Fun K "__eq__" "Rulebook.__eq__" s_Rulebook__eq f fd) : FnOk P w K mg base CX0 1 f fd ["self", "other"] (spEqR K R.C) := by
  refine F.ok sc_Rulebook__eq (fun vs H Q E h => ?_) (fun cdv A outer s H vs Q E hr h => ?_)
  · obtain ⟨x, y, fs, ts, ks, rfl, _⟩ := h
    rfl
  obtain ⟨x, y, fs, ts, ks, rfl, ⟨dx, a1, a2, a3, y1, y2, y3, h0, h1, h2, h3, d1, d2, d3⟩, ok, q⟩ := h
  refine ⟨_, (pss_cons (ps_if (pt_not (pt_val (pe_callB (call_isi_K (K := K) (by rfl)) (by rfl) T.b_isinstance (by decide +kernel) (pa_cons (pv 1) (pa_cons (pe_glob (v := .ref R.C) rfl R.g rfl) pa_nil))))) (pss_one (ps_ret pe_bl)) pss_nil)
    (pss_one (ps_ret (pe_and (pe_cmpR (op_eqP (K := K) (by rfl) hr.units) (pe_fld (pv 0) (by rfl)) (pe_fld (pv 1) (by rfl)) (nomark _)) (pe_and (pe_cmpR (op_eqP (K := K) (by rfl) hr.units) (pe_fld (pv 0) (by rfl)) (pe_fld (pv 1) (by rfl)) (nomark _)) (pe_one (pe_cmpR (op_eqP (K := K) (by rfl) hr.units) (pe_fld (pv 0) (by rfl)) (pe_fld (pv 1) (by rfl)) (nomark _)))))))), ?_⟩
  rcases q with ⟨z, fs2, ts2, ks2, rfl, ⟨dx', c1, c2, c3, z1, z2, z3, g0, g1, g2, g3, e1, e2, e3⟩, ok2, q⟩ | ⟨z, zs, rfl, hz, q⟩
  · refine ⟨_, rfl, _, _, _, _, true, rfl, .own _, .base (.ins g0 R.cl R.ha R.hn R.ht R.hm), R.k1, _, rfl, iteF ?_⟩
    have p1 : Dp K H (.ref a1) (.list (fs.map dF)) := .lst (SqL.of h1) d1
    have p2 : Dp K H (.ref a2) (.list (ts.map dTie)) := .lst (SqL.of h2) d2
    have p3 : Dp K H (.ref a3) (.list (ks.map dKnd)) := .lst (SqL.of h3) d3
    have r1 : Dp K H (.ref c1) (.list (fs2.map dF)) := .lst (SqL.of g1) e1
    have r2 : Dp K H (.ref c2) (.list (ts2.map dTie)) := .lst (SqL.of g2) e2
    have r3 : Dp K H (.ref c3) (.list (ks2.map dKnd)) := .lst (SqL.of g3) e3
    refine ⟨_, rfl, x, R.C, dx, _, .ref a1, rfl, h0, R.cl, R.n1, rfl, _, rfl, z, R.C, dx', _, .ref c1, rfl, g0, R.cl, R.n1, rfl, _, _, p1, r1, dep_F _ _, _, rfl, iteB (fun w1 => ?_) (fun w1 => ?_)⟩
    · refine ⟨_, rfl, x, R.C, dx, _, .ref a2, rfl, h0, R.cl, R.n2, rfl, _, rfl, z, R.C, dx', _, .ref c2, rfl, g0, R.cl, R.n2, rfl, _, _, p2, r2, dep_T _ _, _, rfl, iteB (fun w2 => ?_) (fun w2 => ?_)⟩
      · refine ⟨_, rfl, x, R.C, dx, _, .ref a3, rfl, h0, R.cl, R.n3, rfl, _, rfl, z, R.C, dx', _, .ref c3, rfl, g0, R.cl, R.n3, rfl, _, _, p3, r3, dep_K _ _, ?_⟩
        rw [w1, w2] at q
        exact q
      · rw [w1, w2] at q
        exact q
    · rw [w1] at q
      exact q
  · exact ⟨_, rfl, _, _, _, _, false, rfl, .own _, tyT hz, R.k2, _, rfl, iteT q⟩
def spBkText (K : PySem.W.Frag) (C : Addr) : Sp := fun vs H Q _ => ∃ (x : Addr) (fs : List Fld) (ts : List Tie) (ks : List Knd), vs = [.ref x] ∧ RbAt K H C x fs ts ks ∧ OkBook fs ts ks ∧ ∀ H', Same H H' → Q (.str (textB fs ts ks)) H'
theorem ok_mtext (T : Top K mg) (R : RbC K mg) (F : Fun K "text" "Rulebook.text" s_Rulebook_text f fd) : FnOk P w K mg base CX0 6 f fd ["self"] (spBkText K R.C) := by
  have G_rulebook_text := ok_booktext (P := P) (w := w) (base := base) T
  refine F.ok sc_Rulebook_text (fun vs H Q E h => ?_) (fun cdv A outer s H vs Q E hr h => ?_)
  · obtain ⟨x, fs, ts, ks, rfl, _⟩ := h
    rfl
  obtain ⟨x, fs, ts, ks, rfl, ⟨dx, a1, a2, a3, y1, y2, y3, h0, h1, h2, h3, d1, d2, d3⟩, ok, q⟩ := h
  refine ⟨_, (pss_one (ps_ret (pe_call G_rulebook_text (hr.mono (by decide)) (by rfl) T.d_rulebook_text.g T.d_rulebook_text.kp T.d_rulebook_text.b .nil pass0 (pa_cons (pe_fld (pv 0) (by rfl)) (pa_cons (pe_fld (pv 0) (by rfl)) (pa_cons (pe_fld (pv 0) (by rfl)) pa_nil)))))), ?_⟩
  exact ⟨_, rfl, x, R.C, dx, _, .ref a1, rfl, h0, R.cl, R.n1, rfl, _, rfl, x, R.C, dx, _, .ref a2, rfl, h0, R.cl, R.n2, rfl, _, rfl, x, R.C, dx, _, .ref a3, rfl, h0, R.cl, R.n3, rfl, a1, a2, a3, y1, y2, y3, fs, ts, ks, rfl, SqL.of h1, SqL.of h2, SqL.of h3, d1, d2, d3, ok, q⟩
end
end Bh

set_option Elab.async false
set_option linter.all false
set_option maxRecDepth 100000
set_option maxHeartbeats 1000000
namespace Bh
open PySem PySem.Spec PyProof.Rows L2
/-- a method of the class at C -/
structure Mt (K : PySem.W.Frag) (C : Addr) (m qual : Str) (st : Stmt) (ps : List Str) : Type where
  f : Addr
  fd : FuncData
  F : Fun K m qual st f fd
  M : Meth K C m f
  b : Binds K fd ps []
/-- the class Draft -/
structure DfC (K : PySem.W.Frag) (mg : Str → Option Value) : Type where
  C : Addr
  g : mg "Draft" = some (.ref C)
  cl : Cls K C
  n1 : NoAttr K C "_fields"
  n2 : NoAttr K C "_ties"
  n3 : NoAttr K C "_kinds"
structure DfM (K : PySem.W.Frag) (mg : Str → Option Value) (R : DfC K mg) : Type where
  fI : Addr
  fdI : FuncData
  FI : Fun K "__init__" "Draft.__init__" s_Draft__init fI fdI
  bI : Binds K fdI ["self"] []
  mkr : Mk K R.C fI
  take : Mt K R.C "take" "Draft.take" s_Draft_take ["self", "line"]
  is_whole : Mt K R.C "is_whole" "Draft.is_whole" s_Draft_is_whole ["self"]
  parts : Mt K R.C "parts" "Draft.parts" s_Draft_parts ["self"]
  take_field : Mt K R.C "_take_field" "Draft._take_field" s_Draft_take_field ["self", "words"]
  take_tie : Mt K R.C "_take_tie" "Draft._take_tie" s_Draft_take_tie ["self", "name"]
  waits_for_case : Mt K R.C "_waits_for_case" "Draft._waits_for_case" s_Draft_waits_for_case ["self"]
  take_case : Mt K R.C "_take_case" "Draft._take_case" s_Draft_take_case ["self", "case"]
  take_case_of_kind : Mt K R.C "_take_case_of_kind" "Draft._take_case_of_kind" s_Draft_take_case_of_kind ["self", "case"]
  take_kind : Mt K R.C "_take_kind" "Draft._take_kind" s_Draft_take_kind ["self", "words"]
  take_birth : Mt K R.C "_take_birth" "Draft._take_birth" s_Draft_take_birth ["self", "value"]
/-- the draft x with its three lists -/
structure DfA (K : PySem.W.Frag) (H : Hp) (C x a1 a2 a3 : Addr) (D : Dft) : Prop where
  n12 : a1 ≠ a2
  n13 : a1 ≠ a3
  n23 : a2 ≠ a3
  ex : ∃ (dx : Addr) (y1 y2 y3 : List V), H x = some (.ins C dx (rbF a1 a2 a3)) ∧ H a1 = some (.lst y1) ∧ H a2 = some (.lst y2) ∧ H a3 = some (.lst y3) ∧ Paired (FdAt K H) y1 D.1 ∧ DpAll K H y2 (D.2.1.map dTie) ∧ DpAll K H y3 (D.2.2.map dKnd)
theorem DfA.mono {K : PySem.W.Frag} {H H' : Hp} {C x a1 a2 a3 : Addr} {D : Dft} (s : Same H H') (h : DfA K H C x a1 a2 a3 D) : DfA K H' C x a1 a2 a3 D := by
  obtain ⟨n1, n2, n3, dx, y1, y2, y3, h0, h1, h2, h3, d1, d2, d3⟩ := h
  exact ⟨n1, n2, n3, dx, y1, y2, y3, s _ _ h0, s _ _ h1, s _ _ h2, s _ _ h3, fds_mono s d1, DpAll.mono s d2, DpAll.mono s d3⟩
theorem dpall_last {α : Type} {f : α → PyData} {K : PySem.W.Frag} {H : Hp} {a : α} : ∀ {l : List α} {xs : List V}, DpAll K H xs ((l ++ [a]).map f) → ∃ (ys : List V) (v : V), xs = ys ++ [v] ∧ DpAll K H ys (l.map f) ∧ Dp K H v (f a)
  | [], xs, h => by
    cases h with
    | cons h1 h2 =>
    cases h2
    exact ⟨[], _, rfl, .nil, h1⟩
  | b :: l, xs, h => by
    cases h with
    | cons h1 h2 =>
    obtain ⟨ys, v, rfl, h3, h4⟩ := dpall_last h2
    exact ⟨_ :: ys, v, rfl, .cons h1 h3, h4⟩
theorem last_of {α : Type} {l : List α} (h : l ≠ []) : ∃ (r : List α) (a : α), l = r ++ [a] := ⟨l.dropLast, l.getLast h, (List.dropLast_concat_getLast h).symm⟩
theorem at_m1 {ys : List V} {v : V} : atI (ys ++ [v]) (-1) = some v := at_last (List.getLast?_concat ..)
theorem ix_m1 {α : Type} {ys : List α} {v : α} : ixN (ys ++ [v]).length (-1) = some ys.length := by
  unfold ixN
  rw [if_neg (by decide), if_pos (by rw [List.length_append]; show -(((ys.length + 1 : Nat)) : Int) ≤ -1; omega)]
  rw [List.length_append]
  show some ((-1 + (((ys.length + 1 : Nat)) : Int))).toNat = some ys.length
  congr 1
  omega
theorem set_m1 {α : Type} {ys : List α} {v u : α} : (ys ++ [v]).set ys.length u = ys ++ [u] := by
  rw [List.set_append_right _ _ (Nat.le_refl _), Nat.sub_self]
  rfl
/-- program: the taking, or none -/
theorem read_prog {K : PySem.W.Frag} {H : Hp} {Q : VK} {σ : L2.St} {i : Nat} {u : V} {o : Option (List Cas)} (ei : σ[i]? = some (some u)) (h : Dp K H u (dOP o)) (q : ∀ (H' : Hp) (p : Addr) (xs : List V), Same H H' → SqT K H' p xs → DpAll K H' xs ((o.getD []).map dC) → Q (.ref p) H') :
    tIf (tTest (tOp (fun x y H Q => y = V.non ∧ Q (V.bl (decide (x = V.non))) H) (tVar i) (tC V.non))) (tTup tNil) (tVar i) σ H Q := by
  cases o with
  | none =>
    cases h
    refine ⟨_, ei, rfl, _, rfl, iteT ⟨Nat.zero_le _, fun p np => ?_⟩⟩
    exact q _ p [] (same_new np) (SqT.of upd_same) .nil
  | some c =>
    obtain ⟨p, xs, rfl, hp, dx⟩ := dp_tup h
    exact ⟨_, ei, rfl, _, rfl, iteF ⟨_, ei, q H p xs (Same.refl _) hp dx⟩⟩
theorem cut_tail {v : V} {xs : List V} : cutV (v :: xs) (some 1) none = xs := by
  unfold cutV
  rw [HT.sIx_none, show HT.sIx (v :: xs).length 0 (some 1) = min 1 (v :: xs).length from HT.sIx_nat _ _ 1, Nat.min_eq_left (by show 1 ≤ xs.length + 1; omega)]
  show List.take (xs.length + 1 - 1) xs = xs
  exact List.take_of_length_le (by omega)
/-- all but these three -/
def hd3 (a1 a2 a3 : Addr) (H : Hp) : Hp := hid a1 (hid a2 (hid a3 H))
theorem hd3_at {a1 a2 a3 a : Addr} {H : Hp} {o : HO} (e : hd3 a1 a2 a3 H a = some o) : a ≠ a1 ∧ a ≠ a2 ∧ a ≠ a3 ∧ H a = some o := by
  unfold hd3 hid at e
  split at e
  · cases e
  split at e
  · cases e
  split at e
  · cases e
  rename_i n1 n2 n3
  exact ⟨n1, n2, n3, e⟩
theorem hd3_same {a1 a2 a3 p : Addr} {H H' : Hp} {o : HO} (s : Same H H') (m : p = a1 ∨ p = a2 ∨ p = a3) : Same (hd3 a1 a2 a3 H) (upd H' p o) := fun a w e => by
  obtain ⟨n1, n2, n3, k⟩ := hd3_at e
  rw [upd_ne (by rcases m with rfl | rfl | rfl <;> assumption)]
  exact s _ _ k
section
variable {K : PySem.W.Frag} {H : Hp} {C x a1 a2 a3 : Addr} {D : Dft}
theorem ne_ins {C' d p : Addr} {fs : List (Str × V)} {ys : List V} {u : Addr} (h : H u = some (.ins C' d fs)) (k : H p = some (.lst ys)) : u ≠ p := fun z => by
  rw [z, k] at h
  cases h
theorem DfA.add1 {v : V} {f : Fld} {y : List V} (h : DfA K H C x a1 a2 a3 D) (hy : H a1 = some (.lst y)) (hf : FdAt K H v f) : DfA K (upd H a1 (.lst (y ++ [v]))) C x a1 a2 a3 (D.1 ++ [f], D.2) := by
  obtain ⟨n12, n13, n23, dx, y1, y2, y3, h0, h1, h2, h3, d1, d2, d3⟩ := h
  have e : y1 = y := by
    rw [hy] at h1
    injection h1 with h1
    injection h1 with h1
    exact h1.symm
  subst e
  have im : Imm H (upd H a1 (.lst (y1 ++ [v]))) := imm_upd h1
  exact ⟨n12, n13, n23, dx, y1 ++ [v], y2, y3, (upd_ne (ne_ins h0 h1)).trans h0, upd_same, (upd_ne (Ne.symm n12)).trans h2, (upd_ne (Ne.symm n13)).trans h3, fds_snoc (fds_imm im d1) (FdAt.imm im hf), DpAll.imm im (noLs_map noL_dTie _) d2, DpAll.imm im (noLs_map noL_dKnd _) d3⟩
theorem DfA.set2 {ys : List V} {ts : List Tie} (h : DfA K H C x a1 a2 a3 D) (hd : DpAll K H ys (ts.map dTie)) : DfA K (upd H a2 (.lst ys)) C x a1 a2 a3 (D.1, ts, D.2.2) := by
  obtain ⟨n12, n13, n23, dx, y1, y2, y3, h0, h1, h2, h3, d1, d2, d3⟩ := h
  have im : Imm H (upd H a2 (.lst ys)) := imm_upd h2
  exact ⟨n12, n13, n23, dx, y1, ys, y3, (upd_ne (ne_ins h0 h2)).trans h0, (upd_ne n12).trans h1, upd_same, (upd_ne (Ne.symm n23)).trans h3, fds_imm im d1, DpAll.imm im (noLs_map noL_dTie _) hd, DpAll.imm im (noLs_map noL_dKnd _) d3⟩
theorem DfA.set3 {ys : List V} {ks : List Knd} (h : DfA K H C x a1 a2 a3 D) (hd : DpAll K H ys (ks.map dKnd)) : DfA K (upd H a3 (.lst ys)) C x a1 a2 a3 (D.1, D.2.1, ks) := by
  obtain ⟨n12, n13, n23, dx, y1, y2, y3, h0, h1, h2, h3, d1, d2, d3⟩ := h
  have im : Imm H (upd H a3 (.lst ys)) := imm_upd h3
  exact ⟨n12, n13, n23, dx, y1, y2, ys, (upd_ne (ne_ins h0 h3)).trans h0, (upd_ne n13).trans h1, (upd_ne n23).trans h2, upd_same, fds_imm im d1, DpAll.imm im (noLs_map noL_dTie _) d2, DpAll.imm im (noLs_map noL_dKnd _) hd⟩
end
/-- the draft behind a line -/
def DfTo (K : PySem.W.Frag) (H : Hp) (C x a1 a2 a3 : Addr) (E : Dft) (Q : Hp → Prop) : Prop := ∀ H', Same (hd3 a1 a2 a3 H) H' → DfA K H' C x a1 a2 a3 E → Q H'
def spTakeOf (K : PySem.W.Frag) (C : Addr) (A : Hp → V → Dft → Dft → Prop) : Sp := fun vs H Q _ => ∃ (x a1 a2 a3 : Addr) (v : V) (D E : Dft), vs = [.ref x, v] ∧ DfA K H C x a1 a2 a3 D ∧ A H v D E ∧ DfTo K H C x a1 a2 a3 E (Q (.bl true))
section
variable {P : Program} {w : World} {K : PySem.W.Frag} {mg : Str → Option Value} {base : Heap} {R : DfC K mg}
/-- a field's words -/
def AFld (K : PySem.W.Frag) : Hp → V → Dft → Dft → Prop := fun H v D E => ∃ (f : Fld) (p : Addr), v = .ref p ∧ H p = some (.lst ((f.1 :: f.2).map V.str)) ∧ D.2 = ([], []) ∧ OkFld D.1 f ∧ E = (D.1 ++ [f], [], [])
theorem ok_dtakefield (T : Top K mg) (M : DfM K mg R) : FnOk P w K mg base CX0 6 M.take_field.f M.take_field.fd ["self", "words"] (spTakeOf K R.C (AFld K)) := by
  have G_field_fits := ok_fieldfits (P := P) (w := w) (base := base) T
  refine M.take_field.F.ok sc_Draft_take_field (fun vs H Q E h => ?_) (fun cdv A outer s H vs Q E hr h => ?_)
  · obtain ⟨x, a1, a2, a3, v, D, E, rfl, _⟩ := h
    rfl
  obtain ⟨x, a1, a2, a3, v, D, E', rfl, hd, ⟨f, p, rfl, hp, eD, ok, rfl⟩, q⟩ := h
  refine ⟨_, (pss_cons (ps_set (i := 2) sc_Draft_take_field.nd rfl (Or.inl rfl) (pe_tup (pa_cons (pe_ix (ix_list_K (K := K) (by rfl)) (pv 1) pe_int (fun _ _ => rfl)) (pa_cons (pe_callTy (call_tuple_of_P (K := K) (by rfl)) (by rfl) T.b_tuple (by decide +kernel) (pa_cons (pe_slice (sl_list_K (K := K) (by rfl)) (pv 1) (po_some pe_int) po_none) pa_nil)) pa_nil))))
    (pss_cons (ps_if (PW.pt (pw_or (pt_cmpR op_gt (pe_callB (call_len_seq_K (K := K) (by rfl)) (by rfl) T.b_len PySem.boot_len (pa_cons (pe_fld (pv 0) (by rfl)) pa_nil)) pe_int (nomark _)) (pw_or1 (pt_not (pt_val (pe_call G_field_fits (hr.mono (by decide)) (by rfl) T.d_field_fits.g T.d_field_fits.kp T.d_field_fits.b .nil pass0 (pa_cons (pe_fld (pv 0) (by rfl)) (pa_cons (pv 2) pa_nil)))))))) (pss_one (ps_ret pe_bl)) pss_nil)
    (pss_cons (ps_expr (pe_bm_K (K := K) (by rfl) PySem.F.plainAttrs_list PySem.F.slot_list_append PySem.F.type_list_append mt_append (pe_fld (pv 0) (by rfl)) (pa_cons (pv 2) pa_nil)))
    (pss_one (ps_ret pe_bl))))), ?_⟩
  rw [show L2.start ["self", "words", "field"] [.ref x, .ref p] = [some (.ref x), some (.ref p), none] from rfl]
  obtain ⟨n12, n13, n23, dx, y1, y2, y3, h0, h1, h2, h3, d1, d2, d3⟩ := id hd
  have e2 : D.2.1 = [] := by rw [eD]
  have e3 : D.2.2 = [] := by rw [eD]
  rw [e2] at d2
  cases d2
  refine sq_asg ?_
  refine ⟨_, rfl, p, _, (0 : Int), .str f.1, rfl, rfl, SqL.of hp, at_nn (by decide) rfl, ?_⟩
  refine ⟨_, rfl, 1, rfl, p, _, rfl, SqL.of hp, fun c nc => ?_⟩
  rw [List.map_cons, cut_tail]
  have s1 : Same H (upd H c (.lst (f.2.map V.str))) := same_new nc
  refine ⟨c, _, rfl, .inl ⟨SqL.of upd_same, fun l o nl ho => ⟨(by show 2 ≤ sizeLine; decide), fun t nt => ?_⟩⟩⟩
  have s2 : Same _ (upd (upd H c (.lst (f.2.map V.str))) l (.frz o (.tup (f.2.map V.str)))) := same_new nl
  have s3 : Same _ (upd (upd (upd H c (.lst (f.2.map V.str))) l (.frz o (.tup (f.2.map V.str)))) t (.tup [.str f.1, .ref l])) := same_new nt
  have sA := s1.trans (s2.trans s3)
  have hf : FdAt K (upd (upd (upd H c (.lst (f.2.map V.str))) l (.frz o (.tup (f.2.map V.str)))) t (.tup [.str f.1, .ref l])) (.ref t) f := ⟨t, l, rfl, SqT.of upd_same, .inl ⟨o, s3 _ _ upd_same, ho⟩⟩
  generalize upd (upd (upd H c (.lst (f.2.map V.str))) l (.frz o (.tup (f.2.map V.str)))) t (.tup [.str f.1, .ref l]) = H3 at sA hf ⊢
  refine gn_step ?_
  dsimp only [List.set]
  have d1' := fds_mono sA d1
  refine ⟨_, rfl, x, R.C, dx, _, .ref a2, rfl, sA _ _ h0, R.cl, R.n2, rfl, a2, [], rfl, .inl (SqL.of (sA _ _ h2)), _, _, rfl, rfl, _, rfl, ?_⟩
  refine iteF ?_
  refine ⟨_, rfl, x, R.C, dx, _, .ref a1, rfl, sA _ _ h0, R.cl, R.n1, rfl, _, rfl, .ref a1, .ref t, D.1, f, rfl, ⟨a1, y1, rfl, .inl (SqL.of (sA _ _ h1)), fds_dp d1'⟩, FdAt.dp hf, ok, fun H4 s4 => ⟨_, rfl, iteF ?_⟩⟩
  have sB := sA.trans s4
  have hfin : H4 a1 = some (.lst y1) := sB _ _ h1
  have l1 : y1.length = D.1.length := fds_len d1
  refine ⟨_, rfl, x, R.C, dx, _, .ref a1, rfl, sB _ _ h0, R.cl, R.n1, rfl, .inl ⟨rfl, _, SqL.of hfin⟩, _, rfl, a1, y1, .ref t, rfl, rfl, hfin, lt_line (by have := ok.few; omega), ?_⟩
  have dz : D = (D.1, [], []) := by rw [← eD]
  refine q _ (hd3_same sB (.inl rfl)) ?_
  have hd4 := hd.mono sB
  rw [dz] at hd4
  exact hd4.add1 hfin (hf.mono s4)
theorem ok_dwaits (T : Top K mg) (M : DfM K mg R) : FnOk P w K mg base CX0 1 M.waits_for_case.f M.waits_for_case.fd ["self"] (fun vs H Q _ => ∃ (x a1 a2 a3 : Addr) (D : Dft), vs = [.ref x] ∧ DfA K H R.C x a1 a2 a3 D ∧ (∀ t ∈ D.2.1, t.2 ≠ []) ∧ Q (.bl false) H) := by
  refine M.waits_for_case.F.ok sc_Draft_waits_for_case (fun vs H Q E h => ?_) (fun cdv A outer s H vs Q E hr h => ?_)
  · obtain ⟨x, a1, a2, a3, D, rfl, _⟩ := h
    rfl
  obtain ⟨x, a1, a2, a3, D, rfl, hd, ht, q⟩ := h
  refine ⟨_, (pss_one (ps_ret (pe_and (pe_cmpR op_gt (pe_callB (call_len_seq_K (K := K) (by rfl)) (by rfl) T.b_len PySem.boot_len (pa_cons (pe_fld (pv 0) (by rfl)) pa_nil)) pe_int (nomark _)) (pe_one (pe_cmpR op_eq (pe_callB (call_len_seq_K (K := K) (by rfl)) (by rfl) T.b_len PySem.boot_len (pa_cons (pe_ix (ix_tup_K (K := K) (by rfl)) (pe_ix (ix_list_K (K := K) (by rfl)) (pe_fld (pv 0) (by rfl)) (pe_un un_neg pe_int) (fun _ _ => rfl)) pe_int (fun _ _ => rfl)) pa_nil)) pe_int (nomark _)))))), ?_⟩
  obtain ⟨_, _, _, dx, y1, y2, y3, h0, h1, h2, h3, d1, d2, d3⟩ := id hd
  refine ⟨_, rfl, x, R.C, dx, _, .ref a2, rfl, h0, R.cl, R.n2, rfl, a2, y2, rfl, .inl (SqL.of h2), _, _, rfl, rfl, _, rfl, iteB (fun e => ?_) (fun _ => q)⟩
  have l2 : y2.length = D.2.1.length := by rw [DpAll.length d2, List.length_map]
  have pos : 0 < y2.length := by have := of_decide_eq_true e; omega
  obtain ⟨ts, t, et⟩ := last_of (l := D.2.1) (fun z => by rw [l2, z] at pos; cases pos)
  rw [et] at d2
  obtain ⟨ys, v, rfl, _, dv⟩ := dpall_last d2
  obtain ⟨a, w2, rfl, ha, hw⟩ := dp_tie dv
  obtain ⟨b, xs, rfl, hb, dxs⟩ := dp_tup hw
  have ne := ht t (by rw [et]; exact List.mem_append_right _ (List.mem_singleton.mpr rfl))
  refine ⟨_, rfl, x, R.C, dx, _, .ref a2, rfl, h0, R.cl, R.n2, rfl, 1, rfl, a2, _, (-1 : Int), .ref a, rfl, rfl, SqL.of h2, at_m1, a, _, (1 : Int), .ref b, rfl, rfl, ha, at_nn (by decide) rfl, b, xs, rfl, .inr hb, rfl, ?_⟩
  have lx : xs.length = t.2.length := by rw [DpAll.length dxs, List.length_map]
  have n0 : (V.int xs.length : V) ≠ .int 0 := fun z => by
    injection z with z
    exact ne (List.length_eq_zero_iff.mp (by omega))
  show Q (.bl (decide (V.int xs.length = V.int 0))) H
  rw [decide_eq_false n0]
  exact q
theorem ok_dwhole (T : Top K mg) (M : DfM K mg R) : FnOk P w K mg base CX0 1 M.is_whole.f M.is_whole.fd ["self"] (fun vs H Q _ => ∃ (x a1 a2 a3 : Addr) (D : Dft), vs = [.ref x] ∧ DfA K H R.C x a1 a2 a3 D ∧ D.2.2 ≠ [] ∧ Q (.bl true) H) := by
  refine M.is_whole.F.ok sc_Draft_is_whole (fun vs H Q E h => ?_) (fun cdv A outer s H vs Q E hr h => ?_)
  · obtain ⟨x, a1, a2, a3, D, rfl, _⟩ := h
    rfl
  obtain ⟨x, a1, a2, a3, D, rfl, hd, ht, q⟩ := h
  refine ⟨_, (pss_one (ps_ret (pe_cmpR op_gt (pe_callB (call_len_seq_K (K := K) (by rfl)) (by rfl) T.b_len PySem.boot_len (pa_cons (pe_fld (pv 0) (by rfl)) pa_nil)) pe_int (nomark _)))), ?_⟩
  obtain ⟨_, _, _, dx, y1, y2, y3, h0, h1, h2, h3, d1, d2, d3⟩ := id hd
  refine ⟨_, rfl, x, R.C, dx, _, .ref a3, rfl, h0, R.cl, R.n3, rfl, a3, y3, rfl, .inl (SqL.of h3), _, _, rfl, rfl, ?_⟩
  have l3 : 0 < y3.length := by
    rw [DpAll.length d3, List.length_map]
    exact List.length_pos_iff.mpr ht
  show Q (.bl (decide ((0 : Int) < (y3.length : Int)))) H
  rw [decide_eq_true (by omega)]
  exact q
/-- a tie's name -/
def ATie : Hp → V → Dft → Dft → Prop := fun _ v D E => ∃ n : Str, v = .str n ∧ D.1 ≠ [] ∧ D.2.2 = [] ∧ (∀ t ∈ D.2.1, t.2 ≠ []) ∧ D.2.1.length < 4 ∧ IsNm n ∧ n ∉ D.2.1.map (·.1) ∧ E = (D.1, D.2.1 ++ [(n, [])], [])
theorem ok_dtaketie (T : Top K mg) (M : DfM K mg R) : FnOk P w K mg base CX0 6 M.take_tie.f M.take_tie.fd ["self", "name"] (spTakeOf K R.C ATie) := by
  have G_name_fits := ok_namefits (P := P) (w := w) (base := base) T
  have G_m_waits_for_case := ok_dwaits (P := P) (w := w) (base := base) T M
  refine M.take_tie.F.ok sc_Draft_take_tie (fun vs H Q E h => ?_) (fun cdv A outer s H vs Q E hr h => ?_)
  · obtain ⟨x, a1, a2, a3, v, D, E, rfl, _⟩ := h
    rfl
  obtain ⟨x, a1, a2, a3, v, D, E', rfl, hd, ⟨n, rfl, e1, e3, h2ne, l4, nm, nin, rfl⟩, q⟩ := h
  refine ⟨_, (pss_cons (ps_if (PW.pt (pw_or (pt_cmpR op_eq (pe_callB (call_len_seq_K (K := K) (by rfl)) (by rfl) T.b_len PySem.boot_len (pa_cons (pe_fld (pv 0) (by rfl)) pa_nil)) pe_int (nomark _)) (pw_or (pt_cmpR op_gt (pe_callB (call_len_seq_K (K := K) (by rfl)) (by rfl) T.b_len PySem.boot_len (pa_cons (pe_fld (pv 0) (by rfl)) pa_nil)) pe_int (nomark _)) (pw_or1 (pt_val (pe_meth0 (pv 0) R.cl M.waits_for_case.M G_m_waits_for_case (hr.mono (by decide)) M.waits_for_case.b .nil pass0)))))) (pss_one (ps_ret pe_bl)) pss_nil)
    (pss_cons (ps_if (pt_not (pt_val (pe_call G_name_fits (hr.mono (by decide)) (by rfl) T.d_name_fits.g T.d_name_fits.kp T.d_name_fits.b .nil pass0 (pa_cons (pe_fld (pv 0) (by rfl)) (pa_cons (pv 1) (pa_cons (pe_gI rfl T.g_MOST_TIES) pa_nil)))))) (pss_one (ps_ret pe_bl)) pss_nil)
    (pss_cons (ps_expr (pe_bm_K (K := K) (by rfl) PySem.F.plainAttrs_list PySem.F.slot_list_append PySem.F.type_list_append mt_append (pe_fld (pv 0) (by rfl)) (pa_cons (pe_tup (pa_cons (pv 1) (pa_cons (pe_tup pa_nil) pa_nil))) pa_nil)))
    (pss_one (ps_ret pe_bl))))), ?_⟩
  rw [show L2.start ["self", "name"] [.ref x, .str n] = [some (.ref x), some (.str n)] from rfl]
  obtain ⟨n12, n13, n23, dx, y1, y2, y3, h0, h1, h2, h3, d1, d2, d3⟩ := id hd
  have l1 : y1.length = D.1.length := fds_len d1
  have l2 : y2.length = D.2.1.length := by rw [DpAll.length d2, List.length_map]
  rw [e3] at d3
  cases d3
  have hn : (D.2.1.map dTie).map hdN = D.2.1.map (·.1) := by rw [List.map_map]; rfl
  refine ⟨_, rfl, x, R.C, dx, _, .ref a1, rfl, h0, R.cl, R.n1, rfl, a1, y1, rfl, .inl (SqL.of h1), rfl, _, rfl, iteB (fun e => ?_) (fun _ => ?_)⟩
  · have z := of_decide_eq_true e
    injection z with z
    exact absurd (List.length_eq_zero_iff.mp (by omega)) e1
  refine ⟨_, rfl, x, R.C, dx, _, .ref a3, rfl, h0, R.cl, R.n3, rfl, a3, [], rfl, .inl (SqL.of h3), _, _, rfl, rfl, _, rfl, iteF ?_⟩
  refine ⟨_, rfl, x, dx, _, rfl, h0, rfl, x, a1, a2, a3, D, rfl, hd, h2ne, ⟨_, rfl, iteF ?_⟩⟩
  refine ⟨_, rfl, x, R.C, dx, _, .ref a2, rfl, h0, R.cl, R.n2, rfl, _, rfl, .ref a2, _, n, 4, rfl, HdS.of ⟨a2, y2, rfl, .inl (SqL.of h2), d2⟩ (fun d hd => by
    obtain ⟨t, _, rfl⟩ := List.mem_map.mp hd
    exact named_dTie t), by rw [hn, List.length_map]; omega, by rw [hn, List.length_map]; omega, nm, by rw [hn]; exact nin, fun H5 s5 => ⟨_, rfl, iteF ?_⟩⟩
  have h25 := s5 _ _ h2
  refine ⟨_, rfl, x, R.C, dx, _, .ref a2, rfl, s5 _ _ h0, R.cl, R.n2, rfl, .inl ⟨rfl, _, SqL.of h25⟩, _, rfl, (by show 0 ≤ sizeLine; exact Nat.zero_le _), fun t0 nt0 => ⟨(by show 2 ≤ sizeLine; decide), fun t nt => ?_⟩⟩
  have s6 : Same H5 (upd H5 t0 (.tup [])) := same_new nt0
  have s7 : Same _ (upd (upd H5 t0 (.tup [])) t (.tup [.str n, .ref t0])) := same_new nt
  have sA := s5.trans (s6.trans s7)
  refine ⟨a2, y2, .ref t, rfl, rfl, sA _ _ h2, lt_line (by omega), ?_⟩
  have hd7 := hd.mono sA
  refine q _ (hd3_same sA (.inr (.inl rfl))) ?_
  have hz := hd7.set2 (ys := y2 ++ [.ref t]) (ts := D.2.1 ++ [(n, [])]) (by
    rw [List.map_append]
    exact DpAll.append (DpAll.mono sA d2) (.cons (.tup (SqT.of upd_same) (.cons (.str _) (.cons (.tup (SqT.of (s7 _ _ upd_same)) .nil) .nil))) .nil))
  rw [e3] at hz
  exact hz
/-- a case -/
def ACas (K : PySem.W.Frag) : Hp → V → Dft → Dft → Prop := fun H v D E => ∃ (c : Cas), Dp K H v (dC c) ∧ FsB D.1 ∧ OkCas D.1 c ∧
  ((∃ (ts : List Tie) (n : Str) (p : List Cas), D.2.1 = ts ++ [(n, p)] ∧ D.2.2 = [] ∧ p.length < 8 ∧ E = (D.1, ts ++ [(n, p ++ [c])], [])) ∨
    ∃ (ks : List Knd) (n : Str) (a : List (Str × Str)) (o : Option (List Cas)), D.2.2 = ks ++ [⟨n, a, o, none⟩] ∧ (o.getD []).length < 8 ∧ E = (D.1, D.2.1, ks ++ [⟨n, a, some (o.getD [] ++ [c]), none⟩]))
def AKCas (K : PySem.W.Frag) : Hp → V → Dft → Dft → Prop := fun H v D E => ∃ (c : Cas), Dp K H v (dC c) ∧
    ∃ (ks : List Knd) (n : Str) (a : List (Str × Str)) (o : Option (List Cas)), D.2.2 = ks ++ [⟨n, a, o, none⟩] ∧ (o.getD []).length < 8 ∧ E = (D.1, D.2.1, ks ++ [⟨n, a, some (o.getD [] ++ [c]), none⟩])
theorem ok_dtakekcase (T : Top K mg) (M : DfM K mg R) : FnOk P w K mg base CX0 2 M.take_case_of_kind.f M.take_case_of_kind.fd ["self", "case"] (spTakeOf K R.C (AKCas K)) := by
  refine M.take_case_of_kind.F.ok sc_Draft_take_case_of_kind (fun vs H Q E h => ?_) (fun cdv A outer s H vs Q E hr h => ?_)
  · obtain ⟨x, a1, a2, a3, v, D, E, rfl, _⟩ := h
    rfl
  obtain ⟨x, a1, a2, a3, v, D, E', rfl, hd, ⟨c, hc, ks, n, a, o, e3, l8, rfl⟩, q⟩ := h
  refine ⟨_, (pss_cons (ps_asg (pe_ix (ix_list_K (K := K) (by rfl)) (pe_fld (pv 0) (by rfl)) (pe_un un_neg pe_int) (fun _ _ => rfl)) (pg_tup_K (K := K) (by rfl) (n := 4) (by rfl) (pgs_cons (pg_name (i := 2) sc_Draft_take_case_of_kind.nd rfl (Or.inl rfl)) (pgs_cons (pg_name (i := 3) sc_Draft_take_case_of_kind.nd rfl (Or.inl rfl)) (pgs_cons (pg_name (i := 4) sc_Draft_take_case_of_kind.nd rfl (Or.inl rfl)) (pgs_cons (pg_name (i := 5) sc_Draft_take_case_of_kind.nd rfl (Or.inl rfl)) pgs_nil))))))
    (pss_cons (ps_set (i := 6) sc_Draft_take_case_of_kind.nd rfl (Or.inl rfl) (pe_ifExp (pt_cmpR op_isN (pv 4) pe_non (nomark _)) (pe_tup pa_nil) (pv 4)))
    (pss_cons (ps_if (PW.pt (pw_or (pt_cmpR op_notN (pv 5) pe_non (nomark _)) (pw_or1 (pt_cmpR op_ge (pe_callB (call_len_seq_K (K := K) (by rfl)) (by rfl) T.b_len PySem.boot_len (pa_cons (pv 6) pa_nil)) (pe_gI rfl T.g_MOST_CASES) (nomark _))))) (pss_one (ps_ret pe_bl)) pss_nil)
    (pss_cons (ps_asg (pe_tup (pa_cons (pv 2) (pa_cons (pv 3) (pa_cons (pe_tup (pa_starK (K := K) (by rfl) (pv 6) (pa_cons (pv 1) pa_nil))) (pa_cons pe_non pa_nil))))) (pg_sub (pe_fld (pv 0) (by rfl)) (pe_un un_neg pe_int) set_list))
    (pss_one (ps_ret pe_bl)))))), ?_⟩
  rw [show L2.start ["self", "case", "name", "keys", "taking", "birth", "program"] [.ref x, v] = [some (.ref x), some v, none, none, none, none, none] from rfl]
  obtain ⟨n12, n13, n23, dx, y1, y2, y3, h0, h1, h2, h3, d1, d2, d3⟩ := id hd
  have dd3 := d3
  rw [e3] at d3
  obtain ⟨ys, kv, rfl, dys, dv⟩ := dpall_last d3
  obtain ⟨ka, w2, w3, w4, rfl, hka, hk2, hk3, hk4⟩ := dp_knd dv
  cases hk4
  refine ⟨_, rfl, x, R.C, dx, _, .ref a3, rfl, h0, R.cl, R.n3, rfl, 1, rfl, a3, _, (-1 : Int), .ref ka, rfl, rfl, SqL.of h3, at_m1, ka, _, rfl, hka, rfl, _, _, rfl, _, _, rfl, _, _, rfl, _, _, rfl, rfl, ?_⟩
  dsimp only [List.set]
  refine sq_asg ?_
  refine read_prog rfl hk3 fun H5 pp xs s5 hpp dxs => ?_
  refine gn_step ?_
  dsimp only [List.set]
  have lxs : xs.length = (o.getD []).length := by rw [DpAll.length dxs, List.length_map]
  refine ⟨_, rfl, rfl, _, rfl, iteF ?_⟩
  refine ⟨_, rfl, pp, xs, rfl, .inr hpp, _, _, rfl, rfl, _, rfl, iteB (fun e => ?_) (fun _ => ?_)⟩
  · have := of_decide_eq_true e
    omega
  refine ⟨_, rfl, _, rfl, _, rfl, pp, xs, rfl, .inl hpp, _, rfl, ?_⟩
  dsimp only [tNil]
  refine ⟨le_line (by rw [List.length_append]; show _ + 1 ≤ _; omega), fun t1 nt1 => ⟨(by show 4 ≤ sizeLine; decide), fun t2 nt2 => ?_⟩⟩
  have s6 : Same H5 (upd H5 t1 (.tup (xs ++ [v]))) := same_new nt1
  have s7 : Same _ (upd (upd H5 t1 (.tup (xs ++ [v]))) t2 (.tup [.str n, w2, .ref t1, .non])) := same_new nt2
  have sA := s5.trans (s6.trans s7)
  have hz := (hd.mono sA).set3 (ys := ys ++ [.ref t2]) (ks := ks ++ [⟨n, a, some (o.getD [] ++ [c]), none⟩]) (by
    rw [List.map_append]
    refine DpAll.append (DpAll.mono sA dys) (.cons (.tup (SqT.of upd_same) (.cons (.str n) (.cons (Dp.mono sA hk2) (.cons (.tup (SqT.of (s7 _ _ upd_same)) ?_) (.cons .non .nil))))) .nil)
    rw [List.map_append]
    exact DpAll.append (DpAll.mono (s6.trans s7) dxs) (.cons (Dp.mono sA hc) .nil))
  refine ⟨_, rfl, x, R.C, dx, _, .ref a3, rfl, sA _ _ h0, R.cl, R.n3, rfl, 1, rfl, a3, ys ++ [.ref ka], -1, _, rfl, rfl, sA _ _ h3, ix_m1, ?_⟩
  rw [set_m1]
  exact q _ (hd3_same sA (.inr (.inr rfl))) hz
theorem ok_dtakecase (T : Top K mg) (M : DfM K mg R) : FnOk P w K mg base CX0 6 M.take_case.f M.take_case.fd ["self", "case"] (spTakeOf K R.C (ACas K)) := by
  have G_is_case := ok_iscase (P := P) (w := w) (base := base) T
  have G_m_take_case_of_kind := ok_dtakekcase (P := P) (w := w) (base := base) T M
  refine M.take_case.F.ok sc_Draft_take_case (fun vs H Q E h => ?_) (fun cdv A outer s H vs Q E hr h => ?_)
  · obtain ⟨x, a1, a2, a3, v, D, E, rfl, _⟩ := h
    rfl
  obtain ⟨x, a1, a2, a3, v, D, E', rfl, hd, ⟨c, hc, fb, okc, hw⟩, q⟩ := h
  refine ⟨_, (pss_cons (ps_if (pt_not (pt_val (pe_call G_is_case (hr.mono (by decide)) (by rfl) T.d_is_case.g T.d_is_case.kp T.d_is_case.b .nil pass0 (pa_cons (pe_fld (pv 0) (by rfl)) (pa_cons (pv 1) pa_nil))))) (pss_one (ps_ret pe_bl)) pss_nil)
    (pss_cons (ps_if (pt_cmpR op_gt (pe_callB (call_len_seq_K (K := K) (by rfl)) (by rfl) T.b_len PySem.boot_len (pa_cons (pe_fld (pv 0) (by rfl)) pa_nil)) pe_int (nomark _)) (pss_one (ps_ret (pe_meth (pv 0) R.cl M.take_case_of_kind.M G_m_take_case_of_kind (hr.mono (by decide)) M.take_case_of_kind.b .nil pass0 (pa_cons (pv 1) pa_nil)))) pss_nil)
    (pss_cons (ps_if (PW.pt (pw_or (pt_cmpR op_eq (pe_callB (call_len_seq_K (K := K) (by rfl)) (by rfl) T.b_len PySem.boot_len (pa_cons (pe_fld (pv 0) (by rfl)) pa_nil)) pe_int (nomark _)) (pw_or1 (pt_cmpR op_ge (pe_callB (call_len_seq_K (K := K) (by rfl)) (by rfl) T.b_len PySem.boot_len (pa_cons (pe_ix (ix_tup_K (K := K) (by rfl)) (pe_ix (ix_list_K (K := K) (by rfl)) (pe_fld (pv 0) (by rfl)) (pe_un un_neg pe_int) (fun _ _ => rfl)) pe_int (fun _ _ => rfl)) pa_nil)) (pe_gI rfl T.g_MOST_CASES) (nomark _))))) (pss_one (ps_ret pe_bl)) pss_nil)
    (pss_cons (ps_asg (pe_ix (ix_list_K (K := K) (by rfl)) (pe_fld (pv 0) (by rfl)) (pe_un un_neg pe_int) (fun _ _ => rfl)) (pg_tup_K (K := K) (by rfl) (n := 2) (by rfl) (pgs_cons (pg_name (i := 2) sc_Draft_take_case.nd rfl (Or.inl rfl)) (pgs_cons (pg_name (i := 3) sc_Draft_take_case.nd rfl (Or.inl rfl)) pgs_nil))))
    (pss_cons (ps_asg (pe_tup (pa_cons (pv 2) (pa_cons (pe_tup (pa_starK (K := K) (by rfl) (pv 3) (pa_cons (pv 1) pa_nil))) pa_nil))) (pg_sub (pe_fld (pv 0) (by rfl)) (pe_un un_neg pe_int) set_list))
    (pss_one (ps_ret pe_bl))))))), ?_⟩
  rw [show L2.start ["self", "case", "name", "program"] [.ref x, v] = [some (.ref x), some v, none, none] from rfl]
  obtain ⟨n12, n13, n23, dx, y1, y2, y3, h0, h1, h2, h3, d1, d2, d3⟩ := id hd
  refine ⟨_, rfl, x, R.C, dx, _, .ref a1, rfl, h0, R.cl, R.n1, rfl, _, rfl, .ref a1, v, D.1, c, rfl, ⟨a1, y1, rfl, .inl (SqL.of h1), fds_dp d1⟩, fb.nd, fb.len, fb.os, hc, okc, fun H5 s5 => ⟨_, rfl, iteF ?_⟩⟩
  have hd5 := hd.mono s5
  have l3 : y3.length = D.2.2.length := by rw [DpAll.length d3, List.length_map]
  refine ⟨_, rfl, x, R.C, dx, _, .ref a3, rfl, s5 _ _ h0, R.cl, R.n3, rfl, a3, y3, rfl, .inl (SqL.of (s5 _ _ h3)), _, _, rfl, rfl, _, rfl, ?_⟩
  rcases hw with ⟨ts, n, p, e2, e3, l8, rfl⟩ | ⟨ks, n, a, o, e3, l8, rfl⟩
  · rw [show y3.length = 0 by rw [l3, e3]; rfl]
    refine iteF ?_
    have dd2 := d2
    rw [e2] at d2
    obtain ⟨ys, tv, rfl, dys, dv⟩ := dpall_last d2
    obtain ⟨ta, w2, rfl, hta, hw2⟩ := dp_tie dv
    obtain ⟨pp, xs, rfl, hpp, dxs⟩ := dp_tup hw2
    have lxs : xs.length = p.length := by rw [DpAll.length dxs, List.length_map]
    refine ⟨_, rfl, x, R.C, dx, _, .ref a2, rfl, s5 _ _ h0, R.cl, R.n2, rfl, a2, _, rfl, .inl (SqL.of (s5 _ _ h2)), rfl, _, rfl, iteB (fun e => ?_) (fun _ => ?_)⟩
    · have z := of_decide_eq_true e
      injection z with z
      rw [List.length_append] at z
      exact absurd z (by show ¬ (((ys.length + 1 : Nat) : Int) = 0); omega)
    refine ⟨_, rfl, x, R.C, dx, _, .ref a2, rfl, s5 _ _ h0, R.cl, R.n2, rfl, 1, rfl, a2, _, (-1 : Int), .ref ta, rfl, rfl, SqL.of (s5 _ _ h2), at_m1, ta, _, (1 : Int), .ref pp, rfl, rfl, Same.tup s5 hta, at_nn (by decide) rfl, pp, xs, rfl, .inr (Same.tup s5 hpp), _, _, rfl, rfl, _, rfl, iteB (fun e => ?_) (fun _ => ?_)⟩
    · have := of_decide_eq_true e
      omega
    refine ⟨_, rfl, x, R.C, dx, _, .ref a2, rfl, s5 _ _ h0, R.cl, R.n2, rfl, 1, rfl, a2, _, (-1 : Int), .ref ta, rfl, rfl, SqL.of (s5 _ _ h2), at_m1, ta, _, rfl, Same.tup s5 hta, rfl, _, _, rfl, _, _, rfl, rfl, ?_⟩
    dsimp only [List.set]
    refine ⟨_, rfl, _, rfl, pp, xs, rfl, .inl (Same.tup s5 hpp), _, rfl, ?_⟩
    dsimp only [tNil]
    refine ⟨le_line (by rw [List.length_append]; show _ + 1 ≤ _; omega), fun t1 nt1 => ⟨(by show 2 ≤ sizeLine; decide), fun t2 nt2 => ?_⟩⟩
    have s6 : Same H5 (upd H5 t1 (.tup (xs ++ [v]))) := same_new nt1
    have s7 : Same _ (upd (upd H5 t1 (.tup (xs ++ [v]))) t2 (.tup [.str n, .ref t1])) := same_new nt2
    have sA := s5.trans (s6.trans s7)
    have hz := (hd.mono sA).set2 (ys := ys ++ [.ref t2]) (ts := ts ++ [(n, p ++ [c])]) (by
      rw [List.map_append]
      refine DpAll.append (DpAll.mono sA dys) (.cons (.tup (SqT.of upd_same) (.cons (.str n) (.cons (.tup (SqT.of (s7 _ _ upd_same)) ?_) .nil))) .nil)
      rw [List.map_append]
      exact DpAll.append (DpAll.mono sA dxs) (.cons (Dp.mono sA hc) .nil))
    refine ⟨_, rfl, x, R.C, dx, _, .ref a2, rfl, sA _ _ h0, R.cl, R.n2, rfl, 1, rfl, a2, ys ++ [.ref ta], -1, _, rfl, rfl, sA _ _ h2, ix_m1, ?_⟩
    rw [set_m1]
    rw [e3] at hz
    exact q _ (hd3_same sA (.inr (.inl rfl))) hz
  · have p3 : 0 < y3.length := by rw [l3, e3, List.length_append]; show 0 < _ + 1; omega
    rw [decide_eq_true (show (0 : Int) < (y3.length : Int) by omega)]
    refine iteT ?_
    refine ⟨_, rfl, x, dx, _, rfl, s5 _ _ h0, rfl, _, rfl, x, a1, a2, a3, v, D, _, rfl, hd5, ⟨c, Dp.mono s5 hc, ks, n, a, o, e3, l8, rfl⟩, fun H6 s6 hd6 => ?_⟩
    exact q _ (fun u z e => by
      obtain ⟨m1, m2, m3, k⟩ := hd3_at e
      refine s6 _ _ ?_
      unfold hd3
      rw [hid_ne m1, hid_ne m2, hid_ne m3]
      exact s5 _ _ k) hd6
end
end Bh

set_option Elab.async false
set_option linter.all false
set_option maxRecDepth 100000
set_option maxHeartbeats 1000000
namespace Bh
open PySem PySem.Spec PyProof.Rows L2
theorem hid_in {x a : Addr} {H : Hp} {o : HO} (k : hid x H a = some o) : a ≠ x ∧ H a = some o := by
  unfold hid at k
  split at k
  · cases k
  · rename_i n
    exact ⟨n, k⟩
theorem hd3_in {a1 a2 a3 : Addr} {H H5 H' : Hp} (s : Same H H5) (t : Same (hd3 a1 a2 a3 H5) H') : Same (hd3 a1 a2 a3 H) H' := fun u z e => by
  obtain ⟨m1, m2, m3, k⟩ := hd3_at e
  refine t _ _ ?_
  unfold hd3
  rw [hid_ne m1, hid_ne m2, hid_ne m3]
  exact s _ _ k
section
variable {P : Program} {w : World} {K : PySem.W.Frag} {mg : Str → Option Value} {base : Heap} {R : DfC K mg}
/-- a cell's words -/
def AKnd : Hp → V → Dft → Dft → Prop := fun H v D E => ∃ (p : Addr) (n : Str) (a : List (Str × Str)), v = .ref p ∧ H p = some (.lst ((n :: a.map keyL).map V.str)) ∧ FsB D.1 ∧ D.1.length ≤ 3 ∧ D.2.1 ≠ [] ∧ (∀ t ∈ D.2.1, t.2 ≠ []) ∧ D.2.2.length < 3 ∧ n ∉ D.2.2.map (·.name) ∧ OkKnd D.1 ⟨n, a, none, none⟩ ∧ (∀ k ∈ a, IsNm k.1) ∧ E = (D.1, D.2.1, D.2.2 ++ [⟨n, a, none, none⟩])
theorem ok_dtakekind (T : Top K mg) (M : DfM K mg R) : FnOk P w K mg base CX0 6 M.take_kind.f M.take_kind.fd ["self", "words"] (spTakeOf K R.C AKnd) := by
  have G_kind_fits := ok_kindfits (P := P) (w := w) (base := base) T
  have G_m_waits_for_case := ok_dwaits (P := P) (w := w) (base := base) T M
  refine M.take_kind.F.ok sc_Draft_take_kind (fun vs H Q E h => ?_) (fun cdv A outer s H vs Q E hr h => ?_)
  · obtain ⟨x, a1, a2, a3, v, D, E, rfl, _⟩ := h
    rfl
  obtain ⟨x, a1, a2, a3, v, D, E', rfl, hd, ⟨p, n, a, rfl, hp, fb, f3, tne, h2ne, k3, nin, ok, kn, rfl⟩, q⟩ := h
  refine ⟨_, (pss_cons (ps_set (i := 2) sc_Draft_take_kind.nd rfl (Or.inl rfl) (pe_callTy (call_tuple_of_P (K := K) (by rfl)) (by rfl) T.b_tuple (by decide +kernel) (pa_cons (pe_lc (own := [("word", 4)]) rfl sc_Draft_take_kind.nd (pi_list_K (K := K) (by rfl) (pe_slice (sl_list_K (K := K) (by rfl)) (pv 1) (po_some pe_int) po_none)) (blkOk_by (own := [("word", 4)]) (N := ["self", "words", "keys", "kind", "word"]) (sc := defScope s_Draft_take_kind) (by decide +kernel)) (fun _ _ _ _ _ => by exact (pg_name (i := 4) sc_Draft_take_kind.nd rfl (Or.inl rfl))) (fun _ _ _ _ _ => by exact pts_nil) (fun _ _ _ _ _ => by exact (pe_tup (pa_cons (pe_slice sl_str (pv 4) po_none (po_some (pe_un un_neg pe_int))) (pa_cons (pe_slice sl_str (pv 4) (po_some (pe_un un_neg pe_int)) po_none) pa_nil))))) pa_nil)))
    (pss_cons (ps_set (i := 3) sc_Draft_take_kind.nd rfl (Or.inl rfl) (pe_tup (pa_cons (pe_ix (ix_list_K (K := K) (by rfl)) (pv 1) pe_int (fun _ _ => rfl)) (pa_cons (pv 2) (pa_cons pe_non (pa_cons pe_non pa_nil))))))
    (pss_cons (ps_if (PW.pt (pw_or (pt_cmpR op_eq (pe_callB (call_len_seq_K (K := K) (by rfl)) (by rfl) T.b_len PySem.boot_len (pa_cons (pe_fld (pv 0) (by rfl)) pa_nil)) pe_int (nomark _)) (pw_or (pt_val (pe_meth0 (pv 0) R.cl M.waits_for_case.M G_m_waits_for_case (hr.mono (by decide)) M.waits_for_case.b .nil pass0)) (pw_or1 (pt_not (pt_val (pe_call G_kind_fits (hr.mono (by decide)) (by rfl) T.d_kind_fits.g T.d_kind_fits.kp T.d_kind_fits.b .nil pass0 (pa_cons (pe_fld (pv 0) (by rfl)) (pa_cons (pe_fld (pv 0) (by rfl)) (pa_cons (pv 3) pa_nil)))))))))) (pss_one (ps_ret pe_bl)) pss_nil)
    (pss_cons (ps_expr (pe_bm_K (K := K) (by rfl) PySem.F.plainAttrs_list PySem.F.slot_list_append PySem.F.type_list_append mt_append (pe_fld (pv 0) (by rfl)) (pa_cons (pv 3) pa_nil)))
    (pss_one (ps_ret pe_bl)))))), ?_⟩
  rw [show L2.start ["self", "words", "keys", "kind", "word"] [.ref x, .ref p] = [some (.ref x), some (.ref p), none, none, none] from rfl]
  obtain ⟨n12, n13, n23, dx, y1, y2, y3, h0, h1, h2, h3, d1, d2, d3⟩ := id hd
  have al : a.length ≤ 3 := Nat.le_trans ok.ks.hi f3
  refine ⟨_, rfl, 1, rfl, p, _, rfl, SqL.of hp, fun c nc => ?_⟩
  rw [show cutV ((n :: a.map keyL).map V.str) (some 1) none = (a.map keyL).map V.str from cut_tail]
  have s1 : Same H (upd H c (.lst ((a.map keyL).map V.str))) := same_new nc
  have hc : upd H c (.lst ((a.map keyL).map V.str)) c = some (.lst ((a.map keyL).map V.str)) := upd_same
  generalize upd H c (.lst ((a.map keyL).map V.str)) = Hc at s1 hc ⊢
  refine ⟨c, rfl, ⟨_, SqL.of hc⟩, fun Dd nD => ?_⟩
  refine lc_it walk_list (fun i H' => ∃ zs, Same Hc H' ∧ H' Dd = some (.lst zs) ∧ zs.length = i ∧ DpAll K H' zs ((a.take i).map dKey)) ⟨[], same_new nD, upd_same, rfl, .nil⟩ (fun i H' _ ⟨_, s, _⟩ => SqL.of (s _ _ hc)) ?_ ?_
  · rintro i y H' H'' hi ⟨zs, s2, hD, lz, dz⟩ ⟨rfl, ey⟩
    rw [List.getElem?_map, List.getElem?_map] at ey
    cases ek : a[i]? with
    | none => rw [ek] at ey; cases ey
    | some k =>
    rw [ek] at ey
    cases ey
    have k2 := (ok.ks.all k (List.mem_of_getElem? ek)).2
    have un := unkey_key k2
    have kl : (keyL k).length ≤ 10 := by
      unfold keyL
      rw [len_app]
      have := (kn k (List.mem_of_getElem? ek)).hi
      have : k.2.length ≤ 1 := by rcases k2 with e | e <;> rw [e] <;> decide +kernel
      omega
    have e1 : cutS (keyL k) none (some (-1)) = k.1 := congrArg Prod.fst un
    have e2 : cutS (keyL k) (some (-1)) none = k.2 := congrArg Prod.snd un
    refine ⟨rfl, _, rfl, 1, rfl, _, rfl, keyL k, rfl, le_line (by omega), _, rfl, 1, rfl, _, rfl, keyL k, rfl, le_line (by omega), (by show 2 ≤ sizeLine; decide), fun t nt => ?_⟩
    have s3 : Same H'' (upd H'' t (.tup [.str (cutS (keyL k) none (some (-1))), .str (cutS (keyL k) (some (-1)) none)])) := same_new nt
    have hD3 := s3 _ _ hD
    have im := imm_upd (o := .lst (zs ++ [.ref t])) hD3
    refine ⟨zs, hD3, lt_line (by have : i < ((a.map keyL).map V.str).length := hi; rw [List.length_map, List.length_map] at this; omega), zs ++ [.ref t], same_mut (s2.trans s3) nD, upd_same, by rw [List.length_append, lz]; rfl, ?_⟩
    rw [List.take_add_one, ek, List.map_append]
    refine DpAll.append (DpAll.imm im (noLs_map noL_dKey _) (DpAll.mono s3 dz)) (.cons (.tup (im.tup (SqT.of upd_same)) ?_) .nil)
    rw [e1, e2]
    exact strs_dp [k.1, k.2]
  · rintro H' ⟨zs, s2, hD, lz, dz⟩
    rw [List.length_map, List.length_map] at lz
    rw [List.length_map, List.length_map, List.take_length] at dz
    dsimp only [tNil]
    refine ⟨Dd, zs, rfl, .inl ⟨SqL.of hD, fun l oo nl ho => ?_⟩⟩
    have s3 : Same H' (upd H' l (.frz oo (.tup zs))) := same_new nl
    refine gn_step ?_
    dsimp only [List.set]
    have s03 := s1.trans (s2.trans s3)
    refine ⟨_, rfl, p, _, (0 : Int), .str n, rfl, rfl, SqL.of (s03 _ _ hp), at_nn (by decide) rfl, _, rfl, (by show 4 ≤ sizeLine; decide), fun t nt => ?_⟩
    have s4 : Same _ (upd (upd H' l (.frz oo (.tup zs))) t (.tup [.str n, .ref l, .non, .non])) := same_new nt
    have sA := s03.trans s4
    have hk : Dp K (upd (upd H' l (.frz oo (.tup zs))) t (.tup [.str n, .ref l, .non, .non])) (.ref t) (dKnd ⟨n, a, none, none⟩) :=
      .tup (SqT.of upd_same) (.cons (.str n) (.cons (.tup (.inl (.inr ⟨oo, s4 _ _ upd_same⟩)) (DpAll.mono (s3.trans s4) dz)) (.cons .non (.cons .non .nil))))
    generalize upd (upd H' l (.frz oo (.tup zs))) t (.tup [.str n, .ref l, .non, .non]) = H4 at sA hk ⊢
    refine gn_step ?_
    dsimp only [List.set]
    have l2 : y2.length = D.2.1.length := by rw [DpAll.length d2, List.length_map]
    have l3 : y3.length = D.2.2.length := by rw [DpAll.length d3, List.length_map]
    have hn : (D.2.2.map dKnd).map hdN = D.2.2.map (·.name) := by rw [List.map_map]; rfl
    have hd4 := hd.mono sA
    refine ⟨_, rfl, x, R.C, dx, _, .ref a2, rfl, sA _ _ h0, R.cl, R.n2, rfl, a2, y2, rfl, .inl (SqL.of (sA _ _ h2)), rfl, _, rfl, iteB (fun e => ?_) (fun _ => ?_)⟩
    · have z := of_decide_eq_true e
      injection z with z
      exact absurd (List.length_eq_zero_iff.mp (by omega)) tne
    refine ⟨_, rfl, x, dx, _, rfl, sA _ _ h0, rfl, x, a1, a2, a3, D, rfl, hd4, h2ne, ⟨_, rfl, iteF ?_⟩⟩
    refine ⟨_, rfl, x, R.C, dx, _, .ref a1, rfl, sA _ _ h0, R.cl, R.n1, rfl, _, rfl, x, R.C, dx, _, .ref a3, rfl, sA _ _ h0, R.cl, R.n3, rfl, _, rfl, .ref a1, .ref a3, .ref t, D.1, _, ⟨n, a, none, none⟩, rfl, ⟨a1, y1, rfl, .inl (SqL.of (sA _ _ h1)), fds_dp (fds_mono sA d1)⟩, fb, HdS.of ⟨a3, y3, rfl, .inl (SqL.of (sA _ _ h3)), DpAll.mono sA d3⟩ (fun d hd => by
      obtain ⟨k, _, rfl⟩ := List.mem_map.mp hd
      exact named_dKnd k), by rw [hn, List.length_map]; omega, by rw [hn]; exact nin, hk, ok, fun H5 s5 => ⟨_, rfl, iteF ?_⟩⟩
    have sB := sA.trans s5
    refine ⟨_, rfl, x, R.C, dx, _, .ref a3, rfl, sB _ _ h0, R.cl, R.n3, rfl, .inl ⟨rfl, _, SqL.of (sB _ _ h3)⟩, _, rfl, a3, y3, .ref t, rfl, rfl, sB _ _ h3, lt_line (by omega), ?_⟩
    refine q _ (hd3_same sB (.inr (.inr rfl))) ?_
    exact (hd.mono sB).set3 (ys := y3 ++ [.ref t]) (ks := D.2.2 ++ [⟨n, a, none, none⟩]) (by
      rw [List.map_append]
      exact DpAll.append (DpAll.mono sB d3) (.cons (Dp.mono s5 hk) .nil))
/-- a holding -/
def ABrn (K : PySem.W.Frag) : Hp → V → Dft → Dft → Prop := fun H v D E => ∃ (u : List Str) (ks : List Knd) (n : Str) (a : List (Str × Str)) (o : Option (List Cas)), Dp K H v (dV u) ∧ FsB D.1 ∧ FitV D.1 u ∧ D.2.2 = ks ++ [⟨n, a, o, none⟩] ∧ E = (D.1, D.2.1, ks ++ [⟨n, a, o, some u⟩])
theorem ok_dtakebirth (T : Top K mg) (M : DfM K mg R) : FnOk P w K mg base CX0 6 M.take_birth.f M.take_birth.fd ["self", "value"] (spTakeOf K R.C (ABrn K)) := by
  have G_is_value := ok_isvalue (P := P) (w := w) (base := base) T
  refine M.take_birth.F.ok sc_Draft_take_birth (fun vs H Q E h => ?_) (fun cdv A outer s H vs Q E hr h => ?_)
  · obtain ⟨x, a1, a2, a3, v, D, E, rfl, _⟩ := h
    rfl
  obtain ⟨x, a1, a2, a3, v, D, E', rfl, hd, ⟨u, ks, n, a, o, hu, fb, fv, e3, rfl⟩, q⟩ := h
  refine ⟨_, (pss_cons (ps_if (PW.pt (pw_or (pt_cmpR op_eq (pe_callB (call_len_seq_K (K := K) (by rfl)) (by rfl) T.b_len PySem.boot_len (pa_cons (pe_fld (pv 0) (by rfl)) pa_nil)) pe_int (nomark _)) (pw_or1 (pt_not (pt_val (pe_call G_is_value (hr.mono (by decide)) (by rfl) T.d_is_value.g T.d_is_value.kp T.d_is_value.b .nil pass0 (pa_cons (pe_fld (pv 0) (by rfl)) (pa_cons (pv 1) pa_nil)))))))) (pss_one (ps_ret pe_bl)) pss_nil)
    (pss_cons (ps_asg (pe_ix (ix_list_K (K := K) (by rfl)) (pe_fld (pv 0) (by rfl)) (pe_un un_neg pe_int) (fun _ _ => rfl)) (pg_tup_K (K := K) (by rfl) (n := 4) (by rfl) (pgs_cons (pg_name (i := 2) sc_Draft_take_birth.nd rfl (Or.inl rfl)) (pgs_cons (pg_name (i := 3) sc_Draft_take_birth.nd rfl (Or.inl rfl)) (pgs_cons (pg_name (i := 4) sc_Draft_take_birth.nd rfl (Or.inl rfl)) (pgs_cons (pg_name (i := 5) sc_Draft_take_birth.nd rfl (Or.inl rfl)) pgs_nil))))))
    (pss_cons (ps_if (pt_cmpR op_notN (pv 5) pe_non (nomark _)) (pss_one (ps_ret pe_bl)) pss_nil)
    (pss_cons (ps_asg (pe_tup (pa_cons (pv 2) (pa_cons (pv 3) (pa_cons (pv 4) (pa_cons (pv 1) pa_nil))))) (pg_sub (pe_fld (pv 0) (by rfl)) (pe_un un_neg pe_int) set_list))
    (pss_one (ps_ret pe_bl)))))), ?_⟩
  rw [show L2.start ["self", "value", "name", "keys", "taking", "birth"] [.ref x, v] = [some (.ref x), some v, none, none, none, none] from rfl]
  obtain ⟨n12, n13, n23, dx, y1, y2, y3, h0, h1, h2, h3, d1, d2, d3⟩ := id hd
  have l3 : y3.length = D.2.2.length := by rw [DpAll.length d3, List.length_map]
  have p3 : 0 < y3.length := by rw [l3, e3, List.length_append]; show 0 < _ + 1; omega
  have dd3 := d3
  rw [e3] at d3
  obtain ⟨ys, kv, rfl, dys, dv⟩ := dpall_last d3
  obtain ⟨ka, w2, w3, w4, rfl, hka, hk2, hk3, hk4⟩ := dp_knd dv
  cases hk4
  refine ⟨_, rfl, x, R.C, dx, _, .ref a3, rfl, h0, R.cl, R.n3, rfl, a3, _, rfl, .inl (SqL.of h3), rfl, _, rfl, iteB (fun e => ?_) (fun _ => ?_)⟩
  · have z := of_decide_eq_true e
    injection z with z
    omega
  refine ⟨_, rfl, x, R.C, dx, _, .ref a1, rfl, h0, R.cl, R.n1, rfl, _, rfl, .ref a1, v, D.1, u, rfl, ⟨a1, y1, rfl, .inl (SqL.of h1), fds_dp d1⟩, fb, hu, fv, fun H5 s5 => ⟨_, rfl, iteF ?_⟩⟩
  refine ⟨_, rfl, x, R.C, dx, _, .ref a3, rfl, s5 _ _ h0, R.cl, R.n3, rfl, 1, rfl, a3, _, (-1 : Int), .ref ka, rfl, rfl, SqL.of (s5 _ _ h3), at_m1, ka, _, rfl, Same.tup s5 hka, rfl, _, _, rfl, _, _, rfl, _, _, rfl, _, _, rfl, rfl, ?_⟩
  dsimp only [List.set]
  refine ⟨_, rfl, rfl, _, rfl, iteF ?_⟩
  refine ⟨_, rfl, _, rfl, _, rfl, _, rfl, (by show 4 ≤ sizeLine; decide), fun t2 nt2 => ?_⟩
  have s7 : Same H5 (upd H5 t2 (.tup [.str n, w2, w3, v])) := same_new nt2
  have sA := s5.trans s7
  have hz := (hd.mono sA).set3 (ys := ys ++ [.ref t2]) (ks := ks ++ [⟨n, a, o, some u⟩]) (by
    rw [List.map_append]
    exact DpAll.append (DpAll.mono sA dys) (.cons (.tup (SqT.of upd_same) (.cons (.str n) (.cons (Dp.mono sA hk2) (.cons (Dp.mono sA hk3) (.cons (Dp.mono sA hu) .nil))))) .nil))
  refine ⟨_, rfl, x, R.C, dx, _, .ref a3, rfl, sA _ _ h0, R.cl, R.n3, rfl, 1, rfl, a3, ys ++ [.ref ka], -1, _, rfl, rfl, sA _ _ h3, ix_m1, ?_⟩
  rw [set_m1]
  exact q _ (hd3_same sA (.inr (.inr rfl))) hz
def spParts (K : PySem.W.Frag) (C : Addr) : Sp := fun vs H Q _ => ∃ (x a1 a2 a3 : Addr) (D : Dft), vs = [.ref x] ∧ DfA K H C x a1 a2 a3 D ∧ D.1.length ≤ 1000 ∧ D.2.1.length ≤ 1000 ∧ D.2.2.length ≤ 1000 ∧
  ∀ (H' : Hp) (t b1 b2 b3 : Addr) (y1 y2 y3 : List V), Same H H' → H' t = some (.tup [.ref b1, .ref b2, .ref b3]) → H' b1 = some (.lst y1) → H' b2 = some (.lst y2) → H' b3 = some (.lst y3) → Paired (FdAt K H') y1 D.1 → DpAll K H' y2 (D.2.1.map dTie) → DpAll K H' y3 (D.2.2.map dKnd) → Q (.ref t) H'
theorem ok_dparts (T : Top K mg) (M : DfM K mg R) : FnOk P w K mg base CX0 1 M.parts.f M.parts.fd ["self"] (spParts K R.C) := by
  refine M.parts.F.ok sc_Draft_parts (fun vs H Q E h => ?_) (fun cdv A outer s H vs Q E hr h => ?_)
  · obtain ⟨x, a1, a2, a3, D, rfl, _⟩ := h
    rfl
  obtain ⟨x, a1, a2, a3, D, rfl, hd, l1, l2, l3, q⟩ := h
  refine ⟨_, (pss_one (ps_ret (pe_tup (pa_cons (pe_callTy (call_list_of_K (K := K) (by rfl)) (by rfl) T.b_list (by decide +kernel) (pa_cons (pe_fld (pv 0) (by rfl)) pa_nil)) (pa_cons (pe_callTy (call_list_of_K (K := K) (by rfl)) (by rfl) T.b_list (by decide +kernel) (pa_cons (pe_fld (pv 0) (by rfl)) pa_nil)) (pa_cons (pe_callTy (call_list_of_K (K := K) (by rfl)) (by rfl) T.b_list (by decide +kernel) (pa_cons (pe_fld (pv 0) (by rfl)) pa_nil)) pa_nil)))))), ?_⟩
  obtain ⟨n12, n13, n23, dx, y1, y2, y3, h0, h1, h2, h3, d1, d2, d3⟩ := id hd
  refine ⟨_, rfl, x, R.C, dx, _, .ref a1, rfl, h0, R.cl, R.n1, rfl, a1, y1, rfl, .inl (SqL.of h1), fun b1 nb1 => ?_⟩
  have s1 : Same H (upd H b1 (.lst y1)) := same_new nb1
  refine ⟨_, rfl, x, R.C, dx, _, .ref a2, rfl, s1 _ _ h0, R.cl, R.n2, rfl, a2, y2, rfl, .inl (SqL.of (s1 _ _ h2)), fun b2 nb2 => ?_⟩
  have s2 : Same _ (upd (upd H b1 (.lst y1)) b2 (.lst y2)) := same_new nb2
  have s12 := s1.trans s2
  refine ⟨_, rfl, x, R.C, dx, _, .ref a3, rfl, s12 _ _ h0, R.cl, R.n3, rfl, a3, y3, rfl, .inl (SqL.of (s12 _ _ h3)), fun b3 nb3 => ⟨(by show 3 ≤ sizeLine; decide), fun t nt => ?_⟩⟩
  have s3 : Same _ (upd (upd (upd H b1 (.lst y1)) b2 (.lst y2)) b3 (.lst y3)) := same_new nb3
  have s4 : Same _ (upd (upd (upd (upd H b1 (.lst y1)) b2 (.lst y2)) b3 (.lst y3)) t (.tup [.ref b1, .ref b2, .ref b3])) := same_new nt
  have sA := s12.trans (s3.trans s4)
  exact q _ t b1 b2 b3 y1 y2 y3 sA upd_same ((s2.trans (s3.trans s4)) _ _ upd_same) ((s3.trans s4) _ _ upd_same) (s4 _ _ upd_same) (fds_mono sA d1) (DpAll.mono sA d2) (DpAll.mono sA d3)
def spDInit (K : PySem.W.Frag) (C : Addr) : Sp := fun vs H Q _ => ∃ (x dx : Addr), vs = [.ref x] ∧ H x = some (.ins C dx []) ∧ ∀ (H' : Hp) (a1 a2 a3 : Addr), Same (hid x H) H' → H a1 = none → H a2 = none → H a3 = none → DfA K H' C x a1 a2 a3 ([], [], []) → Q .non H'
theorem ok_dinit (T : Top K mg) (M : DfM K mg R) : FnOk P w K mg base CX0 1 M.fI M.fdI ["self"] (spDInit K R.C) := by
  refine M.FI.ok sc_Draft__init (fun vs H Q E h => ?_) (fun cdv A outer s H vs Q E hr h => ?_)
  · obtain ⟨x, dx, rfl, _⟩ := h
    rfl
  obtain ⟨x, dx, rfl, hx, q⟩ := h
  refine ⟨_, (pss_cons (ps_fld (pv 0) (pe_lst pa_nil) (by rfl))
    (pss_cons (ps_fld (pv 0) (pe_lst pa_nil) (by rfl))
    (pss_one (ps_fld (pv 0) (pe_lst pa_nil) (by rfl))))), ?_⟩
  refine ⟨Nat.zero_le _, fun a1 n1 => ?_⟩
  have x1 : x ≠ a1 := ne_of_none hx n1
  refine ⟨_, rfl, x, R.C, dx, _, rfl, (upd_ne x1).trans hx, R.cl, R.n1, (by decide), ?_⟩
  refine ⟨Nat.zero_le _, fun a2 n2 => ?_⟩
  have x2 : x ≠ a2 := fun z => by rw [← z, upd_same] at n2; cases n2
  have n2' : upd H a1 (.lst []) a2 = none := by rw [upd_ne (Ne.symm x2)] at n2; exact n2
  have n12 : a1 ≠ a2 := fun z => by rw [← z, upd_same] at n2'; cases n2'
  have n2H : H a2 = none := by rw [upd_ne (Ne.symm n12)] at n2'; exact n2'
  refine ⟨_, rfl, x, R.C, dx, _, rfl, (upd_ne x2).trans upd_same, R.cl, R.n2, (by show 1 < 1000; decide), ?_⟩
  refine ⟨Nat.zero_le _, fun a3 n3 => ?_⟩
  have x3 : x ≠ a3 := fun z => by rw [← z, upd_same] at n3; cases n3
  rw [upd_ne (Ne.symm x3)] at n3
  have n23 : a2 ≠ a3 := fun z => by rw [← z, upd_same] at n3; cases n3
  rw [upd_ne (Ne.symm n23), upd_ne (Ne.symm x3)] at n3
  have n13 : a1 ≠ a3 := fun z => by rw [← z, upd_same] at n3; cases n3
  rw [upd_ne (Ne.symm n13)] at n3
  refine ⟨_, rfl, x, R.C, dx, _, rfl, (upd_ne x3).trans upd_same, R.cl, R.n3, (by show 2 < 1000; decide), ?_⟩
  refine q _ a1 a2 a3 (fun a o e => ?_) n1 n2H n3 ⟨n12, n13, n23, dx, [], [], [], upd_same, ?_, ?_, ?_, .nil, .nil, .nil⟩
  · obtain ⟨nx, k⟩ := hid_in e
    rw [upd_ne nx, upd_ne (ne_of_none k n3), upd_ne nx, upd_ne (ne_of_none k n2H), upd_ne nx, upd_ne (ne_of_none k n1)]
    exact k
  · rw [upd_ne (Ne.symm x1), upd_ne n13, upd_ne (Ne.symm x1), upd_ne n12, upd_ne (Ne.symm x1)]
    exact upd_same
  · rw [upd_ne (Ne.symm x2), upd_ne n23, upd_ne (Ne.symm x2)]
    exact upd_same
  · rw [upd_ne (Ne.symm x3)]
    exact upd_same
/-- a line that fits -/
def spTake (K : PySem.W.Frag) (C : Addr) : Sp := fun vs H Q _ => ∃ (x a1 a2 a3 : Addr) (l : Str) (D E : Dft), vs = [.ref x, .str l] ∧ DfA K H C x a1 a2 a3 D ∧ D.1.length ≤ 3 ∧ Nx D l E ∧ DfTo K H C x a1 a2 a3 E (Q (.bl true))
theorem ok_dtake (T : Top K mg) (M : DfM K mg R) : FnOk P w K mg base CX0 7 M.take.f M.take.fd ["self", "line"] (spTake K R.C) := by
  have G_m_take_field := ok_dtakefield (P := P) (w := w) (base := base) T M
  have G_m_take_tie := ok_dtaketie (P := P) (w := w) (base := base) T M
  have G_m_take_case := ok_dtakecase (P := P) (w := w) (base := base) T M
  have G_m_take_kind := ok_dtakekind (P := P) (w := w) (base := base) T M
  have G_m_take_birth := ok_dtakebirth (P := P) (w := w) (base := base) T M
  have G_read_case := ok_readcase (P := P) (w := w) (base := base) T
  refine M.take.F.ok sc_Draft_take (fun vs H Q E h => ?_) (fun cdv A outer s H vs Q E hr h => ?_)
  · obtain ⟨x, a1, a2, a3, l, D, E, rfl, _⟩ := h
    rfl
  obtain ⟨x, a1, a2, a3, l, D, E', rfl, hd, f3, nx, q⟩ := h
  refine ⟨_, (pss_cons (ps_asg (pe_partition (pv 1) pe_str) (pg_tup_K (K := K) (by rfl) (n := 3) (by rfl) (pgs_cons (pg_name (i := 2) sc_Draft_take.nd rfl (Or.inl rfl)) (pgs_cons (pg_name (i := 3) sc_Draft_take.nd rfl (Or.inl rfl)) (pgs_cons (pg_name (i := 4) sc_Draft_take.nd rfl (Or.inl rfl)) pgs_nil)))))
    (pss_cons (ps_if (pt_cmpR op_eq (pv 2) pe_str (nomark _)) (pss_one (ps_ret (pe_meth (pv 0) R.cl M.take_field.M G_m_take_field (hr.mono (by decide)) M.take_field.b .nil pass0 (pa_cons (pe_split (pv 4) pe_str) pa_nil)))) pss_nil)
    (pss_cons (ps_if (pt_cmpR op_eq (pv 2) pe_str (nomark _)) (pss_one (ps_ret (pe_meth (pv 0) R.cl M.take_tie.M G_m_take_tie (hr.mono (by decide)) M.take_tie.b .nil pass0 (pa_cons (pv 4) pa_nil)))) pss_nil)
    (pss_cons (ps_if (pt_cmpR op_eq (pv 2) pe_str (nomark _)) (pss_one (ps_ret (pe_meth (pv 0) R.cl M.take_case.M G_m_take_case (hr.mono (by decide)) M.take_case.b .nil pass0 (pa_cons (pe_call G_read_case (hr.mono (by decide)) (by rfl) T.d_read_case.g T.d_read_case.kp T.d_read_case.b .nil pass0 (pa_cons (pv 1) pa_nil)) pa_nil)))) pss_nil)
    (pss_cons (ps_if (pt_cmpR op_eq (pv 2) pe_str (nomark _)) (pss_one (ps_ret (pe_meth (pv 0) R.cl M.take_kind.M G_m_take_kind (hr.mono (by decide)) M.take_kind.b .nil pass0 (pa_cons (pe_split (pv 4) pe_str) pa_nil)))) pss_nil)
    (pss_cons (ps_if (pt_cmpR op_eq (pv 2) pe_str (nomark _)) (pss_one (ps_ret (pe_meth (pv 0) R.cl M.take_birth.M G_m_take_birth (hr.mono (by decide)) M.take_birth.b .nil pass0 (pa_cons (pe_callTy (call_tuple_of_P (K := K) (by rfl)) (by rfl) T.b_tuple (by decide +kernel) (pa_cons (pe_split (pv 4) pe_str) pa_nil)) pa_nil)))) pss_nil)
    (pss_one (ps_ret pe_bl)))))))), ?_⟩
  rw [show L2.start ["self", "line", "word", "_", "rest"] [.ref x, .str l] = [some (.ref x), some (.str l), none, none, none] from rfl]
  obtain ⟨n12, n13, n23, dx, y1, y2, y3, h0, h1, h2, h3, d1, d2, d3⟩ := id hd
  have ll := nx_len nx
  have z20 : (20000 : Nat) + 2 ≤ 100000 := by decide
  refine ⟨_, rfl, ⟨_, rfl⟩, l, " ", rfl, rfl, (by decide +kernel), le_line (by omega), fun tp ntp => ?_⟩
  have s1 : Same H (upd H tp (.tup [.str (Txt.partition l " ").1, .str (Txt.partition l " ").2.1, .str (Txt.partition l " ").2.2])) := same_new ntp
  refine ⟨tp, _, rfl, SqT.of upd_same, rfl, _, _, rfl, _, _, rfl, _, _, rfl, rfl, ?_⟩
  dsimp only [List.set]
  generalize upd H tp (.tup [.str (Txt.partition l " ").1, .str (Txt.partition l " ").2.1, .str (Txt.partition l " ").2.2]) = H1 at s1 ⊢
  have hd1 := hd.mono s1
  have go : ∀ {H5 : Hp}, Same H1 H5 → DfTo K H5 R.C x a1 a2 a3 E' (Q (.bl true)) := fun s5 H' t hd' => q H' (hd3_in (s1.trans s5) t) hd'
  have h01 := s1 _ _ h0
  cases nx with
  | fld ok =>
    rename_i fs f
    rw [part_fld]
    dsimp only
    have e1 : fldL f = ("field" : Str) ++ " " ++ Txt.join " " (f.1 :: f.2) := join_cons (by simp)
    have lr : (Txt.join " " (f.1 :: f.2)).length ≤ 20000 := by
      rw [e1, len_app] at ll
      omega
    refine ⟨_, rfl, rfl, _, rfl, iteB (fun _ => ?_) (fun k => absurd k (by decide +kernel))⟩
    refine ⟨_, rfl, x, dx, _, rfl, h01, rfl, _, rfl, ⟨_, rfl⟩, _, " ", rfl, rfl, (by decide +kernel), le_line (by omega), ?_⟩
    rw [split_sp (by simp) (fun w hw => by
      rcases List.mem_cons.mp hw with rfl | hw
      · exact nm_free ok.nm
      · exact op_free (ok.op w hw))]
    intro w nw
    have s2 : Same H1 (upd H1 w (.lst ((f.1 :: f.2).map V.str))) := same_new nw
    exact ⟨x, a1, a2, a3, .ref w, _, _, rfl, hd1.mono s2, ⟨f, w, rfl, upd_same, rfl, ok, rfl⟩, go s2⟩
  | tie h1 h2 h3 nm h5 =>
    rename_i fs ts n
    rw [part_tie]
    dsimp only
    refine ⟨_, rfl, rfl, _, rfl, iteB (fun k => absurd k (by decide +kernel)) (fun _ => ?_)⟩
    refine ⟨_, rfl, rfl, _, rfl, iteB (fun _ => ?_) (fun k => absurd k (by decide +kernel))⟩
    exact ⟨_, rfl, x, dx, _, rfl, h01, rfl, _, rfl, x, a1, a2, a3, .str n, _, _, rfl, hd1, ⟨n, rfl, h1, rfl, h2, h3, nm, h5, rfl⟩, go (Same.refl _)⟩
  | tcas fb oc okc p8 =>
    rename_i fs ts n p c
    obtain ⟨r, e⟩ := part_case c
    rw [e]
    dsimp only
    refine ⟨_, rfl, rfl, _, rfl, iteB (fun k => absurd k (by decide +kernel)) (fun _ => ?_)⟩
    refine ⟨_, rfl, rfl, _, rfl, iteB (fun k => absurd k (by decide +kernel)) (fun _ => ?_)⟩
    refine ⟨_, rfl, rfl, _, rfl, iteB (fun _ => ?_) (fun k => absurd k (by decide +kernel))⟩
    have l3 := line_len okc
    refine ⟨_, rfl, x, dx, _, rfl, h01, rfl, _, rfl, lineC c, rfl, by omega, fun H5 v s5 hv => ?_⟩
    rw [readC_line okc] at hv
    exact ⟨x, a1, a2, a3, v, _, _, rfl, hd1.mono s5, ⟨c, hv, fb, oc, .inl ⟨ts, n, p, rfl, rfl, p8, rfl⟩⟩, go s5⟩
  | knd fb tne h2ne k3 nin ok kn =>
    rename_i fs ts ks n a
    rw [part_knd]
    dsimp only
    have e1 : kndL n a = ("cell" : Str) ++ " " ++ Txt.join " " (n :: a.map keyL) := join_cons (by simp)
    have lr : (Txt.join " " (n :: a.map keyL)).length ≤ 20000 := by
      rw [e1, len_app] at ll
      omega
    refine ⟨_, rfl, rfl, _, rfl, iteB (fun k => absurd k (by decide +kernel)) (fun _ => ?_)⟩
    refine ⟨_, rfl, rfl, _, rfl, iteB (fun k => absurd k (by decide +kernel)) (fun _ => ?_)⟩
    refine ⟨_, rfl, rfl, _, rfl, iteB (fun k => absurd k (by decide +kernel)) (fun _ => ?_)⟩
    refine ⟨_, rfl, rfl, _, rfl, iteB (fun _ => ?_) (fun k => absurd k (by decide +kernel))⟩
    refine ⟨_, rfl, x, dx, _, rfl, h01, rfl, _, rfl, ⟨_, rfl⟩, _, " ", rfl, rfl, (by decide +kernel), le_line (by omega), ?_⟩
    rw [split_sp (by simp) (fun w hw => by
      rcases List.mem_cons.mp hw with rfl | hw
      · exact nm_free ok.nm
      · obtain ⟨k, hk, rfl⟩ := List.mem_map.mp hw
        exact key_free (kn k hk) (ok.ks.all k hk).2)]
    intro w nw
    have s2 : Same H1 (upd H1 w (.lst ((n :: a.map keyL).map V.str))) := same_new nw
    exact ⟨x, a1, a2, a3, .ref w, _, _, rfl, hd1.mono s2, ⟨w, n, a, rfl, upd_same, fb, f3, tne, h2ne, k3, nin, ok, kn, rfl⟩, go s2⟩
  | kcas fb oc okc p8 =>
    rename_i fs ts ks n a o c
    obtain ⟨r, e⟩ := part_case c
    rw [e]
    dsimp only
    refine ⟨_, rfl, rfl, _, rfl, iteB (fun k => absurd k (by decide +kernel)) (fun _ => ?_)⟩
    refine ⟨_, rfl, rfl, _, rfl, iteB (fun k => absurd k (by decide +kernel)) (fun _ => ?_)⟩
    refine ⟨_, rfl, rfl, _, rfl, iteB (fun _ => ?_) (fun k => absurd k (by decide +kernel))⟩
    have l3 := line_len okc
    refine ⟨_, rfl, x, dx, _, rfl, h01, rfl, _, rfl, lineC c, rfl, by omega, fun H5 v s5 hv => ?_⟩
    rw [readC_line okc] at hv
    exact ⟨x, a1, a2, a3, v, _, _, rfl, hd1.mono s5, ⟨c, hv, fb, oc, .inr ⟨ks, n, a, o, rfl, p8, rfl⟩⟩, go s5⟩
  | born fb ne fv hv =>
    rename_i fs ts ks n a o v
    rw [part_born ne]
    dsimp only
    have e1 : bornL v = ("born" : Str) ++ " " ++ Txt.join " " v := join_cons ne
    have lr : (Txt.join " " v).length ≤ 20000 := by
      rw [e1, len_app] at ll
      omega
    refine ⟨_, rfl, rfl, _, rfl, iteB (fun k => absurd k (by decide +kernel)) (fun _ => ?_)⟩
    refine ⟨_, rfl, rfl, _, rfl, iteB (fun k => absurd k (by decide +kernel)) (fun _ => ?_)⟩
    refine ⟨_, rfl, rfl, _, rfl, iteB (fun k => absurd k (by decide +kernel)) (fun _ => ?_)⟩
    refine ⟨_, rfl, rfl, _, rfl, iteB (fun k => absurd k (by decide +kernel)) (fun _ => ?_)⟩
    refine ⟨_, rfl, rfl, _, rfl, iteB (fun _ => ?_) (fun k => absurd k (by decide +kernel))⟩
    refine ⟨_, rfl, x, dx, _, rfl, h01, rfl, _, rfl, ⟨_, rfl⟩, _, " ", rfl, rfl, (by decide +kernel), le_line (by omega), ?_⟩
    rw [split_sp ne fun w hw => op_free (hv w hw)]
    intro w nw
    dsimp only [tNil]
    refine ⟨w, _, rfl, .inl ⟨SqL.of upd_same, fun l oo nl ho => ?_⟩⟩
    have s2 : Same H1 (upd H1 w (.lst (v.map V.str))) := same_new nw
    have s3 : Same _ (upd (upd H1 w (.lst (v.map V.str))) l (.frz oo (.tup (v.map V.str)))) := same_new nl
    exact ⟨x, a1, a2, a3, .ref l, _, _, rfl, hd1.mono (s2.trans s3), ⟨v, ks, n, a, o, .tup (.inl (.inr ⟨oo, upd_same⟩)) (strs_dp v), fb, fv, rfl, rfl⟩, go (s2.trans s3)⟩
end
end Bh

set_option Elab.async false
set_option linter.all false
set_option maxRecDepth 100000
set_option maxHeartbeats 1000000
set_option autoImplicit false
namespace Bh
open PySem PySem.Spec PySem.Calls PyProof.Rows L2
/-! ### *a, b = xs, a list that is not empty -/
def gStar0 (K : PySem.W.Frag) (t : TGs) : TG := fun v σ H Q => ∃ (l : Addr) (xs : List V) (y : V), v = .ref l ∧ SqL K H l (xs ++ [y]) ∧ ∀ D, H D = none → t [.ref D, y] σ (upd H D (.lst xs)) Q
section
variable {X : Cx} {pins : List (Addr × Obj)} {σ : L2.St} {H : Hp} {s : Shared}
/-- the items of a list, the first ones in a new list, the last alone -/
theorem star0_items {l : Addr} {xs : List V} {y : V} {Q : List Value → Shared → Prop} {E : Value → Shared → Prop} (hh : X.A.handled = none) (I : Inv X pins σ H s) (h : SqL X.K H l (xs ++ [y]))
    (q : ∀ (s' : Shared) (D : Addr) (u : Value), H D = none → RelV y u → Inv X pins σ (upd H D (.lst xs)) s' → Q [.ref D, u] s') : wpAny (model X.prog X.w) X.A (unpackItems (.ref l) 2 (some 0)) Q E s := by
  obtain ⟨its, rv, ⟨o, n, ho, hc, _, hd⟩, hz⟩ := I.list h
  have hl : s.heap.IsList l its.toArray := ⟨o, ho, hc, n, hd⟩
  have hlt : l ≠ s.heap.objs.size := Nat.ne_of_lt (Heap.lt_size ho)
  have len : its.length = xs.length + 1 := by
    rw [← rv.length, List.length_append]
    rfl
  unfold unpackItems
  refine wpAny_bind ?_
  unfold notIterableAtAll
  refine wpAny_bind (wpAny_specialOf hl.typeIs slot_list_iter.lookup ?_)
  refine wpAny_pure ?_
  simp only [Bool.false_eq_true, if_false]
  refine wpAny_bind (wpAny_holding (wpAny_pyIter_list hl ?_))
  have hl1 : (s.heap.push { cls := .type "list_iterator", data := .fields #[.ref l, .int 0 0] }).IsList l its.toArray := hl.push _
  obtain ⟨o1, ho1, _⟩ := id hl1
  refine wpAny_bind (wpAny_holding (show wpAny _ _ (draw _ 0) _ _ _ from wpAny_pure ?_))
  rw [if_neg (by show ¬ (([] : List Value).length < 0); exact Nat.not_lt_zero _)]
  refine wpAny_bind (wpAny_holding (PySem.W.kun_collect (T := "list_iterator") (.inr (.inr (.inl rfl))) (Walks.list (A := X.A.in1) hh s.heap.objs.size l hlt its.toArray) (fun j u st => st.1.typeIs) (k := 0) (Nat.zero_le _) ⟨⟨_, Heap.get?_push_size _ rfl, rfl, rfl⟩, hl1⟩ (Heap.lt_size (Heap.get?_push_size s.heap rfl)) (Heap.lt_size ho1) (fun h2 tk hk => ?_) ?_))
  · rw [show (its.toArray.toList.drop 0) = its from by simp]
    show wpAny _ _ (if its.length < 1 then _ else _) _ _ _
    rw [if_neg (by omega)]
    show wpAny _ _ (newList (its.take (its.length - 1)) >>= fun d => pure (([] : List Value) ++ [d] ++ its.drop (its.length - 1))) _ _ _
    have I1 : Inv X pins σ H { s with heap := h2, toks := tk } := I.kept fun b u e => hk b u (Nat.ne_of_lt (Heap.lt_size e)) (Heap.get?_push_of_some _ e)
    obtain ⟨us, ws, e1, r1, r2⟩ : ∃ us ws, its = us ++ ws ∧ Vals xs us ∧ Vals [y] ws := ⟨its.take xs.length, its.drop xs.length, (List.take_append_drop ..).symm, by
      have := rv.take xs.length
      rwa [List.take_left] at this, by
      have := rv.drop xs.length
      rwa [List.drop_left] at this⟩
    obtain ⟨u, rfl, ru⟩ := vals1 r2
    have l1 : us.length = xs.length := r1.length.symm
    subst e1
    rw [show (us ++ [u]).length - 1 = us.length by simp, List.take_left, List.drop_left]
    refine wpAny_bind (wpAny_newList ?_ (by rw [l1]; rw [List.length_append] at hz; omega))
    refine wpAny_pure ?_
    exact q _ _ u I1.fresh ru (I1.lnew r1 (by rw [List.length_append] at hz; omega))
  · rw [List.size_toArray, len]
    rw [List.length_append] at hz
    exact hz
/-- *a, b = .. -/
theorem pg_star0 {e1 e2 : Expr} {k : Nat} {p pos : Pos} {t : TGs} (hc : X.calm = true) (h : PGs X [e1, e2] t) (hm : (assignEach [.Starred e1 p, e2] X.env).map (·.2) = (assignEach [e1, e2] X.env).map (·.2) := by rfl)
    (hn : (assignEach [.Starred e1 p, e2] X.env).length = 2 := by rfl) (hst : (assignEach [.Starred e1 p, e2] X.env).findIdx? (·.1) = some 0 := by rfl) : PG X (.Tuple [.Starred e1 p, e2] k pos) (gStar0 X.K t) := by
  refine ⟨fun pins s σ H v u Q I r hw => ?_⟩
  obtain ⟨l, xs, y, rfl, hq, hw⟩ := hw
  cases r
  rw [assign_Tuple]
  refine wpAny_bind (wpAny_standAt ?_)
  unfold unpack
  rw [hn, hst, hm]
  refine wpAny_bind (wpAny_holding (star0_items (I.ok.hd hc) I hq fun s' D u nD ry I' => ?_))
  exact h.run pins s' σ _ [.ref D, y] [.ref D, u] Q I' (.cons rfl (.cons ry .nil)) (hw D nD)
end
theorem pg_star0K {X : Cx} {K : PySem.W.Frag} {e1 e2 : Expr} {k : Nat} {p pos : Pos} {t : TGs} (hK : X.K = K) (hc : X.calm = true) (h : PGs X [e1, e2] t) (hm : (assignEach [.Starred e1 p, e2] X.env).map (·.2) = (assignEach [e1, e2] X.env).map (·.2) := by rfl)
    (hn : (assignEach [.Starred e1 p, e2] X.env).length = 2 := by rfl) (hst : (assignEach [.Starred e1 p, e2] X.env).findIdx? (·.1) = some 0 := by rfl) : PG X (.Tuple [.Starred e1 p, e2] k pos) (gStar0 K t) := by
  subst hK
  exact pg_star0 hc h hm hn hst
/-! ### classmethods and staticmethods read off the class, also by keyword; the class called by a local name -/
theorem fnR_of {P : Program} {w : World} {K : PySem.W.Frag} {mg : Str → Option Value} {base : Heap} {CX : CXT} {k : Nat} {f : Addr} {fd : FuncData} {ps : List Str} {sp : Sp} (F : FnOk P w K mg base CX k f fd ps sp) (hb : Binds K fd ps []) : FnR P w K mg base CX k f sp :=
  fun A outer s H us vs Q E hr e0 r h => F.run A outer s H ⟨us, []⟩ us vs Q E hr e0 (by
    have b := hb s us (e0.mod.kin.keeps fun b o e => (e0.bs b o e).1) (by rw [List.append_nil, ← r.length]; exact F.len _ _ _ _ h)
    rwa [List.append_nil] at b) r h
/-- C.m is a staticmethod: its record at p, its def at g -/
structure SMet (K : PySem.W.Frag) (C : Addr) (mc : Value) (m : Str) (p g : Addr) : Prop where
  at_ : PySem.W.findCls K (.ref C) mc m = some (.get (.builtin "staticmethod.__get__") (.ref p) .none (.ref C))
  rc : ∃ rest, PySem.W.recIn K p "staticmethod" = some (.ref g :: rest)
  kp : PySem.W.keepIn K (.ref g) = true
def tCMethN (C : Addr) (n : Nat) (sp : Sp) (gV : List V → List V → List V) (E : XK) (ta : TE) (tk : TA) : TE := fun σ H Q => ta σ H fun x H1 => x = .ref C ∧ tk σ H1 fun zs H2 => zs.length = n ∧ sp (gV [.ref C] zs) H2 Q E
def tSMeth (C : Addr) (sp : Sp) (E : XK) (ta : TE) (t : TA) : TE := fun σ H Q => ta σ H fun x H1 => x = .ref C ∧ t σ H1 fun vs H2 => sp vs H2 Q E
def tSMethN (C : Addr) (n : Nat) (sp : Sp) (gV : List V → List V → List V) (E : XK) (ta : TE) (tk : TA) : TE := fun σ H Q => ta σ H fun x H1 => x = .ref C ∧ tk σ H1 fun zs H2 => zs.length = n ∧ sp (gV [] zs) H2 Q E
def tMakeV (C : Addr) (sp : Sp) (dvs : List V) (E : XK) (tf : TE) (t : TA) : TE := fun σ H Q => tf σ H fun c H1 => c = .ref C ∧ tMake C sp dvs E t σ H1 Q
def tMakeVK (C : Addr) (n m : Nat) (sp : Sp) (gV : List V → List V → List V) (E : XK) (tf : TE) (t tk : TA) : TE := fun σ H Q => tf σ H fun c H1 => c = .ref C ∧ tMakeK C n m sp gV E t tk σ H1 Q
section
variable {X : Cx} {CX : CXT} {k n : Nat} {C p g f : Addr} {fd : FuncData} {ps ks : List Str} {mc : Value} {sp : Sp} {E : XK} {o e : Expr} {es : List Expr} {kws : List Keyword} {m x : Str} {pos apos np : Pos} {ta tf : TE} {t tk : TA} {pl : Sem Bool} {gf : List Value → List Value → List Value} {gV : List V → List V → List V} {dvs : List V} {ds : List Value}
/-- C.m(k = v, ..), m a classmethod -/
theorem pe_cmethN (he : PE X o ta) (r : ClX.CRead X.K C mc) (c : ClX.CMet X.K C mc m p g) (F : FnOk X.prog X.w X.K X.mg X.base CX k g fd ps sp) (hr : Room k X.A) (hb : KBn X.K fd ps 1 ks gf gV) (hx : Passes CX X E) (hkw : PK X kws tk)
    (hall : (backToKw pos (keywordEach kws X.env)).all (·.1.isSome) = true := by rfl) (hks : (backToKw pos (keywordEach kws X.env)).filterMap (·.1) = ks := by rfl)
    (hpl : ((backTo pos (starEach [] X.env)).any (·.1) || (backToKw pos (keywordEach kws X.env)).any (·.1.isNone)) = false := by rfl)
    (ht : eval (.Call (.Attribute o m apos) [] kws pos) X.env = (do
      let ov ← eval o X.env
      standAt apos.atName
      let (f, first) ← holding [ov] (getMethod ov m pl)
      callWith pos f first (backTo pos (starEach [] X.env)) (backToKw pos (keywordEach kws X.env))) := by rfl) :
    PE X (.Call (.Attribute o m apos) [] kws pos) (tCMethN C ks.length sp gV E ta tk) := by
  refine ⟨fun pins s σ H Q I h => ?_⟩
  refine PySem.W.methodCall_KW (pl := pl) (thn (he.run pins s σ H _ I h) fun u s1 ⟨x, H1, I1, rx, ex, q⟩ => ?_) ht
  subst ex
  obtain rfl : u = Value.ref C := rx
  refine ClX.getmethcm_ok I1 r c fun s2 I2 => ?_
  refine PySem.W.callWith_of hpl (PySem.W.keeps_M c.fi) (evalArgs_kw2_nil hall (thn (hkw.run pos _ s2 σ H1 _ I2 q) fun ws s3 ⟨zs, H2, I3, rz, l2, q2⟩ => ⟨⟨ClX.pin_at I3, I3.kIn⟩, ?_⟩))
  rw [hks]
  refine wpAny_call (PySem.W.method_call (ClX.pin_at I3) (codeAny_mono (F.run X.A X.stack s3 H2 ⟨.ref C :: ([] ++ []), ks.zip ws⟩ (gf [.ref C] ws) (gV [.ref C] zs) Q E hr I3.env0 (hb.to s3 [.ref C] ws I3.kIn rfl (rz.length.symm.trans l2)) (hb.rel (.cons rfl .nil) rz) q2) fun res s4 z => ?_))
  cases res with
  | error err => exact hx pins σ H2 s3 err s4 (ClX.unpin I3) z
  | ok fl =>
    cases fl with
    | ret u => exact ClX.unpinE (I3.after z)
    | next => exact z.elim
    | brk => exact z.elim
    | cont => exact z.elim
/-- C.m as a value, m a staticmethod -/
theorem getmethsm_ok {pins : List (Addr × Obj)} {σ : L2.St} {H : Hp} {s : Shared} {A : Around} {Ex : Value → Shared → Prop} {Q : Value × List Value → Shared → Prop} (I : Inv X pins σ H s) (r : ClX.CRead X.K C mc) (c : SMet X.K C mc m p g) (h : ∀ s', Inv X pins σ H s' → Q (.ref g, []) s') :
    wpAny (model X.prog X.w) A (getMethod (.ref C) m pl) Q Ex s := by
  obtain ⟨rest, hp⟩ := c.rc
  refine PySem.W.method_cls I.kIn r.ga ?_
  refine PySem.W.cls_bind I.kIn r.rd c.at_ ?_
  exact wpAny_call (PySem.W.sm_get (s := { s with toks := s.toks + 1 }) I.kIn hp (PySem.W.handed_on rfl (h _ (I.tok _))))
theorem pe_smeth (he : PE X o ta) (r : ClX.CRead X.K C mc) (c : SMet X.K C mc m p g) (F : FnOk X.prog X.w X.K X.mg X.base CX k g fd ps sp) (hr : Room k X.A) (hb : Binds X.K fd ps []) (hx : Passes CX X E) (ha : PA X (e :: es) t)
    (hst : starEach (e :: es) X.env = (false, eval e X.env) :: starEach es X.env := by rfl) (hpl : (backTo pos (starEach es X.env)).any (·.1) = false := by rfl)
    (ht : eval (.Call (.Attribute o m apos) (e :: es) [] pos) X.env = (do
      let ov ← eval o X.env
      standAt apos.atName
      let (f, first) ← holding [ov] (getMethod ov m pl)
      callWith pos f first (backTo pos (starEach (e :: es) X.env)) (backToKw pos (keywordEach [] X.env))) := by rfl) :
    PE X (.Call (.Attribute o m apos) (e :: es) [] pos) (tSMeth C sp E ta t) := by
  refine ⟨fun pins s σ H Q I h => ?_⟩
  refine PySem.W.methodCall_KW (pl := pl) (thn (he.run pins s σ H _ I h) fun u s1 ⟨x, H1, I1, rx, ex, q⟩ => ?_) ht
  subst ex
  obtain rfl : u = Value.ref C := rx
  refine getmethsm_ok I1 r c fun s2 I2 => ?_
  refine PySem.W.callWith_K (h₀ := X.base) I.ok.mod.kin c.kp (thn (ha.run pos pins s2 σ H1 _ I2 q) fun us s3 ⟨vs, H2, I3, rv, q2⟩ => ⟨I3.kIn, ?_⟩) hst hpl
  exact wpAny_call (run_fnR (us := us) (fnR_of F hb) hr hx I3 rv q2)
theorem pe_smethN (he : PE X o ta) (r : ClX.CRead X.K C mc) (c : SMet X.K C mc m p g) (F : FnOk X.prog X.w X.K X.mg X.base CX k g fd ps sp) (hr : Room k X.A) (hb : KBn X.K fd ps 0 ks gf gV) (hx : Passes CX X E) (hkw : PK X kws tk)
    (hall : (backToKw pos (keywordEach kws X.env)).all (·.1.isSome) = true := by rfl) (hks : (backToKw pos (keywordEach kws X.env)).filterMap (·.1) = ks := by rfl)
    (hpl : ((backTo pos (starEach [] X.env)).any (·.1) || (backToKw pos (keywordEach kws X.env)).any (·.1.isNone)) = false := by rfl)
    (ht : eval (.Call (.Attribute o m apos) [] kws pos) X.env = (do
      let ov ← eval o X.env
      standAt apos.atName
      let (f, first) ← holding [ov] (getMethod ov m pl)
      callWith pos f first (backTo pos (starEach [] X.env)) (backToKw pos (keywordEach kws X.env))) := by rfl) :
    PE X (.Call (.Attribute o m apos) [] kws pos) (tSMethN C ks.length sp gV E ta tk) := by
  refine ⟨fun pins s σ H Q I h => ?_⟩
  refine PySem.W.methodCall_KW (pl := pl) (thn (he.run pins s σ H _ I h) fun u s1 ⟨x, H1, I1, rx, ex, q⟩ => ?_) ht
  subst ex
  obtain rfl : u = Value.ref C := rx
  refine getmethsm_ok I1 r c fun s2 I2 => ?_
  refine PySem.W.callWith_KW0 (first := []) (h₀ := X.base) I.ok.mod.kin c.kp hall ?_ hpl
  refine thn (hkw.run pos pins s2 σ H1 _ I2 q) fun ws s3 ⟨zs, H2, I3, rz, l2, q2⟩ => ⟨I3.kIn, ?_⟩
  rw [hks]
  exact run_fnN (us := []) (vs := []) F hr hb hx I3 .nil rz rfl l2 q2
/-- x(), x a name that holds the class -/
theorem pe_makeV0 (M : Mk X.K C f) (F : FnOk X.prog X.w X.K X.mg X.base CX k f fd ps sp) (hr : Room (k + 1) X.A) (hf : PE X (.Name x np) tf) (hb : Binds X.K fd ps ds) (hd : Vals dvs ds) (hx : Passes CX X E) : PE X (.Call (.Name x np) [] [] pos) (tMakeV C sp dvs E tf tNil) := by
  refine ⟨fun pins s σ H Q I h => ?_⟩
  refine wpAny_Call_Name_kw (thn (hf.run pins s σ H _ I h) fun u s1 ⟨c, H1, I1, rc, ec, q1⟩ => ?_)
  subst ec
  obtain rfl : u = Value.ref C := rc
  exact PySem.W.callWith_K0 I1.kIn M.kp (run_make (us := []) M F hr hb hd hx I1 .nil q1)
/-- x(e, .., k = v, ..) -/
theorem pe_makeVK (M : Mk X.K C f) (F : FnOk X.prog X.w X.K X.mg X.base CX k f fd ps sp) (hr : Room (k + 1) X.A) (hf : PE X (.Name x np) tf) (hb : KBn X.K fd ps (n + 1) ks gf gV) (hx : Passes CX X E) (ha : PA X (e :: es) t) (hkw : PK X kws tk)
    (hall : (backToKw pos (keywordEach kws X.env)).all (·.1.isSome) = true := by rfl) (hks : (backToKw pos (keywordEach kws X.env)).filterMap (·.1) = ks := by rfl)
    (he : starEach (e :: es) X.env = (false, eval e X.env) :: starEach es X.env := by rfl) (hpl : ((backTo pos (starEach (e :: es) X.env)).any (·.1) || (backToKw pos (keywordEach kws X.env)).any (·.1.isNone)) = false := by rfl) :
    PE X (.Call (.Name x np) (e :: es) kws pos) (tMakeVK C n ks.length sp gV E tf t tk) := by
  refine ⟨fun pins s σ H Q I h => ?_⟩
  refine wpAny_Call_Name_kw (thn (hf.run pins s σ H _ I h) fun u s1 ⟨c, H1, I1, rc, ec, q1⟩ => ?_)
  subst ec
  obtain rfl : u = Value.ref C := rc
  refine PySem.W.callWith_KW (h₀ := X.base) I.ok.mod.kin M.kp hall (thn (ha.run pos pins s1 σ H1 _ I1 q1) fun us s2 ⟨vs, H2, I2, r, q⟩ => ?_) hpl he
  refine thn (hkw.run pos pins s2 σ H2 _ I2 q) fun ws s3 ⟨zs, H3, I3, rz, l1, l2, q3⟩ => ⟨I3.kIn, ?_⟩
  rw [hks]
  exact run_makeK M F hr hb hx I3 r rz l1 l2 q3
end
end Bh

set_option Elab.async false
set_option linter.all false
set_option maxRecDepth 100000
namespace Bh
open PySem PySem.Spec PyProof.Rows L2
/-! ### an instance called; a method called by keywords alone -/
section
variable {X : Cx} {CX : CXT} {k : Nat} {C f : Addr} {fd : FuncData} {ps ks : List Str} {sp : Sp} {E : XK} {fe e o : Expr} {es : List Expr} {pos apos : Pos} {tf to : TE} {t tk : TA} {m : Str} {kws : List Keyword} {g : List Value → List Value → List Value} {gV : List V → List V → List V}
/-- x(e, ..), x an instance of C -/
def tCallI (C : Addr) (sp : Sp) (E : XK) (tf : TE) (t : TA) : TE := fun σ H Q => tf σ H fun y H1 => ∃ a, y = V.ref a ∧ t σ H1 fun vs H2 => (∃ dx fs, H2 a = some (.ins C dx fs)) ∧ sp (V.ref a :: vs) H2 Q E
theorem pe_callI (hf : PE X fe tf) (c : StX.CallO X.K C f) (F : FnOk X.prog X.w X.K X.mg X.base CX k f fd ps sp) (hr : Room k X.A) (hb : Binds X.K fd ps []) (hx : Passes CX X E) (ha : PA X (e :: es) t)
    (ht : eval (.Call fe (e :: es) [] pos) X.env = (do callWith pos (← eval fe X.env) [] (backTo pos (starEach (e :: es) X.env)) (backToKw pos (keywordEach [] X.env))) := by rfl)
    (he : starEach (e :: es) X.env = (false, eval e X.env) :: starEach es X.env := by rfl) (hpl : (backTo pos (starEach es X.env)).any (·.1) = false := by rfl) : PE X (.Call fe (e :: es) [] pos) (tCallI C sp E tf t) := by
  refine ⟨fun pins s σ H Q I h => ?_⟩
  refine Call_ (thn (hf.run pins s σ H _ I h) fun u s1 ⟨y, H1, I1, ry, a, ey, q⟩ => ?_) ht
  subst ey
  obtain rfl : u = Value.ref a := ry
  refine StX.callO_with (thn (ha.run pos pins s1 σ H1 _ I1 q) fun us s2 ⟨vs, H2, I2, r, hi, q2⟩ => ?_) he hpl
  obtain ⟨ox, od, J, hd⟩ := StX.insC_at I2 (.inr hi)
  refine ⟨⟨C, ox, od, J, hd⟩, ?_⟩
  have l := F.len _ _ _ _ q2
  have bnd := hb s2 (.ref a :: us) I2.kIn (by rw [List.append_nil, ← l, List.length_cons, List.length_cons, r.length])
  rw [List.append_nil] at bnd
  refine wpAny_call (PySem.W.kco_code I2.kIn J hd c.at_ c.fn c.fi (codeAny_mono (F.run X.A X.stack s2 H2 ⟨.ref a :: us, []⟩ (.ref a :: us) (.ref a :: vs) Q E hr I2.env0 bnd (.cons rfl r) q2) fun res s3 z => ?_))
  cases res with
  | error err => exact hx pins σ H2 s2 err s3 I2 z
  | ok fl =>
    cases fl with
    | ret u => exact I2.after z
    | next => exact z.elim
    | brk => exact z.elim
    | cont => exact z.elim
/-- o.m(k = v, ..) -/
def tMethN (C : Addr) (m : Str) (n : Nat) (sp : Sp) (gV : List V → List V → List V) (E : XK) (to : TE) (tk : TA) : TE := fun σ H Q => to σ H fun x H1 => ∃ a dx fs, x = .ref a ∧ H1 a = some (.ins C dx fs) ∧ fs.lookup m = none ∧ tk σ H1 fun zs H2 => zs.length = n ∧ sp (gV [x] zs) H2 Q E
theorem pe_methN {pl : Sem Bool} (he : PE X o to) (c : Cls X.K C) (hm : Meth X.K C m f) (F : FnOk X.prog X.w X.K X.mg X.base CX k f fd ps sp) (hr : Room k X.A) (hb : KBn X.K fd ps 1 ks g gV) (hx : Passes CX X E) (hkw : PK X kws tk)
    (hall : (backToKw pos (keywordEach kws X.env)).all (·.1.isSome) = true := by rfl) (hks : (backToKw pos (keywordEach kws X.env)).filterMap (·.1) = ks := by rfl)
    (hpl : ((backTo pos (starEach [] X.env)).any (·.1) || (backToKw pos (keywordEach kws X.env)).any (·.1.isNone)) = false := by rfl)
    (ht : eval (.Call (.Attribute o m apos) [] kws pos) X.env = (do
      let ov ← eval o X.env
      standAt apos.atName
      let (f, first) ← holding [ov] (getMethod ov m pl)
      callWith pos f first (backTo pos (starEach [] X.env)) (backToKw pos (keywordEach kws X.env))) := by rfl) :
    PE X (.Call (.Attribute o m apos) [] kws pos) (tMethN C m ks.length sp gV E to tk) := by
  refine ⟨fun pins s σ H Q I h => ?_⟩
  refine PySem.W.methodCall_KW (pl := pl) (thn (he.run pins s σ H _ I h) fun u s1 ⟨x, H1, I1, rx, a, dx, fs, ex, ea, l, q⟩ => ?_) ht
  subst ex
  obtain rfl : u = Value.ref a := rx
  refine getmeth_ok I1 ea c hm l ?_
  refine PySem.W.callWith_KW0 (first := [.ref a]) (h₀ := X.base) I.ok.mod.kin hm.kp hall ?_ hpl
  refine thn (hkw.run pos pins s1 σ H1 _ I1 q) fun ws s2 ⟨zs, H2, I2, rz, l2, q2⟩ => ⟨I2.kIn, ?_⟩
  rw [hks]
  exact run_fnN (us := [.ref a]) (vs := [.ref a]) F hr hb hx I2 (.cons rfl .nil) rz rfl l2 q2
end
end Bh

set_option Elab.async false
set_option linter.all false
set_option maxRecDepth 100000
set_option maxHeartbeats 1000000
namespace Bh
open PySem PySem.Spec PyProof.Rows L2 LamX NdefX
/-- the class Rulebook with all that is called of it -/
structure RbM (K : PySem.W.Frag) (mg : Str → Option Value) (R : RbC K mg) (cI pI : Addr) : Type where
  fI : Addr
  od : Option Addr
  an : Option Addr
  oc : Value
  kV : Value
  doc : Value
  pm : Value
  ct : Value
  osl : Array (Option Value)
  lk : K.lookup fI = some ⟨oc, od, .func (PySem.W.fnOf "__init__" "Rulebook.__init__" (defArgs s_Rulebook__init) (defBody s_Rulebook__init) (defScope s_Rulebook__init) .none kV doc pm an (.ref cI) ct), osl⟩
  hcd : PySem.W.codeIn K (.ref cI) "Rulebook.__init__" = true
  mkr : Mk K R.C fI
  text : Mt K R.C "text" "Rulebook.text" s_Rulebook_text ["self"]
  fields : Mt K R.C "fields" "Rulebook.fields" s_Rulebook_fields ["self"]
  ties : Mt K R.C "ties" "Rulebook.ties" s_Rulebook_ties ["self"]
  kinds : Mt K R.C "kinds" "Rulebook.kinds" s_Rulebook_kinds ["self"]
  eq : Mt K R.C "__eq__" "Rulebook.__eq__" s_Rulebook__eq ["self", "other"]
  ne : NeC K R.C eq.f
  eqT : PySem.W.subIn K (.type "tuple") (.ref R.C) = some false
  mc : Value
  rd : ClX.CRead K R.C mc
  pR : Addr
  fR : Addr
  fdR : FuncData
  FR : Fun K "read" "Rulebook.read" s_Rulebook_read fR fdR
  bR : Binds K fdR ["cls", "text"] []
  cR : ClX.CMet K R.C mc "read" pR fR
  pV : Addr
  fV : Addr
  fdV : FuncData
  FV : Fun K "is_valid" "Rulebook.is_valid" s_Rulebook_is_valid fV fdV
  bV : Binds K fdV ["text"] []
  cV : SMet K R.C mc "is_valid" pV fV
  cIR : Addr
  gIR : mg "InvalidRulebook" = some (.ref cIR)
abbrev RbM.fdI {K : PySem.W.Frag} {mg : Str → Option Value} {R : RbC K mg} {cI pI : Addr} (M : RbM K mg R cI pI) : FuncData := PySem.W.fnOf "__init__" "Rulebook.__init__" (defArgs s_Rulebook__init) (defBody s_Rulebook__init) (defScope s_Rulebook__init) .none M.kV M.doc M.pm M.an (.ref cI) M.ct
theorem kb_ties_kinds {K : PySem.W.Frag} {mg : Str → Option Value} {R : RbC K mg} {cI pI : Addr} (M : RbM K mg R cI pI) : KBn K M.fdI ["self", "fields", "ties", "kinds"] 2 ["ties", "kinds"] (fun us ws => us ++ ws) (fun vs zs => vs ++ zs) :=
  ⟨fun s us ws _ l1 l2 => match us, ws, l1, l2 with
    | [_, _], [_, _], _, _ => .of_eq rfl, fun r1 r2 => r1.append r2⟩
/-- what is known, but tables of code objects -/
def noTb (H : Hp) : Hp := fun a => match H a with
  | some (.tbl _) => none
  | o => o
theorem noTb_le {H : Hp} : Same (noTb H) H := fun a o e => by
  unfold noTb at e
  split at e
  · cases e
  · exact e
theorem noTb_at {H : Hp} {a : Addr} {o : HO} (e : H a = some o) (n : ∀ ps, o ≠ .tbl ps) : noTb H a = some o := by
  unfold noTb
  rw [e]
  cases o with
  | tbl ps => exact absurd rfl (n ps)
  | _ => rfl
theorem noTb_not {H : Hp} {a : Addr} {o : HO} (e : noTb H a = some o) : ∀ ps, o ≠ .tbl ps := fun ps z => by
  unfold noTb at e
  split at e
  · cases e
  · rename_i n
    exact n ps (z ▸ e)
/-- the rulebook x with its lists -/
def RbA (K : PySem.W.Frag) (H : Hp) (C x a1 a2 a3 : Addr) (fs : List Fld) (ts : List Tie) (ks : List Knd) : Prop := ∃ (dx : Addr) (y1 y2 y3 : List V), H x = some (.ins C dx (rbF a1 a2 a3)) ∧ H a1 = some (.lst y1) ∧ H a2 = some (.lst y2) ∧ H a3 = some (.lst y3) ∧
  Paired (FdAt K H) y1 fs ∧ DpAll K H y2 (ts.map dTie) ∧ DpAll K H y3 (ks.map dKnd)
theorem RbA.at_ {K : PySem.W.Frag} {H : Hp} {C x a1 a2 a3 : Addr} {fs : List Fld} {ts : List Tie} {ks : List Knd} (h : RbA K H C x a1 a2 a3 fs ts ks) : RbAt K H C x fs ts ks := by
  obtain ⟨dx, y1, y2, y3, h0, h1, h2, h3, d1, d2, d3⟩ := h
  exact ⟨dx, a1, a2, a3, y1, y2, y3, h0, h1, h2, h3, fds_dp d1, d2, d3⟩
theorem SqP.nTb {K : PySem.W.Frag} {H : Hp} {a : Addr} {xs : List V} (h : SqP K H a xs) : SqP K (noTb H) a xs := by
  rcases h with ⟨o, h, h2⟩ | h
  · exact .inl ⟨o, noTb_at h (fun _ z => nomatch z), h2⟩
  · exact .inr h
theorem SqT.nTb0 {K : PySem.W.Frag} {H : Hp} {a : Addr} {xs : List V} (h : SqT K H a xs) : SqT K (noTb H) a xs :=
  h.imp (fun h => h.imp (fun h => noTb_at h (fun _ z => nomatch z)) fun ⟨o, h⟩ => ⟨o, noTb_at h (fun _ z => nomatch z)⟩) id
theorem FdAt.nTb {K : PySem.W.Frag} {H : Hp} {v : V} {f : Fld} (h : FdAt K H v f) : FdAt K (noTb H) v f := by
  obtain ⟨a, o, e, h1, h2⟩ := h
  exact ⟨a, o, e, SqT.nTb0 h1, SqP.nTb h2⟩
theorem fds_nTb {K : PySem.W.Frag} {H : Hp} : ∀ {xs : List V} {fs : List Fld}, Paired (FdAt K H) xs fs → Paired (FdAt K (noTb H)) xs fs
  | _, _, .nil => .nil
  | _, _, .cons a t => .cons (FdAt.nTb a) (fds_nTb t)
theorem rb_made {K : PySem.W.Frag} {TL : List (Addr × Str)} {C : Addr} {H : Hp} {v1 v2 v3 : V} {x1 x2 x3 : List V} {fs : List Fld} {ts : List Tie} {ks : List Knd} {Q : Hp → Prop} {E : XK} {x dx : Addr} (nx : H x = none) (nd : H dx = none) (ne : dx ≠ x) (h1 : DpX K H v1 x1 (fs.map dF)) (h2 : DpX K H v2 x2 (ts.map dTie)) (h3 : DpX K H v3 x3 (ks.map dKnd))
    (hF : Paired (FdAt K H) x1 fs) (ok : OkBook fs ts ks) (tb : Tabs TL H) (q : ∀ (H' : Hp) (a1 a2 a3 : Addr), Same (noTb H) H' → noTb H a1 = none → noTb H a2 = none → noTb H a3 = none → RbA K H' C x a1 a2 a3 fs ts ks → Tabs TL H' → Q H') :
    spInit K TL C [.ref x, v1, v2, v3] (upd (upd H dx (.own x)) x (.ins C dx [])) (fun v H3 => v = .non ∧ Q H3) E := by
  have s1 : Same H (upd (upd H dx (.own x)) x (.ins C dx [])) := (same_new nd).trans (same_new ((upd_ne (Ne.symm ne)).trans nx))
  have up : Same (noTb H) (noT x (upd (upd H dx (.own x)) x (.ins C dx []))) := fun a o e =>
    noT_at (s1 _ _ (noTb_le _ _ e)) (noTb_not e) fun z => by
      have := noTb_le _ _ e
      rw [z, nx] at this
      cases this
  have non : ∀ {a : Addr}, noT x (upd (upd H dx (.own x)) x (.ins C dx [])) a = none → noTb H a = none := fun {a} e => by
    cases k : noTb H a with
    | none => rfl
    | some o =>
      rw [up _ _ k] at e
      cases e
  refine ⟨x, dx, v1, v2, v3, x1, x2, x3, fs, ts, ks, rfl, upd_same, h1.mono s1, h2.mono s1, h3.mono s1, ok, tb.ext s1, fun H' a1 a2 a3 s hx g1 g2 g3 n1 n2 n3 d1 d2 d3 t => ⟨rfl, ?_⟩⟩
  exact q H' a1 a2 a3 (up.trans s) (non n1) (non n2) (non n3) ⟨dx, x1, x2, x3, hx, g1, g2, g3, fds_mono (up.trans s) (fds_nTb hF), d2, d3⟩ t
/-- the three parts, as they are drawn -/
def BkAt (K : PySem.W.Frag) (H : Hp) (t p1 p2 p3 : Addr) (fs : List Fld) (ts : List Tie) (ks : List Knd) : Prop := ∃ (y1 y2 y3 : List V), H t = some (.tup [.ref p1, .ref p2, .ref p3]) ∧ H p1 = some (.lst y1) ∧ H p2 = some (.lst y2) ∧ H p3 = some (.lst y3) ∧
  Paired (FdAt K H) y1 fs ∧ DpAll K H y2 (ts.map dTie) ∧ DpAll K H y3 (ks.map dKnd)
theorem BkAt.mono {K : PySem.W.Frag} {H H' : Hp} {t p1 p2 p3 : Addr} {fs : List Fld} {ts : List Tie} {ks : List Knd} (s : Same H H') (h : BkAt K H t p1 p2 p3 fs ts ks) : BkAt K H' t p1 p2 p3 fs ts ks := by
  obtain ⟨y1, y2, y3, h0, h1, h2, h3, d1, d2, d3⟩ := h
  exact ⟨y1, y2, y3, s _ _ h0, s _ _ h1, s _ _ h2, s _ _ h3, fds_mono s d1, DpAll.mono s d2, DpAll.mono s d3⟩
theorem RbA.mono {K : PySem.W.Frag} {H H' : Hp} {C x a1 a2 a3 : Addr} {fs : List Fld} {ts : List Tie} {ks : List Knd} (s : Same H H') (h : RbA K H C x a1 a2 a3 fs ts ks) : RbA K H' C x a1 a2 a3 fs ts ks := by
  obtain ⟨dx, y1, y2, y3, h0, h1, h2, h3, d1, d2, d3⟩ := h
  exact ⟨dx, y1, y2, y3, s _ _ h0, s _ _ h1, s _ _ h2, s _ _ h3, fds_mono s d1, DpAll.mono s d2, DpAll.mono s d3⟩
def spMade5 (K : PySem.W.Frag) (TL : List (Addr × Str)) (C : Addr) : Sp := fun vs H Q _ => ∃ (t p1 p2 p3 : Addr) (fs : List Fld) (ts : List Tie) (ks : List Knd), vs = [.ref t] ∧ BkAt K H t p1 p2 p3 fs ts ks ∧ OkBook fs ts ks ∧ Tabs TL H ∧
  ∀ (H' : Hp) (x a1 a2 a3 : Addr), Same (noTb H) H' → H x = none → noTb H a1 = none → noTb H a2 = none → noTb H a3 = none → RbA K H' C x a1 a2 a3 fs ts ks → Tabs TL H' → Q (.ref x) H'
section
variable {P : Program} {w : World} {K : PySem.W.Frag} {mg : Str → Option Value} {base : Heap} {cI pI : Addr}
theorem ok_made5 {TL : List (Addr × Str)} (T : Top K mg) {R : RbC K mg} (M : RbM K mg R cI pI) (TB : TabB base mg cI pI) (mT0 : (pI, rbQ) ∈ TL) (uT0 : ∀ p ∈ TL, p.1 = pI → p.2 = rbQ) : FnOk P w K mg base CX0 11 T.a_l_made T.fd_l_made ["_law_m"] (spMade5 K TL R.C) := by
  have G_Rulebook := ok_rinit (P := P) (w := w) (TL := TL) T R TB mT0 uT0 M.lk M.hcd
  refine T.d_l_made.F.ok sc_l_made (fun vs H Q E h => ?_) (fun cdv A outer s H vs Q E hr h => ?_)
  · obtain ⟨t, p1, p2, p3, fs, ts, ks, rfl, _⟩ := h
    rfl
  obtain ⟨t, p1, p2, p3, fs, ts, ks, rfl, hB, ok, tb, q⟩ := h
  refine ⟨_, (pss_one (ps_ret (pe_makeK M.mkr G_Rulebook (hr.mono (by decide)) (by rfl) R.g (kb_ties_kinds M) pass0 (pa_cons (pe_ix (ix_tup_K (K := K) (by rfl)) (pv 0) pe_int (fun _ _ => rfl)) pa_nil) (pk_cons (pe_ix (ix_tup_K (K := K) (by rfl)) (pv 0) pe_int (fun _ _ => rfl)) (pk_cons (pe_ix (ix_tup_K (K := K) (by rfl)) (pv 0) pe_int (fun _ _ => rfl)) pk_nil))))), ?_⟩
  obtain ⟨y1, y2, y3, h0, h1, h2, h3, d1, d2, d3⟩ := id hB
  have ht : SqT K H t [.ref p1, .ref p2, .ref p3] := SqT.of h0
  refine ⟨_, rfl, t, _, (0 : Int), .ref p1, rfl, rfl, ht, at_nn (by decide) rfl, _, rfl, t, _, (1 : Int), .ref p2, rfl, rfl, ht, at_nn (by decide) rfl, _, rfl, t, _, (2 : Int), .ref p3, rfl, rfl, ht, at_nn (by decide) rfl, rfl, rfl, fun x dx nx nd ne => ?_⟩
  exact rb_made nx nd ne ⟨p1, rfl, .inl (SqL.of h1), fds_dp d1⟩ ⟨p2, rfl, .inl (SqL.of h2), d2⟩ ⟨p3, rfl, .inl (SqL.of h3), d3⟩ d1 ok tb fun H' a1 a2 a3 s n1 n2 n3 ra t2 => q H' x a1 a2 a3 s nx n1 n2 n3 ra t2
end
end Bh

set_option Elab.async false
set_option linter.all false
set_option maxRecDepth 100000
set_option maxHeartbeats 1000000
namespace Bh
open PySem PySem.Spec PyProof.Rows L2 LamX NdefX
theorem nx_flen {D E : Dft} {l : Str} (h : Nx D l E) : D.1.length ≤ E.1.length := by
  cases h with
  | fld ok => rw [List.length_append]; exact Nat.le_add_right _ _
  | tie => exact Nat.le_refl _
  | tcas => exact Nat.le_refl _
  | knd => exact Nat.le_refl _
  | kcas => exact Nat.le_refl _
  | born => exact Nat.le_refl _
theorem run_flen {D E : Dft} {ls : List Str} (h : Run D ls E) : ∀ i, ((ls.take i).foldl dec D).1.length ≤ E.1.length := by
  induction h with
  | nil D =>
    intro i
    rw [List.take_nil]
    exact Nat.le_refl _
  | cons x r ih =>
    intro i
    cases i with
    | zero => exact Nat.le_trans (nx_flen x) (ih 0)
    | succ i =>
      rw [List.take_succ_cons, List.foldl_cons, dec_of x]
      exact ih i
theorem noTb_mono {H H' : Hp} (s : Same H H') : Same (noTb H) (noTb H') := fun a o e => noTb_at (s _ _ (noTb_le _ _ e)) (noTb_not e)
def spRead (K : PySem.W.Frag) (TL : List (Addr × Str)) (C : Addr) : Sp := fun vs H Q _ => ∃ (fs : List Fld) (ts : List Tie) (ks : List Knd), vs = [.ref C, .str (textB fs ts ks)] ∧ OkBook fs ts ks ∧ Tabs TL H ∧
  ∀ (H' : Hp) (x a1 a2 a3 : Addr), Same (noTb H) H' → noTb H x = none → noTb H a1 = none → noTb H a2 = none → noTb H a3 = none → RbA K H' C x a1 a2 a3 fs ts ks → Tabs TL H' → Q (.ref x) H'
section
variable {P : Program} {w : World} {K : PySem.W.Frag} {mg : Str → Option Value} {base : Heap} {cI pI : Addr}
theorem ok_read {TL : List (Addr × Str)} (T : Top K mg) {R : RbC K mg} (M : RbM K mg R cI pI) {RD : DfC K mg} (MD : DfM K mg RD) (TB : TabB base mg cI pI) (mT0 : (pI, rbQ) ∈ TL) (uT0 : ∀ p ∈ TL, p.1 = pI → p.2 = rbQ) : FnOk P w K mg base CX0 11 M.fR M.fdR ["cls", "text"] (spRead K TL R.C) := by
  have G_Rulebook := ok_rinit (P := P) (w := w) (TL := TL) T R TB mT0 uT0 M.lk M.hcd
  have G_Draft := ok_dinit (P := P) (w := w) (base := base) T MD
  have G_d_take := ok_dtake (P := P) (w := w) (base := base) T MD
  have G_d_is_whole := ok_dwhole (P := P) (w := w) (base := base) T MD
  have G_d_parts := ok_dparts (P := P) (w := w) (base := base) T MD
  refine M.FR.ok sc_Rulebook_read (fun vs H Q E h => ?_) (fun cdv A outer s H vs Q E hr h => ?_)
  · obtain ⟨fs, ts, ks, rfl, _⟩ := h
    rfl
  obtain ⟨fs, ts, ks, rfl, ok, tb, q⟩ := h
  refine ⟨_, (pss_cons (ps_if (pt_not (pt_val (pe_callB (call_isi_K (K := K) (by rfl)) (by rfl) T.b_isinstance (by decide +kernel) (pa_cons (pv 1) (pa_cons (pe_tyN "str" (by rfl) T.b_str (by decide +kernel)) pa_nil))))) (pss_one ps_never) pss_nil)
    (pss_cons (ps_asg (pe_split (pv 1) pe_str) (pg_star0K (K := K) (by rfl) (by rfl) (pgs_cons (pg_name (i := 2) sc_Rulebook_read.nd rfl (Or.inl rfl)) (pgs_cons (pg_name (i := 3) sc_Rulebook_read.nd rfl (Or.inl rfl)) pgs_nil))))
    (pss_cons (ps_set (i := 4) sc_Rulebook_read.nd rfl (Or.inl rfl) (pe_make0 MD.mkr G_Draft (hr.mono (by decide)) (by rfl) RD.g MD.bI .nil pass0))
    (pss_cons (ps_for PassesOwn.never rfl (pi_enum (by rfl) T.b_enumerate (pa_cons (pv 2) pa_nil)) (pg_tup_K (K := K) (by rfl) (n := 2) (by rfl) (pgs_cons (pg_name (i := 5) sc_Rulebook_read.nd rfl (Or.inl rfl)) (pgs_cons (pg_name (i := 6) sc_Rulebook_read.nd rfl (Or.inl rfl)) pgs_nil)))
      (pss_one (ps_if (pt_not (pt_val (pe_meth (pv 4) RD.cl MD.take.M G_d_take (hr.mono (by decide)) MD.take.b .nil pass0 (pa_cons (pv 6) pa_nil)))) (pss_one ps_never) pss_nil)))
    (pss_cons (ps_if (PW.pt (pw_or (pt_cmpR op_ne (pv 3) pe_str (nomark _)) (pw_or1 (pt_not (pt_val (pe_meth0 (pv 4) RD.cl MD.is_whole.M G_d_is_whole (hr.mono (by decide)) MD.is_whole.b .nil pass0)))))) (pss_one ps_never) pss_nil)
    (pss_cons (ps_asg (pe_meth0 (pv 4) RD.cl MD.parts.M G_d_parts (hr.mono (by decide)) MD.parts.b .nil pass0) (pg_tup_K (K := K) (by rfl) (n := 3) (by rfl) (pgs_cons (pg_name (i := 7) sc_Rulebook_read.nd rfl (Or.inl rfl)) (pgs_cons (pg_name (i := 8) sc_Rulebook_read.nd rfl (Or.inl rfl)) (pgs_cons (pg_name (i := 9) sc_Rulebook_read.nd rfl (Or.inl rfl)) pgs_nil)))))
    (pss_one (ps_ret (pe_makeVK M.mkr G_Rulebook (hr.mono (by decide)) (pv 0) (kb_ties_kinds M) pass0 (pa_cons (pv 7) pa_nil) (pk_cons (pv 8) (pk_cons (pv 9) pk_nil))))))))))), ?_⟩
  rw [show L2.start ["cls", "text", "lines", "rest", "draft", "number", "line", "fields", "ties", "kinds"] [.ref R.C, .str (textB fs ts ks)] = [some (.ref R.C), some (.str (textB fs ts ks)), none, none, none, none, none, none, none, none] from rfl]
  have rn := run_book ok
  have lb := bookLs_len ok
  have rm := run_mem rn
  have nl := run_nl rn
  have lt : (textB fs ts ks).length ≤ 3000000 := by
    refine Nat.le_trans (join_len "" (m := 20001) _ fun z hz => ?_) ?_
    · obtain ⟨l, hl, rfl⟩ := List.mem_map.mp hz
      rw [len_app]
      have := rm l hl
      show _ + 1 ≤ _
      omega
    · rw [List.length_map]
      show _ * (20001 + 0) ≤ _
      omega
  have big : (3000002 : Nat) ≤ sizeLine := by show (3000002 : Nat) ≤ sizeLine; decide
  refine ⟨_, rfl, _, _, _, _, true, rfl, .ty _, .base (.str _), kit_ty (by decide +kernel), _, rfl, iteF ?_⟩
  refine ⟨_, rfl, ⟨_, rfl⟩, textB fs ts ks, "\n", rfl, rfl, (by decide +kernel), Nat.le_trans (Nat.add_le_add_right lt 2) big, ?_⟩
  rw [show Txt.split (textB fs ts ks) "\n" = bookLs fs ts ks ++ [Str.empty] from text_split nl]
  intro p np
  have s1 : Same H (upd H p (.lst ((bookLs fs ts ks ++ [Str.empty]).map V.str))) := same_new np
  refine ⟨p, (bookLs fs ts ks).map V.str, .str Str.empty, rfl, SqL.of (by rw [upd_same, List.map_append]; rfl), fun L nL => ?_⟩
  have s2 : Same _ (upd (upd H p (.lst ((bookLs fs ts ks ++ [Str.empty]).map V.str))) L (.lst ((bookLs fs ts ks).map V.str))) := same_new nL
  have s12 := s1.trans s2
  have hL : upd (upd H p (.lst ((bookLs fs ts ks ++ [Str.empty]).map V.str))) L (.lst ((bookLs fs ts ks).map V.str)) L = some (.lst ((bookLs fs ts ks).map V.str)) := upd_same
  generalize upd (upd H p (.lst ((bookLs fs ts ks ++ [Str.empty]).map V.str))) L (.lst ((bookLs fs ts ks).map V.str)) = H2 at s12 hL ⊢
  refine ⟨_, _, rfl, _, _, rfl, rfl, ?_⟩
  dsimp only [List.set]
  refine fun x dx nx nd ne => ?_
  have s3 : Same H2 (upd (upd H2 dx (.own x)) x (.ins RD.C dx [])) := (same_new nd).trans (same_new ((upd_ne (Ne.symm ne)).trans nx))
  refine ⟨x, dx, rfl, upd_same, fun H3 a1 a2 a3 s4 n1 n2 n3 hd => ⟨rfl, ?_⟩⟩
  have s34 : Same H2 H3 := fun a o e => s4 _ _ (by rw [hid_ne (fun z => by rw [z, nx] at e; cases e)]; exact s3 _ _ e)
  have m1 : H2 a1 = none := s3.free n1
  have m2 : H2 a2 = none := s3.free n2
  have m3 : H2 a3 = none := s3.free n3
  clear s3 s4 n1 n2 n3 nd ne s1 s2 nL np
  refine gn_step ?_
  dsimp only [List.set]
  refine ⟨_, rfl, L, _, rfl, SqL.of (s34 _ _ hL), ?_⟩
  refine for_it (walk_enum (K := K) (a := L) (xs := (bookLs fs ts ks).map V.str)) (fun i σ H' => ∃ x5 x6, σ = [some (.ref R.C), some (.str (textB fs ts ks)), some (.ref L), some (.str Str.empty), some (.ref x), x5, x6, none, none, none] ∧ Same H2 H' ∧ DfA K H' RD.C x a1 a2 a3 (((bookLs fs ts ks).take i).foldl dec ([], [], []))) ⟨none, none, rfl, s34, hd⟩ (fun i σ H' _ ⟨_, _, _, s, _⟩ => SqL.of (s _ _ hL)) ?_ ?_
  · rintro i y σ H' H'' hi ⟨x5, x6, rfl, s5, hd5⟩ ⟨T', u, v, rfl, nT, rfl, eu, ev⟩
    cases eu
    dsimp only at ev
    rw [show ((bookLs fs ts ks).map V.str)[i]? = ((bookLs fs ts ks)[i]?).map V.str from List.getElem?_map ..] at ev
    cases el : (bookLs fs ts ks)[i]? with
    | none => rw [el] at ev; cases ev
    | some l =>
    rw [el] at ev
    cases ev
    have nxl := rn.at_ el
    have fl := run_flen rn i
    have f3 := ok.f2
    have s6 : Same H' (upd H' T' (.tup [.int ↑i, .str l])) := same_new nT
    have hd6 := hd5.mono s6
    obtain ⟨_, _, _, dx6, _, _, _, h06, _⟩ := id hd6
    refine ⟨T', _, rfl, SqT.of upd_same, rfl, _, _, rfl, _, _, rfl, rfl, ?_⟩
    dsimp only [List.set]
    refine ⟨_, rfl, x, dx6, _, rfl, h06, rfl, _, rfl, x, a1, a2, a3, l, _, _, rfl, hd6, Nat.le_trans fl f3, nxl, fun H7 s7 hd7 => ⟨_, rfl, iteF ?_⟩⟩
    refine ⟨_, _, rfl, fun a o e => s7 _ _ ?_, hd7⟩
    unfold hd3
    rw [hid_ne (fun z => by rw [z, m1] at e; cases e), hid_ne (fun z => by rw [z, m2] at e; cases e), hid_ne (fun z => by rw [z, m3] at e; cases e)]
    exact s6 _ _ (s5 _ _ e)
  · rintro σ H4 ⟨x5, x6, rfl, s5, hd5⟩
    rw [List.length_map, List.take_length, rn.eq] at hd5
    obtain ⟨_, _, _, dx5, _, _, _, h05, _⟩ := id hd5
    have kne : ks ≠ [] := fun z => by
      have := ok.k1
      rw [z] at this
      cases this
    have f3 := ok.f2
    have t4 := ok.t2
    have k3 := ok.k2
    refine ⟨_, rfl, rfl, _, rfl, iteB (fun k => absurd k (by decide +kernel)) (fun _ => ?_)⟩
    refine ⟨_, rfl, x, dx5, _, rfl, h05, rfl, x, a1, a2, a3, _, rfl, hd5, kne, ⟨_, rfl, iteF ?_⟩⟩
    refine ⟨_, rfl, x, dx5, _, rfl, h05, rfl, x, a1, a2, a3, _, rfl, hd5, (by show fs.length ≤ 1000; omega), (by show ts.length ≤ 1000; omega), (by show ks.length ≤ 1000; omega), fun H6 t b1 b2 b3 y1 y2 y3 s6 ht hb1 hb2 hb3 d1 d2 d3 => ?_⟩
    refine ⟨t, _, rfl, SqT.of ht, rfl, _, _, rfl, _, _, rfl, _, _, rfl, rfl, ?_⟩
    dsimp only [List.set]
    have sA := s12.trans (s5.trans s6)
    refine ⟨_, rfl, rfl, _, rfl, _, rfl, _, rfl, rfl, rfl, fun z dz nz ndz nez => ?_⟩
    exact rb_made nz ndz nez ⟨b1, rfl, .inl (SqL.of hb1), fds_dp d1⟩ ⟨b2, rfl, .inl (SqL.of hb2), d2⟩ ⟨b3, rfl, .inl (SqL.of hb3), d3⟩ d1 ok (tb.ext sA) fun H' c1 c2 c3 s n1 n2 n3 ra t2 =>
      q H' z c1 c2 c3 ((noTb_mono sA).trans s) ((noTb_mono sA).free (Same.free noTb_le nz)) ((noTb_mono sA).free n1) ((noTb_mono sA).free n2) ((noTb_mono sA).free n3) ra t2
theorem ok_isvalid {TL : List (Addr × Str)} (T : Top K mg) {R : RbC K mg} (M : RbM K mg R cI pI) {RD : DfC K mg} (MD : DfM K mg RD) (TB : TabB base mg cI pI) (mT0 : (pI, rbQ) ∈ TL) (uT0 : ∀ p ∈ TL, p.1 = pI → p.2 = rbQ) :
    FnOk P w K mg base CX0 12 M.fV M.fdV ["text"] (fun vs H Q _ => ∃ (fs : List Fld) (ts : List Tie) (ks : List Knd), vs = [.str (textB fs ts ks)] ∧ OkBook fs ts ks ∧ Tabs TL H ∧ ∀ H', Same (noTb H) H' → Tabs TL H' → Q (.bl true) H') := by
  have G_read := ok_read (P := P) (w := w) (TL := TL) T M MD TB mT0 uT0
  refine M.FV.ok sc_Rulebook_is_valid (fun vs H Q E h => ?_) (fun cdv A outer s H vs Q E hr h => ?_)
  · obtain ⟨fs, ts, ks, rfl, _⟩ := h
    rfl
  obtain ⟨fs, ts, ks, rfl, ok, tb, q⟩ := h
  refine ⟨_, (pss_cons (ps_try_only (X := (cxOf C8.CX0 P w K mg base ["text"] "Rulebook.is_valid" (defScope s_Rulebook_is_valid) M.fV cdv A outer s H E).nox) (c := .ref M.cIR) (Wout := fun _ _ _ _ => False) (tb := fun W => tDrop (ClX.tCMeth R.C (spRead K TL R.C) C8.E0 (tC (V.ref R.C)) (tCons (tVar 0) tNil))) (ts := fun _ _ _ => tRet (tC (.bl false))) rfl rfl ⟨(by rfl), (by decide), .inl M.gIR⟩ LamX.takes0 (fun W pn xe tk _ => pss_one (ps_expr (ClX.pe_cmeth (pe_glob (v := .ref R.C) rfl R.g rfl) M.rd M.cR (fnR_of G_read M.bR) (hr.mono (by decide)) pass0 (pa_cons (pv 0) pa_nil)))) (fun a oe cls d pn _ _ => pss_one (ps_ret pe_bl)))
    (pss_one (ps_ret pe_bl))), ?_⟩
  exact ⟨rfl, _, rfl, fs, ts, ks, rfl, ok, tb, fun H' x a1 a2 a3 s n0 n1 n2 n3 ra tb' => q H' s tb'⟩
end
end Bh

set_option Elab.async false
set_option linter.all false
set_option maxRecDepth 100000
set_option maxHeartbeats 1000000
namespace Bh
open PySem PySem.Spec PyProof.Rows L2
theorem fldL_eq (f : Fld) : fldL f = "field " ++ Txt.join " " (f.1 :: f.2) := by
  unfold fldL
  rw [join_cons (by simp), show (("field" : Str) ++ " ") = "field " by decide +kernel]
theorem read_casesT {K : PySem.W.Frag} {H : Hp} {Q : VK} {te : TE} {p : List Cas} {σ : L2.St} {j : Nat} (ej : ∀ v, (List.set (wipe σ [j]) j (some v))[j]? = some (some v)) (ew : ∀ v, wipe (List.set (wipe σ [j]) j (some v)) [j] = wipe σ [j])
    (he : ∀ Q' : VK, (∀ (H' : Hp) (p' : Addr) (xs : List V), Same H H' → SqT K H' p' xs → DpAll K H' xs (p.map dC) → Q' (.ref p') H') → te σ H Q') (ok : ∀ c ∈ p, OkC c) (few : p.length ≤ 1000) (q : ∀ (H' : Hp) (D : Addr), Same H H' → H D = none → H' D = some (.lst ((casL p).map V.str)) → Q (.ref D) H') :
    tLc (iTup K te) (gName j) tYes (tCall (spLine K) [] E0 (tCons (tVar j) tNil)) [j] σ H Q := by
  refine he _ fun H1 a xs s0 ha dx => ?_
  have lx : xs.length = p.length := by rw [DpAll.length dx, List.length_map]
  refine ⟨a, rfl, ⟨_, ha⟩, fun D nD => ?_⟩
  refine lc_it walk_tup (fun i H' => Same H1 H' ∧ H' D = some (.lst (((casL p).take i).map V.str))) ⟨same_new nD, upd_same⟩ (fun i H' _ p => Same.tup p.1 ha) ?_ ?_
  · rintro i y H' H'' hi ⟨s1, hD⟩ ⟨rfl, ey⟩
    obtain ⟨d, e1, e2⟩ := DpAll.get dx ey
    rw [List.getElem?_map] at e1
    obtain ⟨c, hc, rfl⟩ := Option.map_eq_some_iff.mp e1
    refine ⟨ew y, y, ej y, y, c, rfl, Dp.mono s1 e2, ok c (List.mem_of_getElem? hc), fun H3 s3 => ⟨_, s3 _ _ hD, ?_, same_mut (s1.trans s3) nD, ?_⟩⟩
    · rw [List.length_map, List.length_take]
      unfold casL
      rw [List.length_map]
      exact lt_line (by omega)
    · rw [upd_same, List.take_add_one]
      unfold casL
      rw [List.getElem?_map, hc, List.map_append]
      rfl
  · rintro H' ⟨s1, hD⟩
    rw [lx, List.take_of_length_le (by unfold casL; rw [List.length_map]; exact Nat.le_refl _)] at hD
    exact q H' D (s0.trans s1) (s0.free nD) hD
def bornLs (v : Option (List Str)) : List Str := match v with
  | none => []
  | some v => [bornL v]
theorem kndLs_eq (k : Knd) : kndLs k = kndL k.name k.keys :: (casL (k.taking.getD []) ++ bornLs k.birth) := rfl
def spLinesOf (K : PySem.W.Frag) : Sp := fun vs H Q _ => ∃ (t p1 p2 p3 : Addr) (fs : List Fld) (ts : List Tie) (ks : List Knd), vs = [.ref t] ∧ BkAt K H t p1 p2 p3 fs ts ks ∧ OkBook fs ts ks ∧ ∀ (p : Addr) (H' : Hp), Same H H' → H' p = some (.lst ((bookLs fs ts ks).map V.str)) → Q (.ref p) H'
section
variable {P : Program} {w : World} {K : PySem.W.Frag} {mg : Str → Option Value} {base : Heap}
theorem ok_linesof (T : Top K mg) : FnOk P w K mg base CX0 2 T.a_l_lines_of T.fd_l_lines_of ["_law_m"] (spLinesOf K) := by
  have G_l_line := ok_lline (P := P) (w := w) (base := base) T
  refine T.d_l_lines_of.F.ok sc_l_lines_of (fun vs H Q E h => ?_) (fun cdv A outer s H vs Q E hr h => ?_)
  · obtain ⟨t, p1, p2, p3, fs, ts, ks, rfl, _⟩ := h
    rfl
  obtain ⟨t, p1, p2, p3, fs, ts, ks, rfl, ⟨y1, y2, y3, h0, h1, h2, h3, d1, d2, d3⟩, ok, q⟩ := h
  refine ⟨_, (pss_cons (ps_setLc (i := 1) (own := [("_law_name", 2), ("_law_options_here", 7)]) rfl sc_l_lines_of.nd rfl rfl (sw_true rfl rfl rfl (by decide +kernel)) (pi_list_K (K := K) (by rfl) (pe_ix (ix_tup_K (K := K) (by rfl)) (pv 0) pe_int (fun _ _ => rfl))) (blkOk_by (own := [("_law_name", 2), ("_law_options_here", 7)]) (N := ["_law_m", "_law_lines", "_law_name", "_law_program_here", "_law_keys_here", "_law_taking", "_law_birth", "_law_options_here", "_law_case_here", "_law_key", "_law_row"]) (sc := defScope s_l_lines_of) (by decide +kernel)) (fun _ _ _ _ _ => by exact (pg_tup_K (K := K) (by rfl) (n := 2) (by rfl) (pgs_cons (pg_name (i := 2) sc_l_lines_of.nd rfl (Or.inl rfl)) (pgs_cons (pg_name (i := 7) sc_l_lines_of.nd rfl (Or.inl rfl)) pgs_nil)))) (fun _ _ _ _ _ => by exact pts_nil) (fun _ _ _ _ _ => by exact (pe_op op_add_str pe_str (pe_join_K (K := K) (by rfl) pe_str (pe_op op_cat (pe_lst (pa_cons (pv 2) pa_nil)) (pe_callTy (call_list_of_K (K := K) (by rfl)) (by rfl) T.b_list (by decide +kernel) (pa_cons (pv 7) pa_nil)))))))
    (pss_cons (ps_for PassesOwn.never rfl (pi_list_K (K := K) (by rfl) (pe_ix (ix_tup_K (K := K) (by rfl)) (pv 0) pe_int (fun _ _ => rfl))) (pg_tup_K (K := K) (by rfl) (n := 2) (by rfl) (pgs_cons (pg_name (i := 2) sc_l_lines_of.nd rfl (Or.inl rfl)) (pgs_cons (pg_name (i := 3) sc_l_lines_of.nd rfl (Or.inl rfl)) pgs_nil)))
      (pss_one (ps_set (i := 1) sc_l_lines_of.nd rfl (Or.inl rfl) (pe_op op_cat (pe_op op_cat (pv 1) (pe_lst (pa_cons (pe_op op_add_str pe_str (pv 2)) pa_nil))) (pe_lc (own := [("_law_case_here", 8)]) rfl sc_l_lines_of.nd (pi_tup_K (K := K) (by rfl) (pv 3)) (blkOk_by (own := [("_law_case_here", 8)]) (N := ["_law_m", "_law_lines", "_law_name", "_law_program_here", "_law_keys_here", "_law_taking", "_law_birth", "_law_options_here", "_law_case_here", "_law_key", "_law_row"]) (sc := defScope s_l_lines_of) (by decide +kernel)) (fun _ _ _ _ _ => by exact (pg_name (i := 8) sc_l_lines_of.nd rfl (Or.inl rfl))) (fun _ _ _ _ _ => by exact pts_nil) (fun _ _ _ _ _ => by exact (pe_call G_l_line (hr.mono (by decide)) (by rfl) T.d_l_line.g T.d_l_line.kp T.d_l_line.b .nil pass0 (pa_cons (pv 8) pa_nil))))))))
    (pss_cons (ps_for PassesOwn.never rfl (pi_list_K (K := K) (by rfl) (pe_ix (ix_tup_K (K := K) (by rfl)) (pv 0) pe_int (fun _ _ => rfl))) (pg_tup_K (K := K) (by rfl) (n := 4) (by rfl) (pgs_cons (pg_name (i := 2) sc_l_lines_of.nd rfl (Or.inl rfl)) (pgs_cons (pg_name (i := 4) sc_l_lines_of.nd rfl (Or.inl rfl)) (pgs_cons (pg_name (i := 5) sc_l_lines_of.nd rfl (Or.inl rfl)) (pgs_cons (pg_name (i := 6) sc_l_lines_of.nd rfl (Or.inl rfl)) pgs_nil)))))
      (pss_cons (ps_expr (pe_bm_K (K := K) (by rfl) PySem.F.plainAttrs_list PySem.F.slot_list_append PySem.F.type_list_append mt_append (pv 1) (pa_cons (pe_join_K (K := K) (by rfl) pe_str (pe_op op_cat (pe_lst (pa_cons pe_str (pa_cons (pv 2) pa_nil))) (pe_lc (own := [("_law_key", 9)]) rfl sc_l_lines_of.nd (pi_tup_K (K := K) (by rfl) (pv 4)) (blkOk_by (own := [("_law_key", 9)]) (N := ["_law_m", "_law_lines", "_law_name", "_law_program_here", "_law_keys_here", "_law_taking", "_law_birth", "_law_options_here", "_law_case_here", "_law_key", "_law_row"]) (sc := defScope s_l_lines_of) (by decide +kernel)) (fun _ _ _ _ _ => by exact (pg_name (i := 9) sc_l_lines_of.nd rfl (Or.inl rfl))) (fun _ _ _ _ _ => by exact pts_nil) (fun _ _ _ _ _ => by exact (pe_op op_add_str (pe_ix (ix_tup_K (K := K) (by rfl)) (pv 9) pe_int (fun _ _ => rfl)) (pe_ix (ix_tup_K (K := K) (by rfl)) (pv 9) pe_int (fun _ _ => rfl))))))) pa_nil)))
      (pss_cons (ps_set (i := 1) sc_l_lines_of.nd rfl (Or.inl rfl) (pe_op op_cat (pv 1) (pe_lc (own := [("_law_case_here", 8)]) rfl sc_l_lines_of.nd (pi_tup_K (K := K) (by rfl) (pe_ifExp (pt_cmpR op_isN (pv 5) pe_non (nomark _)) (pe_tup pa_nil) (pv 5))) (blkOk_by (own := [("_law_case_here", 8)]) (N := ["_law_m", "_law_lines", "_law_name", "_law_program_here", "_law_keys_here", "_law_taking", "_law_birth", "_law_options_here", "_law_case_here", "_law_key", "_law_row"]) (sc := defScope s_l_lines_of) (by decide +kernel)) (fun _ _ _ _ _ => by exact (pg_name (i := 8) sc_l_lines_of.nd rfl (Or.inl rfl))) (fun _ _ _ _ _ => by exact pts_nil) (fun _ _ _ _ _ => by exact (pe_call G_l_line (hr.mono (by decide)) (by rfl) T.d_l_line.g T.d_l_line.kp T.d_l_line.b .nil pass0 (pa_cons (pv 8) pa_nil))))))
      (pss_one (ps_set (i := 1) sc_l_lines_of.nd rfl (Or.inl rfl) (pe_op op_cat (pv 1) (pe_lc (own := [("_law_row", 10)]) rfl sc_l_lines_of.nd (pi_list_K (K := K) (by rfl) (pe_lst (pa_cons (pv 6) pa_nil))) (blkOk_by (own := [("_law_row", 10)]) (N := ["_law_m", "_law_lines", "_law_name", "_law_program_here", "_law_keys_here", "_law_taking", "_law_birth", "_law_options_here", "_law_case_here", "_law_key", "_law_row"]) (sc := defScope s_l_lines_of) (by decide +kernel)) (fun _ _ _ _ _ => by exact (pg_name (i := 10) sc_l_lines_of.nd rfl (Or.inl rfl))) (fun _ _ _ _ _ => by exact (pts_one (pt_cmpR op_notN (pv 10) pe_non (nomark _)))) (fun _ _ _ _ _ => by exact (pe_join_K (K := K) (by rfl) pe_str (pe_op op_cat (pe_lst (pa_cons pe_str pa_nil)) (pe_callTy (call_list_of_K (K := K) (by rfl)) (by rfl) T.b_list (by decide +kernel) (pa_cons (pv 10) pa_nil))))))))))))
    (pss_one (ps_ret (pv 1)))))), ?_⟩
  rw [show L2.start ["_law_m", "_law_lines", "_law_name", "_law_program_here", "_law_keys_here", "_law_taking", "_law_birth", "_law_options_here", "_law_case_here", "_law_key", "_law_row"] [.ref t] = [some (.ref t), none, none, none, none, none, none, none, none, none, none] from rfl]
  have fw := ok.words
  have l1 : y1.length = fs.length := fds_len d1
  have l2 : y2.length = ts.length := by rw [DpAll.length d2, List.length_map]
  have l3 : y3.length = ks.length := by rw [DpAll.length d3, List.length_map]
  have f3 := ok.f2
  have t4 := ok.t2
  have k3 := ok.k2
  have ht : SqT K H t [.ref p1, .ref p2, .ref p3] := SqT.of h0
  refine sq_asg ?_
  refine ⟨_, rfl, t, _, (0 : Int), .ref p1, rfl, rfl, ht, at_nn (by decide) rfl, p1, rfl, ⟨_, SqL.of h1⟩, fun D nD => ?_⟩
  refine lc_it walk_list (fun i H' => Same H H' ∧ H' D = some (.lst (((fs.map fldL).take i).map V.str))) ⟨same_new nD, upd_same⟩ (fun i H' _ p => SqL.of (p.1 _ _ h1)) ?_ ?_
  · rintro i y H' H'' hi ⟨s1, hD⟩ ⟨rfl, ey⟩
    obtain ⟨d, e1, e2⟩ := DpAll.get (fds_dp d1) ey
    rw [List.getElem?_map] at e1
    obtain ⟨f, hf, rfl⟩ := Option.map_eq_some_iff.mp e1
    obtain ⟨a, o, rfl, k1, k2⟩ := dp_dF (Dp.mono s1 e2)
    have okf := ok.fok i f hf
    have hi6 := okf.hi
    refine ⟨a, _, rfl, k1, rfl, _, _, rfl, _, _, rfl, rfl, rfl, ⟨_, rfl⟩, _, rfl, (by show 1 ≤ sizeLine; decide), fun la nla => ?_⟩
    have s2 : Same H'' (upd H'' la (.lst [.str f.1])) := same_new nla
    refine ⟨_, rfl, o, _, rfl, .inr (Same.tup s2 k2), fun lb nlb => ?_⟩
    have s3 : Same _ (upd (upd H'' la (.lst [.str f.1])) lb (.lst (f.2.map V.str))) := same_new nlb
    refine ⟨la, lb, _, _, rfl, rfl, s3 _ _ upd_same, upd_same, le_line (by rw [List.length_map]; show 1 + _ ≤ _; omega), fun l nl => ?_⟩
    have s4 : Same _ (upd (upd (upd H'' la (.lst [.str f.1])) lb (.lst (f.2.map V.str))) l (.lst ([.str f.1] ++ f.2.map V.str))) := same_new nl
    have sA := s2.trans (s3.trans s4)
    have jl : (Txt.join " " (f.1 :: f.2)).length ≤ 1000 := by
      refine Nat.le_trans (join_len " " (m := 8) _ fun z hz => ?_) ?_
      · rcases List.mem_cons.mp hz with rfl | hz
        · exact okf.nm.hi
        · exact (okf.op z hz).2
      · show (f.2.length + 1) * (8 + 1) ≤ 1000
        omega
    refine ⟨_, l, f.1 :: f.2, rfl, rfl, .inl (SqL.of upd_same), join_ok (m := 8) (fun z hz => ?_) ?_, ?_⟩
    · rcases List.mem_cons.mp hz with rfl | hz
      · exact okf.nm.hi
      · exact (okf.op z hz).2
    · show (f.2.length + 1) * (8 + 1) ≤ 16777216
      omega
    refine ⟨_, _, rfl, rfl, le_line (by show 6 + _ ≤ _; omega), _, sA _ _ hD, ?_, same_mut (s1.trans sA) nD, ?_⟩
    · rw [List.length_map, List.length_take]
      exact lt_line (by rw [List.length_map]; omega)
    · rw [upd_same, List.take_add_one, List.getElem?_map, hf, List.map_append, ← fldL_eq]
      rfl
  rintro H1 ⟨s1, hD1⟩
  rw [l1, List.take_of_length_le (by rw [List.length_map]; exact Nat.le_refl _)] at hD1
  refine gn_step ?_
  dsimp only [List.set]
  refine ⟨_, rfl, t, _, (1 : Int), .ref p2, rfl, rfl, Same.tup s1 ht, at_nn (by decide) rfl, p2, rfl, ⟨_, SqL.of (s1 _ _ h2)⟩, ?_⟩
  refine for_it walk_list (fun i σ H' => ∃ (L : Addr) (x2 x3 : Option V), σ = [some (.ref t), some (.ref L), x2, x3, none, none, none, none, none, none, none] ∧ Same H H' ∧ H L = none ∧ H' L = some (.lst ((fs.map fldL ++ ((ts.take i).map tieLs).flatten).map V.str))) ⟨D, none, none, rfl, s1, nD, by rw [hD1]; rw [List.take_zero, List.map_nil, List.flatten_nil, List.append_nil]⟩ (fun i σ H' _ ⟨_, _, _, _, s, _⟩ => SqL.of (s _ _ h2)) ?_ ?_
  · rintro i y σ H' H'' hi ⟨L, x2, x3, rfl, s2, nL, hL⟩ ⟨rfl, ey⟩
    obtain ⟨d, e1, e2⟩ := DpAll.get d2 ey
    rw [List.getElem?_map] at e1
    obtain ⟨tt, htt, rfl⟩ := Option.map_eq_some_iff.mp e1
    obtain ⟨okn, okp⟩ := ok.tok tt (List.mem_of_getElem? htt)
    obtain ⟨a, w2, rfl, ha, hw⟩ := dp_tie e2
    have len9 := flat_le (f := tieLs) (m := 9) (ts.take i) fun t ht => tieLs_len (ok.tok t (List.mem_of_mem_take ht)).2
    have li : (ts.take i).length ≤ 4 := by rw [List.length_take]; omega
    have ll : ((fs.map fldL ++ ((ts.take i).map tieLs).flatten).map V.str).length ≤ 50 := by
      rw [List.length_map, List.length_append, List.length_map]
      omega
    have nl := okn.hi
    have p8 := okp.hi
    refine ⟨a, _, rfl, Same.tup s2 ha, rfl, _, _, rfl, _, _, rfl, rfl, ?_⟩
    dsimp only [List.set]
    refine ⟨_, rfl, _, rfl, _, _, rfl, rfl, le_line (by show 4 + _ ≤ _; omega), (by show 1 ≤ sizeLine; decide), fun la nla => ?_⟩
    have s3 : Same H'' (upd H'' la (.lst [.str (tieL tt.1)])) := same_new nla
    refine ⟨L, la, _, _, rfl, rfl, s3 _ _ hL, upd_same, le_line (by show _ + 1 ≤ _; omega), fun lb nlb => ?_⟩
    have s4 : Same _ (upd (upd H'' la (.lst [.str (tieL tt.1)])) lb (.lst ((fs.map fldL ++ ((ts.take i).map tieLs).flatten).map V.str ++ [.str (tieL tt.1)]))) := same_new nlb
    have hlb : upd (upd H'' la (.lst [.str (tieL tt.1)])) lb (.lst ((fs.map fldL ++ ((ts.take i).map tieLs).flatten).map V.str ++ [.str (tieL tt.1)])) lb = some (.lst ((fs.map fldL ++ ((ts.take i).map tieLs).flatten).map V.str ++ [.str (tieL tt.1)])) := upd_same
    have sA := s2.trans (s3.trans s4)
    have okc : ∀ c ∈ tt.2, OkC c := fun c hc => okC_of fw (okp.all c hc)
    show tLc _ _ _ _ _ _ (upd (upd H'' la (.lst [.str (tieL tt.1)])) lb (.lst ((fs.map fldL ++ ((ts.take i).map tieLs).flatten).map V.str ++ [.str (tieL tt.1)]))) _
    generalize upd (upd H'' la (.lst [.str (tieL tt.1)])) lb (.lst ((fs.map fldL ++ ((ts.take i).map tieLs).flatten).map V.str ++ [.str (tieL tt.1)])) = H4 at sA hlb ⊢
    refine read_cases rfl (fun _ => rfl) (fun _ => rfl) (Dp.mono sA hw) okc (by omega) fun H5 D2 s5 nD2 hD2 => ?_
    refine ⟨lb, D2, _, _, rfl, rfl, s5 _ _ hlb, hD2, ?_, fun lc nlc => ?_⟩
    · rw [List.length_append, List.length_map (f := V.str) (as := casL tt.2), casL_len]
      exact le_line (by show _ + 1 + _ ≤ _; omega)
    · have s6 : Same H5 (upd H5 lc (.lst (((fs.map fldL ++ ((ts.take i).map tieLs).flatten).map V.str ++ [.str (tieL tt.1)]) ++ (casL tt.2).map V.str))) := same_new nlc
      refine ⟨lc, _, _, rfl, sA.trans (s5.trans s6), (sA.trans s5).free nlc, ?_⟩
      rw [upd_same, flat_next htt]
      simp only [List.map_append, List.append_assoc]
      rfl
  rintro σ H2 ⟨L, x2, x3, rfl, s2, nL, hL2⟩
  rw [l2, List.take_length] at hL2
  refine ⟨_, rfl, t, _, (2 : Int), .ref p3, rfl, rfl, Same.tup s2 ht, at_nn (by decide) rfl, p3, rfl, ⟨_, SqL.of (s2 _ _ h3)⟩, ?_⟩
  refine for_it walk_list (fun i σ H' => ∃ (L : Addr) (x2 x4 x5 x6 : Option V), σ = [some (.ref t), some (.ref L), x2, x3, x4, x5, x6, none, none, none, none] ∧ Same H H' ∧ H L = none ∧ H' L = some (.lst ((fs.map fldL ++ (ts.map tieLs).flatten ++ ((ks.take i).map kndLs).flatten).map V.str))) ⟨L, x2, none, none, none, rfl, s2, nL, by rw [hL2]; rw [List.take_zero, List.map_nil, List.flatten_nil, List.append_nil]⟩ (fun i σ H' _ ⟨_, _, _, _, _, _, s, _⟩ => SqL.of (s _ _ h3)) ?_ ?_
  · clear hL2 nL L x2 s2 hD1 s1 nD D
    rintro i y σ H' H'' hi ⟨L, x2, x4, x5, x6, rfl, s3, nL, hL⟩ ⟨rfl, ey⟩
    obtain ⟨d, e1, e2⟩ := DpAll.get d3 ey
    rw [List.getElem?_map] at e1
    obtain ⟨k, hk, rfl⟩ := Option.map_eq_some_iff.mp e1
    have okk := ok.kok k (List.mem_of_getElem? hk)
    obtain ⟨a, w2, w3, w4, rfl, ha, hk2, hk3, hk4⟩ := dp_knd e2
    obtain ⟨b, xs, rfl, hb, dxs⟩ := dp_tup hk2
    have lxs : xs.length = k.keys.length := by rw [DpAll.length dxs, List.length_map]
    have kl : k.keys.length ≤ 3 := Nat.le_trans okk.ks.hi f3
    have len1 := flat_le (f := tieLs) (m := 9) ts fun t ht => tieLs_len (ok.tok t ht).2
    have len2 := flat_le (f := kndLs) (m := 10) (ks.take i) fun t ht => kndLs_len (ok.kok t (List.mem_of_mem_take ht))
    have li : (ks.take i).length ≤ 3 := by rw [List.length_take]; omega
    have ll : ((fs.map fldL ++ (ts.map tieLs).flatten ++ ((ks.take i).map kndLs).flatten).map V.str).length ≤ 90 := by
      rw [List.length_map, List.length_append, List.length_append, List.length_map]
      omega
    have kn : ∀ c ∈ k.keys, (keyL c).length ≤ 9 := fun c hc => by
      obtain ⟨k1, k2⟩ := okk.ks.all c hc
      obtain ⟨f, hf, e⟩ := List.mem_map.mp k1
      have n1 : c.1.length ≤ 8 := by
        rw [← show f.1 = c.1 from e]
        exact (fw f hf).1.hi
      have n2 : c.2.length ≤ 1 := by rcases k2 with e | e <;> rw [e] <;> decide +kernel
      unfold keyL
      rw [len_app]
      omega
    refine ⟨a, _, rfl, Same.tup s3 ha, rfl, _, _, rfl, _, _, rfl, _, _, rfl, _, _, rfl, rfl, ?_⟩
    dsimp only [List.set]
    refine ⟨_, rfl, .inl ⟨rfl, _, SqL.of hL⟩, ⟨_, rfl⟩, _, rfl, (by show 2 ≤ sizeLine; decide), fun la nla => ?_⟩
    have s4 : Same H'' (upd H'' la (.lst [.str "cell", .str k.name])) := same_new nla
    have sA := s3.trans s4
    refine ⟨_, rfl, b, rfl, ⟨_, Same.tup sA hb⟩, fun D nD => ?_⟩
    have hla : upd H'' la (.lst [.str "cell", .str k.name]) la = some (.lst [.str "cell", .str k.name]) := upd_same
    have hLa := s4 _ _ hL
    generalize upd H'' la (.lst [.str "cell", .str k.name]) = H4 at s4 sA nD hla hLa ⊢
    refine lc_it walk_tup (fun i H' => Same H4 H' ∧ H' D = some (.lst (((k.keys.map keyL).take i).map V.str))) ⟨same_new nD, upd_same⟩ (fun i H' _ p => Same.tup (sA.trans p.1) hb) ?_ ?_
    · rintro j y H5 H5' hj ⟨s5, hD⟩ ⟨rfl, ey⟩
      obtain ⟨c, ca, hc, rfl, hca⟩ := keys_at dxs ey
      have s05 := sA.trans s5
      have kc := kn c (List.mem_of_getElem? hc)
      unfold keyL at kc
      rw [len_app] at kc
      refine ⟨rfl, _, rfl, ca, _, (0 : Int), .str c.1, rfl, rfl, Same.tup s05 hca, at_nn (by decide) rfl, _, rfl, ca, _, (1 : Int), .str c.2, rfl, rfl, Same.tup s05 hca, at_nn (by decide) rfl, _, _, rfl, rfl, le_line (by omega), _, hD, ?_, same_mut s5 nD, ?_⟩
      · rw [List.length_map, List.length_take, List.length_map]
        exact lt_line (by omega)
      · rw [upd_same, List.take_add_one, List.getElem?_map, hc, List.map_append]
        rfl
    rintro H5 ⟨s5, hD⟩
    rw [lxs, List.take_of_length_le (by rw [List.length_map]; exact Nat.le_refl _)] at hD
    refine ⟨la, D, _, _, rfl, rfl, s5 _ _ hla, hD, le_line (by rw [List.length_map, List.length_map]; show 2 + _ ≤ _; omega), fun lb nlb => ?_⟩
    have s6 : Same H5 (upd H5 lb (.lst ([.str "cell", .str k.name] ++ (k.keys.map keyL).map V.str))) := same_new nlb
    refine ⟨_, lb, "cell" :: k.name :: k.keys.map keyL, rfl, rfl, .inl (SqL.of upd_same), join_ok (m := 9) (fun z hz => ?_) ?_, ?_⟩
    · rcases List.mem_cons.mp hz with rfl | hz
      · decide +kernel
      rcases List.mem_cons.mp hz with rfl | hz
      · exact Nat.le_succ_of_le okk.nm.hi
      · obtain ⟨c, hc, rfl⟩ := List.mem_map.mp hz
        exact kn c hc
    · show ((k.keys.map keyL).length + 1 + 1) * (9 + 1) ≤ 16777216
      rw [List.length_map]
      omega
    have s56 := s5.trans s6
    refine ⟨L, _, _, rfl, rfl, s56 _ _ hLa, lt_line (by omega), ?_⟩
    have s07 := same_mut (o := .lst ((fs.map fldL ++ (ts.map tieLs).flatten ++ ((ks.take i).map kndLs).flatten).map V.str ++ [.str (kndL k.name k.keys)])) (sA.trans s56) nL
    have hL7 : upd (upd H5 lb (.lst ([.str "cell", .str k.name] ++ (k.keys.map keyL).map V.str))) L (.lst ((fs.map fldL ++ (ts.map tieLs).flatten ++ ((ks.take i).map kndLs).flatten).map V.str ++ [.str (kndL k.name k.keys)])) L = some (.lst ((fs.map fldL ++ (ts.map tieLs).flatten ++ ((ks.take i).map kndLs).flatten).map V.str ++ [.str (kndL k.name k.keys)])) := upd_same
    dsimp only
    rw [show Txt.join " " ("cell" :: k.name :: k.keys.map keyL) = kndL k.name k.keys from rfl]
    generalize upd (upd H5 lb (.lst ([.str "cell", .str k.name] ++ (k.keys.map keyL).map V.str))) L (.lst ((fs.map fldL ++ (ts.map tieLs).flatten ++ ((ks.take i).map kndLs).flatten).map V.str ++ [.str (kndL k.name k.keys)])) = H7 at s07 hL7 ⊢
    clear s56 s6 nlb hD s5 nD hLa hla sA s4 nla hL s3
    have okp : ∀ c ∈ k.taking.getD [], OkC c := fun c hc => by
      cases et : k.taking with
      | none => rw [et] at hc; cases hc
      | some p =>
        rw [et] at hc
        exact okC_of fw ((okk.tk p et).all c hc)
    have c8 : (k.taking.getD []).length ≤ 8 := by
      cases et : k.taking with
      | none => exact Nat.zero_le _
      | some p => exact (okk.tk p et).hi
    refine sq_asg ?_
    refine ⟨_, rfl, ?_⟩
    refine read_casesT (p := k.taking.getD []) (fun _ => rfl) (fun _ => rfl) (fun Q' hq => read_prog (o := k.taking) rfl (Dp.mono s07 hk3) hq) okp (by omega) fun H8 D8 s8 nD8 hD8 => ?_
    refine ⟨L, D8, _, _, rfl, rfl, s8 _ _ hL7, hD8, ?_, fun lc nlc => ?_⟩
    · rw [List.length_append, List.length_map (f := V.str) (as := casL _), casL_len]
      exact le_line (by show _ + 1 + _ ≤ _; omega)
    have s9 : Same H8 (upd H8 lc (.lst (((fs.map fldL ++ (ts.map tieLs).flatten ++ ((ks.take i).map kndLs).flatten).map V.str ++ [.str (kndL k.name k.keys)]) ++ (casL (k.taking.getD [])).map V.str))) := same_new nlc
    have s09 := s07.trans (s8.trans s9)
    have hlc : upd H8 lc (.lst (((fs.map fldL ++ (ts.map tieLs).flatten ++ ((ks.take i).map kndLs).flatten).map V.str ++ [.str (kndL k.name k.keys)]) ++ (casL (k.taking.getD [])).map V.str)) lc = some (.lst (((fs.map fldL ++ (ts.map tieLs).flatten ++ ((ks.take i).map kndLs).flatten).map V.str ++ [.str (kndL k.name k.keys)]) ++ (casL (k.taking.getD [])).map V.str)) := upd_same
    generalize upd H8 lc (.lst (((fs.map fldL ++ (ts.map tieLs).flatten ++ ((ks.take i).map kndLs).flatten).map V.str ++ [.str (kndL k.name k.keys)]) ++ (casL (k.taking.getD [])).map V.str)) = H9 at s09 hlc ⊢
    clear s9 nlc hD8 nD8 s8 hL7 s07
    refine gn_step ?_
    dsimp only [List.set]
    refine ⟨_, rfl, _, rfl, (by show 1 ≤ sizeLine; decide), fun lz nlz => ?_⟩
    have s10 : Same H9 (upd H9 lz (.lst [w4])) := same_new nlz
    have hlz : upd H9 lz (.lst [w4]) lz = some (.lst [w4]) := upd_same
    have hlc10 := s10 _ _ hlc
    have s010 := s09.trans s10
    refine ⟨lz, rfl, ⟨_, SqL.of hlz⟩, fun Dz nDz => ?_⟩
    generalize upd H9 lz (.lst [w4]) = H10 at s10 hlz hlc10 s010 nDz ⊢
    refine lc_it (walk_list (xs := [w4])) (fun i H' => Same H10 H' ∧ H' Dz = some (.lst ((if i = 0 then [] else bornLs k.birth).map V.str))) ⟨same_new nDz, upd_same⟩ (fun i H' _ p => SqL.of (p.1 _ _ hlz)) ?_ ?_
    · rintro j y HA HA' hj ⟨sA, hDz⟩ ⟨rfl, ey⟩
      have j0 : j = 0 := by
        have : j < 1 := hj
        omega
      subst j0
      cases ey
      cases eb : k.birth with
      | none =>
        rw [eb] at hk4
        cases hk4
        refine ⟨rfl, _, rfl, rfl, _, rfl, iteF ⟨sA, hDz⟩⟩
      | some v =>
        rw [eb] at hk4
        have fv := okk.bt v eb
        have lv := fv.1
        obtain ⟨va, vx, rfl, hva, dvx⟩ := dp_tup hk4
        obtain rfl := dp_strs dvx
        refine ⟨rfl, _, rfl, rfl, _, rfl, iteT ?_⟩
        refine ⟨⟨_, rfl⟩, (by show 1 ≤ sizeLine; decide), fun l1 nl1 => ?_⟩
        have sB : Same HA' (upd HA' l1 (.lst [.str "born"])) := same_new nl1
        refine ⟨_, rfl, va, _, rfl, .inr (Same.tup (s010.trans (sA.trans sB)) hva), fun l2 nl2 => ?_⟩
        have sC : Same _ (upd (upd HA' l1 (.lst [.str "born"])) l2 (.lst (v.map V.str))) := same_new nl2
        refine ⟨l1, l2, [.str "born"], v.map V.str, rfl, rfl, sC _ _ upd_same, upd_same, le_line (by rw [List.length_map]; show 1 + _ ≤ _; omega), fun l3 nl3 => ?_⟩
        have sD : Same _ (upd (upd (upd HA' l1 (.lst [.str "born"])) l2 (.lst (v.map V.str))) l3 (.lst ([.str "born"] ++ v.map V.str))) := same_new nl3
        have sAD := sB.trans (sC.trans sD)
        refine ⟨_, l3, "born" :: v, rfl, rfl, .inl (SqL.of upd_same), join_ok (m := 8) (fun z hz => ?_) ?_, ?_⟩
        · rcases List.mem_cons.mp hz with rfl | hz
          · decide +kernel
          · exact (fit_op fw fv z hz).2
        · show (v.length + 1) * (8 + 1) ≤ 16777216
          omega
        exact ⟨_, sAD _ _ hDz, (by show 0 < sizeLine; decide), same_mut (sA.trans sAD) nDz, by rw [upd_same]; rfl⟩
    rintro HB ⟨sB, hDz⟩
    have hDz' : HB Dz = some (.lst ((bornLs k.birth).map V.str)) := hDz
    have b1 : (bornLs k.birth).length ≤ 1 := by
      cases k.birth with
      | none => exact Nat.zero_le _
      | some v => exact Nat.le_refl _
    refine ⟨lc, Dz, _, _, rfl, rfl, sB _ _ hlc10, hDz', ?_, fun le nle => ?_⟩
    · rw [List.length_append, List.length_append, List.length_map (f := V.str) (as := casL _), casL_len, List.length_map (f := V.str) (as := bornLs _)]
      exact le_line (by show _ + 1 + _ + _ ≤ _; omega)
    have s12 : Same HB _ := same_new (o := .lst ((((fs.map fldL ++ (ts.map tieLs).flatten ++ ((ks.take i).map kndLs).flatten).map V.str ++ [.str (kndL k.name k.keys)]) ++ (casL (k.taking.getD [])).map V.str) ++ (bornLs k.birth).map V.str)) nle
    refine ⟨le, _, _, _, _, rfl, s010.trans (sB.trans s12), (s010.trans sB).free nle, ?_⟩
    rw [upd_same, flat_next hk, kndLs_eq]
    simp only [List.map_append, List.map_cons, List.append_assoc]
    rfl
  rintro σ H3 ⟨L, x2', x4, x5, x6, rfl, s3, nL, hL3⟩
  rw [l3, List.take_length] at hL3
  exact ⟨_, rfl, q L H3 s3 hL3⟩
end
end Bh

set_option Elab.async false
set_option linter.all false
set_option maxRecDepth 100000
set_option maxHeartbeats 1000000
set_option autoImplicit false
namespace Bh
open PySem PySem.Spec PyProof.Rows L2
/-! ### == of the parts' data is = of the parts -/
def EqA {α : Type} (f : α → PyData) : Prop := ∀ a b, PyData.eqv (f a) (f b) = true ↔ a = b
theorem eqA_all {α : Type} {f : α → PyData} (h : EqA f) : ∀ xs ys : List α, PyData.eqvAll (xs.map f) (ys.map f) = true ↔ xs = ys
  | [], [] => ⟨fun _ => rfl, fun _ => rfl⟩
  | [], _ :: _ => ⟨fun e => (by cases e), fun e => (by cases e)⟩
  | _ :: _, [] => ⟨fun e => (by cases e), fun e => (by cases e)⟩
  | x :: xs, y :: ys => by
    show (PyData.eqv (f x) (f y) && PyData.eqvAll (xs.map f) (ys.map f)) = true ↔ _
    rw [Bool.and_eq_true, h x y, eqA_all h xs ys]
    exact ⟨fun ⟨a, b⟩ => by rw [a, b], fun e => ⟨(List.cons.inj e).1, (List.cons.inj e).2⟩⟩
theorem eqA_list {α : Type} {f : α → PyData} (h : EqA f) : EqA fun xs : List α => PyData.list (xs.map f) := fun xs ys => eqA_all h xs ys
theorem eqA_tup {α : Type} {f : α → PyData} (h : EqA f) : EqA fun xs : List α => PyData.tuple (xs.map f) := fun xs ys => eqA_all h xs ys
theorem eqA_str : EqA PyData.str := fun a b => by
  show (a == b) = true ↔ _
  exact beq_iff_eq
theorem eqA_two {α β γ : Type} {f : α → PyData} {g : β → PyData} (h : EqA f) (k : EqA g) (p : γ → α) (q : γ → β) (inj : ∀ a b : γ, p a = p b → q a = q b → a = b) : EqA fun c : γ => PyData.tuple [f (p c), g (q c)] := fun a b => by
  show (PyData.eqv (f (p a)) (f (p b)) && (PyData.eqv (g (q a)) (g (q b)) && true)) = true ↔ _
  rw [Bool.and_true, Bool.and_eq_true, h, k]
  exact ⟨fun ⟨x, y⟩ => inj a b x y, fun e => by rw [e]; exact ⟨rfl, rfl⟩⟩
theorem eqA_dF : EqA dF := eqA_two eqA_str (eqA_tup eqA_str) (fun f : Fld => f.1) (fun f => f.2) fun a b x y => Prod.ext x y
theorem eqA_dS : EqA dS := eqA_two eqA_str eqA_str (fun f : Stp => f.1) (fun f => f.2) fun a b x y => Prod.ext x y
theorem eqA_dKey : EqA dKey := eqA_two eqA_str eqA_str (fun f : Str × Str => f.1) (fun f => f.2) fun a b x y => Prod.ext x y
theorem eqA_dT : EqA dT := fun a b => by
  obtain ⟨a1, a2, a3⟩ := a
  obtain ⟨b1, b2, b3⟩ := b
  show (PyData.eqv (.str a1) (.str b1) && (PyData.eqv (.str a2) (.str b2) && (PyData.eqv (.str a3) (.str b3) && true))) = true ↔ _
  rw [Bool.and_true, Bool.and_eq_true, Bool.and_eq_true, eqA_str, eqA_str, eqA_str]
  exact ⟨fun ⟨x, y, z⟩ => by rw [x, y, z], fun e => by cases e; exact ⟨rfl, rfl, rfl⟩⟩
theorem eqA_opt {α : Type} {f : List α → PyData} {g : Option (List α) → PyData} (h : EqA f) (g0 : g none = .none) (g1 : ∀ x, g (some x) = f x) (tu : ∀ x, ∃ ys, f x = .tuple ys) : EqA g := fun a b => by
  cases a with
  | none =>
    cases b with
    | none => rw [g0]; exact ⟨fun _ => rfl, fun _ => rfl⟩
    | some y =>
      obtain ⟨ys, e⟩ := tu y
      rw [g0, g1, e]
      exact ⟨fun e => (by cases e), fun e => (by cases e)⟩
  | some x =>
    cases b with
    | none =>
      obtain ⟨xs, e⟩ := tu x
      rw [g0, g1, e]
      exact ⟨fun e => (by cases e), fun e => (by cases e)⟩
    | some y =>
      rw [g1, g1, h]
      exact ⟨fun e => by rw [e], fun e => Option.some.inj e⟩
theorem eqA_dO : EqA dO := eqA_opt (f := fun ss : List Stp => .tuple (ss.map dS)) (eqA_tup eqA_dS) rfl (fun _ => rfl) fun x => ⟨_, rfl⟩
theorem eqA_dH : EqA dH := eqA_opt (f := fun ss : List Str => .tuple (ss.map PyData.str)) (eqA_tup eqA_str) rfl (fun _ => rfl) fun x => ⟨_, rfl⟩
theorem eqA_dC : EqA dC := eqA_two (f := fun l : List Tst => .tuple (l.map dT)) (eqA_tup eqA_dT) eqA_dO (fun c : Cas => c.1) (fun c => c.2) fun a b x y => Prod.ext x y
theorem eqA_dP : EqA dP := eqA_tup eqA_dC
theorem eqA_dOP : EqA dOP := eqA_opt (f := dP) eqA_dP rfl (fun _ => rfl) fun x => ⟨_, rfl⟩
theorem eqA_dTie : EqA dTie := eqA_two eqA_str eqA_dP (fun t : Tie => t.1) (fun t => t.2) fun a b x y => Prod.ext x y
theorem eqA_dKnd : EqA dKnd := fun a b => by
  obtain ⟨a1, a2, a3, a4⟩ := a
  obtain ⟨b1, b2, b3, b4⟩ := b
  show (PyData.eqv (.str a1) (.str b1) && (PyData.eqv (.tuple (a2.map dKey)) (.tuple (b2.map dKey)) && (PyData.eqv (dOP a3) (dOP b3) && (PyData.eqv (dH a4) (dH b4) && true)))) = true ↔ _
  rw [Bool.and_true, Bool.and_eq_true, Bool.and_eq_true, Bool.and_eq_true, eqA_str, eqA_tup eqA_dKey, eqA_dOP, eqA_dH]
  exact ⟨fun ⟨x, y, z, w⟩ => by rw [x, y, z, w], fun e => by cases e; exact ⟨rfl, rfl, rfl, rfl⟩⟩
def dBk (fs : List Fld) (ts : List Tie) (ks : List Knd) : PyData := .list [.list (fs.map dF), .list (ts.map dTie), .list (ks.map dKnd)]
theorem eqv_book (fs fs' : List Fld) (ts ts' : List Tie) (ks ks' : List Knd) : PyData.eqv (dBk fs ts ks) (dBk fs' ts' ks') = true ↔ fs = fs' ∧ ts = ts' ∧ ks = ks' := by
  show (PyData.eqv (.list (fs.map dF)) (.list (fs'.map dF)) && (PyData.eqv (.list (ts.map dTie)) (.list (ts'.map dTie)) && (PyData.eqv (.list (ks.map dKnd)) (.list (ks'.map dKnd)) && true))) = true ↔ _
  rw [Bool.and_true, Bool.and_eq_true, Bool.and_eq_true, eqA_list eqA_dF, eqA_list eqA_dTie, eqA_list eqA_dKnd]
theorem eqv_parts (fs : List Fld) (ts : List Tie) (ks : List Knd) : (PyData.eqv (.list (fs.map dF)) (.list (fs.map dF)) && (PyData.eqv (.list (ts.map dTie)) (.list (ts.map dTie)) && PyData.eqv (.list (ks.map dKnd)) (.list (ks.map dKnd)))) = true := by
  rw [Bool.and_eq_true, Bool.and_eq_true, eqA_list eqA_dF, eqA_list eqA_dTie, eqA_list eqA_dKnd]
  exact ⟨rfl, rfl, rfl⟩
/-- the last text of the law -/
abbrev lfs : List Fld := [("a", ["0", "1"])]
abbrev lts : List Tie := [("t", [([], some [])])]
abbrev lks : List Knd := [⟨"c", [], none, none⟩]
theorem last_text : textB lfs lts lks = "field a 0 1\ntie t\nwhen always do keep\ncell c\n" := by decide +kernel
theorem last_nm : ∀ n ∈ (["a", "t", "c"] : List Str), IsNm n := by
  have : ∀ n ∈ (["a", "t", "c"] : List Str), 1 ≤ n.length ∧ n.length ≤ 8 ∧ ∀ c ∈ n.cps.toList, 97 ≤ c ∧ c ≤ 122 := by decide +kernel
  exact fun n hn => ⟨(this n hn).1, (this n hn).2.1, (this n hn).2.2⟩
theorem last_fsB : FsB lfs := ⟨by decide +kernel, by decide +kernel, by decide +kernel⟩
theorem last_fsV : FsV lfs := fun i => by
  have : lfs.take i = [] ∨ lfs.take i = lfs := by
    cases i with
    | zero => exact .inl rfl
    | succ i => exact .inr (List.take_of_length_le (Nat.succ_le_succ (Nat.zero_le i)))
  rcases this with e | e <;> rw [e] <;> decide +kernel
theorem last_prg : OkPrg lfs [([], some [])] := ⟨by decide, by decide, fun c hc => by
  rw [List.mem_singleton.mp hc]
  refine ⟨⟨?_, ?_, by decide, ?_⟩, by decide, ?_, ?_⟩
  · intro t ht
    cases ht
  · intro ss e s hs
    cases e
    cases hs
  · intro ss e
    cases e
    decide
  · intro ss e
    cases e
    decide
  · intro t ht
    cases ht⟩
theorem last_ok : OkBook lfs lts lks := by
  refine ⟨by decide, by decide, fun i f hi => ?_, last_fsB, last_fsV, by decide, by decide, by decide +kernel, fun t ht => ?_, by decide, by decide, by decide +kernel, fun k hk => ?_⟩
  · cases i with
    | zero =>
      cases hi
      refine ⟨by decide, by decide, last_nm _ (by decide +kernel), by decide, by decide, by decide +kernel, ?_, last_fsB, last_fsV, by decide +kernel⟩
      unfold IsOp
      decide +kernel
    | succ i => cases hi
  · rw [List.mem_singleton.mp ht]
    exact ⟨last_nm _ (by decide +kernel), last_prg⟩
  · rw [List.mem_singleton.mp hk]
    refine ⟨last_nm _ (by decide +kernel), ⟨by decide, List.nodup_nil, fun k hk => ?_⟩, fun p e => ?_, fun v e => ?_⟩
    · cases hk
    · cases e
    · cases e
end Bh

set_option Elab.async false
set_option linter.all false
set_option maxRecDepth 100000
set_option maxHeartbeats 1000000
namespace Bh
open PySem PySem.Spec PyProof.Rows L2 LamX NdefX
/-- H' keeps what H holds, but tables of code objects and the lists at S -/
def Kp (S : List Addr) (H H' : Hp) : Prop := ∀ a o, H a = some o → (∀ ps, o ≠ .tbl ps) → (a ∈ S → ∀ xs, o ≠ .lst xs) → H' a = some o
section
variable {K : PySem.W.Frag} {S S' : List Addr} {H H1 H' : Hp} {b l p pI C x a1 a2 a3 t p1 p2 p3 : Addr} {fs : List Fld} {ts : List Tie} {ks : List Knd} {q : Str}
theorem Same.kp (e : Same H H') : Kp S H H' := fun a o h _ _ => e _ _ h
theorem Kp.trans (e : Kp S H H1) (f : Kp S H1 H') : Kp S H H' := fun a o h n m => f a o (e a o h n m) n m
theorem Kp.mono (h : ∀ a ∈ S, a ∈ S') (e : Kp S H H') : Kp S' H H' := fun a o k n m => e a o k n fun z => m (h a z)
theorem kp_tb (e : Same (noTb H) H') : Kp S H H' := fun a o h n _ => e _ _ (noTb_at h n)
theorem kp_upd {xs : List V} {o : HO} (h : H p = some (.lst xs)) (m : p ∈ S) : Kp S H (upd H p o) := fun a u k _ n => by
  rw [upd_ne (fun z => by rw [z, h] at k; exact n (z ▸ m) _ (Option.some.inj k).symm)]
  exact k
theorem kp_hid {xs : List V} (h : H p = some (.lst xs)) (m : p ∈ S) : Kp S H (hid p H) := fun a u k _ n => by
  rw [hid_ne (fun z => by rw [z, h] at k; exact n (z ▸ m) _ (Option.some.inj k).symm)]
  exact k
theorem Kp.lst {xs : List V} (e : Kp S H H') (h : H p = some (.lst xs)) (n : p ∉ S) : H' p = some (.lst xs) := e _ _ h (fun _ z => nomatch z) fun m => absurd m n
theorem Kp.tup {xs : List V} (e : Kp S H H') (h : H p = some (.tup xs)) : H' p = some (.tup xs) := e _ _ h (fun _ z => nomatch z) fun _ _ z => nomatch z
theorem Kp.ins {dx : Addr} {gs : List (Str × V)} (e : Kp S H H') (h : H p = some (.ins C dx gs)) : H' p = some (.ins C dx gs) := e _ _ h (fun _ z => nomatch z) fun _ _ z => nomatch z
theorem Kp.imm (e : Kp S H H') : Imm (noTb H) H' := fun a u h n => e _ _ (noTb_le _ _ h) (noTb_not h) fun _ => n
theorem SqL.nTb {a : Addr} {xs : List V} (h : SqL K H a xs) : SqL K (noTb H) a xs :=
  h.imp (fun h => h.imp (fun h => noTb_at h (fun _ z => nomatch z)) fun ⟨o, h⟩ => ⟨o, noTb_at h (fun _ z => nomatch z)⟩) id
theorem SqT.nTb {a : Addr} {xs : List V} (h : SqT K H a xs) : SqT K (noTb H) a xs :=
  h.imp (fun h => h.imp (fun h => noTb_at h (fun _ z => nomatch z)) fun ⟨o, h⟩ => ⟨o, noTb_at h (fun _ z => nomatch z)⟩) id
end
mutual
theorem Dp.nTb {K : PySem.W.Frag} {H : Hp} : ∀ {v : V} {d : PyData}, Dp K H v d → Dp K (noTb H) v d
  | _, _, .non => .non
  | _, _, .bl b => .bl b
  | _, _, .int i => .int i
  | _, _, .str x => .str x
  | _, _, .lst h all => .lst (SqL.nTb h) (DpAll.nTb all)
  | _, _, .tup h all => .tup (SqT.nTb h) (DpAll.nTb all)
theorem DpAll.nTb {K : PySem.W.Frag} {H : Hp} : ∀ {vs : List V} {ds : List PyData}, DpAll K H vs ds → DpAll K (noTb H) vs ds
  | _, _, .nil => .nil
  | _, _, .cons h t => .cons (Dp.nTb h) (DpAll.nTb t)
end
section
variable {K : PySem.W.Frag} {S S' : List Addr} {H H1 H' : Hp} {b l p pI C x a1 a2 a3 t p1 p2 p3 : Addr} {fs : List Fld} {ts : List Tie} {ks : List Knd} {q : Str}
theorem Kp.dps {α : Type} {f : α → PyData} (e : Kp S H H') (n : ∀ x, noL (f x) = true) {ys : List V} {xs : List α} (h : DpAll K H ys (xs.map f)) : DpAll K H' ys (xs.map f) := DpAll.imm e.imm (noLs_map n xs) (DpAll.nTb h)
theorem noL_dF (f : Fld) : noL (dF f) = true := by
  show (true && (noLs (f.2.map PyData.str) && true)) = true
  rw [noLs_map fun _ => rfl]
  rfl
theorem RbA.kp (h : RbA K H C x a1 a2 a3 fs ts ks) (e : Kp S H H') (n1 : a1 ∉ S) (n2 : a2 ∉ S) (n3 : a3 ∉ S) : RbA K H' C x a1 a2 a3 fs ts ks := by
  obtain ⟨dx, y1, y2, y3, h0, h1, h2, h3, d1, d2, d3⟩ := h
  exact ⟨dx, y1, y2, y3, e.ins h0, e.lst h1 n1, e.lst h2 n2, e.lst h3 n3, fds_imm e.imm (fds_nTb d1), e.dps noL_dTie d2, e.dps noL_dKnd d3⟩
theorem BkAt.kp (h : BkAt K H t p1 p2 p3 fs ts ks) (e : Kp S H H') (n1 : p1 ∉ S) (n2 : p2 ∉ S) (n3 : p3 ∉ S) : BkAt K H' t p1 p2 p3 fs ts ks := by
  obtain ⟨y1, y2, y3, h0, h1, h2, h3, d1, d2, d3⟩ := h
  exact ⟨y1, y2, y3, e.tup h0, e.lst h1 n1, e.lst h2 n2, e.lst h3 n3, fds_imm e.imm (fds_nTb d1), e.dps noL_dTie d2, e.dps noL_dKnd d3⟩
theorem BagAt.kp (h : BagAt b l H) (e : Kp S H H') (nb : b ∉ S) (nl : l ∉ S) : BagAt b l H' := by
  obtain ⟨ns, i, c, s, h1, h2, r⟩ := h
  exact ⟨ns, i, c, s, e.lst h1 nb, e.lst h2 nl, r⟩
theorem BagAt.ne (h : BagAt b l H) : b ≠ l := fun z => by
  obtain ⟨ns, i, c, s, h1, h2, r⟩ := h
  rw [z, h2] at h1
  cases ns with
  | nil => cases h1
  | cons n ns => cases h1
theorem tab_hidL {xs : List V} (t : TabS H pI q) (h : H p = some (.lst xs)) : TabS (hid p H) pI q := by
  obtain ⟨ps, h1, h2, h3⟩ := t
  refine ⟨ps, ?_, h2, fun pos cv hc => ?_⟩
  · rw [hid_ne (fun z => by rw [z, h] at h1; cases h1)]
    exact h1
  · obtain ⟨c, e1, e2⟩ := h3 pos cv hc
    refine ⟨c, e1, ?_⟩
    rw [hid_ne (fun z => by rw [z, h] at e2; unfold CodeO at e2; cases e2)]
    exact e2
theorem tab_updL {xs : List V} {o : HO} (t : TabS H pI q) (h : H p = some (.lst xs)) : TabS (upd H p o) pI q := by
  obtain ⟨ps, h1, h2, h3⟩ := t
  refine ⟨ps, ?_, h2, fun pos cv hc => ?_⟩
  · rw [upd_ne (fun z => by rw [z, h] at h1; cases h1)]
    exact h1
  · obtain ⟨c, e1, e2⟩ := h3 pos cv hc
    refine ⟨c, e1, ?_⟩
    rw [upd_ne (fun z => by rw [z, h] at e2; unfold CodeO at e2; cases e2)]
    exact e2
/-- all that is known but the bag -/
def noBag (b l : Addr) (H : Hp) : Hp := hid b (hid l H)
theorem BagAt.wd (h : BagAt b l H) : Wd b l (noBag b l H) H := by
  refine ⟨if_pos rfl, ?_, hid_le.trans hid_le, h⟩
  unfold noBag
  rw [hid_comm]
  exact if_pos rfl
theorem BagAt.kpB (h : BagAt b l H) : Kp [b, l] H (noBag b l H) := by
  have ne := h.ne
  obtain ⟨ns, i, c, s, h1, h2, r⟩ := h
  exact (kp_hid h2 (by simp)).trans (kp_hid (p := b) (by rw [hid_ne ne]; exact h1) (by simp))
theorem tab_noBag (t : TabS H pI q) (h : BagAt b l H) : TabS (noBag b l H) pI q := by
  have ne := h.ne
  obtain ⟨ns, i, c, s, h1, h2, r⟩ := h
  exact tab_hidL (tab_hidL t h2) (by rw [hid_ne ne]; exact h1)
/-- after a draw -/
theorem draw_kp {G' : Hp} (h : BagAt b l H) (s : Same (Bh.noBag b l H) G') (w : Wd b l G' H') : Kp [b, l] H H' := h.kpB.trans (Same.kp (Same.trans s w.sm))
theorem draw_tab {G' : Hp} (t : TabS H pI q) (h : BagAt b l H) (s : Same (Bh.noBag b l H) G') (w : Wd b l G' H') : TabS H' pI q := (tab_noBag t h).ext (Same.trans s w.sm)
theorem tabs_hidL {TL : List (Addr × Str)} {p : Addr} {xs : List V} (t : Tabs TL H) (h : H p = some (.lst xs)) : Tabs TL (hid p H) := fun a ha => tab_hidL (t a ha) h
theorem tabs_updL {TL : List (Addr × Str)} {p : Addr} {xs : List V} {o : HO} (t : Tabs TL H) (h : H p = some (.lst xs)) : Tabs TL (upd H p o) := fun a ha => tab_updL (t a ha) h
theorem draws_tab {TL : List (Addr × Str)} {G' : Hp} (t : Tabs TL H) (h : BagAt b l H) (s : Same (Bh.noBag b l H) G') (w : Wd b l G' H') : Tabs TL H' := fun a ha => draw_tab (t a ha) h s w
end
end Bh

set_option Elab.async false
set_option linter.all false
set_option maxRecDepth 100000
set_option maxHeartbeats 1000000
namespace Bh
open PySem PySem.Spec PyProof.Rows L2 LamX NdefX
/-! ### how large what is told is -/
theorem sh_map {α : Type} {f : α → PyData} {n : Nat} {l : List α} (hl : l.length ≤ 100000) (h : ∀ x ∈ l, Sh n (f x)) : Sh (n + 1) (.tuple (l.map f)) := .tup (by rw [List.length_map]; exact hl) fun d hd => by
  obtain ⟨x, hx, rfl⟩ := List.mem_map.mp hd
  exact h x hx
theorem sh_mapL {α : Type} {f : α → PyData} {n : Nat} {l : List α} (hl : l.length ≤ 100000) (h : ∀ x ∈ l, Sh n (f x)) : Sh (n + 1) (.list (l.map f)) := .lst (by rw [List.length_map]; exact hl) fun d hd => by
  obtain ⟨x, hx, rfl⟩ := List.mem_map.mp hd
  exact h x hx
theorem sh_two {n : Nat} {a b : PyData} (h1 : Sh n a) (h2 : Sh n b) : Sh (n + 1) (.tuple [a, b]) := .tup (by show 2 ≤ 100000; decide) fun d hd => by
  simp only [List.mem_cons, List.not_mem_nil, or_false] at hd
  rcases hd with rfl | rfl
  · exact h1
  · exact h2
theorem shn_dF (n : Nat) {f : Fld} (h : f.2.length ≤ 6) : Sh (n + 2) (dF f) := sh_two .str (sh_map (by omega) fun _ _ => .str)
theorem shn_dT (n : Nat) (t : Tst) : Sh (n + 1) (dT t) := .tup (by show 3 ≤ 100000; decide) fun d h => by
  simp only [List.mem_cons, List.not_mem_nil, or_false] at h
  rcases h with rfl | rfl | rfl <;> exact .str
theorem shn_dS (n : Nat) (s : Stp) : Sh (n + 1) (dS s) := sh_two .str .str
theorem shn_dC (n : Nat) {fs : List Fld} {c : Cas} (h : OkCas fs c) : Sh (n + 3) (dC c) := by
  refine sh_two (sh_map (by have := h.nt; omega) fun t _ => shn_dT n t) ?_
  cases e : c.2 with
  | none => exact .non
  | some ss => exact sh_map (by have := h.ns ss e; omega) fun s _ => shn_dS n s
theorem shn_dP (n : Nat) {fs : List Fld} {p : List Cas} (h : OkPrg fs p) : Sh (n + 4) (dP p) := sh_map (by have := h.hi; omega) fun c hc => shn_dC n (h.all c hc)
theorem shn_dTie (n : Nat) {fs : List Fld} {t : Tie} (h : OkPrg fs t.2) : Sh (n + 5) (dTie t) := sh_two .str (shn_dP n h)
theorem shn_dV (n : Nat) {v : List Str} (h : v.length ≤ 100000) : Sh (n + 1) (dV v) := sh_map h fun _ _ => .str
theorem shn_dKnd (n : Nat) {fs : List Fld} {k : Knd} (f3 : fs.length ≤ 3) (h : OkKnd fs k) : Sh (n + 5) (dKnd k) := by
  refine .tup (by show 4 ≤ 100000; decide) fun d hd => ?_
  simp only [List.mem_cons, List.not_mem_nil, or_false] at hd
  rcases hd with rfl | rfl | rfl | rfl
  · exact .str
  · exact sh_map (by have := h.ks.hi; omega) fun q _ => (sh_two .str .str : Sh (n + 3) (dKey q))
  · cases e : k.taking with
    | none => exact .non
    | some p => exact shn_dP n (h.tk p e)
  · cases e : k.birth with
    | none => exact .non
    | some v => exact shn_dV (n + 3) (by have := (h.bt v e).1; omega)
theorem shn_names (n : Nat) {α : Type} {f : α → Str} {l : List α} (h : l.length ≤ 100000) : Sh (n + 1) (.list (l.map fun x => PyData.str (f x))) := sh_mapL h fun _ _ => .str
section
variable {fs : List Fld} {ts : List Tie} {ks : List Knd}
theorem OkBook.six (ok : OkBook fs ts ks) : ∀ f ∈ fs, f.2.length ≤ 6 := fun f hf => by
  obtain ⟨i, hi⟩ := List.mem_iff_getElem?.mp hf
  exact (ok.fok i f hi).hi
theorem sh_Fs (ok : OkBook fs ts ks) : Sh 8 (.list (fs.map dF)) := sh_mapL (by have := ok.f2; omega) fun f hf => shn_dF 5 (ok.six f hf)
theorem sh_Ts (ok : OkBook fs ts ks) : Sh 8 (.list (ts.map dTie)) := sh_mapL (by have := ok.t2; omega) fun t ht => shn_dTie 2 (ok.tok t ht).2
theorem sh_Ks (ok : OkBook fs ts ks) : Sh 8 (.list (ks.map dKnd)) := sh_mapL (by have := ok.k2; omega) fun k hk => shn_dKnd 2 ok.f2 (ok.kok k hk)
theorem sh_Vs (ok : OkBook fs ts ks) : Sh 8 (.list ((vals fs).map dV)) := sh_mapL (by have := ok.fv fs.length; rw [List.take_length] at this; omega) fun v hv => shn_dV 6 (by have := (vals_ok v hv).1; have := ok.f2; omega)
/-- what the first answers are -/
def dTold (fs : List Fld) (ts : List Tie) (ks : List Knd) : PyData := .list [.list (fs.map dF), .list (ts.map dTie), .list (ks.map dKnd), .list (ts.map fun c => .str c.1), .list (ks.map fun c => .str c.name), .list ((vals fs).map dV)]
def dTold2 (fs : List Fld) (ts : List Tie) (ks : List Knd) : PyData := .list [.list (fs.map dF), .list (ts.map dTie), .list (ks.map dKnd), .list ((vals fs).map dV)]
theorem sh_told (ok : OkBook fs ts ks) : Sh 9 (dTold fs ts ks) := .lst (by show 6 ≤ 100000; decide) fun d hd => by
  simp only [List.mem_cons, List.not_mem_nil, or_false] at hd
  rcases hd with rfl | rfl | rfl | rfl | rfl | rfl
  · exact sh_Fs ok
  · exact sh_Ts ok
  · exact sh_Ks ok
  · exact shn_names 7 (f := fun c : Tie => c.1) (by have := ok.t2; omega)
  · exact shn_names 7 (f := Knd.name) (by have := ok.k2; omega)
  · exact sh_Vs ok
theorem sh_told2 (ok : OkBook fs ts ks) : Sh 9 (dTold2 fs ts ks) := .lst (by show 4 ≤ 100000; decide) fun d hd => by
  simp only [List.mem_cons, List.not_mem_nil, or_false] at hd
  rcases hd with rfl | rfl | rfl | rfl
  · exact sh_Fs ok
  · exact sh_Ts ok
  · exact sh_Ks ok
  · exact sh_Vs ok
end
theorem eqv_three (a b c a' b' c' : PyData) : PyData.eqv (.list [a, b, c]) (.list [a', b', c']) = (PyData.eqv a a' && (PyData.eqv b b' && PyData.eqv c c')) := by
  simp [PyData.eqv, PyData.eqvAll]
theorem eqv_len : ∀ {a b : List PyData}, PyData.eqvAll a b = true → a.length = b.length
  | [], [], _ => rfl
  | _ :: a, _ :: b, h => by
    rw [PyData.eqvAll, Bool.and_eq_true] at h
    exact congrArg Nat.succ (eqv_len h.2)
  | [], _ :: _, h => by rw [PyData.eqvAll] at h; cases h
  | _ :: _, [], h => by rw [PyData.eqvAll] at h; cases h
theorem z8_nm : IsNm "zzzzzzzz" := ⟨by decide +kernel, by decide +kernel, by decide +kernel⟩
/-- a tie more -/
theorem okbook_tie {fs : List Fld} {ts : List Tie} {ks : List Knd} {t : Tie} (ok : OkBook fs ts ks) (t3 : ts.length ≤ 3) (nz : t.1 ∉ ts.map (·.1)) (h : IsNm t.1 ∧ OkPrg fs t.2) : OkBook fs (ts ++ [t]) ks := by
  refine ⟨ok.f1, ok.f2, ok.fok, ok.fb, ok.fv, ?_, ?_, ?_, fun u hu => ?_, ok.k1, ok.k2, ok.knd, ok.kok⟩
  · rw [List.length_append]; show 1 ≤ ts.length + 1; omega
  · rw [List.length_append]; show ts.length + 1 ≤ 4; omega
  · rw [List.map_append]
    refine List.nodup_append.mpr ⟨ok.tnd, by simp, fun x hx y hy e => ?_⟩
    rw [List.map_singleton, List.mem_singleton] at hy
    rw [e, hy] at hx
    exact nz hx
  · rcases List.mem_append.mp hu with h' | h'
    · exact ok.tok u h'
    · rw [List.mem_singleton.mp h']
      exact h
/-- the first kind with another birth -/
theorem okbook_kind {fs : List Fld} {ts : List Tie} {k : Knd} {r : List Knd} {o : Option (List Str)} (ok : OkBook fs ts (k :: r)) (h : ∀ v, o = some v → FitV fs v) : OkBook fs ts ({ k with birth := o } :: r) := by
  refine ⟨ok.f1, ok.f2, ok.fok, ok.fb, ok.fv, ok.t1, ok.t2, ok.tnd, ok.tok, ok.k1, ok.k2, ok.knd, fun u hu => ?_⟩
  rcases List.mem_cons.mp hu with e | h'
  · have z := ok.kok k (List.mem_cons_self ..)
    rw [e]
    exact ⟨z.nm, z.ks, z.tk, h⟩
  · exact ok.kok u (List.mem_cons_of_mem _ h')
theorem eqv_birth {k : Knd} {r : List Knd} {o : Option (List Str)} (h : k.birth.isSome ≠ o.isSome) : PyData.eqv (.list ((k :: r).map dKnd)) (.list (({ k with birth := o } :: r : List Knd).map dKnd)) = false := by
  have z : PyData.eqv (dKnd k) (dKnd { k with birth := o }) = false := by
    unfold dKnd
    cases e : k.birth with
    | none =>
      cases o with
      | none => rw [e] at h; exact absurd rfl h
      | some v => simp [PyData.eqv, PyData.eqvAll, dH, dV]
    | some u =>
      cases o with
      | none => simp [PyData.eqv, PyData.eqvAll, dH, dV]
      | some v => rw [e] at h; exact absurd rfl h
  show PyData.eqv (.list (dKnd k :: r.map dKnd)) (.list (dKnd { k with birth := o } :: r.map dKnd)) = false
  rw [PyData.eqv, PyData.eqvAll, z]
  rfl
theorem cutV_tail (x : V) (xs : List V) : cutV (x :: xs) (some 1) none = xs := by
  unfold cutV
  rw [HT.sIx_none, show HT.sIx (x :: xs).length 0 (some 1) = min 1 (x :: xs).length from HT.sIx_nat _ _ 1, List.length_cons, Nat.min_eq_left (by omega)]
  show List.take (xs.length + 1 - 1) xs = xs
  exact List.take_of_length_le (by omega)
theorem vals_head {fs : List Fld} {ts : List Tie} {ks : List Knd} (ok : OkBook fs ts ks) : ∃ v, (vals fs)[0]? = some v := by
  cases fs with
  | nil => exact absurd ok.f1 (by decide)
  | cons f r =>
    obtain ⟨v, h, _⟩ := vals_zero (f := f) (r := r) fun g hg z => by
      obtain ⟨i, hi⟩ := List.mem_iff_getElem?.mp hg
      have := (ok.fok i g hi).lo
      rw [z] at this
      cases this
    exact ⟨v, h⟩
/-- names of items -/
theorem names_at {K : PySem.W.Frag} {H : Hp} {xs : List V} {ns : List Str} (h : Paired (HdAt K H) xs ns) {i : Nat} {x : V} (e : xs[i]? = some x) : ∃ (t : Addr) (r : List V) (n : Str), x = .ref t ∧ SqT K H t (.str n :: r) ∧ ns[i]? = some n := by
  induction h generalizing i with
  | nil => cases e
  | cons h _ ih =>
    cases i with
    | zero =>
      cases e
      obtain ⟨t, r, h1, h2⟩ := h
      exact ⟨t, r, _, h1, h2, rfl⟩
    | succ i => exact ih e
theorem paired_len {α β : Type} {R : α → β → Prop} {xs : List α} {ys : List β} (h : Paired R xs ys) : xs.length = ys.length := by
  induction h with
  | nil => rfl
  | cons _ _ ih => exact congrArg Nat.succ ih
end Bh

set_option Elab.async false
set_option linter.all false
set_option maxRecDepth 100000
set_option maxHeartbeats 1000000
namespace Bh
open PySem PySem.Spec PyProof.Rows L2
section
variable {P : Program} {w : World} {K : PySem.W.Frag} {mg : Str → Option Value} {base : Heap}
theorem like_step (T : Top K mg) (n : Nat) (G_l_like : FnOk P w K mg base CX0 n T.a_l_like T.fd_l_like ["_law_found", "_law_due"] (spLk K n)) : FnOk P w K mg base CX0 (n + 1) T.a_l_like T.fd_l_like ["_law_found", "_law_due"] (spLk K (n + 1)) := by
  refine T.d_l_like.F.ok sc_l_like (fun vs H Q E h => ?_) (fun cdv A outer s H vs Q E hr h => ?_)
  · obtain ⟨x, y, d, rfl, _⟩ := h
    rfl
  obtain ⟨x, y, d, rfl, hx, hy, hs, q⟩ := h
  refine ⟨_, (pss_cons (ps_if (pt_cmpR op_isN (pv 1) pe_non (nomark _)) (pss_one (ps_ret (pe_cmpR op_isN (pv 0) pe_non (nomark _)))) pss_nil)
    (pss_cons (ps_if (pt_val (pe_callB (call_isi_K (K := K) (by rfl)) (by rfl) T.b_isinstance (by decide +kernel) (pa_cons (pv 1) (pa_cons (pe_tyN "dict" (by rfl) T.b_dict (by decide +kernel)) pa_nil)))) (pss_cons ps_never
      (pss_one ps_never)) pss_nil)
    (pss_cons (ps_if (pt_val (pe_callB (call_isiT_K (K := K) (by rfl)) (by rfl) T.b_isinstance (by decide +kernel) (pa_cons (pv 1) (pa_cons (pe_tup (pa_cons (pe_tyN "list" (by rfl) T.b_list (by decide +kernel)) (pa_cons (pe_tyN "tuple" (by rfl) T.b_tuple (by decide +kernel)) pa_nil))) pa_nil)))) (pss_cons (ps_if (PW.pt (pw_or (pt_cmpR op_ne (pe_callB (call_isi_K (K := K) (by rfl)) (by rfl) T.b_isinstance (by decide +kernel) (pa_cons (pv 0) (pa_cons (pe_tyN "list" (by rfl) T.b_list (by decide +kernel)) pa_nil))) (pe_callB (call_isi_K (K := K) (by rfl)) (by rfl) T.b_isinstance (by decide +kernel) (pa_cons (pv 1) (pa_cons (pe_tyN "list" (by rfl) T.b_list (by decide +kernel)) pa_nil))) (nomark _)) (pw_or1 (pt_cmpR op_ne (pe_callB (call_isi_K (K := K) (by rfl)) (by rfl) T.b_isinstance (by decide +kernel) (pa_cons (pv 0) (pa_cons (pe_tyN "tuple" (by rfl) T.b_tuple (by decide +kernel)) pa_nil))) (pe_callB (call_isi_K (K := K) (by rfl)) (by rfl) T.b_isinstance (by decide +kernel) (pa_cons (pv 1) (pa_cons (pe_tyN "tuple" (by rfl) T.b_tuple (by decide +kernel)) pa_nil))) (nomark _))))) (pss_one (ps_ret pe_bl)) pss_nil)
      (pss_one (ps_ret (pe_and (pe_cmpR op_eq (pe_callB (call_len_seq_K (K := K) (by rfl)) (by rfl) T.b_len PySem.boot_len (pa_cons (pv 0) pa_nil)) (pe_callB (call_len_seq_K (K := K) (by rfl)) (by rfl) T.b_len PySem.boot_len (pa_cons (pv 1) pa_nil)) (nomark _)) (pe_one (pe_callB (cr_all_K (K := K) (by rfl) rfl) (by rfl) T.b_all (by decide +kernel) (pa_cons (pe_lc (own := [("_law_one", 3), ("_law_other", 4)]) rfl sc_l_like.nd (pi_zipA_K (K := K) (by rfl) (by rfl) T.b_zip (pa_cons (pv 0) (pa_cons (pv 1) pa_nil))) (blkOk_by (own := [("_law_one", 3), ("_law_other", 4)]) (N := ["_law_found", "_law_due", "_law_key", "_law_one", "_law_other"]) (sc := defScope s_l_like) (by decide +kernel)) (fun _ _ _ _ _ => by exact (pg_tup_K (K := K) (by rfl) (n := 2) (by rfl) (pgs_cons (pg_name (i := 3) sc_l_like.nd rfl (Or.inl rfl)) (pgs_cons (pg_name (i := 4) sc_l_like.nd rfl (Or.inl rfl)) pgs_nil)))) (fun _ _ _ _ _ => by exact pts_nil) (fun _ _ _ _ _ => by exact (pe_call G_l_like hr (by rfl) T.d_l_like.g T.d_l_like.kp T.d_l_like.b .nil pass0 (pa_cons (pv 3) (pa_cons (pv 4) pa_nil))))) pa_nil))))))) pss_nil)
    (pss_cons (ps_if (PW.pt (pw_or (pt_cmpR op_ne (pe_callB (call_isi_K (K := K) (by rfl)) (by rfl) T.b_isinstance (by decide +kernel) (pa_cons (pv 0) (pa_cons (pe_tyN "bool" (by rfl) T.b_bool (by decide +kernel)) pa_nil))) (pe_callB (call_isi_K (K := K) (by rfl)) (by rfl) T.b_isinstance (by decide +kernel) (pa_cons (pv 1) (pa_cons (pe_tyN "bool" (by rfl) T.b_bool (by decide +kernel)) pa_nil))) (nomark _)) (pw_or1 (pt_cmpR op_ne (pe_callB (call_isi_K (K := K) (by rfl)) (by rfl) T.b_isinstance (by decide +kernel) (pa_cons (pv 0) (pa_cons (pe_tyN "int" (by rfl) T.b_int (by decide +kernel)) pa_nil))) (pe_callB (call_isi_K (K := K) (by rfl)) (by rfl) T.b_isinstance (by decide +kernel) (pa_cons (pv 1) (pa_cons (pe_tyN "int" (by rfl) T.b_int (by decide +kernel)) pa_nil))) (nomark _))))) (pss_one (ps_ret pe_bl)) pss_nil)
    (pss_one (ps_ret (pe_and (pe_cmpR op_eq (pe_callB (call_isi_K (K := K) (by rfl)) (by rfl) T.b_isinstance (by decide +kernel) (pa_cons (pv 0) (pa_cons (pe_tyN "str" (by rfl) T.b_str (by decide +kernel)) pa_nil))) (pe_callB (call_isi_K (K := K) (by rfl)) (by rfl) T.b_isinstance (by decide +kernel) (pa_cons (pv 1) (pa_cons (pe_tyN "str" (by rfl) T.b_str (by decide +kernel)) pa_nil))) (nomark _)) (pe_one (pe_cmpR op_eq (pv 0) (pv 1) (nomark _)))))))))), ?_⟩
  cases hx with
  | non =>
    cases hy
    refine ⟨_, rfl, rfl, _, rfl, iteY rfl ⟨_, rfl, rfl, ?_⟩⟩
    exact q _ (Same.refl _)
  | bl b =>
    cases hy
    refine ⟨_, rfl, rfl, _, rfl, iteN (by intro z; cases z) ?_⟩
    refine ⟨_, rfl, _, _, _, _, false, rfl, .ty _, .base (.bl b), kit_ty (by decide +kernel), _, rfl, iteF ?_⟩
    refine ⟨_, rfl, (by show 2 ≤ sizeLine; decide), fun p np => ⟨_, p, _, _, _, false, rfl, upd_same, .cons (.ty _) (.cons (.ty _) .nil), .base (.bl b), kitAny_cons (kit_ty (b := "list") (r := false) (by decide +kernel)) (fun _ => kitAny_cons (kit_ty (r := false) (by decide +kernel)) (fun _ => kitAny_nil) (fun z => nomatch z)) (fun z => nomatch z), _, rfl, iteF ?_⟩⟩
    refine ⟨_, rfl, _, _, _, _, true, rfl, .ty _, .base (.bl b), kit_ty (by decide +kernel), _, rfl, _, _, _, _, true, rfl, .ty _, .base (.bl b), kit_ty (by decide +kernel), rfl, _, rfl, iteNS rfl ?_⟩
    refine ⟨_, rfl, _, _, _, _, true, rfl, .ty _, .base (.bl b), kit_ty (by decide +kernel), _, rfl, _, _, _, _, true, rfl, .ty _, .base (.bl b), kit_ty (by decide +kernel), rfl, _, rfl, iteNS rfl ?_⟩
    refine ⟨_, rfl, _, _, _, _, false, rfl, .ty _, .base (.bl b), kit_ty (by decide +kernel), _, rfl, _, _, _, _, false, rfl, .ty _, .base (.bl b), kit_ty (by decide +kernel), rfl, _, rfl, iteY rfl ⟨_, rfl, _, rfl, rfl, q_eq (q _ (same_new np))⟩⟩
  | int i =>
    cases hy
    refine ⟨_, rfl, rfl, _, rfl, iteN (by intro z; cases z) ?_⟩
    refine ⟨_, rfl, _, _, _, _, false, rfl, .ty _, .base (.int i), kit_ty (by decide +kernel), _, rfl, iteF ?_⟩
    refine ⟨_, rfl, (by show 2 ≤ sizeLine; decide), fun p np => ⟨_, p, _, _, _, false, rfl, upd_same, .cons (.ty _) (.cons (.ty _) .nil), .base (.int i), kitAny_cons (kit_ty (b := "list") (r := false) (by decide +kernel)) (fun _ => kitAny_cons (kit_ty (r := false) (by decide +kernel)) (fun _ => kitAny_nil) (fun z => nomatch z)) (fun z => nomatch z), _, rfl, iteF ?_⟩⟩
    refine ⟨_, rfl, _, _, _, _, false, rfl, .ty _, .base (.int i), kit_ty (by decide +kernel), _, rfl, _, _, _, _, false, rfl, .ty _, .base (.int i), kit_ty (by decide +kernel), rfl, _, rfl, iteNS rfl ?_⟩
    refine ⟨_, rfl, _, _, _, _, true, rfl, .ty _, .base (.int i), kit_ty (by decide +kernel), _, rfl, _, _, _, _, true, rfl, .ty _, .base (.int i), kit_ty (by decide +kernel), rfl, _, rfl, iteNS rfl ?_⟩
    refine ⟨_, rfl, _, _, _, _, false, rfl, .ty _, .base (.int i), kit_ty (by decide +kernel), _, rfl, _, _, _, _, false, rfl, .ty _, .base (.int i), kit_ty (by decide +kernel), rfl, _, rfl, iteY rfl ⟨_, rfl, _, rfl, rfl, q_eq (q _ (same_new np))⟩⟩
  | str z =>
    cases hy
    refine ⟨_, rfl, rfl, _, rfl, iteN (by intro z; cases z) ?_⟩
    refine ⟨_, rfl, _, _, _, _, false, rfl, .ty _, .base (.str z), kit_ty (by decide +kernel), _, rfl, iteF ?_⟩
    refine ⟨_, rfl, (by show 2 ≤ sizeLine; decide), fun p np => ⟨_, p, _, _, _, false, rfl, upd_same, .cons (.ty _) (.cons (.ty _) .nil), .base (.str z), kitAny_cons (kit_ty (b := "list") (r := false) (by decide +kernel)) (fun _ => kitAny_cons (kit_ty (r := false) (by decide +kernel)) (fun _ => kitAny_nil) (fun z => nomatch z)) (fun z => nomatch z), _, rfl, iteF ?_⟩⟩
    refine ⟨_, rfl, _, _, _, _, false, rfl, .ty _, .base (.str z), kit_ty (by decide +kernel), _, rfl, _, _, _, _, false, rfl, .ty _, .base (.str z), kit_ty (by decide +kernel), rfl, _, rfl, iteNS rfl ?_⟩
    refine ⟨_, rfl, _, _, _, _, false, rfl, .ty _, .base (.str z), kit_ty (by decide +kernel), _, rfl, _, _, _, _, false, rfl, .ty _, .base (.str z), kit_ty (by decide +kernel), rfl, _, rfl, iteNS rfl ?_⟩
    refine ⟨_, rfl, _, _, _, _, true, rfl, .ty _, .base (.str z), kit_ty (by decide +kernel), _, rfl, _, _, _, _, true, rfl, .ty _, .base (.str z), kit_ty (by decide +kernel), rfl, _, rfl, iteY rfl ⟨_, rfl, _, rfl, rfl, q_eq (q _ (same_new np))⟩⟩
  | @lst a xs ds h1 h2 =>
    cases hy with
    | @lst b ys _ k1 k2 =>
    cases hs with
    | @lst m _ hl hall =>
    have lxy : xs.length = ys.length := (DpAll.length h2).trans (DpAll.length k2).symm
    refine ⟨_, rfl, rfl, _, rfl, iteN (by intro z; cases z) ?_⟩
    refine ⟨_, rfl, _, _, _, _, false, rfl, .ty _, tyL k1, kit_ty (by decide +kernel), _, rfl, iteF ?_⟩
    refine ⟨_, rfl, (by show 2 ≤ sizeLine; decide), fun p np => ⟨_, p, _, _, _, true, rfl, upd_same, .cons (.ty _) (.cons (.ty _) .nil), tyL ((same_new np).seq k1), kitAny_cons (kit_ty (b := "list") (r := true) (by decide +kernel)) (fun z => nomatch z) (fun _ => rfl), _, rfl, iteT ?_⟩⟩
    have e1 : Same H (upd H p (.tup [.ty "list", .ty "tuple"])) := same_new np
    have h1' := e1.seq h1
    have k1' := e1.seq k1
    refine ⟨_, rfl, _, _, _, _, true, rfl, .ty _, tyL h1', kit_ty (by decide +kernel), _, rfl, _, _, _, _, true, rfl, .ty _, tyL k1', kit_ty (by decide +kernel), rfl, _, rfl, iteNS rfl ?_⟩
    refine ⟨_, rfl, _, _, _, _, false, rfl, .ty _, tyL h1', kit_ty (by decide +kernel), _, rfl, _, _, _, _, false, rfl, .ty _, tyL k1', kit_ty (by decide +kernel), rfl, _, rfl, iteNS rfl ?_⟩
    refine ⟨_, rfl, a, xs, rfl, .inl h1', _, rfl, b, ys, rfl, .inl k1', rfl, _, rfl, iteY (by rw [lxy]) ?_⟩
    refine ⟨_, rfl, _, rfl, a, b, xs, ys, rfl, .inl ⟨h1', k1', fun D nD => ?_⟩⟩
    refine lc_it (walk_zip (n := xs.length) (by omega)) (fun i H' => Same (upd H p (.tup [.ty "list", .ty "tuple"])) H' ∧ H' D = some (.lst ((List.replicate i true).map V.bl))) ⟨same_new nD, upd_same⟩ (fun i H' _ p => ⟨p.1.seq h1', p.1.seq k1'⟩) ?_ ?_
    · rintro i v H' H'' hi ⟨s1, hD⟩ ⟨Tp, x', y', rfl, nT, rfl, ex, ey⟩
      refine ⟨Tp, [x', y'], rfl, .inl (.inl upd_same), rfl, x', [y'], rfl, y', [], rfl, rfl, rfl, ?_⟩
      obtain ⟨d', hm, hx', hy'⟩ := dpa_at h2 k2 ex ey
      have s2 := e1.trans (s1.trans (same_new (o := .tup [x', y']) nT))
      refine ⟨_, rfl, _, rfl, x', y', d', rfl, Dp.mono s2 hx', Dp.mono s2 hy', hall _ hm, fun H4 s4 => ?_⟩
      have lz : xs.length = ds.length := DpAll.length h2
      refine ⟨_, s4 _ _ ((upd_ne (ne_of_none hD nT)).trans hD), by rw [List.length_map, List.length_replicate]; exact lt_line (by omega), fun b' o e' => ?_, ?_⟩
      · have nb : b' ≠ D := ne_of_none e' nD
        rw [upd_ne nb]
        exact s4 _ _ (same_new nT _ _ (s1 _ _ e'))
      · rw [upd_same, List.replicate_succ', List.map_append]
        rfl
    · rintro H' ⟨s1, hD⟩
      refine ⟨D, List.replicate xs.length true, rfl, SqL.of hD, ?_⟩
      rw [bls_true]
      exact q _ (e1.trans s1)
  | @tup a xs ds h1 h2 =>
    cases hy with
    | @tup b ys _ k1 k2 =>
    cases hs with
    | @tup m _ hl hall =>
    have lxy : xs.length = ys.length := (DpAll.length h2).trans (DpAll.length k2).symm
    refine ⟨_, rfl, rfl, _, rfl, iteN (by intro z; cases z) ?_⟩
    refine ⟨_, rfl, _, _, _, _, false, rfl, .ty _, tyT k1, kit_ty (by decide +kernel), _, rfl, iteF ?_⟩
    refine ⟨_, rfl, (by show 2 ≤ sizeLine; decide), fun p np => ⟨_, p, _, _, _, true, rfl, upd_same, .cons (.ty _) (.cons (.ty _) .nil), tyT (Same.tup (same_new np) k1), kitAny_cons (kit_ty (b := "list") (r := false) (by decide +kernel)) (fun _ => kitAny_cons (kit_ty (r := true) (by decide +kernel)) (fun z => nomatch z) (fun _ => rfl)) (fun z => nomatch z), _, rfl, iteT ?_⟩⟩
    have e1 : Same H (upd H p (.tup [.ty "list", .ty "tuple"])) := same_new np
    have h1' := Same.tup e1 h1
    have k1' := Same.tup e1 k1
    refine ⟨_, rfl, _, _, _, _, false, rfl, .ty _, tyT h1', kit_ty (by decide +kernel), _, rfl, _, _, _, _, false, rfl, .ty _, tyT k1', kit_ty (by decide +kernel), rfl, _, rfl, iteNS rfl ?_⟩
    refine ⟨_, rfl, _, _, _, _, true, rfl, .ty _, tyT h1', kit_ty (by decide +kernel), _, rfl, _, _, _, _, true, rfl, .ty _, tyT k1', kit_ty (by decide +kernel), rfl, _, rfl, iteNS rfl ?_⟩
    refine ⟨_, rfl, a, xs, rfl, .inr h1', _, rfl, b, ys, rfl, .inr k1', rfl, _, rfl, iteY (by rw [lxy]) ?_⟩
    refine ⟨_, rfl, _, rfl, a, b, xs, ys, rfl, .inr ⟨h1', k1', fun D nD => ?_⟩⟩
    refine lc_it (walk_zipT (n := xs.length) (by omega)) (fun i H' => Same (upd H p (.tup [.ty "list", .ty "tuple"])) H' ∧ H' D = some (.lst ((List.replicate i true).map V.bl))) ⟨same_new nD, upd_same⟩ (fun i H' _ p => ⟨Same.tup p.1 h1', Same.tup p.1 k1'⟩) ?_ ?_
    · rintro i v H' H'' hi ⟨s1, hD⟩ ⟨Tp, x', y', rfl, nT, rfl, ex, ey⟩
      refine ⟨Tp, [x', y'], rfl, .inl (.inl upd_same), rfl, x', [y'], rfl, y', [], rfl, rfl, rfl, ?_⟩
      obtain ⟨d', hm, hx', hy'⟩ := dpa_at h2 k2 ex ey
      have s2 := e1.trans (s1.trans (same_new (o := .tup [x', y']) nT))
      refine ⟨_, rfl, _, rfl, x', y', d', rfl, Dp.mono s2 hx', Dp.mono s2 hy', hall _ hm, fun H4 s4 => ?_⟩
      have lz : xs.length = ds.length := DpAll.length h2
      refine ⟨_, s4 _ _ ((upd_ne (ne_of_none hD nT)).trans hD), by rw [List.length_map, List.length_replicate]; exact lt_line (by omega), fun b' o e' => ?_, ?_⟩
      · have nb : b' ≠ D := ne_of_none e' nD
        rw [upd_ne nb]
        exact s4 _ _ (same_new nT _ _ (s1 _ _ e'))
      · rw [upd_same, List.replicate_succ', List.map_append]
        rfl
    · rintro H' ⟨s1, hD⟩
      refine ⟨D, List.replicate xs.length true, rfl, SqL.of hD, ?_⟩
      rw [bls_true]
      exact q _ (e1.trans s1)
theorem ok_like (T : Top K mg) : ∀ n : Nat, FnOk P w K mg base CX0 n T.a_l_like T.fd_l_like ["_law_found", "_law_due"] (spLk K n)
  | 0 => ⟨fun _ _ _ _ h => h.elim, fun _ _ _ _ _ _ _ _ _ _ _ _ _ h => h.elim⟩
  | n + 1 => like_step T n (ok_like T n)
end
end Bh

set_option Elab.async false
set_option linter.all false
set_option maxRecDepth 100000
set_option maxHeartbeats 4000000
namespace Bh
open PySem PySem.Spec PyProof.Rows L2 LamX NdefX
section
variable {P : Program} {w : World} {K : PySem.W.Frag} {mg : Str → Option Value} {base : Heap} {cI pI : Addr}
theorem kb_read {R : RbC K mg} (M : RbM K mg R cI pI) : KBn K M.fdR ["cls", "text"] 1 ["text"] (fun us ws => us ++ ws) (fun vs zs => vs ++ zs) := by
  obtain ⟨oc, od, kV, doc, pm, an, cdv, ct, osl, e, _⟩ := M.FR.ex
  refine ⟨fun s us ws _ l1 l2 => ?_, fun r1 r2 => ?_⟩
  · rw [e]
    match us, ws, l1, l2 with
    | [u], [a], _, _ => exact .of_eq rfl
  · exact r1.append r2
theorem kb_valid {R : RbC K mg} (M : RbM K mg R cI pI) : KBn K M.fdV ["text"] 0 ["text"] (fun us ws => us ++ ws) (fun vs zs => vs ++ zs) := by
  obtain ⟨oc, od, kV, doc, pm, an, cdv, ct, osl, e, _⟩ := M.FV.ex
  refine ⟨fun s us ws _ l1 l2 => ?_, fun r1 r2 => ?_⟩
  · rw [e]
    match us, ws, l1, l2 with
    | [], [a], _, _ => exact .of_eq rfl
  · exact r1.append r2
theorem sh_book {fs : List Fld} {ts : List Tie} {ks : List Knd} (ok : OkBook fs ts ks) : Sh 9 (dBk fs ts ks) := .lst (by show 3 ≤ 100000; decide) fun d hd => by
  simp only [List.mem_cons, List.not_mem_nil, or_false] at hd
  rcases hd with rfl | rfl | rfl
  · exact sh_Fs ok
  · exact sh_Ts ok
  · exact sh_Ks ok
theorem same_text {fs fs' : List Fld} {ts ts' : List Tie} {ks ks' : List Knd} (ok : OkBook fs ts ks) (ok' : OkBook fs' ts' ks') : decide (V.str (textB fs ts ks) = V.str (textB fs' ts' ks')) = PyData.eqv (dBk fs ts ks) (dBk fs' ts' ks') := by
  rw [Bool.eq_iff_iff, decide_eq_true_iff, eqv_book, ← textB_inj ok ok']
  exact ⟨fun e => V.str.inj e, fun e => by rw [e]⟩
def spLaw0 (K : PySem.W.Frag) (TL : List (Addr × Str)) : Sp := fun vs H Q _ => ∃ (a : Addr) (ns : List Int), vs = [.ref a] ∧ SqL K H a (ns.map V.int) ∧ ns.length ≤ 63 ∧ Tabs TL H ∧ ∀ H', Q (.bl true) H'
theorem ok_law {TL : List (Addr × Str)} {fL : Addr} {fdL : FuncData} (F : Fun K "law" "law" s_law fL fdL) (T : Top K mg) {R : RbC K mg} (M : RbM K mg R cI pI) {RD : DfC K mg} (MD : DfM K mg RD) (TB : TabB base mg cI pI)
    (mT0 : (pI, rbQ) ∈ TL) (uT0 : ∀ p ∈ TL, p.1 = pI → p.2 = rbQ) :
    FnOk P w K mg base CX0 18 fL fdL ["_law_script"] (spLaw0 K TL) := by
  have G_l_bag := ok_bag (P := P) (w := w) (base := base) T
  have G_l_book := ok_book5 (P := P) (w := w) (base := base) T
  have G_l_made := ok_made5 (P := P) (w := w) (base := base) (TL := TL) T M TB mT0 uT0
  have G_l_lines_of := ok_linesof (P := P) (w := w) (base := base) T
  have G_l_like := ok_like (P := P) (w := w) (base := base) T 10
  have G_m_text := ok_mtext (P := P) (w := w) (base := base) T R M.text.F
  have G_m_fields := ok_mfields (P := P) (w := w) (base := base) T R M.fields.F
  have G_m_ties := ok_mties (P := P) (w := w) (base := base) T R M.ties.F
  have G_m_kinds := ok_mkinds (P := P) (w := w) (base := base) T R M.kinds.F
  have G_m_eq := ok_meq (P := P) (w := w) (base := base) T R M.eq.F
  have G_read := ok_read (P := P) (w := w) (TL := TL) T M MD TB mT0 uT0
  have G_is_valid := ok_isvalid (P := P) (w := w) (TL := TL) T M MD TB mT0 uT0
  refine F.ok sc_law (fun vs H Q E h => ?_) (fun cdv A outer s H vs Q E hr h => ?_)
  · obtain ⟨a, ns, rfl, _⟩ := h
    rfl
  obtain ⟨a, ns, rfl, hS, h63, tb, q⟩ := h
  refine ⟨_, (pss_cons (ps_set (i := 1) sc_law.nd rfl (Or.inl rfl) (pe_call G_l_bag (hr.mono (by decide)) (by rfl) T.d_l_bag.g T.d_l_bag.kp T.d_l_bag.b .nil pass0 (pa_cons (pv 0) pa_nil)))
    (pss_cons (ps_for PassesOwn.never rfl (pi_range1 rfl T.b_range (pa_cons pe_int pa_nil)) (pg_name (i := 2) sc_law.nd rfl (Or.inl rfl))
      (pss_cons (ps_par (i := 3) (j := 4) (by rfl) sc_law.nd rfl rfl (by decide) rfl rfl (pa_cons (pe_call G_l_book (hr.mono (by decide)) (by rfl) T.d_l_book.g T.d_l_book.kp T.d_l_book.b .nil pass0 (pa_cons (pv 1) (pa_cons pe_int (pa_cons (pe_op op_sub pe_int (pe_op op_fdiv (pv 2) pe_int)) pa_nil)))) (pa_cons (pe_call G_l_book (hr.mono (by decide)) (by rfl) T.d_l_book.g T.d_l_book.kp T.d_l_book.b .nil pass0 (pa_cons (pv 1) (pa_cons pe_int (pa_cons pe_int pa_nil)))) pa_nil)) (by rfl))
      (pss_cons (ps_set (i := 5) sc_law.nd rfl (Or.inl rfl) (pe_call G_l_made (hr.mono (by decide)) (by rfl) T.d_l_made.g T.d_l_made.kp T.d_l_made.b .nil pass0 (pa_cons (pv 3) pa_nil)))
      (pss_cons (ps_set (i := 6) sc_law.nd rfl (Or.inl rfl) (pe_join_K (K := K) (by rfl) pe_str (pe_lc (own := [("_law_line_here", 8)]) rfl sc_law.nd (pi_list_K (K := K) (by rfl) (pe_call G_l_lines_of (hr.mono (by decide)) (by rfl) T.d_l_lines_of.g T.d_l_lines_of.kp T.d_l_lines_of.b .nil pass0 (pa_cons (pv 3) pa_nil))) (blkOk_by (own := [("_law_line_here", 8)]) (N := ["_law_script", "_law_bag_here", "_law_turn", "_law_m", "_law_other", "_law_book_here", "_law_text_z", "_law_found", "_law_line_here"]) (sc := defScope s_law) (by decide +kernel)) (fun _ _ _ _ _ => by exact (pg_name (i := 8) sc_law.nd rfl (Or.inl rfl))) (fun _ _ _ _ _ => by exact pts_nil) (fun _ _ _ _ _ => by exact (pe_op op_add_str (pv 8) pe_str)))))
      (pss_cons (ps_if (pt_not (pt_val (pe_call G_l_like (hr.mono (by decide)) (by rfl) T.d_l_like.g T.d_l_like.kp T.d_l_like.b .nil pass0 (pa_cons (pe_lst (pa_cons (pe_meth0 (pv 5) R.cl M.text.M G_m_text (hr.mono (by decide)) M.text.b .nil pass0) (pa_cons (pe_smeth (pe_glob (v := .ref R.C) rfl R.g rfl) M.rd M.cV G_is_valid (hr.mono (by decide)) M.bV pass0 (pa_cons (pv 6) pa_nil)) (pa_cons (pe_smethN (pe_glob (v := .ref R.C) rfl R.g rfl) M.rd M.cV G_is_valid (hr.mono (by decide)) (kb_valid M) pass0 (pk_cons (pv 6) pk_nil)) pa_nil)))) (pa_cons (pe_lst (pa_cons (pv 6) (pa_cons pe_bl (pa_cons pe_bl pa_nil)))) pa_nil))))) (pss_one (ps_ret pe_bl)) pss_nil)
      (pss_cons (ps_set (i := 7) sc_law.nd rfl (Or.inl rfl) (ClX.pe_cmeth (pe_glob (v := .ref R.C) rfl R.g rfl) M.rd M.cR (fnR_of G_read M.bR) (hr.mono (by decide)) pass0 (pa_cons (pv 6) pa_nil)))
      (pss_cons (ps_if (PW.pt (pw_or (pt_cmpR (op_neIns G_m_eq M.ne M.eq.b (hr.mono (by decide))) (pv 7) (pv 5) (nomark _)) (pw_or (pt_not (pt_cmpR (op_eqIns (C := R.C) G_m_eq M.eq.M.at_ M.eq.M.fn M.eq.b (hr.mono (by decide)) M.eqT) (pe_cmethN (pe_glob (v := .ref R.C) rfl R.g rfl) M.rd M.cR G_read (hr.mono (by decide)) (kb_read M) pass0 (pk_cons (pv 6) pk_nil)) (pv 5) (nomark _))) (pw_or1 (pt_cmpR op_ne (pe_meth0 (pv 7) R.cl M.text.M G_m_text (hr.mono (by decide)) M.text.b .nil pass0) (pv 6) (nomark _)))))) (pss_one (ps_ret pe_bl)) pss_nil)
      (pss_cons (ps_if (pt_not (pt_val (pe_call G_l_like (hr.mono (by decide)) (by rfl) T.d_l_like.g T.d_l_like.kp T.d_l_like.b .nil pass0 (pa_cons (pe_lst (pa_cons (pe_meth0 (pv 7) R.cl M.fields.M G_m_fields (hr.mono (by decide)) M.fields.b .nil pass0) (pa_cons (pe_meth0 (pv 7) R.cl M.ties.M G_m_ties (hr.mono (by decide)) M.ties.b .nil pass0) (pa_cons (pe_meth0 (pv 7) R.cl M.kinds.M G_m_kinds (hr.mono (by decide)) M.kinds.b .nil pass0) pa_nil)))) (pa_cons (pe_lst (pa_cons (pe_ix (ix_tup_K (K := K) (by rfl)) (pv 3) pe_int (fun _ _ => rfl)) (pa_cons (pe_ix (ix_tup_K (K := K) (by rfl)) (pv 3) pe_int (fun _ _ => rfl)) (pa_cons (pe_ix (ix_tup_K (K := K) (by rfl)) (pv 3) pe_int (fun _ _ => rfl)) pa_nil)))) pa_nil))))) (pss_one (ps_ret pe_bl)) pss_nil)
      (pss_one (ps_if (pt_cmpR op_ne (pe_cmpR op_eq (pe_meth0 (pe_call G_l_made (hr.mono (by decide)) (by rfl) T.d_l_made.g T.d_l_made.kp T.d_l_made.b .nil pass0 (pa_cons (pv 4) pa_nil)) R.cl M.text.M G_m_text (hr.mono (by decide)) M.text.b .nil pass0) (pv 6) (nomark _)) (pe_cmpR (op_eqP (K := K) (by rfl) hr.units) (pe_callTy (call_list_of_K (K := K) (by rfl)) (by rfl) T.b_list (by decide +kernel) (pa_cons (pv 4) pa_nil)) (pe_callTy (call_list_of_K (K := K) (by rfl)) (by rfl) T.b_list (by decide +kernel) (pa_cons (pv 3) pa_nil)) (nomark _)) (nomark _)) (pss_one (ps_ret pe_bl)) pss_nil))))))))))
    (pss_one (ps_ret (pe_smeth (pe_glob (v := .ref R.C) rfl R.g rfl) M.rd M.cV G_is_valid (hr.mono (by decide)) M.bV pass0 (pa_cons pe_str pa_nil)))))), ?_⟩
  refine ⟨_, rfl, a, ns, rfl, hS, h63, fun b l H1 nb nl s1 hb => ?_⟩
  have tb1 := tb.ext s1
  refine ⟨_, rfl, by omega, by omega, ?_⟩
  refine for_it walk_range (fun i σ H' => ∃ x2 x3 x4 x5 x6 x7, σ = [some (.ref a), some (.ref b), x2, x3, x4, x5, x6, x7, none] ∧ BagAt b l H' ∧ Tabs TL H')
    ⟨none, none, none, none, none, none, rfl, hb, tb1⟩ (fun _ _ _ _ _ => True.intro) ?_ ?_
  · clear hS h63 tb tb1 hb s1 nb nl
    rintro i v σ H0 H0' hi ⟨x2, x3, x4, x5, x6, x7, rfl, hb, tb⟩ ⟨rfl, rfl⟩
    have i5 : i < 5 := hi
    refine ⟨_, rfl, _, rfl, _, _, rfl, rfl, ⟨by decide, by omega⟩, _, _, rfl, rfl, b, l, noBag b l H0', _, _, rfl, by decide, by decide, by omega, by omega, hb.wd, fun G1 H1 t p1 p2 p3 y1 y2 y3 fs ts ks s1 w1 g0 g1 g2 g3 d1 d2 d3 ok5 ok => ?_⟩
    refine ⟨_, rfl, b, l, G1, _, _, rfl, by decide, by decide, by decide, by decide, w1, fun G2 H2 t' p1' p2' p3' y1' y2' y3' fs' ts' ks' s2 w2 g0' g1' g2' g3' d1' d2' d3' ok5' ok' => ?_⟩
    have tb2 := draws_tab tb hb (s1.trans s2) w2
    have hb2 := w2.bag
    have bk : BkAt K H2 t p1 p2 p3 fs ts ks := BkAt.mono (Same.trans s2 w2.sm) ⟨y1, y2, y3, g0, g1, g2, g3, d1, d2, d3⟩
    have bk' : BkAt K H2 t' p1' p2' p3' fs' ts' ks' := BkAt.mono w2.sm ⟨y1', y2', y3', g0', g1', g2', g3', d1', d2', d3'⟩
    clear s1 s2 w1 w2 g0 g1 g2 g3 g0' g1' g2' g3' d1 d2 d3 d1' d2' d3' tb hb y1 y2 y3 y1' y2' y3' G1 G2 ok5 ok5' H1
    refine ⟨_, _, rfl, ?_⟩
    refine ⟨_, rfl, t, p1, p2, p3, fs, ts, ks, rfl, bk, ok, tb2, fun H3 x a1 a2 a3 s3 nx na1 na2 na3 ra tb3 => ?_⟩
    have nin : ∀ {p : Addr}, p ∉ ([] : List Addr) := fun h => by cases h
    have kp3 : Kp [] H2 H3 := kp_tb s3
    have hb3 := hb2.kp kp3 nin nin
    replace bk := bk.kp kp3 nin nin nin
    replace bk' := bk'.kp kp3 nin nin nin
    clear s3 nx na1 na2 na3 kp3 hb2 tb2
    refine gn_step ?_
    dsimp only [List.set]
    refine ⟨⟨_, rfl⟩, _, rfl, t, p1, p2, p3, fs, ts, ks, rfl, bk, ok, fun p H4 s4 hp => ⟨p, rfl, ⟨_, SqL.of hp⟩, fun D nD => ?_⟩⟩
    have rm := run_mem (run_book ok)
    have lb := bookLs_len ok
    refine lc_it (walk_list (xs := (bookLs fs ts ks).map V.str)) (fun i H' => Same H4 H' ∧ H' D = some (.lst ((((bookLs fs ts ks).map fun l : Str => l ++ ("\n" : Str)).take i).map V.str))) ⟨same_new nD, upd_same⟩ (fun i H' _ p => SqL.of (p.1 _ _ hp)) ?_ ?_
    · rintro j y H5 H5' hj ⟨s5, hD⟩ ⟨rfl, ey⟩
      rw [List.getElem?_map] at ey
      obtain ⟨ln, hln, rfl⟩ := Option.map_eq_some_iff.mp ey
      have lln := rm ln (List.mem_of_getElem? hln)
      refine ⟨rfl, _, rfl, _, _, rfl, rfl, le_line (by show _ + 1 ≤ _; omega), _, hD, ?_, same_mut s5 nD, ?_⟩
      · rw [List.length_map, List.length_take]
        exact lt_line (by rw [List.length_map]; omega)
      · rw [upd_same, List.take_add_one, List.getElem?_map, hln, List.map_append]
        rfl
    rintro H5 ⟨s5, hD⟩
    rw [List.length_map, List.take_of_length_le (by rw [List.length_map]; exact Nat.le_refl _)] at hD
    refine ⟨_, D, _, rfl, rfl, .inl (SqL.of hD), join_ok (m := 20001) (fun z hz => ?_) ?_, ?_⟩
    · obtain ⟨ln, hl, rfl⟩ := List.mem_map.mp hz
      rw [len_app]
      have := rm ln hl
      show _ + 1 ≤ _
      omega
    · rw [List.length_map]
      show _ * (20001 + 0) ≤ _
      omega
    rw [show Txt.join "" ((bookLs fs ts ks).map fun l : Str => l ++ ("\n" : Str)) = textB fs ts ks from rfl]
    have s45 := s4.trans s5
    replace bk := bk.mono s45
    replace bk' := bk'.mono s45
    replace ra := ra.mono s45
    replace hb3 := hb3.same s45
    replace tb3 := tb3.ext s45
    clear s45 s4 s5 hD hp nD
    refine gn_step ?_
    dsimp only [List.set]
    obtain ⟨dx, _, _, _, hx, _⟩ := id ra
    refine ⟨_, rfl, x, dx, _, rfl, hx, rfl, x, fs, ts, ks, rfl, ra.at_, ok, fun H6 s6 => ?_⟩
    refine ⟨rfl, _, rfl, fs, ts, ks, rfl, ok, tb3.ext s6, fun H7 s7 tb7 => ?_⟩
    refine ⟨rfl, _, rfl, rfl, fs, ts, ks, rfl, ok, tb7, fun H8 s8 tb8 => ?_⟩
    have kp8 : Kp [] H5 H8 := (Same.kp s6).trans ((kp_tb s7).trans (kp_tb s8))
    replace bk := bk.kp kp8 nin nin nin
    replace bk' := bk'.kp kp8 nin nin nin
    replace ra := ra.kp kp8 nin nin nin
    replace hb3 := hb3.kp kp8 nin nin
    clear kp8 s8 tb7 s7 s6 tb3 hx rm lb H4 D p
    refine ⟨(by show 3 ≤ sizeLine; decide), fun w1 nw1 => ?_⟩
    refine ⟨_, rfl, (by show 3 ≤ sizeLine; decide), fun w2 nw2 => ?_⟩
    have sF := same_new (o := .lst [.str (textB fs ts ks), .bl true, .bl true]) nw1
    have sG := same_new (o := .lst [.str (textB fs ts ks), .bl true, .bl true]) nw2
    refine ⟨.ref w1, .ref w2, .list [.str (textB fs ts ks), .bool true, .bool true], rfl, .lst (SqL.of (sG _ _ upd_same)) (.cons (.str _) (.cons (.bl _) (.cons (.bl _) .nil))), .lst (SqL.of upd_same) (.cons (.str _) (.cons (.bl _) (.cons (.bl _) .nil))), .lst (by show 3 ≤ 100000; decide) (fun d hd => ?_), fun H9 s9 => ⟨_, rfl, iteF ?_⟩⟩
    · simp only [List.mem_cons, List.not_mem_nil, or_false] at hd
      rcases hd with rfl | rfl | rfl
      · exact .str
      · exact .bl
      · exact .bl
    have s89 := sF.trans (sG.trans s9)
    replace bk := bk.mono s89
    replace bk' := bk'.mono s89
    replace ra := ra.mono s89
    replace hb3 := hb3.same s89
    replace tb8 := tb8.ext s89
    clear s89 s9 sG sF nw1 nw2 w1 w2
    refine ⟨rfl, _, rfl, fs, ts, ks, rfl, ok, tb8, fun H10 y c1 c2 c3 s10 ny nc1 nc2 nc3 rb tb10 => ?_⟩
    have kp10 : Kp [] H9 H10 := kp_tb s10
    replace bk := bk.kp kp10 nin nin nin
    replace bk' := bk'.kp kp10 nin nin nin
    replace ra := ra.kp kp10 nin nin nin
    replace hb3 := hb3.kp kp10 nin nin
    clear kp10 s10 tb8 ny nc1 nc2 nc3
    refine gn_step ?_
    dsimp only [List.set]
    have eqp := eqv_parts fs ts ks
    obtain ⟨dx, _, _, _, hx, _⟩ := id ra
    obtain ⟨dy, _, _, _, hy, _⟩ := id rb
    refine ⟨_, rfl, _, rfl, y, dy, _, x, dx, _, rfl, hy, rfl, hx, y, .ref x, fs, ts, ks, rfl, rb.at_, ok, .inl ⟨x, fs, ts, ks, rfl, ra.at_, ok, ?_⟩⟩
    rw [eqp]
    refine ⟨true, rfl, false, rfl, iteF ?_⟩
    refine ⟨rfl, _, rfl, rfl, fs, ts, ks, rfl, ok, tb10, fun H11 z e1 e2 e3 s11 nz ne1 ne2 ne3 rz tb11 => ?_⟩
    have kp11 : Kp [] H10 H11 := kp_tb s11
    replace bk := bk.kp kp11 nin nin nin
    replace bk' := bk'.kp kp11 nin nin nin
    replace ra := ra.kp kp11 nin nin nin
    replace rb := rb.kp kp11 nin nin nin
    replace hb3 := hb3.kp kp11 nin nin
    clear kp11 s11 tb10 nz ne1 ne2 ne3 hx hy dx dy
    obtain ⟨dx, _, _, _, hx, _⟩ := id ra
    obtain ⟨dy, _, _, _, hy, _⟩ := id rb
    obtain ⟨dz, _, _, _, hz, _⟩ := id rz
    refine ⟨_, rfl, z, dz, _, rfl, hz, .inl ⟨x, dx, _, rfl, hx⟩, z, .ref x, fs, ts, ks, rfl, rz.at_, ok, .inl ⟨x, fs, ts, ks, rfl, ra.at_, ok, ?_⟩⟩
    rw [eqp]
    refine ⟨⟨_, rfl⟩, _, rfl, iteF ?_⟩
    refine ⟨_, rfl, y, dy, _, rfl, hy, rfl, y, fs, ts, ks, rfl, rb.at_, ok, fun H12 s12 => ?_⟩
    refine ⟨_, rfl, rfl, false, by rw [decide_eq_true rfl]; rfl, iteF ?_⟩
    replace bk := bk.mono s12
    replace bk' := bk'.mono s12
    replace rb := rb.mono s12
    replace hb3 := hb3.same s12
    replace tb11 := tb11.ext s12
    clear s12 hx hy hz ra rz dx dy dz
    obtain ⟨dy, _, _, _, hy, _⟩ := id rb
    refine ⟨_, rfl, y, dy, _, rfl, hy, rfl, y, fs, ts, ks, rfl, rb.at_, ok, fun q1 H13 v1 nq1 s13 hq1 dq1 => ?_⟩
    refine ⟨_, rfl, y, dy, _, rfl, s13 _ _ hy, rfl, y, fs, ts, ks, rfl, rb.at_.mono s13, ok, fun q2 H14 v2 nq2 s14 hq2 dq2 => ?_⟩
    refine ⟨_, rfl, y, dy, _, rfl, (s13.trans s14) _ _ hy, rfl, y, fs, ts, ks, rfl, rb.at_.mono (s13.trans s14), ok, fun q3 H15 v3 nq3 s15 hq3 dq3 => ?_⟩
    refine ⟨(by show 3 ≤ sizeLine; decide), fun w1 nw1 => ?_⟩
    have s16 := same_new (o := .lst [.ref q1, .ref q2, .ref q3]) nw1
    have kw1 : upd H15 w1 (.lst [.ref q1, .ref q2, .ref q3]) w1 = some (.lst [.ref q1, .ref q2, .ref q3]) := upd_same
    generalize upd H15 w1 (.lst [.ref q1, .ref q2, .ref q3]) = H16 at s16 kw1 ⊢
    have s1216 := s13.trans (s14.trans (s15.trans s16))
    obtain ⟨y1, y2, y3, g0, g1, g2, g3, d1, d2, d3⟩ := id (bk.mono s1216)
    have ht : SqT K H16 t [.ref p1, .ref p2, .ref p3] := SqT.of g0
    refine ⟨_, rfl, t, _, (0 : Int), .ref p1, rfl, rfl, ht, at_nn (by decide) rfl, _, rfl, t, _, (1 : Int), .ref p2, rfl, rfl, ht, at_nn (by decide) rfl, _, rfl, t, _, (2 : Int), .ref p3, rfl, rfl, ht, at_nn (by decide) rfl, (by show 3 ≤ sizeLine; decide), fun w2 nw2 => ?_⟩
    have s17 := same_new (o := .lst [.ref p1, .ref p2, .ref p3]) nw2
    have kw2 : upd H16 w2 (.lst [.ref p1, .ref p2, .ref p3]) w2 = some (.lst [.ref p1, .ref p2, .ref p3]) := upd_same
    generalize upd H16 w2 (.lst [.ref p1, .ref p2, .ref p3]) = H17 at s17 kw2 ⊢
    have sB := s16.trans s17
    have sA := s15.trans sB
    refine ⟨.ref w1, .ref w2, dBk fs ts ks, rfl, .lst (SqL.of (s17 _ _ kw1)) (.cons (.lst (SqL.of ((s14.trans sA) _ _ hq1)) (DpAll.mono (s14.trans sA) dq1)) (.cons (.lst (SqL.of (sA _ _ hq2)) (DpAll.mono sA dq2)) (.cons (.lst (SqL.of (sB _ _ hq3)) (DpAll.mono sB dq3)) .nil))), .lst (SqL.of kw2) (.cons (.lst (SqL.of (s17 _ _ g1)) (DpAll.mono s17 (fds_dp d1))) (.cons (.lst (SqL.of (s17 _ _ g2)) (DpAll.mono s17 d2)) (.cons (.lst (SqL.of (s17 _ _ g3)) (DpAll.mono s17 d3)) .nil))), sh_book ok, fun H18 s18 => ⟨_, rfl, iteF ?_⟩⟩
    have s1218 := s1216.trans (s17.trans s18)
    replace bk := bk.mono s1218
    replace bk' := bk'.mono s1218
    replace hb3 := hb3.same s1218
    replace tb11 := tb11.ext s1218
    clear s1218 s18 sA sB s17 kw2 nw2 w2 ht g0 g1 g2 g3 d1 d2 d3 s1216 s16 kw1 nw1 w1 s15 hq3 dq3 s14 hq2 dq2 s13 hq1 dq1 nq1 nq2 nq3 hy rb
    refine ⟨_, rfl, t', p1', p2', p3', fs', ts', ks', rfl, bk', ok', tb11, fun H19 x' b1 b2 b3 s19 nx' nb1 nb2 nb3 ra' tb19 => ?_⟩
    have kp19 : Kp [] H18 H19 := kp_tb s19
    replace bk := bk.kp kp19 nin nin nin
    replace bk' := bk'.kp kp19 nin nin nin
    replace hb3 := hb3.kp kp19 nin nin
    clear kp19 s19 tb11 nx' nb1 nb2 nb3
    obtain ⟨dx, _, _, _, hx, _⟩ := id ra'
    refine ⟨x', dx, _, rfl, hx, rfl, x', fs', ts', ks', rfl, ra'.at_, ok', fun H20 s20 => ?_⟩
    obtain ⟨y1, y2, y3, g0, g1, g2, g3, d1, d2, d3⟩ := id (bk.mono s20)
    obtain ⟨y1', y2', y3', g0', g1', g2', g3', d1', d2', d3'⟩ := id (bk'.mono s20)
    refine ⟨_, rfl, rfl, _, rfl, t', _, rfl, .inr (SqT.of g0'), fun l1 nl1 => ?_⟩
    have s21 := same_new (o := .lst [.ref p1', .ref p2', .ref p3']) nl1
    have kl1 : upd H20 l1 (.lst [.ref p1', .ref p2', .ref p3']) l1 = some (.lst [.ref p1', .ref p2', .ref p3']) := upd_same
    generalize upd H20 l1 (.lst [.ref p1', .ref p2', .ref p3']) = H21 at s21 kl1 ⊢
    refine ⟨_, rfl, t, _, rfl, .inr (SqT.of (s21 _ _ g0)), fun l2 nl2 => ?_⟩
    have s22 := same_new (o := .lst [.ref p1, .ref p2, .ref p3]) nl2
    have kl2 : upd H21 l2 (.lst [.ref p1, .ref p2, .ref p3]) l2 = some (.lst [.ref p1, .ref p2, .ref p3]) := upd_same
    generalize upd H21 l2 (.lst [.ref p1, .ref p2, .ref p3]) = H22 at s22 kl2 ⊢
    have sC := s21.trans s22
    refine ⟨dBk fs' ts' ks', dBk fs ts ks, .lst (SqL.of (s22 _ _ kl1)) (.cons (.lst (SqL.of (sC _ _ g1')) (DpAll.mono sC (fds_dp d1'))) (.cons (.lst (SqL.of (sC _ _ g2')) (DpAll.mono sC d2')) (.cons (.lst (SqL.of (sC _ _ g3')) (DpAll.mono sC d3')) .nil))), .lst (SqL.of kl2) (.cons (.lst (SqL.of (sC _ _ g1)) (DpAll.mono sC (fds_dp d1))) (.cons (.lst (SqL.of (sC _ _ g2)) (DpAll.mono sC d2)) (.cons (.lst (SqL.of (sC _ _ g3)) (DpAll.mono sC d3)) .nil))), Nat.le_trans (Nat.min_le_left _ _) (Nat.le_trans (sh_book ok').depth (by decide)), rfl, false, ?_, iteF ?_⟩
    · rw [same_text ok' ok, decide_eq_true rfl]
      rfl
    · exact ⟨_, _, _, _, _, _, rfl, hb3.same (s20.trans sC), tb19.ext (s20.trans sC)⟩
  · rintro σ H' ⟨x2, x3, x4, x5, x6, x7, rfl, hb, tb⟩
    exact ⟨rfl, lfs, lts, lks, by rw [last_text], last_ok, tb, fun H' s t => q _⟩
end
end Bh

set_option Elab.async false
set_option linter.all false
set_option maxRecDepth 100000
set_option maxHeartbeats 2000000
namespace Bh
open PySem PySem.Spec PyProof.Rows L2
/-! ### the end of a law by one run of the top: facts out of a Hook -/
section
variable {K : PySem.W.Frag} {h : Heap} {mg : Str → Option Value} {fa : List He.Fa} {fn : List He.DefD}
theorem funD_none {x q : Str} {ar : Arguments} {bd : List Stmt} {sc : Scope} {f : Addr} {fd : FuncData} (F : FunD K x q ar bd sc [] [] f fd) :
    ∃ (oc : Value) (od : Option Addr) (kV doc pm : Value) (an : Option Addr) (cdv ct : Value) (osl : Array (Option Value)), fd = PySem.W.fnOf x q ar bd sc .none kV doc pm an cdv ct ∧ K.lookup f = some ⟨oc, od, .func fd, osl⟩ ∧ PySem.W.codeIn K cdv q = true := by
  obtain ⟨oc, od, dV, kV, doc, pm, an, cdv, ct, osl, e, lk, hc, hd, _⟩ := F.ex
  rcases hd with ⟨_, e2⟩ | ⟨e2, _⟩
  · rw [e2] at e
    exact ⟨oc, od, kV, doc, pm, an, cdv, ct, osl, e, lk, hc⟩
  · exact absurd rfl e2
theorem fun_ofD {x q : Str} {st : Stmt} {f : Addr} {fd : FuncData} (F : FunD K x q (defArgs st) (defBody st) (defScope st) [] [] f fd) : Fun K x q st f fd := ⟨funD_none F, F.kp⟩
abbrev BindsAs (x q : Str) (st : Stmt) (ps : List Str) : Prop := ∀ (kV doc pm : Value) (an : Option Addr) (cdv ct : Value) (us : List Value), us.length = ps.length → bindArgs (PySem.W.fnOf x q (defArgs st) (defBody st) (defScope st) .none kV doc pm an cdv ct) ⟨us, []⟩ = pure (ps.zip us)
theorem df_of (c : He.SaysD fa fn K) (X : K.In h) (G : h.Ns mainGlobals mg) {x : Str} {st : Stmt} {ps : List Str} (i j : Nat) (hb : BindsAs x x st ps) (h1 : fn[i]? = some (dd x st)) (h2 : fa[j]? = some (.glo x)) : ∃ fd, Df K mg x st ps (He.ga K x) fd := by
  obtain ⟨fd, F⟩ := c.def_ i (d := dd x st) h1
  have F2 : Fun K x x st (He.ga K x) fd := fun_ofD F
  exact ⟨fd, F2, He.glo_ok X G (c.fact j h2), F2.binds hb⟩
theorem meth_of (c : He.SaysD fa fn K) {C m q : Str} {st : Stmt} {ps : List Str} (i j : Nat) (hb : BindsAs m q st ps) (h1 : fn[i]? = some (dm C m q st)) (h2 : fa[j]? = some (.meth C m)) :
    ∃ fd, Fun K m q st (He.ma K (He.ga K C) m) fd ∧ Meth K (He.ga K C) m (He.ma K (He.ga K C) m) ∧ Binds K fd ps [] := by
  obtain ⟨fd, F⟩ := c.def_ i (d := dm C m q st) h1
  have F2 : Fun K m q st (He.ma K (He.ga K C) m) fd := fun_ofD F
  exact ⟨fd, F2, He.meth_ok (c.fact j h2), F2.binds hb⟩
/-- a def whose table of code objects is wanted -/
theorem tab_def (c : He.SaysD fa fn K) {d : He.DefD} (i : Nat) (h1 : fn[i]? = some d) (hd : d.dfl = []) (hk : d.kwd = []) :
    ∃ (oc : Value) (od : Option Addr) (kV doc pm : Value) (an : Option Addr) (ct : Value) (osl : Array (Option Value)), K.lookup (He.fAd K d.at_) = some ⟨oc, od, .func (PySem.W.fnOf d.name d.qual d.params d.body d.scope .none kV doc pm an (.ref (He.cT K d.at_).1) ct), osl⟩ ∧ PySem.W.codeIn K (.ref (He.cT K d.at_).1) d.qual = true := by
  obtain ⟨fd, F⟩ := c.def_ i (d := d) h1
  have e1 : d.dvs K = [] := by unfold He.DefD.dvs; rw [hd]; rfl
  have e2 : d.kws K = [] := by unfold He.DefD.kws; rw [hk]; rfl
  rw [e1, e2] at F
  obtain ⟨oc, od, kV, doc, pm, an, cdv, ct, osl, e, lk, hc⟩ := funD_none F
  obtain ⟨cc, rfl⟩ := He.codeIn_ref hc
  have k := He.codeOf_eq lk (by rw [e])
  refine ⟨oc, od, kV, doc, pm, an, ct, osl, ?_, ?_⟩
  · show K.lookup (He.fAd K d.at_) = some ⟨oc, od, .func (PySem.W.fnOf d.name d.qual d.params d.body d.scope .none kV doc pm an (.ref (He.codeOf K d.at_)) ct), osl⟩
    rw [k, ← e]
    exact lk
  · show PySem.W.codeIn K (.ref (He.codeOf K d.at_)) d.qual = true
    rw [k]
    exact hc
/-! ### own exceptions -/
theorem fam_of {C : Addr} {B newId initId : String} {bmB : List Value} (FB : ExcBaseFacts B newId initId bmB) (SF : StoreFacts B bmB "object.__setattr__" "object") (q : PySem.W.excInitIn K C bmB newId = true) (ov : PySem.W.excOver K C bmB = true) (hd : PySem.W.hasDictIn K C = true) :
    ∃ (B newId initId : String) (bmB : List Value), ExcBaseFacts B newId initId bmB ∧ StoreFacts B bmB "object.__setattr__" "object" ∧ PySem.W.excOver K C bmB = true ∧
    ∃ nm q N bs bm sn sub ab col dd k0 k1 k2 k3 k5, K.lookup C = some (excClassObj nm q C N bs bm true sn sub ab col dd k0 k1 k2 k3 k5 newId) ∧ ∀ Y : String, bm.contains (.type Y) = bmB.contains (.type Y) := by
  refine ⟨B, newId, initId, bmB, FB, SF, ov, ?_⟩
  unfold PySem.W.excInitIn at q
  split at q
  · rename_i d1 cd1 sl1 look
    split at q
    · rename_i C2 bm2 z0 z1 z2 z3 n z5 em es
      rw [Bool.and_eq_true, Bool.and_eq_true, Bool.and_eq_true, beq_iff_eq, beq_iff_eq, Bool.not_eq_true'] at q
      obtain ⟨⟨⟨e1, e2⟩, e3⟩, tl⟩ := q
      subst e1 e2
      have hh : (PySem.W.clsIn K C2).any (·.hasDict) = true := hd
      unfold PySem.W.clsIn at hh
      rw [look] at hh
      obtain ⟨a1, a2, a3, a4, a5, a6, a7, a8, a9, a10, a11⟩ := cd1
      have h6 : a6 = true := hh
      have em2 : a3 = .ref C2 :: bm2 := em
      have e32 : a11 = false := e3
      subst h6 em2 e32
      have e6 : sl1 = #[z0, z1, z2, z3, some (.builtin n), z5] := by
        exact Array.ext' es
      subst e6
      exact ⟨_, _, _, _, _, _, _, _, _, _, _, _, _, _, _, look, fun Y => PySem.W.excTail_contains Y _ tl⟩
    · cases q
  · cases q
theorem exg_of {x : Str} {B newId initId : String} {bmB : List Value} (FB : ExcBaseFacts B newId initId bmB) (SF : StoreFacts B bmB "object.__setattr__" "object") (p : ExcP K x bmB newId) : ExG K (He.ga K x) :=
  ⟨fam_of FB SF p.1 p.2.1 p.2.2.1, p.2.2.2.1, p.2.2.2.2.2.2.2.2.2.2.2.1, p.2.2.2.2.2.2.2.2.2.2.2.2, p.2.2.2.2.2.2.2.2.2.2.1, p.2.2.1⟩
theorem xfc_of {x : Str} {newId : String} {bmB : List Value} (p : ExcP K x bmB newId) : XfC K (He.ga K x) :=
  ⟨p.2.2.2.2.1, p.2.2.2.2.2.1, p.2.2.2.2.2.2.2.2.2.2.2.1, p.2.2.1⟩
theorem excc_of {x : Str} {newId : String} {bmB : List Value} (p : ExcP K x bmB newId) : ExcC K (He.ga K x) :=
  ⟨p.2.2.2.2.1, p.2.2.2.2.2.1, p.2.2.2.2.2.2.2.2.2.2.2.1, p.2.2.1, p.2.2.2.2.2.2.1, p.2.2.2.2.2.2.2.2.1, p.2.2.2.2.2.2.2.2.2.1, p.2.2.2.2.2.2.2.1⟩
theorem exr_of (c : He.SaysD fa fn K) (X : K.In h) (G : h.Ns mainGlobals mg) {x q : Str} {st : Stmt} {ps at_ : List Str} {B newId initId : String} {bmB : List Value} (FB : ExcBaseFacts B newId initId bmB) (SF : StoreFacts B bmB "object.__setattr__" "object") (i j : Nat)
    (p : ExcP K x bmB newId) (p2 : ExcI K x) (p3 : NoAt K x at_) (hb : BindsAs "__init__" q st ps) (h1 : fn[i]? = some (dm x "__init__" q st)) (h2 : fa[j]? = some (.glo x)) : ∃ r : ExR K mg x q st ps at_, r.c = He.ga K x := by
  obtain ⟨fd, F⟩ := c.def_ i (d := dm x "__init__" q st) h1
  have F2 : Fun K "__init__" q st (He.ma K (He.ga K x) "__init__") fd := fun_ofD F
  exact ⟨⟨He.ga K x, He.ma K (He.ga K x) "__init__", fd, F2, F2.binds hb, He.glo_ok X G (c.fact j h2), exg_of FB SF p, p2.1, p2.2, p3, xfc_of p, excc_of p⟩, rfl⟩
theorem erc_of {x y1 y2 f : Str} {newId : String} {bmB : List Value} (p : ExcP K x bmB newId) (p3 : NoAt K x ["code", f]) (h1 : PySem.W.exmAny K (.ref (He.ga K x)) [.ref (He.ga K y1), .ref (He.ga K y2)] = some true) : ErC K (He.ga K y1) (He.ga K y2) (He.ga K x) x f :=
  ⟨xfc_of p, p3 _ (List.mem_cons_self ..), p3 _ (List.mem_cons_of_mem _ (List.mem_cons_self ..)), h1⟩
/-! ### classes -/
theorem callO_of {x : Str} (p : CallP K x) (m : Meth K (He.ga K x) "__call__" (He.ma K (He.ga K x) "__call__")) : StX.CallO K (He.ga K x) (He.ma K (He.ga K x) "__call__") := ⟨m.at_, m.fn, p⟩
end
end Bh

set_option Elab.async false
set_option linter.all false
set_option maxRecDepth 100000
set_option maxHeartbeats 2000000
namespace Bh
open PySem PySem.Spec PyProof.Rows L2
/-! ### a class over object alone; defaults that are empty tuples -/
theorem neC_of {K : PySem.W.Frag} {C f : Addr} (q : neB K C f = true) (p : fnB K f = true) : NeC K C f := by
  refine ⟨?_, ?_⟩
  · unfold neB at q
    split at q
    · rename_i d1 cd1 sl1 look
      split at q
      · rename_i C2 o2 z0 z1 z2 z3 n z5 em es
        rw [Bool.and_eq_true, Bool.and_eq_true, Bool.and_eq_true, Bool.and_eq_true, beq_iff_eq, decide_eq_true_eq, Bool.not_eq_true'] at q
        obtain ⟨e1, e2, e3, e4, e5⟩ := q
        subst e1 e2
        obtain ⟨a1, a2, a3, a4, a5, a6, a7, a8, a9, a10, a11⟩ := cd1
        have em2 : a3 = [.ref C2, .type "object"] := em
        have e32 : a11 = false := e3
        have h6 : a6 = true := e4
        subst em2 e32 h6
        have e6 : sl1 = #[z0, z1, z2, z3, some (.builtin n), z5] := Array.ext' es
        subst e6
        exact ⟨_, _, _, _, _, _, _, _, _, _, _, _, _, _, _, _, look, e5⟩
      · cases q
    · cases q
  · unfold fnB at p
    split at p
    · rename_i c d dt sl look
      rw [decide_eq_true_eq] at p
      subst p
      exact ⟨_, look, rfl⟩
    · cases p
theorem tupE_ok {K : PySem.W.Frag} {z : Addr} (h : tupE K z = true) (H : Hp) : SqT K H z [] := by
  unfold tupE at h
  split at h
  · rename_i c d its n sl look
    rw [Bool.and_eq_true, decide_eq_true_eq, decide_eq_true_eq] at h
    obtain ⟨h1, h2⟩ := h
    subst h1
    have e : its = #[] := Array.ext' h2
    subst e
    exact .inr ⟨_, _, _, look, rfl, rfl, Nat.zero_le _, .nil⟩
  · cases h
end Bh

set_option Elab.async false
set_option linter.all false
set_option maxRecDepth 100000
set_option maxHeartbeats 2000000
namespace Bh
open PySem PySem.Spec PyProof.Rows L2
/-! ### staticmethods and classmethods of a class out of the Hook -/
theorem fun_wr {fw : List He5.DefA} {K : PySem.W.Frag} {x q : Str} {st : Stmt} {ps : List Str} {a : PySem.W.Frag → Addr} (c : He5.SaysA [] fw K) (i : Nat) (hb : BindsAs x q st ps) (h : fw[i]? = some ⟨a, x, q, defArgs st, defBody st, defScope st, [], []⟩) : ∃ fd, Fun K x q st (a K) fd ∧ Binds K fd ps [] := by
  obtain ⟨fd, F⟩ := c.def_ i h
  have F2 : Fun K x q st (a K) fd := fun_ofD F
  exact ⟨fd, F2, F2.binds hb⟩
theorem cmet_wr {K : PySem.W.Frag} {C : Addr} {m : Str} (h : He5.wrapB K C "classmethod" "classmethod.__get__" m = true) (hf : PySem.W.fnIn K (He5.wf K C "classmethod" m) = true) : ClX.CMet K C (.type "type") m (He.ma K C m) (He5.wf K C "classmethod" m) :=
  ⟨(He5.wrapB_ok h).1, (He5.wrapB_ok h).2, hf⟩
theorem smet_wr {K : PySem.W.Frag} {C : Addr} {m : Str} (h : He5.wrapB K C "staticmethod" "staticmethod.__get__" m = true) (hf : PySem.W.keepIn K (.ref (He5.wf K C "staticmethod" m)) = true) : SMet K C (.type "type") m (He.ma K C m) (He5.wf K C "staticmethod" m) :=
  ⟨(He5.wrapB_ok h).1, (He5.wrapB_ok h).2, hf⟩
end Bh

set_option Elab.async false
set_option linter.all false
set_option maxRecDepth 100000
set_option maxHeartbeats 4000000
set_option synthInstance.maxSize 10000
set_option synthInstance.maxHeartbeats 400000
namespace Bh
open PySem PySem.Spec PyProof.Rows L2
open LamX NdefX
theorem law_at {l : PySem.W.OpenLaw} {w : World} {K : PySem.W.Frag} {h : Heap} {mg : Str → Option Value} {fa : Addr} (X : K.In h) (G : h.Ns mainGlobals mg) (hfa : mg "law" = some (.ref fa)) (c : He.SaysX hFa hFn [] hTf hEx w h K) (cw : He5.SaysA [] hFw K) :
    LamX.LawAtS l w K CX0 18 63 "_law_script" mg fa h := by
  have D := c.t.d
  obtain ⟨E0, E1, E2, E3, E4, E5, E6, E7, E8, E9, E10, E11⟩ := hEx_of c.more
  obtain ⟨f_is_name, d_is_name⟩ := df_of (ps := ["value"]) D X G 0 0 (fun _ _ _ _ _ _ us hl => match us, hl with | [_], _ => rfl) rfl rfl
  obtain ⟨f_is_option, d_is_option⟩ := df_of (ps := ["value"]) D X G 1 1 (fun _ _ _ _ _ _ us hl => match us, hl with | [_], _ => rfl) rfl rfl
  obtain ⟨f_is_word, d_is_word⟩ := df_of (ps := ["value", "characters"]) D X G 2 2 (fun _ _ _ _ _ _ us hl => match us, hl with | [_, _], _ => rfl) rfl rfl
  obtain ⟨f_case_text, d_case_text⟩ := df_of (ps := ["case"]) D X G 3 3 (fun _ _ _ _ _ _ us hl => match us, hl with | [_], _ => rfl) rfl rfl
  obtain ⟨f_tests_text, d_tests_text⟩ := df_of (ps := ["tests"]) D X G 4 4 (fun _ _ _ _ _ _ us hl => match us, hl with | [_], _ => rfl) rfl rfl
  obtain ⟨f_steps_text, d_steps_text⟩ := df_of (ps := ["steps"]) D X G 5 5 (fun _ _ _ _ _ _ us hl => match us, hl with | [_], _ => rfl) rfl rfl
  obtain ⟨f_step_text, d_step_text⟩ := df_of (ps := ["field", "option"]) D X G 6 6 (fun _ _ _ _ _ _ us hl => match us, hl with | [_, _], _ => rfl) rfl rfl
  obtain ⟨f_read_case, d_read_case⟩ := df_of (ps := ["line"]) D X G 7 7 (fun _ _ _ _ _ _ us hl => match us, hl with | [_], _ => rfl) rfl rfl
  obtain ⟨f_read_tests, d_read_tests⟩ := df_of (ps := ["text"]) D X G 8 8 (fun _ _ _ _ _ _ us hl => match us, hl with | [_], _ => rfl) rfl rfl
  obtain ⟨f_read_steps, d_read_steps⟩ := df_of (ps := ["text"]) D X G 9 9 (fun _ _ _ _ _ _ us hl => match us, hl with | [_], _ => rfl) rfl rfl
  obtain ⟨f_all_read, d_all_read⟩ := df_of (ps := ["items"]) D X G 10 10 (fun _ _ _ _ _ _ us hl => match us, hl with | [_], _ => rfl) rfl rfl
  obtain ⟨f_read_test, d_read_test⟩ := df_of (ps := ["text"]) D X G 11 11 (fun _ _ _ _ _ _ us hl => match us, hl with | [_], _ => rfl) rfl rfl
  obtain ⟨f_read_step, d_read_step⟩ := df_of (ps := ["text"]) D X G 12 12 (fun _ _ _ _ _ _ us hl => match us, hl with | [_], _ => rfl) rfl rfl
  obtain ⟨f_field_fits, d_field_fits⟩ := df_of (ps := ["before", "field"]) D X G 13 13 (fun _ _ _ _ _ _ us hl => match us, hl with | [_, _], _ => rfl) rfl rfl
  obtain ⟨f_tie_fits, d_tie_fits⟩ := df_of (ps := ["fields", "before", "tie"]) D X G 14 14 (fun _ _ _ _ _ _ us hl => match us, hl with | [_, _, _], _ => rfl) rfl rfl
  obtain ⟨f_kind_fits, d_kind_fits⟩ := df_of (ps := ["fields", "before", "kind"]) D X G 15 15 (fun _ _ _ _ _ _ us hl => match us, hl with | [_, _, _], _ => rfl) rfl rfl
  obtain ⟨f_name_fits, d_name_fits⟩ := df_of (ps := ["before", "name", "most"]) D X G 16 16 (fun _ _ _ _ _ _ us hl => match us, hl with | [_, _, _], _ => rfl) rfl rfl
  obtain ⟨f_names_of, d_names_of⟩ := df_of (ps := ["items"]) D X G 17 17 (fun _ _ _ _ _ _ us hl => match us, hl with | [_], _ => rfl) rfl rfl
  obtain ⟨f_is_program, d_is_program⟩ := df_of (ps := ["fields", "value"]) D X G 18 18 (fun _ _ _ _ _ _ us hl => match us, hl with | [_, _], _ => rfl) rfl rfl
  obtain ⟨f_is_case, d_is_case⟩ := df_of (ps := ["fields", "value"]) D X G 19 19 (fun _ _ _ _ _ _ us hl => match us, hl with | [_, _], _ => rfl) rfl rfl
  obtain ⟨f_is_holding, d_is_holding⟩ := df_of (ps := ["fields", "value"]) D X G 20 20 (fun _ _ _ _ _ _ us hl => match us, hl with | [_, _], _ => rfl) rfl rfl
  obtain ⟨f_is_value, d_is_value⟩ := df_of (ps := ["fields", "value"]) D X G 21 21 (fun _ _ _ _ _ _ us hl => match us, hl with | [_, _], _ => rfl) rfl rfl
  obtain ⟨f_values_of, d_values_of⟩ := df_of (ps := ["fields"]) D X G 22 22 (fun _ _ _ _ _ _ us hl => match us, hl with | [_], _ => rfl) rfl rfl
  obtain ⟨f_is_tuple, d_is_tuple⟩ := df_of (ps := ["value", "least", "most"]) D X G 23 23 (fun _ _ _ _ _ _ us hl => match us, hl with | [_, _, _], _ => rfl) rfl rfl
  obtain ⟨f_are_options, d_are_options⟩ := df_of (ps := ["value"]) D X G 24 24 (fun _ _ _ _ _ _ us hl => match us, hl with | [_], _ => rfl) rfl rfl
  obtain ⟨f_are_keys, d_are_keys⟩ := df_of (ps := ["fields", "value"]) D X G 25 25 (fun _ _ _ _ _ _ us hl => match us, hl with | [_, _], _ => rfl) rfl rfl
  obtain ⟨f_is_key, d_is_key⟩ := df_of (ps := ["fields", "value"]) D X G 26 26 (fun _ _ _ _ _ _ us hl => match us, hl with | [_, _], _ => rfl) rfl rfl
  obtain ⟨f_is_test, d_is_test⟩ := df_of (ps := ["fields", "value"]) D X G 27 27 (fun _ _ _ _ _ _ us hl => match us, hl with | [_, _], _ => rfl) rfl rfl
  obtain ⟨f_is_step, d_is_step⟩ := df_of (ps := ["fields", "value"]) D X G 28 28 (fun _ _ _ _ _ _ us hl => match us, hl with | [_, _], _ => rfl) rfl rfl
  obtain ⟨f_options_of, d_options_of⟩ := df_of (ps := ["fields", "name"]) D X G 29 29 (fun _ _ _ _ _ _ us hl => match us, hl with | [_, _], _ => rfl) rfl rfl
  obtain ⟨f_rulebook_text, d_rulebook_text⟩ := df_of (ps := ["fields", "ties", "kinds"]) D X G 30 30 (fun _ _ _ _ _ _ us hl => match us, hl with | [_, _, _], _ => rfl) rfl rfl
  obtain ⟨f_kind_lines, d_kind_lines⟩ := df_of (ps := ["kind"]) D X G 31 31 (fun _ _ _ _ _ _ us hl => match us, hl with | [_], _ => rfl) rfl rfl
  obtain ⟨f_first_wrong, d_first_wrong⟩ := df_of (ps := ["items", "fits"]) D X G 32 32 (fun _ _ _ _ _ _ us hl => match us, hl with | [_, _], _ => rfl) rfl rfl
  obtain ⟨f_l_bag, d_l_bag⟩ := df_of (ps := ["_law_script"]) D X G 33 33 (fun _ _ _ _ _ _ us hl => match us, hl with | [_], _ => rfl) rfl rfl
  obtain ⟨f_l_draw, d_l_draw⟩ := df_of (ps := ["_law_bag_here", "_law_many"]) D X G 34 34 (fun _ _ _ _ _ _ us hl => match us, hl with | [_, _], _ => rfl) rfl rfl
  obtain ⟨f_l_any, d_l_any⟩ := df_of (ps := ["_law_bag_here", "_law_row"]) D X G 35 35 (fun _ _ _ _ _ _ us hl => match us, hl with | [_, _], _ => rfl) rfl rfl
  obtain ⟨f_l_mixed, d_l_mixed⟩ := df_of (ps := ["_law_bag_here", "_law_row"]) D X G 36 36 (fun _ _ _ _ _ _ us hl => match us, hl with | [_, _], _ => rfl) rfl rfl
  obtain ⟨f_l_like, d_l_like⟩ := df_of (ps := ["_law_found", "_law_due"]) D X G 37 37 (fun _ _ _ _ _ _ us hl => match us, hl with | [_, _], _ => rfl) rfl rfl
  obtain ⟨f_l_words, d_l_words⟩ := df_of (ps := ["_law_bag_here", "_law_many"]) D X G 38 38 (fun _ _ _ _ _ _ us hl => match us, hl with | [_, _], _ => rfl) rfl rfl
  obtain ⟨f_l_options, d_l_options⟩ := df_of (ps := ["_law_bag_here", "_law_many"]) D X G 39 39 (fun _ _ _ _ _ _ us hl => match us, hl with | [_, _], _ => rfl) rfl rfl
  obtain ⟨f_l_fields, d_l_fields⟩ := df_of (ps := ["_law_bag_here", "_law_room"]) D X G 40 40 (fun _ _ _ _ _ _ us hl => match us, hl with | [_, _], _ => rfl) rfl rfl
  obtain ⟨f_l_case, d_l_case⟩ := df_of (ps := ["_law_bag_here", "_law_fields_here"]) D X G 41 41 (fun _ _ _ _ _ _ us hl => match us, hl with | [_, _], _ => rfl) rfl rfl
  obtain ⟨f_l_program, d_l_program⟩ := df_of (ps := ["_law_bag_here", "_law_fields_here", "_law_most"]) D X G 42 42 (fun _ _ _ _ _ _ us hl => match us, hl with | [_, _, _], _ => rfl) rfl rfl
  obtain ⟨f_l_value, d_l_value⟩ := df_of (ps := ["_law_bag_here", "_law_fields_here"]) D X G 43 43 (fun _ _ _ _ _ _ us hl => match us, hl with | [_, _], _ => rfl) rfl rfl
  obtain ⟨f_l_keys, d_l_keys⟩ := df_of (ps := ["_law_bag_here", "_law_fields_here"]) D X G 44 44 (fun _ _ _ _ _ _ us hl => match us, hl with | [_, _], _ => rfl) rfl rfl
  obtain ⟨f_l_kinds, d_l_kinds⟩ := df_of (ps := ["_law_bag_here", "_law_fields_here", "_law_most"]) D X G 45 45 (fun _ _ _ _ _ _ us hl => match us, hl with | [_, _, _], _ => rfl) rfl rfl
  obtain ⟨f_l_book, d_l_book⟩ := df_of (ps := ["_law_bag_here", "_law_room", "_law_most"]) D X G 46 46 (fun _ _ _ _ _ _ us hl => match us, hl with | [_, _, _], _ => rfl) rfl rfl
  obtain ⟨f_l_made, d_l_made⟩ := df_of (ps := ["_law_m"]) D X G 47 47 (fun _ _ _ _ _ _ us hl => match us, hl with | [_], _ => rfl) rfl rfl
  obtain ⟨f_l_line, d_l_line⟩ := df_of (ps := ["_law_case_here"]) D X G 48 48 (fun _ _ _ _ _ _ us hl => match us, hl with | [_], _ => rfl) rfl rfl
  obtain ⟨f_l_lines_of, d_l_lines_of⟩ := df_of (ps := ["_law_m"]) D X G 49 49 (fun _ _ _ _ _ _ us hl => match us, hl with | [_], _ => rfl) rfl rfl
  have T : Top K mg := {
    a_is_name := _, fd_is_name := f_is_name, d_is_name := d_is_name,
    a_is_option := _, fd_is_option := f_is_option, d_is_option := d_is_option,
    a_is_word := _, fd_is_word := f_is_word, d_is_word := d_is_word,
    a_case_text := _, fd_case_text := f_case_text, d_case_text := d_case_text,
    a_tests_text := _, fd_tests_text := f_tests_text, d_tests_text := d_tests_text,
    a_steps_text := _, fd_steps_text := f_steps_text, d_steps_text := d_steps_text,
    a_step_text := _, fd_step_text := f_step_text, d_step_text := d_step_text,
    a_read_case := _, fd_read_case := f_read_case, d_read_case := d_read_case,
    a_read_tests := _, fd_read_tests := f_read_tests, d_read_tests := d_read_tests,
    a_read_steps := _, fd_read_steps := f_read_steps, d_read_steps := d_read_steps,
    a_all_read := _, fd_all_read := f_all_read, d_all_read := d_all_read,
    a_read_test := _, fd_read_test := f_read_test, d_read_test := d_read_test,
    a_read_step := _, fd_read_step := f_read_step, d_read_step := d_read_step,
    a_field_fits := _, fd_field_fits := f_field_fits, d_field_fits := d_field_fits,
    a_tie_fits := _, fd_tie_fits := f_tie_fits, d_tie_fits := d_tie_fits,
    a_kind_fits := _, fd_kind_fits := f_kind_fits, d_kind_fits := d_kind_fits,
    a_name_fits := _, fd_name_fits := f_name_fits, d_name_fits := d_name_fits,
    a_names_of := _, fd_names_of := f_names_of, d_names_of := d_names_of,
    a_is_program := _, fd_is_program := f_is_program, d_is_program := d_is_program,
    a_is_case := _, fd_is_case := f_is_case, d_is_case := d_is_case,
    a_is_holding := _, fd_is_holding := f_is_holding, d_is_holding := d_is_holding,
    a_is_value := _, fd_is_value := f_is_value, d_is_value := d_is_value,
    a_values_of := _, fd_values_of := f_values_of, d_values_of := d_values_of,
    a_is_tuple := _, fd_is_tuple := f_is_tuple, d_is_tuple := d_is_tuple,
    a_are_options := _, fd_are_options := f_are_options, d_are_options := d_are_options,
    a_are_keys := _, fd_are_keys := f_are_keys, d_are_keys := d_are_keys,
    a_is_key := _, fd_is_key := f_is_key, d_is_key := d_is_key,
    a_is_test := _, fd_is_test := f_is_test, d_is_test := d_is_test,
    a_is_step := _, fd_is_step := f_is_step, d_is_step := d_is_step,
    a_options_of := _, fd_options_of := f_options_of, d_options_of := d_options_of,
    a_rulebook_text := _, fd_rulebook_text := f_rulebook_text, d_rulebook_text := d_rulebook_text,
    a_kind_lines := _, fd_kind_lines := f_kind_lines, d_kind_lines := d_kind_lines,
    a_first_wrong := _, fd_first_wrong := f_first_wrong, d_first_wrong := d_first_wrong,
    a_l_bag := _, fd_l_bag := f_l_bag, d_l_bag := d_l_bag,
    a_l_draw := _, fd_l_draw := f_l_draw, d_l_draw := d_l_draw,
    a_l_any := _, fd_l_any := f_l_any, d_l_any := d_l_any,
    a_l_mixed := _, fd_l_mixed := f_l_mixed, d_l_mixed := d_l_mixed,
    a_l_like := _, fd_l_like := f_l_like, d_l_like := d_l_like,
    a_l_words := _, fd_l_words := f_l_words, d_l_words := d_l_words,
    a_l_options := _, fd_l_options := f_l_options, d_l_options := d_l_options,
    a_l_fields := _, fd_l_fields := f_l_fields, d_l_fields := d_l_fields,
    a_l_case := _, fd_l_case := f_l_case, d_l_case := d_l_case,
    a_l_program := _, fd_l_program := f_l_program, d_l_program := d_l_program,
    a_l_value := _, fd_l_value := f_l_value, d_l_value := d_l_value,
    a_l_keys := _, fd_l_keys := f_l_keys, d_l_keys := d_l_keys,
    a_l_kinds := _, fd_l_kinds := f_l_kinds, d_l_kinds := d_l_kinds,
    a_l_book := _, fd_l_book := f_l_book, d_l_book := d_l_book,
    a_l_made := _, fd_l_made := f_l_made, d_l_made := d_l_made,
    a_l_line := _, fd_l_line := f_l_line, d_l_line := d_l_line,
    a_l_lines_of := _, fd_l_lines_of := f_l_lines_of, d_l_lines_of := d_l_lines_of,
    b_all := He.free_ok X G (D.fact 51 rfl),
    b_dict := He.free_ok X G (D.fact 52 rfl),
    b_isinstance := He.free_ok X G (D.fact 53 rfl),
    b_len := He.free_ok X G (D.fact 54 rfl),
    b_list := He.free_ok X G (D.fact 55 rfl),
    b_max := He.free_ok X G (D.fact 56 rfl),
    b_min := He.free_ok X G (D.fact 57 rfl),
    b_range := He.free_ok X G (D.fact 58 rfl),
    b_sorted := He.free_ok X G (D.fact 59 rfl),
    b_tuple := He.free_ok X G (D.fact 60 rfl),
    b_int := He.free_ok X G (D.fact 61 rfl),
    b_zip := He.free_ok X G (D.fact 62 rfl),
    b_bool := He.free_ok X G (D.fact 63 rfl),
    b_str := He.free_ok X G (D.fact 64 rfl),
    b_set := He.free_ok X G (D.fact 65 rfl),
    b_enumerate := He.free_ok X G (D.fact 66 rfl),
    b_repr := He.free_ok X G (D.fact 67 rfl),
    g_LETTERS := He.str_ok X G (D.fact 68 rfl),
    g_LETTERS_AND_DIGITS := He.str_ok X G (D.fact 69 rfl),
    g_LONGEST := He.int_ok X G (D.fact 70 rfl),
    a_SIGNS := _, g_SIGNS := He.glo_ok X G (D.fact 71 rfl), k_SIGNS := He.tupB_ok E0,
    g_NEXT := He.str_ok X G (D.fact 72 rfl),
    g_MOST_ITEMS := He.int_ok X G (D.fact 73 rfl),
    g_LEAST_OPTIONS := He.int_ok X G (D.fact 74 rfl),
    g_MOST_OPTIONS := He.int_ok X G (D.fact 75 rfl),
    g_MOST_FIELDS := He.int_ok X G (D.fact 76 rfl),
    g_MOST_VALUES := He.int_ok X G (D.fact 77 rfl),
    g_MOST_CASES := He.int_ok X G (D.fact 78 rfl),
    g_MOST_TIES := He.int_ok X G (D.fact 79 rfl),
    g_MOST_KINDS := He.int_ok X G (D.fact 80 rfl),
    a_DIRECTIONS := _, g_DIRECTIONS := He.glo_ok X G (D.fact 81 rfl), k_DIRECTIONS := He.tupB_ok E1 }
  obtain ⟨f_Rulebook_text, F_Rulebook_text, M_Rulebook_text, B_Rulebook_text⟩ := meth_of (ps := ["self"]) D 51 89 (fun _ _ _ _ _ _ us hl => match us, hl with | [_], _ => rfl) rfl rfl
  obtain ⟨f_Rulebook_fields, F_Rulebook_fields, M_Rulebook_fields, B_Rulebook_fields⟩ := meth_of (ps := ["self"]) D 52 90 (fun _ _ _ _ _ _ us hl => match us, hl with | [_], _ => rfl) rfl rfl
  obtain ⟨f_Rulebook_ties, F_Rulebook_ties, M_Rulebook_ties, B_Rulebook_ties⟩ := meth_of (ps := ["self"]) D 53 91 (fun _ _ _ _ _ _ us hl => match us, hl with | [_], _ => rfl) rfl rfl
  obtain ⟨f_Rulebook_kinds, F_Rulebook_kinds, M_Rulebook_kinds, B_Rulebook_kinds⟩ := meth_of (ps := ["self"]) D 54 92 (fun _ _ _ _ _ _ us hl => match us, hl with | [_], _ => rfl) rfl rfl
  obtain ⟨f_Rulebook__eq, F_Rulebook__eq, M_Rulebook__eq, B_Rulebook__eq⟩ := meth_of (ps := ["self", "other"]) D 55 93 (fun _ _ _ _ _ _ us hl => match us, hl with | [_, _], _ => rfl) rfl rfl
  obtain ⟨f_Draft_take, F_Draft_take, M_Draft_take, B_Draft_take⟩ := meth_of (ps := ["self", "line"]) D 57 100 (fun _ _ _ _ _ _ us hl => match us, hl with | [_, _], _ => rfl) rfl rfl
  obtain ⟨f_Draft_is_whole, F_Draft_is_whole, M_Draft_is_whole, B_Draft_is_whole⟩ := meth_of (ps := ["self"]) D 58 101 (fun _ _ _ _ _ _ us hl => match us, hl with | [_], _ => rfl) rfl rfl
  obtain ⟨f_Draft_parts, F_Draft_parts, M_Draft_parts, B_Draft_parts⟩ := meth_of (ps := ["self"]) D 59 102 (fun _ _ _ _ _ _ us hl => match us, hl with | [_], _ => rfl) rfl rfl
  obtain ⟨f_Draft_take_field, F_Draft_take_field, M_Draft_take_field, B_Draft_take_field⟩ := meth_of (ps := ["self", "words"]) D 60 103 (fun _ _ _ _ _ _ us hl => match us, hl with | [_, _], _ => rfl) rfl rfl
  obtain ⟨f_Draft_take_tie, F_Draft_take_tie, M_Draft_take_tie, B_Draft_take_tie⟩ := meth_of (ps := ["self", "name"]) D 61 104 (fun _ _ _ _ _ _ us hl => match us, hl with | [_, _], _ => rfl) rfl rfl
  obtain ⟨f_Draft_waits_for_case, F_Draft_waits_for_case, M_Draft_waits_for_case, B_Draft_waits_for_case⟩ := meth_of (ps := ["self"]) D 62 105 (fun _ _ _ _ _ _ us hl => match us, hl with | [_], _ => rfl) rfl rfl
  obtain ⟨f_Draft_take_case, F_Draft_take_case, M_Draft_take_case, B_Draft_take_case⟩ := meth_of (ps := ["self", "case"]) D 63 106 (fun _ _ _ _ _ _ us hl => match us, hl with | [_, _], _ => rfl) rfl rfl
  obtain ⟨f_Draft_take_case_of_kind, F_Draft_take_case_of_kind, M_Draft_take_case_of_kind, B_Draft_take_case_of_kind⟩ := meth_of (ps := ["self", "case"]) D 64 107 (fun _ _ _ _ _ _ us hl => match us, hl with | [_, _], _ => rfl) rfl rfl
  obtain ⟨f_Draft_take_kind, F_Draft_take_kind, M_Draft_take_kind, B_Draft_take_kind⟩ := meth_of (ps := ["self", "words"]) D 65 108 (fun _ _ _ _ _ _ us hl => match us, hl with | [_, _], _ => rfl) rfl rfl
  obtain ⟨f_Draft_take_birth, F_Draft_take_birth, M_Draft_take_birth, B_Draft_take_birth⟩ := meth_of (ps := ["self", "value"]) D 66 109 (fun _ _ _ _ _ _ us hl => match us, hl with | [_, _], _ => rfl) rfl rfl
  obtain ⟨f_Rulebook_read, F_Rulebook_read, B_Rulebook_read⟩ := fun_wr (ps := ["cls", "text"]) cw 0 (fun _ _ _ _ _ _ us hl => match us, hl with | [_, _], _ => rfl) rfl
  obtain ⟨f_Rulebook_is_valid, F_Rulebook_is_valid, B_Rulebook_is_valid⟩ := fun_wr (ps := ["text"]) cw 1 (fun _ _ _ _ _ _ us hl => match us, hl with | [_], _ => rfl) rfl
  obtain ⟨oc_0, od_0, kV_0, dc_0, pm_0, an_0, ct_0, sl_0, lk_0, hc_0⟩ := tab_def D 56 rfl rfl rfl
  have e0 := hfa.symm.trans (He.glo_ok X G (D.fact 50 rfl))
  cases e0
  let R : RbC K mg := { C := He.ga K "Rulebook", g := He.glo_ok X G (D.fact 83 rfl), cl := He.cls_ok (D.fact 84 rfl), n1 := He.noat_ok (D.fact 86 rfl), n2 := He.noat_ok (D.fact 87 rfl), n3 := He.noat_ok (D.fact 88 rfl), ha := E2.1, hn := E2.2.1, ht := E2.2.2.1, hm := E2.2.2.2.1, k1 := E2.2.2.2.2.1, k2 := E2.2.2.2.2.2 }
  have M : RbM K mg R (He.cT K ("Rulebook", some "__init__")).1 (He.cT K ("Rulebook", some "__init__")).2 := {
    fI := _, od := od_0, an := an_0, oc := oc_0, kV := kV_0, doc := dc_0, pm := pm_0, ct := ct_0, osl := sl_0, lk := lk_0, hcd := hc_0, mkr := He.mkr_ok (D.fact 85 rfl),
    text := ⟨_, f_Rulebook_text, F_Rulebook_text, M_Rulebook_text, B_Rulebook_text⟩,
    fields := ⟨_, f_Rulebook_fields, F_Rulebook_fields, M_Rulebook_fields, B_Rulebook_fields⟩,
    ties := ⟨_, f_Rulebook_ties, F_Rulebook_ties, M_Rulebook_ties, B_Rulebook_ties⟩,
    kinds := ⟨_, f_Rulebook_kinds, F_Rulebook_kinds, M_Rulebook_kinds, B_Rulebook_kinds⟩,
    eq := ⟨_, f_Rulebook__eq, F_Rulebook__eq, M_Rulebook__eq, B_Rulebook__eq⟩,
    ne := neC_of E10 E11, eqT := E9, mc := .type "type", rd := ⟨E6, E7⟩,
    pR := _, fR := _, fdR := f_Rulebook_read, FR := F_Rulebook_read, bR := B_Rulebook_read, cR := cmet_wr E4 E5,
    pV := _, fV := _, fdV := f_Rulebook_is_valid, FV := F_Rulebook_is_valid, bV := B_Rulebook_is_valid, cV := smet_wr E8 F_Rulebook_is_valid.kp,
    cIR := _, gIR := He.glo_ok X G (D.fact 82 rfl) }
  let RD : DfC K mg := { C := He.ga K "Draft", g := He.glo_ok X G (D.fact 94 rfl), cl := He.cls_ok (D.fact 95 rfl), n1 := He.noat_ok (D.fact 97 rfl), n2 := He.noat_ok (D.fact 98 rfl), n3 := He.noat_ok (D.fact 99 rfl) }
  obtain ⟨f_D, F_D0⟩ := D.def_ 67 (d := dm "Draft" "__init__" "Draft.__init__" s_Draft__init) rfl
  have F_D : Fun K "__init__" "Draft.__init__" s_Draft__init _ f_D := fun_ofD F_D0
  have MD : DfM K mg RD := {
    fI := _, fdI := f_D, FI := F_D, bI := F_D.binds (ps := ["self"]) (fun _ _ _ _ _ _ us hl => match us, hl with | [_], _ => rfl), mkr := He.mkr_ok (D.fact 96 rfl),
    take := ⟨_, f_Draft_take, F_Draft_take, M_Draft_take, B_Draft_take⟩,
    is_whole := ⟨_, f_Draft_is_whole, F_Draft_is_whole, M_Draft_is_whole, B_Draft_is_whole⟩,
    parts := ⟨_, f_Draft_parts, F_Draft_parts, M_Draft_parts, B_Draft_parts⟩,
    take_field := ⟨_, f_Draft_take_field, F_Draft_take_field, M_Draft_take_field, B_Draft_take_field⟩,
    take_tie := ⟨_, f_Draft_take_tie, F_Draft_take_tie, M_Draft_take_tie, B_Draft_take_tie⟩,
    waits_for_case := ⟨_, f_Draft_waits_for_case, F_Draft_waits_for_case, M_Draft_waits_for_case, B_Draft_waits_for_case⟩,
    take_case := ⟨_, f_Draft_take_case, F_Draft_take_case, M_Draft_take_case, B_Draft_take_case⟩,
    take_case_of_kind := ⟨_, f_Draft_take_case_of_kind, F_Draft_take_case_of_kind, M_Draft_take_case_of_kind, B_Draft_take_case_of_kind⟩,
    take_kind := ⟨_, f_Draft_take_kind, F_Draft_take_kind, M_Draft_take_kind, B_Draft_take_kind⟩,
    take_birth := ⟨_, f_Draft_take_birth, F_Draft_take_birth, M_Draft_take_birth, B_Draft_take_birth⟩ }
  obtain ⟨f_w, F_w0⟩ := D.def_ 50 (d := dd "law" s_law) rfl
  have F_w : Fun K "law" "law" s_law _ f_w := fun_ofD F_w0
  obtain ⟨oc, od, kV, doc, pm, an, cdv, ct, osl, e, _⟩ := id F_w.ex
  subst e
  have q1 : He.cT K ("Rulebook", some "__init__") ∈ hTf.map (He.cT K) := List.mem_map_of_mem (a := (("Rulebook", some "__init__") : He.Defn)) (List.mem_cons_self ..)
  refine ⟨_, hTf.map (He.cT K), spLaw0 K [((He.cT K ("Rulebook", some "__init__")).2, rbQ)], fun p hp => ?_, fun p hp => ?_, fun p hp => ?_, fun s u => .of_eq rfl, fun H a ns hl _ hH hS => ⟨a, ns, rfl, hS, hl, fun p hp => ?_, fun _ => rfl⟩,
    fun base _ _ hTB => ok_law F_w T M MD (hTB _ q1) (List.mem_cons_self ..) (fun p hp _ => by rw [List.mem_singleton.mp hp])⟩
  · obtain ⟨z, hz, rfl⟩ := List.mem_map.mp hp
    exact c.empty z hz
  · obtain ⟨z, hz, rfl⟩ := List.mem_map.mp hp
    exact c.out z hz
  · obtain ⟨z, hz, rfl⟩ := List.mem_map.mp hp
    exact PySem.W.codeHd_of_K X (c.hd z hz)
  · rw [List.mem_singleton.mp hp]
    exact TabS.nil (hH _ q1)
end Bh

open PySem PySem.W PySem.Calls PyProof.Rows in
set_option maxRecDepth 100000 in
set_option maxHeartbeats 0 in
theorem PySem.Challenge.cw_bestheard_k07_whole_rulebooks_there_and_holds : PySem.Challenge.rw_bestheard_k07_whole_rulebooks_there_and.Holds := by
  w_on; o_law
  refine HandSHeadRun.head_any (r := OpenLaw.row PySem.Challenge.rw_bestheard_k07_whole_rulebooks_there_and) (q := view (OpenLaw.row PySem.Challenge.rw_bestheard_k07_whole_rulebooks_there_and).prog [92]) (H := Bh.hHk) (ob := Bh.hOb) (M := 7000) (loose := Bh.hLo) (d := HandSHeadRun.topDef (OpenLaw.row PySem.Challenge.rw_bestheard_k07_whole_rulebooks_there_and).prog 92) (kwd := []) Bh.hOb_eq
    (by kernel_rfl) (fun s => by kernel_rfl) Bh.hRun (by kernel_rfl) (by kernel_rfl) (by kernel_rfl) (by rfl) (by first | assumption | decide +kernel) (by decide +kernel) ⟨rfl, rfl, rfl, rfl, rfl, by decide +kernel⟩ ?hw ?hc
  case hw => w_witness2
  case hc =>
    refine LamX.walk_ofTsE (l := PySem.Challenge.rw_bestheard_k07_whole_rulebooks_there_and) (n := 63) (k := 18) (x := "_law_script") (CX := fun _ => L2.CX0) rfl (by decide) (by kernel_rfl) ⟨rfl, by decide, by decide⟩ ?F (fun _ _ _ _ _ z => z)
    intro w mg fa h Y G hmg0
    obtain ⟨K, KX, c, cw⟩ := Y
    have hmg : mg ("law" : PySem.Str) = some (.ref fa) := by
      have e : (HandSHeadRun.topDef (OpenLaw.row PySem.Challenge.rw_bestheard_k07_whole_rulebooks_there_and).prog 92).name = ("law" : PySem.Str) := by kernel_rfl
      rw [← e]
      exact hmg0
    exact ⟨K, KX, Bh.law_at KX G hmg c cw⟩
