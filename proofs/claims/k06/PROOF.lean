import PyProof.Rows.All
import Wide.All
import OpenK.AllK
import Wide.FinOn
import KE.KStateDown
import KE.KExcInit
import HandS.ForMost
import HandS.Walk
import HandS.Defaults
import HandS.Head2
import HandS.HeadEnd
import HandS.HeadHook4
import HandS.HeadWalk
import PySem.Challenge.RW_bestheard_k06_rulebooks_refused
import HandS.IsInst
import HandS.Deep
import HandS.Evl
import HandS.Steps
import HandS.More
import HandS.Zip
import HandS.Strs
import HandS.TupAny
import HandS.TupMul
import HandS.StrMore
import HandS.Style
import KE.DataEq
import HandS.Nested
import HandS.NestedK
import HandS.CallLocal
import HandS.StrSplit
import HandS.Star
import HandS.ExcField
import HandS.ExcInit
import HandS.ExcIs
import KE.KTryMore
import KE.KExcIs
import HandS.HotCalls
import HandS.Lambda
import HandS.EndTab
import HandS.MakeKwOnly
import HandS.WordsExc
import KE.GoesEnum
import KE.GoesMore
import KE.GoesZip
import KE.KDflt
import HandS.OwnEq
import PyProof.InstNe
import HandS.Dict
import HandS.DictComp
import PyProof.DictMoreH
import OpenK.KOps
import KE.KOpsOwn
import HandS.MethStar
import HandS.ClsMeth
set_option Elab.async false
set_option linter.all false
set_option maxRecDepth 100000
set_option maxHeartbeats 2000000
namespace Bh
open PySem PySem.Spec PyProof.Rows L2
/-! ### the end of a law by one run of the top: what the Hook looks at -/
/-- a def of the top; a method -/
def dd (x : Str) (st : Stmt) : He.DefD := ⟨(x, none), x, x, defArgs st, defBody st, defScope st, [], []⟩
def dm (C m q : Str) (st : Stmt) : He.DefD := ⟨(C, some m), m, q, defArgs st, defBody st, defScope st, [], []⟩
abbrev ExcP (K : PySem.W.Frag) (x : Str) (bmB : List Value) (newId : String) : Prop :=
  PySem.W.excInitIn K (He.ga K x) bmB newId = true ∧ PySem.W.excOver K (He.ga K x) bmB = true ∧ PySem.W.hasDictIn K (He.ga K x) = true ∧ PySem.W.findIn K (.ref (He.ga K x)) "__setattr__" = some (some (.builtin "object.__setattr__")) ∧
  PySem.W.findIn K (.ref (He.ga K x)) "__getattribute__" = some (some (.builtin "BaseException.__getattribute__")) ∧ PySem.W.findIn K (.ref (He.ga K x)) "__getattr__" = some none ∧
  PySem.W.findIn K (.ref (He.ga K x)) "__class__" = some (some (.builtin "object.__class__")) ∧ PySem.W.mroIn K (He.ga K x) (.type "object") = some true ∧
  PySem.W.specialIn K (.builtin "object.__class__") "__get__" = some (some (.builtin "getset_descriptor.__get__")) ∧ PySem.W.takesIn K (.builtin "object.__class__") = some true ∧
  PySem.W.keepIn K (.ref (He.ga K x)) = true ∧ PySem.W.subIn K (.ref (He.ga K x)) (.type "BaseException") = some true ∧ PySem.W.typeIn K (.ref (He.ga K x)) = some (.type "type")
abbrev ExcI (K : PySem.W.Frag) (x : Str) : Prop := PySem.W.findIn K (.ref (He.ga K x)) "__init__" = some (some (.ref (He.ma K (He.ga K x) "__init__"))) ∧ PySem.W.typeIn K (.ref (He.ma K (He.ga K x) "__init__")) = some (.type "function")
abbrev NoAt (K : PySem.W.Frag) (x : Str) (ys : List Str) : Prop := ∀ y ∈ ys, PySem.W.findIn K (.ref (He.ga K x)) y = some none
abbrev ClsP (K : PySem.W.Frag) (x : Str) : Prop :=
  PySem.W.findIn K (.ref (He.ga K x)) "__class__" = some (some (.builtin "object.__class__")) ∧ PySem.W.specialIn K (.builtin "object.__class__") "__get__" = some (some (.builtin "getset_descriptor.__get__")) ∧ PySem.W.takesIn K (.builtin "object.__class__") = some true ∧
  PySem.W.mroIn K (He.ga K x) (.type "object") = some true ∧ PySem.W.kitOne K (.ref (He.ga K x)) (.ref (He.ga K x)) = some true ∧ PySem.W.kitOne K (.type "tuple") (.ref (He.ga K x)) = some false
abbrev CallP (K : PySem.W.Frag) (x : Str) : Prop := PySem.W.fnIn K (He.ma K (He.ga K x) "__call__") = true
abbrev veB : List Value := [.type "ValueError", .type "Exception", .type "BaseException", .type "object"]
abbrev leB : List Value := [.type "LookupError", .type "Exception", .type "BaseException", .type "object"]
/-! ### a Hook over fewer objects: what the module's names hold, the classes' own names, the code objects -/
def pickO (o : Obj) : List Addr := match o.data with
  | .dict es _ => es.toList.flatMap fun e => He.refV e.val
  | .func fd => He.refV fd.code ++ He.refV fd.defaults ++ He.refV fd.kwdefaults
  | .cls cd => [cd.ns]
  | _ => []
def nextA (g : Addr → Option Obj) (as : List Addr) : List Addr := as.flatMap fun a => match g a with
  | some o => pickO o
  | none => []
def asY (g : Addr → Option Obj) : List Addr := mainGlobals :: (nextA g [mainGlobals] ++ (nextA g (nextA g [mainGlobals]) ++ (nextA g (nextA g (nextA g [mainGlobals])) ++ nextA g (nextA g (nextA g (nextA g [mainGlobals]))) ++ nextA g (nextA g (nextA g (nextA g (nextA g [mainGlobals])))))))
def obsY (fa : List He.Fa) (fn : List He.DefD) (ts : List He.Tab) (tf : List He.Defn) (ex : PySem.W.Frag → Bool) (g : Addr → Option Obj) : He.AlX := (He.obsT fa fn ts (He.frT g (asY g)), ex (He.frT g (asY g)) && He.tabsB g tf (He.frT g (asY g)))
theorem says_any {fa : List He.Fa} {fn : List He.DefD} {ts : List He.Tab} {tf : List He.Defn} {ex : PySem.W.Frag → Bool} {w : World} {h : Heap} {K : PySem.W.Frag} (e1 : He.obsT fa fn ts K = He.valT fn ts w) (e2 : (ex K && He.tabsB h.get? tf K) = true)
    (no : ∀ a o, h.get? a = some o → He.emptyTab o = true → K.lookup a = none) : He.SaysX fa fn ts tf ex w h K := by
  obtain ⟨m1, m2⟩ := He.ba e2
  have all : ∀ p ∈ tf, PySem.W.codeHdIn K (He.cT K p).1 (He.cT K p).2 = true ∧ ∃ o, h.get? (He.cT K p).2 = some o ∧ He.emptyTab o = true := by
    intro p hp
    have z := He.ba (List.all_eq_true.mp m2 p hp)
    refine ⟨z.1, ?_⟩
    have z2 := z.2
    revert z2
    cases h.get? (He.cT K p).2 with
    | none => exact fun c => nomatch c
    | some o => exact fun c => ⟨o, rfl, c⟩
  refine { t := e1, more := m1, hd := fun p hp => (all p hp).1, out := fun p hp => ?_, empty := fun p hp => ?_ }
  · obtain ⟨o, g1, g2⟩ := (all p hp).2
    exact no _ o g1 g2
  · obtain ⟨o, g1, g2⟩ := (all p hp).2
    rw [g1, He.emptyTab_eq g2]
def hookY (fa : List He.Fa) (fn : List He.DefD) (ts : List He.Tab) (tf : List He.Defn) (ex : PySem.W.Frag → Bool) : PySem.W.Hook where
  α := He.AlX
  obs s := obsY fa fn ts tf ex s.heap.get?
  val w := He.valX fn ts w
  says w h := ∃ K : PySem.W.Frag, K.In h ∧ He.SaysX fa fn ts tf ex w h K
  of w s e := ⟨_, He.frT_in, says_any (congrArg (fun z : He.AlX => z.1) e) (congrArg (fun z : He.AlX => z.2) e) fun _ _ => He.frT_none⟩
  keeps w h h' := fun ⟨K, k1, k2⟩ k => ⟨K, PySem.W.Frag.In.keeps k1 k, { t := k2.t, more := k2.more, hd := k2.hd, out := k2.out, empty := fun p hp => k _ _ (k2.empty p hp) }⟩
theorem obsY_eq {fa : List He.Fa} {fn : List He.DefD} {ts : List He.Tab} {tf : List He.Defn} {ex : PySem.W.Frag → Bool} {g : Addr → Option Obj} {s : Shared} (e : ∀ a, g a = s.heap.get? a) : obsY fa fn ts tf ex g = (hookY fa fn ts tf ex).obs s := by
  rw [show g = s.heap.get? from funext e]
  rfl
end Bh

set_option Elab.async false
set_option linter.all false
set_option maxRecDepth 100000
set_option maxHeartbeats 1000000
namespace Bh
open PySem PySem.Spec PyProof.Rows L2
def topS (i : Nat) : Stmt := PySem.Challenge.pw_bestheard_k06_rulebooks_refused.main.body.getD i (.Pass ⟨0, 0, 0, 0⟩)
abbrev s_copy_of : Stmt := topS 2
theorem sc_copy_of : FnScope ["value", "item", "key", "worth"] ["value"] (defScope s_copy_of) := ⟨rfl, rfl, rfl, by decide +kernel, rfl, by decide +kernel, by decide +kernel⟩
abbrev s_InvalidField__init : Stmt := inClass (topS 6) 0
theorem sc_InvalidField__init : FnScope ["self", "position"] ["self", "position"] (defScope s_InvalidField__init) := ⟨rfl, rfl, rfl, by decide +kernel, rfl, by decide +kernel, by decide +kernel⟩
abbrev s_InvalidTie__init : Stmt := inClass (topS 7) 0
theorem sc_InvalidTie__init : FnScope ["self", "position"] ["self", "position"] (defScope s_InvalidTie__init) := ⟨rfl, rfl, rfl, by decide +kernel, rfl, by decide +kernel, by decide +kernel⟩
abbrev s_InvalidKind__init : Stmt := inClass (topS 8) 0
theorem sc_InvalidKind__init : FnScope ["self", "position"] ["self", "position"] (defScope s_InvalidKind__init) := ⟨rfl, rfl, rfl, by decide +kernel, rfl, by decide +kernel, by decide +kernel⟩
abbrev s_is_name : Stmt := topS 17
theorem sc_is_name : FnScope ["value"] ["value"] (defScope s_is_name) := ⟨rfl, rfl, rfl, by decide +kernel, rfl, by decide +kernel, by decide +kernel⟩
abbrev s_is_option : Stmt := topS 18
theorem sc_is_option : FnScope ["value"] ["value"] (defScope s_is_option) := ⟨rfl, rfl, rfl, by decide +kernel, rfl, by decide +kernel, by decide +kernel⟩
abbrev s_is_word : Stmt := topS 19
theorem sc_is_word : FnScope ["value", "characters", "character"] ["value", "characters"] (defScope s_is_word) := ⟨rfl, rfl, rfl, by decide +kernel, rfl, by decide +kernel, by decide +kernel⟩
abbrev s_field_fits : Stmt := topS 48
theorem sc_field_fits : FnScope ["before", "field"] ["before", "field"] (defScope s_field_fits) := ⟨rfl, rfl, rfl, by decide +kernel, rfl, by decide +kernel, by decide +kernel⟩
abbrev s_tie_fits : Stmt := topS 49
theorem sc_tie_fits : FnScope ["fields", "before", "tie"] ["fields", "before", "tie"] (defScope s_tie_fits) := ⟨rfl, rfl, rfl, by decide +kernel, rfl, by decide +kernel, by decide +kernel⟩
abbrev s_kind_fits : Stmt := topS 50
theorem sc_kind_fits : FnScope ["fields", "before", "kind", "name", "keys", "taking", "birth"] ["fields", "before", "kind"] (defScope s_kind_fits) := ⟨rfl, rfl, rfl, by decide +kernel, rfl, by decide +kernel, by decide +kernel⟩
abbrev s_name_fits : Stmt := topS 51
theorem sc_name_fits : FnScope ["before", "name", "most"] ["before", "name", "most"] (defScope s_name_fits) := ⟨rfl, rfl, rfl, by decide +kernel, rfl, by decide +kernel, by decide +kernel⟩
abbrev s_names_of : Stmt := topS 52
theorem sc_names_of : FnScope ["items", "item"] ["items"] (defScope s_names_of) := ⟨rfl, rfl, rfl, by decide +kernel, rfl, by decide +kernel, by decide +kernel⟩
abbrev s_is_program : Stmt := topS 53
theorem sc_is_program : FnScope ["fields", "value", "case"] ["fields", "value"] (defScope s_is_program) := ⟨rfl, rfl, rfl, by decide +kernel, rfl, by decide +kernel, by decide +kernel⟩
abbrev s_is_case : Stmt := topS 54
theorem sc_is_case : FnScope ["fields", "value", "tests", "steps", "test", "step"] ["fields", "value"] (defScope s_is_case) := ⟨rfl, rfl, rfl, by decide +kernel, rfl, by decide +kernel, by decide +kernel⟩
abbrev s_is_holding : Stmt := topS 55
theorem sc_is_holding : FnScope ["fields", "value"] ["fields", "value"] (defScope s_is_holding) := ⟨rfl, rfl, rfl, by decide +kernel, rfl, by decide +kernel, by decide +kernel⟩
abbrev s_is_value : Stmt := topS 56
theorem sc_is_value : FnScope ["fields", "value", "option", "_", "options"] ["fields", "value"] (defScope s_is_value) := ⟨rfl, rfl, rfl, by decide +kernel, rfl, by decide +kernel, by decide +kernel⟩
abbrev s_values_of : Stmt := topS 57
theorem sc_values_of : FnScope ["fields", "found", "_", "options", "value", "option"] ["fields"] (defScope s_values_of) := ⟨rfl, rfl, rfl, by decide +kernel, rfl, by decide +kernel, by decide +kernel⟩
abbrev s_is_tuple : Stmt := topS 58
theorem sc_is_tuple : FnScope ["value", "least", "most"] ["value", "least", "most"] (defScope s_is_tuple) := ⟨rfl, rfl, rfl, by decide +kernel, rfl, by decide +kernel, by decide +kernel⟩
abbrev s_are_options : Stmt := topS 59
theorem sc_are_options : FnScope ["value", "option"] ["value"] (defScope s_are_options) := ⟨rfl, rfl, rfl, by decide +kernel, rfl, by decide +kernel, by decide +kernel⟩
abbrev s_are_keys : Stmt := topS 60
theorem sc_are_keys : FnScope ["fields", "value", "key"] ["fields", "value"] (defScope s_are_keys) := ⟨rfl, rfl, rfl, by decide +kernel, rfl, by decide +kernel, by decide +kernel⟩
abbrev s_is_key : Stmt := topS 61
theorem sc_is_key : FnScope ["fields", "value"] ["fields", "value"] (defScope s_is_key) := ⟨rfl, rfl, rfl, by decide +kernel, rfl, by decide +kernel, by decide +kernel⟩
abbrev s_is_test : Stmt := topS 62
theorem sc_is_test : FnScope ["fields", "value"] ["fields", "value"] (defScope s_is_test) := ⟨rfl, rfl, rfl, by decide +kernel, rfl, by decide +kernel, by decide +kernel⟩
abbrev s_is_step : Stmt := topS 63
theorem sc_is_step : FnScope ["fields", "value"] ["fields", "value"] (defScope s_is_step) := ⟨rfl, rfl, rfl, by decide +kernel, rfl, by decide +kernel, by decide +kernel⟩
abbrev s_options_of : Stmt := topS 64
theorem sc_options_of : FnScope ["fields", "name", "known", "options"] ["fields", "name"] (defScope s_options_of) := ⟨rfl, rfl, rfl, by decide +kernel, rfl, by decide +kernel, by decide +kernel⟩
abbrev s_Rulebook__init : Stmt := inClass (topS 70) 3
theorem sc_Rulebook__init : FnScope ["self", "fields", "ties", "kinds", "wrong"] ["self", "fields", "ties", "kinds"] (defScope s_Rulebook__init) := ⟨rfl, rfl, rfl, by decide +kernel, rfl, by decide +kernel, by decide +kernel⟩
abbrev s_Rulebook_all_values : Stmt := inClass (topS 70) 11
theorem sc_Rulebook_all_values : FnScope ["self"] ["self"] (defScope s_Rulebook_all_values) := ⟨rfl, rfl, rfl, by decide +kernel, rfl, by decide +kernel, by decide +kernel⟩
abbrev s_first_wrong : Stmt := topS 71
theorem sc_first_wrong : FnScope ["items", "fits", "position", "item"] ["items", "fits"] (defScope s_first_wrong) := ⟨rfl, rfl, rfl, by decide +kernel, rfl, by decide +kernel, by decide +kernel⟩
abbrev s_l_bag : Stmt := topS 75
theorem sc_l_bag : FnScope ["_law_script", "_law_seed", "_law_cell"] ["_law_script"] (defScope s_l_bag) := ⟨rfl, rfl, rfl, by decide +kernel, rfl, by decide +kernel, by decide +kernel⟩
abbrev s_l_draw : Stmt := topS 76
theorem sc_l_draw : FnScope ["_law_bag_here", "_law_many", "_law_cell", "_law_found", "_law_old"] ["_law_bag_here", "_law_many"] (defScope s_l_draw) := ⟨rfl, rfl, rfl, by decide +kernel, rfl, by decide +kernel, by decide +kernel⟩
abbrev s_l_any : Stmt := topS 77
theorem sc_l_any : FnScope ["_law_bag_here", "_law_row"] ["_law_bag_here", "_law_row"] (defScope s_l_any) := ⟨rfl, rfl, rfl, by decide +kernel, rfl, by decide +kernel, by decide +kernel⟩
abbrev s_l_mixed : Stmt := topS 78
theorem sc_l_mixed : FnScope ["_law_bag_here", "_law_row", "_law_found", "_law_item"] ["_law_bag_here", "_law_row"] (defScope s_l_mixed) := ⟨rfl, rfl, rfl, by decide +kernel, rfl, by decide +kernel, by decide +kernel⟩
abbrev s_l_like : Stmt := topS 79
theorem sc_l_like : FnScope ["_law_found", "_law_due", "_law_key", "_law_one", "_law_other"] ["_law_found", "_law_due"] (defScope s_l_like) := ⟨rfl, rfl, rfl, by decide +kernel, rfl, by decide +kernel, by decide +kernel⟩
abbrev s_l_given : Stmt := topS 80
theorem sc_l_given : FnScope ["_law_e"] ["_law_e"] (defScope s_l_given) := ⟨rfl, rfl, rfl, by decide +kernel, rfl, by decide +kernel, by decide +kernel⟩
abbrev s_l_try : Stmt := topS 81
theorem sc_l_try : FnScope ["_law_ask", "_law_found", "_law_e"] ["_law_ask"] (defScope s_l_try) := ⟨rfl, rfl, rfl, by decide +kernel, rfl, by decide +kernel, by decide +kernel⟩
abbrev s_l_words : Stmt := topS 82
theorem sc_l_words : FnScope ["_law_bag_here", "_law_many", "_law_tail", "_law_at", "_law_start", "_law_letters", "_law_k"] ["_law_bag_here", "_law_many"] (defScope s_l_words) := ⟨rfl, rfl, rfl, by decide +kernel, rfl, by decide +kernel, by decide +kernel⟩
abbrev s_l_options : Stmt := topS 83
theorem sc_l_options : FnScope ["_law_bag_here", "_law_many", "_law_pool"] ["_law_bag_here", "_law_many"] (defScope s_l_options) := ⟨rfl, rfl, rfl, by decide +kernel, rfl, by decide +kernel, by decide +kernel⟩
abbrev s_l_fields : Stmt := topS 84
theorem sc_l_fields : FnScope ["_law_bag_here", "_law_room", "_law_names", "_law_found", "_law_left", "_law_k", "_law_many"] ["_law_bag_here", "_law_room"] (defScope s_l_fields) := ⟨rfl, rfl, rfl, by decide +kernel, rfl, by decide +kernel, by decide +kernel⟩
abbrev s_l_case : Stmt := topS 85
theorem sc_l_case : FnScope ["_law_bag_here", "_law_fields_here", "_law_tests", "_law_steps", "_law_k", "_law_name", "_law_options_here"] ["_law_bag_here", "_law_fields_here"] (defScope s_l_case) := ⟨rfl, rfl, rfl, by decide +kernel, rfl, by decide +kernel, by decide +kernel⟩
abbrev s_l_program : Stmt := topS 86
theorem sc_l_program : FnScope ["_law_bag_here", "_law_fields_here", "_law_most", "_law_k"] ["_law_bag_here", "_law_fields_here", "_law_most"] (defScope s_l_program) := ⟨rfl, rfl, rfl, by decide +kernel, rfl, by decide +kernel, by decide +kernel⟩
abbrev s_l_value : Stmt := topS 87
theorem sc_l_value : FnScope ["_law_bag_here", "_law_fields_here", "_law_name", "_law_options_here"] ["_law_bag_here", "_law_fields_here"] (defScope s_l_value) := ⟨rfl, rfl, rfl, by decide +kernel, rfl, by decide +kernel, by decide +kernel⟩
abbrev s_l_keys : Stmt := topS 88
theorem sc_l_keys : FnScope ["_law_bag_here", "_law_fields_here", "_law_chosen", "_law_name", "_law_options_here"] ["_law_bag_here", "_law_fields_here"] (defScope s_l_keys) := ⟨rfl, rfl, rfl, by decide +kernel, rfl, by decide +kernel, by decide +kernel⟩
abbrev s_l_kinds : Stmt := topS 89
theorem sc_l_kinds : FnScope ["_law_bag_here", "_law_fields_here", "_law_most", "_law_names", "_law_found", "_law_k", "_law_taking", "_law_birth"] ["_law_bag_here", "_law_fields_here", "_law_most"] (defScope s_l_kinds) := ⟨rfl, rfl, rfl, by decide +kernel, rfl, by decide +kernel, by decide +kernel⟩
abbrev s_l_book : Stmt := topS 90
theorem sc_l_book : FnScope ["_law_bag_here", "_law_room", "_law_most", "_law_fields_here", "_law_names", "_law_ties_z", "_law_k"] ["_law_bag_here", "_law_room", "_law_most"] (defScope s_l_book) := ⟨rfl, rfl, rfl, by decide +kernel, rfl, by decide +kernel, by decide +kernel⟩
abbrev s_l_values : Stmt := topS 91
theorem sc_l_values : FnScope ["_law_fields_here", "_law_found", "_law_name", "_law_options_here", "_law_longer", "_law_value_here", "_law_option"] ["_law_fields_here"] (defScope s_l_values) := ⟨rfl, rfl, rfl, by decide +kernel, rfl, by decide +kernel, by decide +kernel⟩
abbrev s_l_odd_field : Stmt := topS 92
theorem sc_l_odd_field : FnScope ["_law_bag_here", "_law_fields_here", "_law_name", "_law_odd"] ["_law_bag_here", "_law_fields_here"] (defScope s_l_odd_field) := ⟨rfl, rfl, rfl, by decide +kernel, rfl, by decide +kernel, by decide +kernel⟩
abbrev s_l_odd_case : Stmt := topS 93
theorem sc_l_odd_case : FnScope ["_law_bag_here", "_law_fields_here", "_law_name", "_law_options_here", "_law_odd"] ["_law_bag_here", "_law_fields_here"] (defScope s_l_odd_case) := ⟨rfl, rfl, rfl, by decide +kernel, rfl, by decide +kernel, by decide +kernel⟩
abbrev s_l_odd_tie : Stmt := topS 94
theorem sc_l_odd_tie : FnScope ["_law_bag_here", "_law_m", "_law_good", "_law_odd"] ["_law_bag_here", "_law_m"] (defScope s_l_odd_tie) := ⟨rfl, rfl, rfl, by decide +kernel, rfl, by decide +kernel, by decide +kernel⟩
abbrev s_l_odd_kind : Stmt := topS 95
theorem sc_l_odd_kind : FnScope ["_law_bag_here", "_law_m", "_law_name", "_law_options_here", "_law_value_here", "_law_odd"] ["_law_bag_here", "_law_m"] (defScope s_l_odd_kind) := ⟨rfl, rfl, rfl, by decide +kernel, rfl, by decide +kernel, by decide +kernel⟩
abbrev s_l_bounds_so : Stmt := topS 96
theorem sc_l_bounds_so : FnScope ["_law_two", "_law_six", "_law_wide", "_law_far", "_law_names", "_law_t", "_law_s", "_law_asks", "_law_due", "_law_name", "_law_ask"] [] (defScope s_l_bounds_so) := ⟨rfl, rfl, rfl, by decide +kernel, rfl, by decide +kernel, by decide +kernel⟩
abbrev s_law : Stmt := topS 97
theorem sc_law : FnScope ["_law_script", "_law_bag_here", "_law_turn", "_law_m", "_law_spots", "_law_part", "_law_bad", "_law_wrong", "_law_spot", "_law_odd", "_law_asks", "_law_due", "_law_ask"] ["_law_script"] (defScope s_law) := ⟨rfl, rfl, rfl, by decide +kernel, rfl, by decide +kernel, by decide +kernel⟩
end Bh

set_option Elab.async false
set_option linter.all false
set_option maxRecDepth 100000
set_option maxHeartbeats 4000000
set_option synthInstance.maxSize 10000
set_option synthInstance.maxHeartbeats 400000
namespace Bh
open PySem PySem.Spec PyProof.Rows L2
def hFn0 : List He.DefD := [dd "copy_of" s_copy_of, dd "is_name" s_is_name, dd "is_option" s_is_option, dd "_is_word" s_is_word, dd "field_fits" s_field_fits, dd "tie_fits" s_tie_fits, dd "kind_fits" s_kind_fits, dd "name_fits" s_name_fits, dd "names_of" s_names_of, dd "is_program" s_is_program, dd "is_case" s_is_case, dd "is_holding" s_is_holding, dd "is_value" s_is_value, dd "values_of" s_values_of, dd "_is_tuple" s_is_tuple, dd "_are_options" s_are_options, dd "_are_keys" s_are_keys, dd "_is_key" s_is_key]
def hFn1 : List He.DefD := [dd "_is_test" s_is_test, dd "_is_step" s_is_step, dd "_options_of" s_options_of, dd "_first_wrong" s_first_wrong, dd "_law_bag" s_l_bag, dd "_law_draw" s_l_draw, dd "_law_any" s_l_any, dd "_law_mixed" s_l_mixed, dd "_law_like" s_l_like, dd "_law_given" s_l_given, dd "_law_try" s_l_try, dd "_law_words" s_l_words, dd "_law_options" s_l_options, dd "_law_fields" s_l_fields, dd "_law_case" s_l_case, dd "_law_program" s_l_program, dd "_law_value" s_l_value, dd "_law_keys" s_l_keys]
def hFn2 : List He.DefD := [dd "_law_kinds" s_l_kinds, dd "_law_book" s_l_book, dd "_law_values" s_l_values, dd "_law_odd_field" s_l_odd_field, dd "_law_odd_case" s_l_odd_case, dd "_law_odd_tie" s_l_odd_tie, dd "_law_odd_kind" s_l_odd_kind, dd "_law_bounds_so" s_l_bounds_so, dd "law" s_law, dm "InvalidField" "__init__" "InvalidField.__init__" s_InvalidField__init, dm "InvalidTie" "__init__" "InvalidTie.__init__" s_InvalidTie__init, dm "InvalidKind" "__init__" "InvalidKind.__init__" s_InvalidKind__init, dm "Rulebook" "all_values" "Rulebook.all_values" s_Rulebook_all_values, dm "Rulebook" "__init__" "Rulebook.__init__" s_Rulebook__init]
def hFn : List He.DefD := hFn0 ++ hFn1 ++ hFn2
def hFa0 : List He.Fa := [.glo "copy_of", .glo "is_name", .glo "is_option", .glo "_is_word", .glo "field_fits", .glo "tie_fits", .glo "kind_fits", .glo "name_fits", .glo "names_of", .glo "is_program", .glo "is_case", .glo "is_holding", .glo "is_value", .glo "values_of", .glo "_is_tuple", .glo "_are_options", .glo "_are_keys", .glo "_is_key"]
def hFa1 : List He.Fa := [.glo "_is_test", .glo "_is_step", .glo "_options_of", .glo "_first_wrong", .glo "_law_bag", .glo "_law_draw", .glo "_law_any", .glo "_law_mixed", .glo "_law_like", .glo "_law_given", .glo "_law_try", .glo "_law_words", .glo "_law_options", .glo "_law_fields", .glo "_law_case", .glo "_law_program", .glo "_law_value", .glo "_law_keys"]
def hFa2 : List He.Fa := [.glo "_law_kinds", .glo "_law_book", .glo "_law_values", .glo "_law_odd_field", .glo "_law_odd_case", .glo "_law_odd_tie", .glo "_law_odd_kind", .glo "_law_bounds_so", .glo "law", .free "all", .free "dict", .free "isinstance", .free "len", .free "list", .free "max", .free "min", .free "range", .free "sorted"]
def hFa3 : List He.Fa := [.free "tuple", .free "int", .free "zip", .free "bool", .free "str", .free "set", .free "enumerate", .free "repr", .str "LETTERS" "abcdefghijklmnopqrstuvwxyz", .str "LETTERS_AND_DIGITS" "abcdefghijklmnopqrstuvwxyz0123456789", .int "LONGEST" 8, .glo "SIGNS", .str "NEXT" "+", .int "MOST_ITEMS" 6, .int "LEAST_OPTIONS" 2, .int "MOST_OPTIONS" 6, .int "MOST_FIELDS" 3, .int "MOST_VALUES" 24]
def hFa4 : List He.Fa := [.int "MOST_CASES" 8, .int "MOST_TIES" 4, .int "MOST_KINDS" 3, .glo "DIRECTIONS", .glo "InvalidField", .glo "InvalidTie", .glo "InvalidKind", .glo "BestError", .glo "Missing", .glo "Rulebook", .cls "Rulebook", .mkr "Rulebook", .noat "Rulebook" "_fields", .noat "Rulebook" "_ties", .noat "Rulebook" "_kinds", .meth "Rulebook" "all_values"]
def hFa : List He.Fa := hFa0 ++ hFa1 ++ hFa2 ++ hFa3 ++ hFa4
def hTf : List He.Defn := [("Rulebook", some "__init__"), ("_law_bounds_so", none), ("law", none)]
abbrev ExF0 (K : PySem.W.Frag) : Prop := (He.tupB K "SIGNS" [.str "=", .str "!", .str "<", .str ">"] = true) ∧
  (He.tupB K "DIRECTIONS" [.str "+", .str "-"] = true) ∧
  (ExcP K "InvalidField" veB "ValueError.__new__") ∧
  (ExcI K "InvalidField") ∧
  (PySem.W.findIn K (.ref (He.ga K "InvalidField")) "code" = some none) ∧
  (PySem.W.findIn K (.ref (He.ga K "InvalidField")) "position" = some none) ∧
  (PySem.W.exmAny K (.ref (He.ga K "InvalidField")) [.ref (He.ga K "BestError"), .ref (He.ga K "Missing")] = some true) ∧
  (ExcP K "InvalidTie" veB "ValueError.__new__") ∧
  (ExcI K "InvalidTie") ∧
  (PySem.W.findIn K (.ref (He.ga K "InvalidTie")) "code" = some none) ∧
  (PySem.W.findIn K (.ref (He.ga K "InvalidTie")) "position" = some none) ∧
  (PySem.W.exmAny K (.ref (He.ga K "InvalidTie")) [.ref (He.ga K "BestError"), .ref (He.ga K "Missing")] = some true)
abbrev ExF1 (K : PySem.W.Frag) : Prop := (ExcP K "InvalidKind" veB "ValueError.__new__") ∧
  (ExcI K "InvalidKind") ∧
  (PySem.W.findIn K (.ref (He.ga K "InvalidKind")) "code" = some none) ∧
  (PySem.W.findIn K (.ref (He.ga K "InvalidKind")) "position" = some none) ∧
  (PySem.W.exmAny K (.ref (He.ga K "InvalidKind")) [.ref (He.ga K "BestError"), .ref (He.ga K "Missing")] = some true) ∧
  (ClsP K "Rulebook") ∧
  ((He.cT K ("Rulebook", some "__init__")).2 ≠ (He.cT K ("_law_bounds_so", none)).2) ∧
  ((He.cT K ("Rulebook", some "__init__")).2 ≠ (He.cT K ("law", none)).2) ∧
  ((He.cT K ("_law_bounds_so", none)).2 ≠ (He.cT K ("law", none)).2)
def hEx (K : PySem.W.Frag) : Bool := decide (ExF0 K) && decide (ExF1 K)
theorem hEx_of {K : PySem.W.Frag} (e : hEx K = true) : ExF0 K ∧ ExF1 K := by
  unfold hEx at e
  simpa only [Bool.and_eq_true, decide_eq_true_eq, and_assoc] using e
abbrev hR : PySem.W.OpenRow := PySem.W.OpenLaw.row PySem.Challenge.rw_bestheard_k06_rulebooks_refused
abbrev hHk : PySem.W.Hook := hookY hFa hFn [] hTf hEx
def hOb (s : PySem.W.SharedT) : He.AlX := obsY hFa hFn [] hTf hEx (HandSHeadRun.getT s)
theorem hOb_eq (s : PySem.W.SharedT) : hOb s = hHk.obs s.abs := obsY_eq (HandSHeadRun.getT_eq s)
def hLo0 : List Str := ["_wall", "__name__", "copy_of", "__name__", "BestError", "Missing", "InvalidField", "InvalidTie", "InvalidKind", "InvalidHolding", "InvalidRulebook", "UnknownKind", "UnknownTie", "__name__", "LETTERS", "LETTERS_AND_DIGITS", "LONGEST", "is_name"]
def hLo1 : List Str := ["is_option", "_is_word", "__name__", "SIGNS", "NEXT", "MOST_ITEMS", "case_text", "_tests_text", "_steps_text", "_step_text", "read_case", "_read_tests", "_read_steps", "_all_read", "_read_test", "_read_step", "applied", "_test_holds"]
def hLo2 : List Str := ["_after_steps", "_next_option", "_position", "__name__", "LEAST_OPTIONS", "MOST_OPTIONS", "MOST_FIELDS", "MOST_VALUES", "MOST_CASES", "MOST_TIES", "MOST_KINDS", "DIRECTIONS", "field_fits", "tie_fits", "kind_fits", "name_fits", "names_of", "is_program"]
def hLo3 : List Str := ["is_case", "is_holding", "is_value", "values_of", "_is_tuple", "_are_options", "_are_keys", "_is_key", "_is_test", "_is_step", "_options_of", "__name__", "rulebook_text", "_kind_lines", "Draft", "__name__", "Rulebook", "_first_wrong"]
def hLo4 : List Str := ["_ranks", "_rank", "__name__", "_law_bag", "_law_draw", "_law_any", "_law_mixed", "_law_like", "_law_given", "_law_try", "_law_words", "_law_options", "_law_fields", "_law_case", "_law_program", "_law_value", "_law_keys", "_law_kinds"]
def hLo5 : List Str := ["_law_book", "_law_values", "_law_odd_field", "_law_odd_case", "_law_odd_tie", "_law_odd_kind", "_law_bounds_so"]
def hLo : List Str := hLo0 ++ hLo1 ++ hLo2 ++ hLo3 ++ hLo4 ++ hLo5
set_option maxHeartbeats 0 in
theorem hRun (w : World) : HandSHeadRun.RunEq hR (PySem.W.view hR.prog [97]) hHk hOb 7000 hLo w := by
  intro os
  kernel_rfl
end Bh

set_option Elab.async false
set_option linter.all false
set_option maxRecDepth 100000
namespace Bh
open PySem PySem.Spec PyProof.Rows L2
/-! ### what the laws of this set have in common: constants, defs of the top, the drawing bag -/
section
variable {X : Cx} {x z : Str} {i : Int} {a : Addr} {pos : Pos}
theorem pe_gS (hg : Gl X x) (hm : ∃ t, X.mg x = some (.str z t)) (hd : (x == ("__debug__" : Str)) = false := by decide) : PE X (.Name x pos) (tC (.str z)) := by
  obtain ⟨t, hm⟩ := hm
  exact pe_glob hg hm ⟨t, rfl⟩ hd
theorem pe_gI (hg : Gl X x) (hm : ∃ t, X.mg x = some (.int i t)) (hd : (x == ("__debug__" : Str)) = false := by decide) : PE X (.Name x pos) (tC (.int i)) := by
  obtain ⟨t, hm⟩ := hm
  exact pe_glob hg hm ⟨t, rfl⟩ hd
theorem pe_gR (hg : Gl X x) (hm : X.mg x = some (.ref a)) (hd : (x == ("__debug__" : Str)) = false := by decide) : PE X (.Name x pos) (tC (.ref a)) :=
  pe_glob hg hm rfl hd
end
theorem pe_tyN {X : Cx} {x : Str} {pos : Pos} (n : String) (hg : Gl X x) (hm : X.mg x = none) (hv : bootBuiltins x = some (.type n)) (hnn : x ≠ "__name__" := by decide) (hdb : (x == ("__debug__" : Str)) = false := by decide) : PE X (.Name x pos) (tC (.ty n)) := pe_bltn hg hm hv rfl hnn hdb
/-- a def of the top: where it stands, what its name holds, how it binds -/
structure Df (K : PySem.W.Frag) (mg : Str → Option Value) (x : Str) (st : Stmt) (ps : List Str) (f : Addr) (fd : FuncData) : Prop where
  F : Fun K x x st f fd
  g : mg x = some (.ref f)
  b : Binds K fd ps []
theorem Df.kp {K : PySem.W.Frag} {mg : Str → Option Value} {x : Str} {st : Stmt} {ps : List Str} {f : Addr} {fd : FuncData} (d : Df K mg x st ps f fd) : PySem.W.keepIn K (.ref f) = true := d.F.kp
theorem same_new {H : Hp} {p : Addr} {o : HO} (h : H p = none) : Same H (upd H p o) := fun b u e => by
  rw [upd_ne (ne_of_none e h)]
  exact e
theorem Same.tup {K : PySem.W.Frag} {H H' : Hp} {a : Addr} {xs : List V} (e : Same H H') (h : SqT K H a xs) : SqT K H' a xs := by
  rcases h with (h | ⟨o, h⟩) | h
  · exact .inl (.inl (e _ _ h))
  · exact .inl (.inr ⟨o, e _ _ h⟩)
  · exact .inr h
/-- the bag of a law: the script's ints at l, how many are taken, what is left of a great one, the seed -/
def BagAt (b l : Addr) (H : Hp) : Prop := ∃ (ns : List Int) (i c s : Int), H b = some (.lst [.ref l, .int i, .int c, .int s]) ∧ H l = some (.lst (ns.map V.int)) ∧ ns.length ≤ 63 ∧ 0 ≤ i ∧ i ≤ (ns.length : Int) ∧ 0 ≤ c ∧ 0 ≤ s ∧ s < 2147483647
/-- G: all that is known apart from the bag at b, l -/
structure Wd (b l : Addr) (G H : Hp) : Prop where
  nb : G b = none
  nl : G l = none
  sm : Same G H
  bag : BagAt b l H
section
variable {b l p q : Addr} {G G' H H' : Hp} {o o' : HO}
theorem BagAt.b_some (h : BagAt b l H) : ∃ o, H b = some o := by
  obtain ⟨_, _, _, _, h, _⟩ := h
  exact ⟨_, h⟩
theorem BagAt.l_some (h : BagAt b l H) : ∃ o, H l = some o := by
  obtain ⟨_, _, _, _, _, h, _⟩ := h
  exact ⟨_, h⟩
theorem BagAt.same (h : BagAt b l H) (e : Same H H') : BagAt b l H' := by
  obtain ⟨ns, i, c, s, h1, h2, r⟩ := h
  exact ⟨ns, i, c, s, e _ _ h1, e _ _ h2, r⟩
theorem Wd.b_ne (w : Wd b l G H) (hp : H p = none) : p ≠ b := fun z => by
  obtain ⟨o, e⟩ := w.bag.b_some
  rw [← z, hp] at e
  cases e
theorem Wd.l_ne (w : Wd b l G H) (hp : H p = none) : p ≠ l := fun z => by
  obtain ⟨o, e⟩ := w.bag.l_some
  rw [← z, hp] at e
  cases e
theorem Wd.same (w : Wd b l G H) (e : Same H H') : Wd b l G H' := ⟨w.nb, w.nl, w.sm.trans e, w.bag.same e⟩
/-- a new object -/
theorem Wd.new (w : Wd b l G H) (hp : H p = none) : Wd b l (upd G p o) (upd H p o) := by
  refine ⟨?_, ?_, fun a u e => ?_, w.bag.same (same_new hp)⟩
  · rw [upd_ne (w.b_ne hp).symm]
    exact w.nb
  · rw [upd_ne (w.l_ne hp).symm]
    exact w.nl
  · by_cases h : a = p
    · rw [h, upd_same] at e ⊢
      exact e
    · rw [upd_ne h] at e ⊢
      exact w.sm _ _ e
theorem Wd.free (w : Wd b l G H) (hp : H p = none) : G p = none := w.sm.free hp
theorem Wd.sameG (w : Wd b l G H) (hp : H p = none) : Same G (upd G p o) := same_new (w.free hp)
/-- an object that is known changes -/
theorem Wd.mut (w : Wd b l G H) (hq : G q = some o) : Wd b l (upd G q o') (upd H q o') := by
  have nb : q ≠ b := fun z => by
    rw [z, w.nb] at hq
    cases hq
  have nl : q ≠ l := fun z => by
    rw [z, w.nl] at hq
    cases hq
  obtain ⟨ns, i, c, s, h1, h2, r⟩ := w.bag
  refine ⟨?_, ?_, fun a u e => ?_, ns, i, c, s, ?_, ?_, r⟩
  · rw [upd_ne nb.symm]
    exact w.nb
  · rw [upd_ne nl.symm]
    exact w.nl
  · by_cases h : a = q
    · rw [h, upd_same] at e ⊢
      exact e
    · rw [upd_ne h] at e ⊢
      exact w.sm _ _ e
  · rw [upd_ne nb.symm]
    exact h1
  · rw [upd_ne nl.symm]
    exact h2
/-- what a def leaves that knows nothing of the bag: G' has more, new things -/
theorem Wd.grow (w : Wd b l G H) (e : Same H H') (g : Same G' H') (n : ∀ a o, G' a = some o → G a = none → H a = none) : Wd b l G' H' := by
  have key : ∀ a, G a = none → (∃ o, H a = some o) → G' a = none := fun a ha ⟨o, ho⟩ => by
    cases q : G' a with
    | none => rfl
    | some u =>
      have z := n a u q ha
      rw [ho] at z
      cases z
  exact ⟨key _ w.nb w.bag.b_some, key _ w.nl w.bag.l_some, g, w.bag.same e⟩
/-- the bag alone changes -/
theorem Wd.bagged (w : Wd b l G H) (h : BagAt b l (upd H b o)) : Wd b l G (upd H b o) := by
  refine ⟨w.nb, w.nl, fun a u e => ?_, h⟩
  rw [upd_ne (ne_of_none e w.nb)]
  exact w.sm _ _ e
end
theorem p31 : (0 : Int) < 2147483647 := by decide
theorem p8117 : (0 : Int) < 8117 := by decide
/-! ### the promises of the bag's defs -/
def spBag (K : PySem.W.Frag) : Sp := fun vs H Q _ => ∃ (a : Addr) (ns : List Int), vs = [.ref a] ∧ SqL K H a (ns.map V.int) ∧ ns.length ≤ 63 ∧ ∀ (b l : Addr) (H' : Hp), H b = none → H l = none → Same H H' → BagAt b l H' → Q (.ref b) H'
def spDraw : Sp := fun vs H Q _ => ∃ (b l : Addr) (G : Hp) (n : Int), vs = [.ref b, .int n] ∧ 0 < n ∧ n < 1073741824 ∧ Wd b l G H ∧ ∀ (r : Int) (H' : Hp), 0 ≤ r → r < n → Wd b l G H' → Q (.int r) H'
/-- the same, by what any def that draws may lean on -/
theorem wd_start {b l : Addr} {H H' : Hp} (hb : H b = none) (hl : H l = none) (e : Same H H') (h : BagAt b l H') : Wd b l H H' := ⟨hb, hl, e, h⟩
theorem get_map {ns : List Int} {i : Nat} {v : V} (h : (ns.map V.int)[i]? = some v) : ∃ z, ns[i]? = some z ∧ v = .int z := by
  rw [List.getElem?_map] at h
  cases e : ns[i]? with
  | none =>
    rw [e] at h
    cases h
  | some z =>
    rw [e] at h
    exact ⟨z, rfl, (Option.some.inj h).symm⟩
theorem at_nn {α : Type} {xs : List α} {i : Int} {v : α} (h0 : 0 ≤ i) (h : xs[i.toNat]? = some v) : atI xs i = some v := by
  have e : i = ((i.toNat : Nat) : Int) := by omega
  rw [e]
  exact atI_nat h
theorem at_lt {α : Type} {xs : List α} {i : Int} (h0 : 0 ≤ i) (h1 : i < (xs.length : Int)) : ∃ v, atI xs i = some v ∧ v ∈ xs := by
  have h : i.toNat < xs.length := by omega
  exact ⟨xs[i.toNat], at_nn h0 (List.getElem?_eq_getElem h), List.getElem_mem h⟩
end Bh

set_option Elab.async false
set_option linter.all false
set_option maxRecDepth 100000
namespace Bh
open PySem PySem.Spec PyProof.Rows L2
/-! ### one of two rules -/
section
variable {X : Cx}
theorem pe_or {e : Expr} {t u : TE} (h1 : PE X e t) (h2 : PE X e u) : PE X e (fun σ H Q => t σ H Q ∨ u σ H Q) :=
  ⟨fun pins s σ H Q I h => h.elim (h1.run pins s σ H Q I) (h2.run pins s σ H Q I)⟩
theorem pi_or {tg it : Expr} {w v : TI} (h1 : PI X tg it w) (h2 : PI X tg it v) : PI X tg it (fun σ H R => w σ H R ∨ v σ H R) :=
  ⟨fun pins s σ H R I h => h.elim (h1.run pins s σ H R I) (h2.run pins s σ H R I)⟩
/-- a list or a tuple -/
theorem pi_seq {tg l : Expr} {tl : TE} (hl : PE X l tl) : PI X tg l (fun σ H R => iList X.K tl σ H R ∨ iTup X.K tl σ H R) := pi_or (pi_list hl) (pi_tup hl)
/-- f(k = v, ..) -/
theorem pe_callN0 {CX : CXT} {k : Nat} {f : Addr} {fd : FuncData} {ps ks : List Str} {sp : Sp} {E : XK} {x : Str} {p pos : Pos} {kws : List Keyword} {tk : TA} {g : List Value → List Value → List Value} {gV : List V → List V → List V}
    (F : FnOk X.prog X.w X.K X.mg X.base CX k f fd ps sp) (hr : Room k X.A) (hg : Gl X x) (hm : X.mg x = some (.ref f)) (hk : PySem.W.keepIn X.K (.ref f) = true) (hb : KBn X.K fd ps 0 ks g gV) (hx : Passes CX X E)
    (hkw : PK X kws tk) (hall : (backToKw pos (keywordEach kws X.env)).all (·.1.isSome) = true := by rfl) (hks : (backToKw pos (keywordEach kws X.env)).filterMap (·.1) = ks := by rfl)
    (hdb : (x == ("__debug__" : Str)) = false := by decide) (hpl : ((backTo pos (starEach [] X.env)).any (·.1) || (backToKw pos (keywordEach kws X.env)).any (·.1.isNone)) = false := by rfl) :
    PE X (.Call (.Name x p) [] kws pos) (tCallN 0 ks.length sp gV E tNil tk) := by
  refine ⟨fun pins s σ H Q I h => ?_⟩
  refine wpAny_Call_Name_kw (ld_glob I hg hm ?_ hdb)
  refine PySem.W.callWith_KW0 (h₀ := X.base) I.ok.mod.kin hk hall ?_ hpl
  refine thn (hkw.run pos pins s σ H _ I h) fun ws s2 ⟨zs, H2, I2, rz, l1, l2, q2⟩ => ⟨I2.kIn, ?_⟩
  rw [hks]
  exact run_fnN (us := []) (vs := []) F hr hb hx I2 .nil rz rfl l2 q2
end
/-! ### data of any depth -/
section
variable {K : PySem.W.Frag} {H H' : Hp} {v x y : V} {xs ys : List V} {d e : PyData} {ds es : List PyData} {a : Addr}
mutual
theorem Dp.mono (g : Same H H') : ∀ {v : V} {d : PyData}, Dp K H v d → Dp K H' v d
  | _, _, .non => .non
  | _, _, .bl b => .bl b
  | _, _, .int i => .int i
  | _, _, .str x => .str x
  | _, _, .lst h all => .lst (g.seq h) (DpAll.mono g all)
  | _, _, .tup h all => .tup (Same.tup g h) (DpAll.mono g all)
theorem DpAll.mono (g : Same H H') : ∀ {vs : List V} {ds : List PyData}, DpAll K H vs ds → DpAll K H' vs ds
  | _, _, .nil => .nil
  | _, _, .cons h t => .cons (Dp.mono g h) (DpAll.mono g t)
end
theorem DpAll.length : ∀ {xs : List V} {ds : List PyData}, DpAll K H xs ds → xs.length = ds.length
  | _, _, .nil => rfl
  | _, _, .cons _ t => congrArg Nat.succ (DpAll.length t)
theorem DpAll.get : ∀ {xs : List V} {ds : List PyData} {i : Nat} {x : V}, DpAll K H xs ds → xs[i]? = some x → ∃ d, ds[i]? = some d ∧ Dp K H x d
  | _, _, _, _, .nil, e => by simp at e
  | _, _, 0, _, .cons h _, e => by
    simp at e
    subst e
    exact ⟨_, rfl, h⟩
  | _, _, i + 1, x, .cons _ t, e => by
    obtain ⟨d, h1, h2⟩ := DpAll.get (i := i) (x := x) t (by simpa using e)
    exact ⟨d, by simpa using h1, h2⟩
theorem DpAll.getD : ∀ {xs : List V} {ds : List PyData} {i : Nat} {d : PyData}, DpAll K H xs ds → ds[i]? = some d → ∃ x, xs[i]? = some x ∧ Dp K H x d
  | _, _, _, _, .nil, e => by simp at e
  | _, _, 0, _, .cons h _, e => by
    simp at e
    subst e
    exact ⟨_, rfl, h⟩
  | _, _, i + 1, x, .cons _ t, e => by
    obtain ⟨d, h1, h2⟩ := DpAll.getD (i := i) (d := x) t (by simpa using e)
    exact ⟨d, by simpa using h1, h2⟩
theorem DpAll.append : ∀ {xs ys : List V} {ds es : List PyData}, DpAll K H xs ds → DpAll K H ys es → DpAll K H (xs ++ ys) (ds ++ es)
  | _, _, _, _, .nil, k => k
  | _, _, _, _, .cons h t, k => .cons h (DpAll.append t k)
theorem DpAll.take : ∀ {xs : List V} {ds : List PyData} (n : Nat), DpAll K H xs ds → DpAll K H (xs.take n) (ds.take n)
  | _, _, 0, _ => .nil
  | _, _, _ + 1, .nil => .nil
  | _, _, n + 1, .cons h t => .cons h (DpAll.take n t)
theorem DpAll.drop : ∀ {xs : List V} {ds : List PyData} (n : Nat), DpAll K H xs ds → DpAll K H (xs.drop n) (ds.drop n)
  | _, _, 0, h => h
  | _, _, _ + 1, .nil => .nil
  | _, _, n + 1, .cons _ t => DpAll.drop n t
theorem dp_strs : ∀ {xs : List V} {zs : List Str}, DpAll K H xs (zs.map PyData.str) → xs = zs.map V.str
  | _, [], .nil => rfl
  | _, z :: zs, .cons h t => by
    cases h
    rw [dp_strs t]
    rfl
theorem strs_dp : ∀ (zs : List Str), DpAll K H (zs.map V.str) (zs.map PyData.str)
  | [] => .nil
  | z :: zs => .cons (.str z) (strs_dp zs)
theorem dp_str {z : Str} (h : Dp K H v (.str z)) : v = .str z := by
  cases h
  rfl
theorem dp_non (h : Dp K H v .none) : v = .non := by
  cases h
  rfl
theorem dp_tup (h : Dp K H v (.tuple ds)) : ∃ a xs, v = .ref a ∧ SqT K H a xs ∧ DpAll K H xs ds := by
  cases h with
  | tup h1 h2 => exact ⟨_, _, rfl, h1, h2⟩
theorem dp_lst (h : Dp K H v (.list ds)) : ∃ a xs, v = .ref a ∧ SqL K H a xs ∧ DpAll K H xs ds := by
  cases h with
  | lst h1 h2 => exact ⟨_, _, rfl, h1, h2⟩
theorem dpa_cons (h : DpAll K H xs (d :: ds)) : ∃ x r, xs = x :: r ∧ Dp K H x d ∧ DpAll K H r ds := by
  cases h with
  | cons h1 h2 => exact ⟨_, _, rfl, h1, h2⟩
theorem dpa_nil (h : DpAll K H xs []) : xs = [] := by
  cases h
  rfl
/-- a list or a tuple of these -/
def DpS (K : PySem.W.Frag) (H : Hp) (v : V) (ds : List PyData) : Prop := ∃ a xs, v = .ref a ∧ (SqL K H a xs ∨ SqT K H a xs) ∧ DpAll K H xs ds
theorem DpS.mono (g : Same H H') (h : DpS K H v ds) : DpS K H' v ds := by
  obtain ⟨a, xs, e, h1, h2⟩ := h
  exact ⟨a, xs, e, h1.imp g.seq (Same.tup g), DpAll.mono g h2⟩
theorem DpS.ofT (h : Dp K H v (.tuple ds)) : DpS K H v ds := by
  obtain ⟨a, xs, e, h1, h2⟩ := dp_tup h
  exact ⟨a, xs, e, .inr h1, h2⟩
theorem DpS.ofL (h : Dp K H v (.list ds)) : DpS K H v ds := by
  obtain ⟨a, xs, e, h1, h2⟩ := dp_lst h
  exact ⟨a, xs, e, .inl h1, h2⟩
/-- how deep data are -/
inductive Sh : Nat → PyData → Prop
  | non {n : Nat} : Sh n .none
  | bl {n : Nat} {b : Bool} : Sh n (.bool b)
  | int {n : Nat} {i : Int} : Sh n (.int i)
  | str {n : Nat} {z : Str} : Sh n (.str z)
  | lst {n : Nat} {ds : List PyData} (hl : ds.length ≤ 100000) (h : ∀ d ∈ ds, Sh n d) : Sh (n + 1) (.list ds)
  | tup {n : Nat} {ds : List PyData} (hl : ds.length ≤ 100000) (h : ∀ d ∈ ds, Sh n d) : Sh (n + 1) (.tuple ds)
theorem tyL (h : SqL K H a xs) : TyX K H (.ref a) (.type "list") := by
  rcases h with (h | ⟨o, h⟩) | ⟨o, its, n, h1, h2, _⟩
  · exact .base (.lst h)
  · exact .base (.frz h)
  · exact .kList h1 h2
theorem tyT (h : SqT K H a xs) : TyX K H (.ref a) (.type "tuple") := by
  rcases h with (h | ⟨o, h⟩) | ⟨o, its, n, h1, h2, _⟩
  · exact .base (.tup h)
  · exact .fTuple h
  · exact .kTuple h1 h2
/-- the type of data, by its name -/
def tyN : PyData → String
  | .none => "NoneType"
  | .bool _ => "bool"
  | .int _ => "int"
  | .str _ => "str"
  | .list _ => "list"
  | .tuple _ => "tuple"
  | .dict _ => "dict"
theorem tyD (h : Dp K H v d) : TyX K H v (.type (tyN d)) := by
  cases h with
  | non => exact .base .non
  | bl b => exact .base (.bl b)
  | int i => exact .base (.int i)
  | str x => exact .base (.str x)
  | lst h1 h2 => exact tyL h1
  | tup h1 h2 => exact tyT h1
end
/-! ### zip of two tuples, as a walk -/
theorem walk_zipT {K : PySem.W.Frag} {a b : Addr} {xs ys : List V} {n : Nat} (hn : n = min xs.length ys.length) : Walk (RZ.ItzT K a b) n (fun H => SqT K H a xs ∧ SqT K H b ys) (YPair (fun i => xs[i]?) (fun i => ys[i]?)) := by
  subst hn
  refine ⟨fun i _ hi q => ?_, fun _ q => ⟨xs, ys, q.1, q.2, by omega⟩, fun i H v H' _ q y => ?_⟩
  · have h1 : i < xs.length := by omega
    have h2 : i < ys.length := by omega
    exact ⟨xs, ys, xs[i], ys[i], q.1, q.2, by simp [h1], by simp [h2]⟩
  · obtain ⟨T, x, z, h1, h2, h3, h4, h5⟩ := y
    exact ⟨T, x, z, h1, h2, h3, h4 xs q.1, h5 ys q.2⟩
end Bh
namespace Bh
open PySem PySem.Spec PyProof.Rows L2
theorem iteN {p A B : Prop} [Decidable p] (h : ¬ p) (b : B) : if decide p = true then A else B := by
  rw [decide_eq_false h]
  exact iteF b
theorem iteY {p A B : Prop} [Decidable p] (h : p) (a : A) : if decide p = true then A else B := by
  rw [decide_eq_true h]
  exact iteT a
theorem ite3 {p A B : Prop} [Decidable p] (h1 : p → A) (h2 : ¬ p → B) : if decide p = true then A else B := by
  by_cases h : p
  · exact iteY h (h1 h)
  · exact iteN h (h2 h)
/-- the promise of the laws' comparison: both sides are the same data (n: how deep, one more) -/
def spLk (K : PySem.W.Frag) : Nat → Sp
  | 0 => fun _ _ _ _ => False
  | n + 1 => fun vs H Q _ => ∃ (x y : V) (d : PyData), vs = [x, y] ∧ Dp K H x d ∧ Dp K H y d ∧ Sh n d ∧ ∀ H', Same H H' → Q (.bl true) H'
theorem bls_true (n : Nat) : (List.replicate n true).all id = true := by
  induction n with
  | zero => rfl
  | succ n ih => rw [List.replicate_succ, List.all_cons, ih]; rfl
end Bh

set_option Elab.async false
set_option linter.all false
set_option maxRecDepth 100000
namespace Bh
open PySem PySem.Spec PyProof.Rows L2
/-! ### the rules that lean on the written part, told over a named one -/
def rLenS (K : PySem.W.Frag) : List V → Hp → VK → Prop := fun xs H Q => ∃ p ys, xs = [.ref p] ∧ (SqL K H p ys ∨ SqT K H p ys) ∧ Q (.int ys.length) H
def rListOf (K : PySem.W.Frag) : List V → Hp → VK → Prop := fun xs H Q => ∃ p ys, xs = [.ref p] ∧ (SqL K H p ys ∨ SqT K H p ys) ∧ ∀ l, H l = none → Q (.ref l) (upd H l (.lst ys))
def rTupOf (K : PySem.W.Frag) : List V → Hp → VK → Prop := fun xs H Q => ∃ p ys, xs = [.ref p] ∧ ((SqL K H p ys ∧ ∀ l, H l = none → Q (.ref l) (upd H l (.tup ys))) ∨ (SqT K H p ys ∧ Q (.ref p) H))
def rTupIx (K : PySem.W.Frag) : V → List V → Hp → VK → Prop := fun x xs H Q => ∃ p, ∃ ys : List Str, ∃ z j, x = .ref p ∧ xs = [.str z] ∧ SqT K H p (ys.map V.str) ∧ ys[j]? = some z ∧ (∀ m, m < j → ys[m]? ≠ some z) ∧ Q (.int (j : Nat)) H
def rJoin (K : PySem.W.Frag) : V → List V → Hp → VK → Prop := fun x xs H Q => ∃ a p, ∃ ys : List Str, x = .str a ∧ xs = [.ref p] ∧ (SqL K H p (ys.map V.str) ∨ SqT K H p (ys.map V.str)) ∧ (ys.map (·.length)).sum + ys.length * a.length ≤ 16777216 ∧ Q (.str (Txt.join a ys)) H
def iSeq (K : PySem.W.Frag) (tl : TE) : TI := fun σ H R => iList K tl σ H R ∨ iTup K tl σ H R
section
variable {X : Cx} {K : PySem.W.Frag} (hK : X.K = K)
include hK
theorem pg_tup_K {es : List Expr} {k : Nat} {t : TGs} {n : Nat} {pos : Pos} (hc : X.calm = true) (h : PGs X es t) (hn : (assignEach es X.env).length = n := by rfl) (hst : (assignEach es X.env).findIdx? (·.1) = none := by rfl) : PG X (.Tuple es k pos) (gTup K n t) := by
  subst hK
  exact pg_tup hc h hn hst
theorem pi_list_K {tg l : Expr} {tl : TE} (hl : PE X l tl) : PI X tg l (iList K tl) := by subst hK; exact pi_list hl
theorem pi_tup_K {tg l : Expr} {tl : TE} (hl : PE X l tl) : PI X tg l (iTup K tl) := by subst hK; exact pi_tup hl
theorem pi_seq_K {tg l : Expr} {tl : TE} (hl : PE X l tl) : PI X tg l (iSeq K tl) := by subst hK; exact pi_seq hl
theorem pi_zipA_K {e e2 : Expr} {ta : TA} {p pos tpos : Pos} {elts : List Expr} {kk : Nat} (hg : Gl X "zip") (hm : X.mg "zip" = none) (ha : PA X [e, e2] ta)
    (hs : starEach [e, e2] X.env = (false, eval e X.env) :: starEach [e2] X.env := by rfl) (hpl : (backTo pos (starEach [e2] X.env)).any (·.1) = false := by rfl) :
    PI X (.Tuple elts kk tpos) (.Call (.Name "zip" p) [e, e2] [] pos) (RZ.iZipA K ta) := by subst hK; exact RZ.pi_zipA hg hm ha hs hpl
theorem call_len_seq_K : CallR X (.builtin "len") (rLenS K) := by subst hK; exact call_len_seq
theorem call_list_of_K : CallR X (.type "list") (rListOf K) := by subst hK; exact call_list_of
theorem call_tuple_of_K : CallR X (.type "tuple") (rTupOf K) := by subst hK; exact call_tuple_of
theorem ix_list_K : IxR X (rIxL K) := by subst hK; exact ix_list
theorem ix_tup_K : IxR X (rIxT K) := by subst hK; exact ix_tup
theorem ix_seq_K : IxR X (rIx K) := by subst hK; exact ix_seq
theorem sl_list_K : SlR X (rSlL K) := by subst hK; exact sl_list
theorem sl_tupA_K : SlR X (rSlA K) := by subst hK; exact sl_tupA
theorem cr_all_K (hc : X.calm = true) : CallR X (.builtin "all") (rAll K) := by subst hK; exact cr_all hc
theorem cr_any_K (hc : X.calm = true) : CallR X (.builtin "any") (rAny K) := by subst hK; exact cr_any hc
theorem op_in_seq_K : OpR X (compareOp .In) (rIn K false) := by subst hK; exact op_in_seq
theorem op_notIn_seq_K : OpR X (compareOp .NotIn) (rIn K true) := by subst hK; exact op_notIn_seq
theorem op_catA_K : OpR X (binaryOp .Add) (rCatA K) := by subst hK; exact op_catA
theorem op_repT_K : OpR X (binaryOp .Mult) (rRepT K) := by subst hK; exact op_repT
theorem mt_index_K : MtR X "list.index" (rIndex K) := by subst hK; exact mt_index
theorem mt_tup_index_K : MtR X "tuple.index" (rTupIx K) := by subst hK; exact mt_tup_index
theorem mt_join_K : MtR X "str.join" (rJoin K) := by subst hK; exact mt_join
theorem call_isi_K : CallR X (.builtin "isinstance") (rIsi K) := by subst hK; exact call_isi
theorem call_isiT_K : CallR X (.builtin "isinstance") (rIsiT K) := by subst hK; exact call_isiT
theorem op_eqD_K (hu : X.A.units + 64 < cLine) : OpR X (compareOp .Eq) (rEqD K) := by subst hK; exact op_eqD hu
theorem op_neD_K (hu : X.A.units + 64 < cLine) : OpR X (compareOp .NotEq) (rNeD K) := by subst hK; exact op_neD hu
theorem pe_bm_K {o e : Expr} {es : List Expr} {to : TE} {t : TA} {name : Str} {apos cpos : Pos} {T id : String} {r : V → List V → Hp → VK → Prop}
    (pa : PlainAttrs T) (slot : Slot T name id) (hty : typeOf (.builtin id) = pure (.type "method_descriptor")) (hm : MtR X id r) (ho : PE X o to) (ha : PA X (e :: es) t)
    (hbase : attributeBase o name X.env (eval o X.env) = eval o X.env := by rfl)
    (hfew : ((backTo cpos (starEach (e :: es) X.env)).all (fun x => !x.1) && (backToKw cpos (keywordEach [] X.env)).all (fun x => x.1.isSome)
      && decide ((e :: es).length + ([] : List Keyword).length + (if ([] : List Keyword).isEmpty then 0 else 1) < 30)) = true := by rfl)
    (hline : (apos.endLine == cpos.line) = true := by rfl) (hs : starEach (e :: es) X.env = (false, eval e X.env) :: starEach es X.env := by rfl) (hplain : (backTo cpos (starEach es X.env)).any (·.1) = false := by rfl) :
    PE X (.Call (.Attribute o name apos) (e :: es) [] cpos) (tBM K T r to t) := by subst hK; exact pe_bm pa slot hty hm ho ha hbase hfew hline hs hplain
end
section
variable {X : Cx} {K : PySem.W.Frag} {o e : Expr} {to te : TE}
theorem pe_join_K (hK : X.K = K) {apos pos : Pos} (ho : PE X o to) (he : PE X e te) (hs : starEach [e] X.env = [(false, eval e X.env)] := by rfl) (hbase : attributeBase o "join" X.env (eval o X.env) = eval o X.env := by rfl) (hline : (apos.endLine == pos.line) = true := by rfl) :
    PE X (.Call (.Attribute o "join" apos) [e] [] pos) (tM1 (rJoin K) to te) := pe_m1 PySem.F.slot_str_join PySem.F.type_str_join (mt_join_K hK) ho he hs hbase hline
end
end Bh
namespace Bh
open PySem PySem.Spec PyProof.Rows L2
theorem q_eq {x : V} {Q : VK} {H : Hp} (h : Q (.bl true) H) : Q (.bl (decide (x = x))) H := by
  rw [decide_eq_true rfl]
  exact h
theorem dpa_at {K : PySem.W.Frag} {H : Hp} {xs ys : List V} {ds : List PyData} {i : Nat} {x y : V} (hx : DpAll K H xs ds) (hy : DpAll K H ys ds) (ex : xs[i]? = some x) (ey : ys[i]? = some y) : ∃ d ∈ ds, Dp K H x d ∧ Dp K H y d := by
  obtain ⟨d, h1, h2⟩ := DpAll.get hx ex
  obtain ⟨e, h3, h4⟩ := DpAll.get hy ey
  rw [h1] at h3
  cases h3
  exact ⟨d, List.mem_of_getElem? h1, h2, h4⟩
theorem rep_snoc (n : Nat) (v : V) : List.replicate n v ++ [v] = List.replicate (n + 1) v := List.replicate_succ'.symm
theorem lt_line {n : Nat} (h : n ≤ 100000) : n < sizeLine := Nat.lt_of_le_of_lt h (by decide)
theorem le_line {n : Nat} (h : n ≤ 100000) : n ≤ sizeLine := Nat.le_of_lt (lt_line h)
end Bh
namespace Bh
open PySem PySem.Spec PyProof.Rows L2
/-! ### tuples without a dict of their own: their methods -/
def SqP (K : PySem.W.Frag) (H : Hp) (a : Addr) (xs : List V) : Prop := (∃ o : Obj, H a = some (.frz o (.tup xs)) ∧ o.dict = none) ∨
  ∃ (o : Obj) (its : Array Value) (n : Nat), K.lookup a = some o ∧ o.cls = .type "tuple" ∧ o.dict = none ∧ o.data = .seq its n ∧ its.size ≤ sizeLine ∧ Vals xs its.toList
section
variable {K : PySem.W.Frag} {H H' : Hp} {a : Addr} {xs : List V}
theorem SqP.sqT (h : SqP K H a xs) : SqT K H a xs := by
  rcases h with ⟨o, h, _⟩ | ⟨o, its, n, h1, h2, _, h3, h4, h5⟩
  · exact .inl (.inr ⟨o, h⟩)
  · exact .inr ⟨o, its, n, h1, h2, h3, h4, h5⟩
theorem SqP.mono (e : Same H H') (h : SqP K H a xs) : SqP K H' a xs := by
  rcases h with ⟨o, h, h2⟩ | h
  · exact .inl ⟨o, e _ _ h, h2⟩
  · exact .inr h
theorem SqP.new {o : Obj} (h : o.dict = none) : SqP K (upd H a (.frz o (.tup xs))) a xs := .inl ⟨o, upd_same, h⟩
end
def rTupOfP (K : PySem.W.Frag) : List V → Hp → VK → Prop := fun xs H Q => ∃ p ys, xs = [.ref p] ∧ ((SqL K H p ys ∧ ∀ (l : Addr) (o : Obj), H l = none → o.dict = none → Q (.ref l) (upd H l (.frz o (.tup ys)))) ∨ (SqT K H p ys ∧ Q (.ref p) H))
section
variable {X : Cx} {K : PySem.W.Frag}
theorem call_tuple_of_P (hK : X.K = K) : CallR X (.type "tuple") (rTupOfP K) := by
  subst hK
  intro pins s σ H xs us Q I r h
  obtain ⟨p, ys, rfl, h⟩ := h
  obtain ⟨u, rfl, rx⟩ := vals1 r
  cases rx
  rcases h with ⟨hq, q⟩ | ⟨hq, q⟩
  · obtain ⟨its, r', pl, hz⟩ := I.list hq
    have hlen := r'.length
    refine call_tuple_list pl.isList (fun h' kp => ?_) (by simp only [List.size_toArray] <;> omega)
    have I1 : Inv X pins σ H { s with heap := h' } := I.kept (t' := s.toks) kp
    have I2 : Inv X pins σ (upd H h'.objs.size (.frz { cls := .type "tuple", data := .seq its.toArray } (.tup ys))) { s with heap := h'.push { cls := .type "tuple", data := .seq its.toArray } } :=
      I1.laid (t' := s.toks) (fun b o e => Heap.get?_push_of_some _ e) (Nat.le_refl _) (show ObjOk X.prog X.w _ _ _ (.frz { cls := .type "tuple", data := .seq its.toArray } (.tup ys)) from ⟨Heap.get?_push_size _ rfl, hz, its, r', IsTup.new _ _⟩)
    exact ⟨.ref h'.objs.size, _, I2, rfl, q _ _ (I1.hok.fresh (Nat.le_refl _)) rfl⟩
  · obtain ⟨its, r', pl, hz⟩ := I.tuple hq
    exact call_tuple_same pl ⟨.ref p, H, I, rfl, q⟩
def tBMP (K : PySem.W.Frag) (r : V → List V → Hp → VK → Prop) (to : TE) (t : TA) : TE := fun σ H Q => to σ H fun x H1 => (∃ a xs, x = .ref a ∧ SqP K H1 a xs) ∧ t σ H1 fun xs H2 => r x xs H2 Q
theorem pe_bm_P (hK : X.K = K) {o e : Expr} {es : List Expr} {to : TE} {t : TA} {name : Str} {apos cpos : Pos} {id : String} {r : V → List V → Hp → VK → Prop}
    (pa : PlainAttrs "tuple") (slot : Slot "tuple" name id) (hty : typeOf (.builtin id) = pure (.type "method_descriptor")) (hm : MtR X id r) (ho : PE X o to) (ha : PA X (e :: es) t)
    (hbase : attributeBase o name X.env (eval o X.env) = eval o X.env := by rfl)
    (hfew : ((backTo cpos (starEach (e :: es) X.env)).all (fun x => !x.1) && (backToKw cpos (keywordEach [] X.env)).all (fun x => x.1.isSome)
      && decide ((e :: es).length + ([] : List Keyword).length + (if ([] : List Keyword).isEmpty then 0 else 1) < 30)) = true := by rfl)
    (hline : (apos.endLine == cpos.line) = true := by rfl) (hs : starEach (e :: es) X.env = (false, eval e X.env) :: starEach es X.env := by rfl) (hplain : (backTo cpos (starEach es X.env)).any (·.1) = false := by rfl) :
    PE X (.Call (.Attribute o name apos) (e :: es) [] cpos) (tBMP K r to t) := by
  subst hK
  refine ⟨fun pins s σ H Q I h => ?_⟩
  refine wpAny_Call_method_late hbase hfew hline rfl (thn (ho.run pins s σ H _ I h) fun v s1 ⟨x, H1, I1, r1, ty, q1⟩ => ?_)
  have hty2 : s1.TypeIs v "tuple" ∧ ∀ a, v = .ref a → ∃ ob, s1.heap.get? a = some ob ∧ ob.dict = none := by
    obtain ⟨a, xs, rfl, hP⟩ := ty
    cases r1
    obtain ⟨its, _, pl, _⟩ := I1.tuple hP.sqT
    refine ⟨pl.typeIs, fun b e => ?_⟩
    cases e
    rcases hP with ⟨ob, hb, hd⟩ | ⟨ob, its, n, hk, hc, hd, _⟩
    · exact ⟨ob, (I1.hok a _ hb).1, hd⟩
    · exact ⟨ob, I1.kIn a ob hk, hd⟩
  obtain ⟨h1, h2⟩ := hty2
  refine ⟨"tuple", id, pa, slot, hty, h1, h2, ?_⟩
  have hA := ha.run cpos pins s1 σ H1 _ I1 q1
  rw [hs] at hA ⊢
  refine Calls.callWith_builtin (by show (false || (backTo cpos (starEach es X.env)).any (·.1)) = false; rw [hplain] <;> rfl) (Calls.evalArgs_plain ?_)
  exact thn hA fun us s2 ⟨vs, H2, I2, r2, q2⟩ => hm pins s2 σ H2 x vs v us Q I2 r1 r2 q2
end
end Bh
namespace Bh
open PySem PySem.Spec PyProof.Rows L2
/-! ### == and != of data of any texts -/
mutual
theorem Dp.plain {K : PySem.W.Frag} {H : Hp} : ∀ {v : V} {d : PyData}, Dp K H v d → d.plain = true
  | _, _, .non => rfl
  | _, _, .bl _ => rfl
  | _, _, .int _ => rfl
  | _, _, .str _ => rfl
  | _, _, .lst _ all => DpAll.plain all
  | _, _, .tup _ all => DpAll.plain all
theorem DpAll.plain {K : PySem.W.Frag} {H : Hp} : ∀ {vs : List V} {ds : List PyData}, DpAll K H vs ds → PyData.plainAll ds = true
  | _, _, .nil => rfl
  | _, _, .cons h t => by
    show (_ && _) = true
    rw [Dp.plain h, DpAll.plain t]
    rfl
end
def rEqP (K : PySem.W.Frag) : R2 := fun x y H Q => ∃ d e, Dp K H x d ∧ Dp K H y e ∧ min d.depth e.depth ≤ 64 ∧ Q (.bl (PyData.eqv d e)) H
def rNeP (K : PySem.W.Frag) : R2 := fun x y H Q => ∃ d e, Dp K H x d ∧ Dp K H y e ∧ min d.depth e.depth ≤ 64 ∧ Q (.bl (!PyData.eqv d e)) H
section
variable {X : Cx} {K : PySem.W.Frag}
theorem op_eqP (hK : X.K = K) (hu : X.A.units + 64 < cLine) : OpR X (compareOp .Eq) (rEqP K) := by
  subst hK
  intro pins s σ H x y v u Q I rx ry h
  obtain ⟨d, e, hd, he, hz, q⟩ := h
  obtain ⟨as, r1⟩ := Dp.reads I d x v hd rx
  obtain ⟨bs, r2⟩ := Dp.reads I e y u he ry
  exact SeqAt.eq_plain r1 r2 (Dp.plain hd) (Dp.plain he) (by omega) ⟨.bl _, H, I, rfl, q⟩
theorem op_neP (hK : X.K = K) (hu : X.A.units + 64 < cLine) : OpR X (compareOp .NotEq) (rNeP K) := by
  subst hK
  intro pins s σ H x y v u Q I rx ry h
  obtain ⟨d, e, hd, he, hz, q⟩ := h
  obtain ⟨as, r1⟩ := Dp.reads I d x v hd rx
  obtain ⟨bs, r2⟩ := Dp.reads I e y u he ry
  exact SeqAt.ne_plain r1 r2 (Dp.plain hd) (Dp.plain he) (by omega) ⟨.bl _, H, I, rfl, q⟩
end
theorem depth_all {n : Nat} : ∀ {ds : List PyData}, (∀ d ∈ ds, d.depth ≤ n) → PyData.depthAll ds ≤ n
  | [], _ => Nat.zero_le _
  | d :: ds, h => Nat.max_le.mpr ⟨h d (List.mem_cons_self ..), depth_all fun e he => h e (List.mem_cons_of_mem _ he)⟩
theorem Sh.depth {n : Nat} {d : PyData} (h : Sh n d) : d.depth ≤ n := by
  induction h with
  | non => exact Nat.zero_le _
  | bl => exact Nat.zero_le _
  | int => exact Nat.zero_le _
  | str => exact Nat.zero_le _
  | lst _ _ ih => exact Nat.succ_le_succ (depth_all ih)
  | tup _ _ ih => exact Nat.succ_le_succ (depth_all ih)
end Bh
namespace Bh
open PySem PySem.Spec PyProof.Rows L2
theorem seq_mono {K : PySem.W.Frag} {H H' : Hp} {a : Addr} {xs : List V} (e : Same H H') (h : SqL K H a xs ∨ SqT K H a xs) : SqL K H' a xs ∨ SqT K H' a xs := h.imp e.seq (Same.tup e)
/-- a new thing, changed since -/
theorem same_mut {H H' : Hp} {p : Addr} {o : HO} (e : Same H H') (h : H p = none) : Same H (upd H' p o) := fun b u k => by
  rw [upd_ne (ne_of_none k h)]
  exact e _ _ k
theorem Wd.sameH {b l : Addr} {G H : Hp} (w : Wd b l G H) : Same G H := w.sm
end Bh
namespace Bh
open PySem PySem.Spec PyProof.Rows L2
/-! ### a heap without one address -/
def hid (p : Addr) (G : Hp) : Hp := fun a => if a = p then none else G a
section
variable {p q : Addr} {G G' : Hp} {o : HO}
theorem hid_ne (h : q ≠ p) : hid p G q = G q := if_neg h
theorem hid_le : Same (hid p G) G := fun a u e => by
  by_cases h : a = p
  · rw [h] at e
    unfold hid at e
    rw [if_pos rfl] at e
    cases e
  · rw [hid_ne h] at e
    exact e
theorem hid_same (e : Same G G') : Same (hid p G) (hid p G') := fun a u k => by
  by_cases h : a = p
  · rw [h] at k
    unfold hid at k
    rw [if_pos rfl] at k
    cases k
  · rw [hid_ne h] at k ⊢
    exact e _ _ k
theorem hid_upd : hid p (upd G p o) = hid p G := by
  funext a
  by_cases h : a = p
  · unfold hid
    rw [if_pos h, if_pos h]
  · rw [hid_ne h, hid_ne h, upd_ne h]
theorem hid_of (e : Same G G') (h : G p = none) : Same G (hid p G') := fun a u k => by
  rw [hid_ne (ne_of_none k h)]
  exact e _ _ k
theorem hid_comm : hid p (hid q G) = hid q (hid p G) := by
  funext a
  unfold hid
  split <;> split <;> rfl
end
end Bh
namespace Bh
open PySem PySem.Spec PyProof.Rows L2
/-! ### what is no list stays where lists alone change -/
def Imm (H H' : Hp) : Prop := ∀ a u, H a = some u → (∀ xs, u ≠ .lst xs) → H' a = some u
section
variable {H H' H1 : Hp} {a p : Addr} {o : HO} {xs ys : List V} {K : PySem.W.Frag}
theorem Same.imm (e : Same H H') : Imm H H' := fun a u h _ => e a u h
theorem Imm.trans (e : Imm H H1) (f : Imm H1 H') : Imm H H' := fun a u h n => f a u (e a u h n) n
theorem imm_upd (h : H p = some (.lst ys)) : Imm H (upd H p o) := fun a u e n => by
  rw [upd_ne (fun z => by rw [z, h] at e; exact n _ (Option.some.inj e).symm)]
  exact e
theorem Imm.tup (e : Imm H H') (h : SqT K H a xs) : SqT K H' a xs := by
  rcases h with (h | ⟨o, h⟩) | h
  · exact .inl (.inl (e _ _ h (fun _ z => by cases z)))
  · exact .inl (.inr ⟨o, e _ _ h (fun _ z => by cases z)⟩)
  · exact .inr h
theorem Imm.sqp (e : Imm H H') (h : SqP K H a xs) : SqP K H' a xs := by
  rcases h with ⟨o, h, d⟩ | h
  · exact .inl ⟨o, e _ _ h (fun _ z => by cases z), d⟩
  · exact .inr h
end
mutual
def noL : PyData → Bool
  | .none | .bool _ | .int _ | .str _ => true
  | .tuple xs => noLs xs
  | .list _ | .dict _ => false
def noLs : List PyData → Bool
  | [] => true
  | d :: ds => noL d && noLs ds
end
mutual
theorem Dp.imm {K : PySem.W.Frag} {H H' : Hp} (e : Imm H H') : ∀ {v : V} {d : PyData}, noL d = true → Dp K H v d → Dp K H' v d
  | _, _, _, .non => .non
  | _, _, _, .bl b => .bl b
  | _, _, _, .int i => .int i
  | _, _, _, .str x => .str x
  | _, _, n, .lst _ _ => nomatch n
  | _, _, n, .tup h all => .tup (e.tup h) (DpAll.imm e n all)
theorem DpAll.imm {K : PySem.W.Frag} {H H' : Hp} (e : Imm H H') : ∀ {vs : List V} {ds : List PyData}, noLs ds = true → DpAll K H vs ds → DpAll K H' vs ds
  | _, _, _, .nil => .nil
  | _, _, n, .cons h t => .cons (Dp.imm e (Bool.and_eq_true_iff.mp n).1 h) (DpAll.imm e (Bool.and_eq_true_iff.mp n).2 t)
end
theorem noLs_map {α : Type} {f : α → PyData} (h : ∀ x, noL (f x) = true) : ∀ l : List α, noLs (l.map f) = true
  | [] => rfl
  | x :: l => by
    show (noL (f x) && noLs (l.map f)) = true
    rw [h x, noLs_map h l]
    rfl
end Bh

set_option Elab.async false
set_option linter.all false
set_option maxRecDepth 100000
namespace Bh
open PySem PySem.Spec PyProof.Rows L2
/-! ### the mirror of programs applied -/
def ix : List Str → Str → Nat
  | [], _ => 0
  | y :: r, x => if y = x then 0 else ix r x + 1
theorem ix_get : ∀ {l : List Str} {x : Str}, x ∈ l → l[ix l x]? = some x
  | y :: r, x, h => by
    unfold ix
    by_cases e : y = x
    · rw [if_pos e, e]
      rfl
    · rw [if_neg e]
      rcases List.mem_cons.mp h with z | z
      · exact absurd z.symm e
      · simpa using ix_get z
theorem ix_first : ∀ {l : List Str} {x : Str} {m : Nat}, m < ix l x → l[m]? ≠ some x
  | [], _, _, h => absurd h (Nat.not_lt_zero _)
  | y :: r, x, m, h => by
    unfold ix at h
    by_cases e : y = x
    · rw [if_pos e] at h
      exact absurd h (Nat.not_lt_zero _)
    · rw [if_neg e] at h
      cases m with
      | zero =>
        intro z
        exact e (Option.some.inj z)
      | succ m =>
        have q := ix_first (l := r) (x := x) (m := m) (by omega)
        simpa using q
theorem ix_lt {l : List Str} {x : Str} (h : x ∈ l) : ix l x < l.length := (List.getElem?_eq_some_iff.mp (ix_get h)).1
/-- the place of an item of different ones -/
theorem ix_at : ∀ {l : List Str} {i : Nat} {x : Str}, l.Nodup → l[i]? = some x → ix l x = i
  | [], _, _, _, h => by simp at h
  | y :: r, 0, x, _, h => by
    have e : y = x := Option.some.inj h
    unfold ix
    rw [if_pos e]
  | y :: r, i + 1, x, nd, h => by
    have hr : r[i]? = some x := by simpa using h
    have hm : x ∈ r := List.mem_of_getElem? hr
    have nd' := List.nodup_cons.mp nd
    have ne : ¬ y = x := fun z => nd'.1 (z ▸ hm)
    unfold ix
    rw [if_neg ne, ix_at nd'.2 hr]
theorem flat_strs (l : List Str) : (l.map V.str).all flatV = true := by
  rw [List.all_map]
  exact List.all_eq_true.mpr fun _ _ => rfl
theorem eqV_str {a b : Str} : eqV (.str a) (.str b) = decide (a = b) := rfl
theorem ixs_at {l : List Str} {x : Str} (h : x ∈ l) : (l.map V.str)[ix l x]? = some (.str x) := by
  rw [List.getElem?_map, ix_get h]
  rfl
theorem ixs_no {l : List Str} {x : Str} : ∀ (m : Nat) (z : V), m < ix l x → (l.map V.str)[m]? = some z → eqV z (.str x) = false := fun m z hm hz => by
  rw [List.getElem?_map] at hz
  cases e : l[m]? with
  | none =>
    rw [e] at hz
    cases hz
  | some y =>
    rw [e] at hz
    cases hz
    rw [eqV_str]
    refine decide_eq_false fun q => ix_first hm ?_
    rw [e, q]
abbrev Fld := Str × List Str
abbrev Tst := Str × Str × Str
abbrev Stp := Str × Str
abbrev Cas := List Tst × Option (List Stp)
def posOf (fs : List Fld) (x : Str) : Nat := ix (fs.map (·.1)) x
def optsOf (fs : List Fld) (x : Str) : List Str := ((fs[posOf fs x]?).map (·.2)).getD []
def nextO (os : List Str) (o : Str) : Str := os.getD (min (ix os o + 1) (os.length - 1)) o
def holdsT (fs : List Fld) (v : List Str) (t : Tst) : Bool :=
  if t.2.1 = "=" then decide (ix (optsOf fs t.1) (v.getD (posOf fs t.1) Str.empty) = ix (optsOf fs t.1) t.2.2)
  else if t.2.1 = "!" then !decide (ix (optsOf fs t.1) (v.getD (posOf fs t.1) Str.empty) = ix (optsOf fs t.1) t.2.2)
  else if t.2.1 = "<" then decide (ix (optsOf fs t.1) (v.getD (posOf fs t.1) Str.empty) < ix (optsOf fs t.1) t.2.2)
  else decide (ix (optsOf fs t.1) t.2.2 < ix (optsOf fs t.1) (v.getD (posOf fs t.1) Str.empty))
def stepO (fs : List Fld) (v : List Str) (s : Stp) : List Str :=
  v.set (posOf fs s.1) (if s.2 = "+" then nextO (optsOf fs s.1) (v.getD (posOf fs s.1) Str.empty) else s.2)
def stepped (fs : List Fld) (ss : List Stp) (v : List Str) : List Str := ss.foldl (stepO fs) v
def applyP (fs : List Fld) : List Cas → List Str → Option (List Str)
  | [], _ => none
  | c :: r, v => if c.1.all (holdsT fs v) = true then c.2.map (fun ss => stepped fs ss v) else applyP fs r v
def applyH (fs : List Fld) (p : List Cas) : Option (List Str) → Option (List Str)
  | none => none
  | some v => applyP fs p v
/-! what fits -/
def FitV (fs : List Fld) (v : List Str) : Prop := v.length = fs.length ∧ ∀ (i : Nat) (f : Fld) (o : Str), fs[i]? = some f → v[i]? = some o → o ∈ f.2
def FitT (fs : List Fld) (t : Tst) : Prop := t.1 ∈ fs.map (·.1) ∧ t.2.2 ∈ optsOf fs t.1
def FitS (fs : List Fld) (s : Stp) : Prop := s.1 ∈ fs.map (·.1) ∧ (s.2 ≠ "+" → s.2 ∈ optsOf fs s.1)
structure FitC (fs : List Fld) (c : Cas) : Prop where
  t : ∀ t ∈ c.1, FitT fs t
  s : ∀ ss, c.2 = some ss → ∀ s ∈ ss, FitS fs s
  lt : c.1.length ≤ 1000
  ls : ∀ ss, c.2 = some ss → ss.length ≤ 1000
theorem pos_at {fs : List Fld} {x : Str} (h : x ∈ fs.map (·.1)) : ∃ f, fs[posOf fs x]? = some f ∧ f.1 = x ∧ f.2 = optsOf fs x := by
  have q := ix_get h
  rw [List.getElem?_map] at q
  unfold optsOf
  show ∃ f, fs[posOf fs x]? = some f ∧ _
  have q' : (fs[posOf fs x]?).map (·.1) = some x := q
  cases e : fs[posOf fs x]? with
  | none =>
    rw [e] at q'
    cases q'
  | some f =>
    rw [e] at q'
    exact ⟨f, rfl, Option.some.inj q', rfl⟩
theorem fit_at {fs : List Fld} {v : List Str} {x : Str} (hv : FitV fs v) (h : x ∈ fs.map (·.1)) : ∃ o, v[posOf fs x]? = some o ∧ o ∈ optsOf fs x ∧ v.getD (posOf fs x) Str.empty = o := by
  obtain ⟨f, h1, h2, h3⟩ := pos_at h
  have hl : posOf fs x < v.length := by
    rw [hv.1]
    exact (List.getElem?_eq_some_iff.mp h1).1
  refine ⟨v[posOf fs x], List.getElem?_eq_getElem hl, ?_, ?_⟩
  · rw [← h3]
    exact hv.2 _ _ _ h1 (List.getElem?_eq_getElem hl)
  · rw [List.getD_eq_getElem?_getD, List.getElem?_eq_getElem hl]
    rfl
theorem next_mem {os : List Str} {o : Str} (h : o ∈ os) : os[min (ix os o + 1) (os.length - 1)]? = some (nextO os o) ∧ nextO os o ∈ os := by
  have hl := ix_lt h
  have hm : min (ix os o + 1) (os.length - 1) < os.length := by omega
  have e : os[min (ix os o + 1) (os.length - 1)]? = some (nextO os o) := by
    unfold nextO
    rw [List.getD_eq_getElem?_getD, List.getElem?_eq_getElem hm]
    rfl
  exact ⟨e, List.mem_of_getElem? e⟩
theorem step_fit {fs : List Fld} {v : List Str} {s : Stp} (hv : FitV fs v) (hs : FitS fs s) : FitV fs (stepO fs v s) := by
  refine ⟨by unfold stepO; rw [List.length_set]; exact hv.1, fun i f o hf ho => ?_⟩
  unfold stepO at ho
  obtain ⟨f', h1, h2, h3⟩ := pos_at hs.1
  obtain ⟨o', g1, g2, g3⟩ := fit_at hv hs.1
  rw [List.getElem?_set] at ho
  by_cases e : posOf fs s.1 = i
  · rw [if_pos e] at ho
    have hl : i < v.length := by
      rw [hv.1]
      exact (List.getElem?_eq_some_iff.mp hf).1
    rw [if_pos (e ▸ hl)] at ho
    have ho' := Option.some.inj ho
    rw [e, hf] at h1
    cases h1
    rw [← ho', h3]
    by_cases z : s.2 = "+"
    · rw [if_pos z, g3]
      exact (next_mem g2).2
    · rw [if_neg z]
      exact hs.2 z
  · rw [if_neg e] at ho
    exact hv.2 i f o hf ho
theorem stepped_fit {fs : List Fld} : ∀ {ss : List Stp} {v : List Str}, (∀ s ∈ ss, FitS fs s) → FitV fs v → FitV fs (stepped fs ss v)
  | [], _, _, hv => hv
  | s :: ss, v, h, hv => stepped_fit (ss := ss) (v := stepO fs v s) (fun s' hs' => h s' (List.mem_cons_of_mem _ hs')) (step_fit hv (h s (List.mem_cons_self ..)))
theorem stepped_take {fs : List Fld} {ss : List Stp} {v : List Str} {i : Nat} {s : Stp} (h : ss[i]? = some s) : stepped fs (ss.take (i + 1)) v = stepO fs (stepped fs (ss.take i) v) s := by
  unfold stepped
  rw [List.take_add_one, h, List.foldl_append]
  rfl
/-! as data -/
def dF (f : Fld) : PyData := .tuple [.str f.1, .tuple (f.2.map PyData.str)]
def dT (t : Tst) : PyData := .tuple [.str t.1, .str t.2.1, .str t.2.2]
def dS (s : Stp) : PyData := .tuple [.str s.1, .str s.2]
def dO : Option (List Stp) → PyData
  | none => .none
  | some ss => .tuple (ss.map dS)
def dC (c : Cas) : PyData := .tuple [.tuple (c.1.map dT), dO c.2]
def dV (v : List Str) : PyData := .tuple (v.map PyData.str)
def dH : Option (List Str) → PyData
  | none => .none
  | some v => dV v
section
variable {K : PySem.W.Frag} {H : Hp} {v : V}
theorem dp_dF {f : Fld} (h : Dp K H v (dF f)) : ∃ a o, v = .ref a ∧ SqT K H a [.str f.1, .ref o] ∧ SqT K H o (f.2.map V.str) := by
  obtain ⟨a, xs, rfl, h1, h2⟩ := dp_tup h
  obtain ⟨x, r, rfl, k1, k2⟩ := dpa_cons h2
  obtain ⟨y, r', rfl, k3, k4⟩ := dpa_cons k2
  cases dpa_nil k4
  cases dp_str k1
  obtain ⟨o, ys, rfl, m1, m2⟩ := dp_tup k3
  rw [dp_strs m2] at m1
  exact ⟨a, o, rfl, h1, m1⟩
theorem dp_dT {t : Tst} (h : Dp K H v (dT t)) : ∃ a, v = .ref a ∧ SqT K H a [.str t.1, .str t.2.1, .str t.2.2] := by
  obtain ⟨a, xs, rfl, h1, h2⟩ := dp_tup h
  obtain ⟨x, r, rfl, k1, k2⟩ := dpa_cons h2
  obtain ⟨y, r', rfl, k3, k4⟩ := dpa_cons k2
  obtain ⟨z, r'', rfl, k5, k6⟩ := dpa_cons k4
  cases dpa_nil k6
  cases dp_str k1
  cases dp_str k3
  cases dp_str k5
  exact ⟨a, rfl, h1⟩
theorem dp_dS {s : Stp} (h : Dp K H v (dS s)) : ∃ a, v = .ref a ∧ SqT K H a [.str s.1, .str s.2] := by
  obtain ⟨a, xs, rfl, h1, h2⟩ := dp_tup h
  obtain ⟨x, r, rfl, k1, k2⟩ := dpa_cons h2
  obtain ⟨y, r', rfl, k3, k4⟩ := dpa_cons k2
  cases dpa_nil k4
  cases dp_str k1
  cases dp_str k3
  exact ⟨a, rfl, h1⟩
theorem dp_dC {c : Cas} (h : Dp K H v (dC c)) : ∃ a t y, v = .ref a ∧ SqT K H a [.ref t, y] ∧ Dp K H (.ref t) (.tuple (c.1.map dT)) ∧ Dp K H y (dO c.2) := by
  obtain ⟨a, xs, rfl, h1, h2⟩ := dp_tup h
  obtain ⟨x, r, rfl, k1, k2⟩ := dpa_cons h2
  obtain ⟨y, r', rfl, k3, k4⟩ := dpa_cons k2
  cases dpa_nil k4
  obtain ⟨t, ys, rfl, m1, m2⟩ := dp_tup k1
  exact ⟨a, t, y, rfl, h1, .tup m1 m2, k3⟩
theorem dp_dV {w : List Str} (h : Dp K H v (dV w)) : ∃ a, v = .ref a ∧ SqT K H a (w.map V.str) := by
  obtain ⟨a, xs, rfl, h1, h2⟩ := dp_tup h
  rw [dp_strs h2] at h1
  exact ⟨a, rfl, h1⟩
theorem dV_dp {w : List Str} {a : Addr} (h : SqT K H a (w.map V.str)) : Dp K H (.ref a) (dV w) := .tup h (strs_dp w)
end
/-! fields as they stand: the options are tuples of which .index is asked -/
def FdAt (K : PySem.W.Frag) (H : Hp) (v : V) (f : Fld) : Prop := ∃ a o, v = .ref a ∧ SqT K H a [.str f.1, .ref o] ∧ SqP K H o (f.2.map V.str)
def FsAt (K : PySem.W.Frag) (H : Hp) (v : V) (fs : List Fld) : Prop := ∃ a xs, v = .ref a ∧ (SqL K H a xs ∨ SqT K H a xs) ∧ Paired (FdAt K H) xs fs
section
variable {K : PySem.W.Frag} {H H' : Hp} {v : V} {f : Fld} {fs : List Fld} {xs : List V}
theorem FdAt.mono (e : Same H H') (h : FdAt K H v f) : FdAt K H' v f := by
  obtain ⟨a, o, h1, h2, h3⟩ := h
  exact ⟨a, o, h1, Same.tup e h2, h3.mono e⟩
theorem fds_mono (e : Same H H') : ∀ {xs : List V} {fs : List Fld}, Paired (FdAt K H) xs fs → Paired (FdAt K H') xs fs
  | _, _, .nil => .nil
  | _, _, .cons h t => .cons (h.mono e) (fds_mono e t)
theorem FsAt.mono (e : Same H H') (h : FsAt K H v fs) : FsAt K H' v fs := by
  obtain ⟨a, xs, h1, h2, h3⟩ := h
  exact ⟨a, xs, h1, h2.imp e.seq (Same.tup e), fds_mono e h3⟩
theorem FdAt.dp (h : FdAt K H v f) : Dp K H v (dF f) := by
  obtain ⟨a, o, rfl, h2, h3⟩ := h
  exact .tup h2 (.cons (.str _) (.cons (.tup h3.sqT (strs_dp _)) .nil))
theorem fds_dp : ∀ {xs : List V} {fs : List Fld}, Paired (FdAt K H) xs fs → DpAll K H xs (fs.map dF)
  | _, _, .nil => .nil
  | _, _, .cons h t => .cons h.dp (fds_dp t)
theorem FsAt.dpS (h : FsAt K H v fs) : DpS K H v (fs.map dF) := by
  obtain ⟨a, xs, h1, h2, h3⟩ := h
  exact ⟨a, xs, h1, h2, fds_dp h3⟩
theorem fds_get : ∀ {xs : List V} {fs : List Fld} {i : Nat} {f : Fld}, Paired (FdAt K H) xs fs → fs[i]? = some f → ∃ x, xs[i]? = some x ∧ FdAt K H x f
  | _, _, _, _, .nil, e => by simp at e
  | _, _, 0, _, .cons h _, e => by
    simp at e
    subst e
    exact ⟨_, rfl, h⟩
  | _, _, i + 1, f, .cons _ t, e => by
    obtain ⟨x, h1, h2⟩ := fds_get (i := i) (f := f) t (by simpa using e)
    exact ⟨x, by simpa using h1, h2⟩
/-- fields[i][1], for the place i of a field x -/
theorem FsAt.opts {x : Str} (h : FsAt K H v fs) (hx : x ∈ fs.map (·.1)) : ∃ a xs t o, v = .ref a ∧ (SqL K H a xs ∨ SqT K H a xs) ∧ atI xs ((posOf fs x : Nat) : Int) = some (.ref t) ∧ SqT K H t [.str x, .ref o] ∧ SqP K H o ((optsOf fs x).map V.str) := by
  obtain ⟨a, xs, h1, h2, h3⟩ := h
  obtain ⟨f, k1, k2, k3⟩ := pos_at hx
  obtain ⟨y, m1, t, o, rfl, m2, m3⟩ := fds_get h3 k1
  rw [k2] at m2
  rw [k3] at m3
  exact ⟨a, xs, t, o, h1, h2, atI_nat m1, m2, m3⟩
end
/-! ### walks over a list or a tuple at a name -/
theorem iSeqV {K : PySem.W.Frag} {σ : L2.St} {H : Hp} {i : Nat} {a : Addr} {xs : List V} {R : It → Hp → Prop} (hσ : σ[i]? = some (some (.ref a))) (h : SqL K H a xs ∨ SqT K H a xs)
    (k : ∀ (J : It) (G : Hp → Prop), Walk J xs.length G (YAt xs) → (∀ H', Same H H' → G H') → R J H) : iSeq K (tVar i) σ H R := by
  rcases h with h | h
  · exact .inl ⟨.ref a, hσ, a, rfl, ⟨xs, h⟩, k _ _ walk_list fun H' e => e.seq h⟩
  · exact .inr ⟨.ref a, hσ, a, rfl, ⟨xs, h⟩, k _ _ walk_tup fun H' e => Same.tup e h⟩
end Bh
namespace Bh
open PySem PySem.Spec PyProof.Rows L2
theorem rIx_go {K : PySem.W.Frag} {H : Hp} {a : Addr} {xs : List V} {i : Int} {v : V} {Q : VK} (h : SqL K H a xs ∨ SqT K H a xs) (e : atI xs i = some v) (q : Q v H) : rIx K (.ref a) (.int i) H Q := by
  rcases h with h | h
  · exact .inl ⟨a, xs, i, v, rfl, rfl, h, e, q⟩
  · exact .inr (.inl ⟨a, xs, i, v, rfl, rfl, h, e, q⟩)
theorem dec_int {m n : Nat} : decide (V.int (m : Int) = V.int (n : Int)) = decide (m = n) := by
  refine decide_eq_decide.mpr ⟨fun h => ?_, fun h => by rw [h]⟩
  have e := V.int.inj h
  omega
theorem dec_lt {m n : Nat} : decide ((m : Int) < (n : Int)) = decide (m < n) := decide_eq_decide.mpr ⟨fun h => by omega, fun h => by omega⟩
theorem str_ne {a b : Str} (h : ¬ V.str a = V.str b) : a ≠ b := fun e => h (by rw [e])
end Bh

set_option Elab.async false
set_option linter.all false
set_option maxRecDepth 100000
namespace Bh
open PySem PySem.Spec PyProof.Rows L2
/-! ### what is drawn: names, options, fields, cases, programs -/
def pool : List Str := ["0", "1", "2", "10", "a", "b", "far", "x9", "zzzzzzzz", "7up"]
def tails : List Str := ["", "a", "qq", "xyz", "mmmmmmm"]
def letters : Str := "abcdefghijklmnopqrstuvwxyz"
theorem pool_nodup : pool.Nodup := by decide +kernel
theorem perm_strs {l : List Str} {ys : List V} (h : ys.Perm (l.map V.str)) : ∃ zs : List Str, zs.Perm l ∧ ys = zs.map V.str := by
  let g : V → Str := fun v => match v with
    | .str z => z
    | _ => Str.empty
  refine ⟨ys.map g, ?_, ?_⟩
  · have q := h.map g
    rw [List.map_map] at q
    have e : (g ∘ V.str) = id := by
      funext z
      rfl
    rw [e, List.map_id] at q
    exact q
  · rw [List.map_map]
    have q : ∀ v ∈ ys, (V.str ∘ g) v = v := fun v hv => by
      obtain ⟨z, _, rfl⟩ := List.mem_map.mp (h.mem_iff.mp hv)
      rfl
    rw [List.map_congr_left q, List.map_id']
/-- a name: one to eight lowercase letters -/
structure IsNm (w : Str) : Prop where
  lo : 1 ≤ w.length
  hi : w.length ≤ 8
  az : ∀ c ∈ w.cps.toList, 97 ≤ c ∧ c ≤ 122
def wordK (z : Str) (k c : Nat) : Str := cutS z none (some (k : Int)) ++ ⟨#[c]⟩ ++ cutS z (some (k : Int)) none
theorem cut_lo (z : Str) (k : Nat) : (cutS z none (some (k : Int))).cps.toList = z.cps.toList.take k := by
  unfold cutS
  rw [HT.sIx_none, HT.sIx_nat]
  show ((z.cps.toList.drop 0).take (min k z.length - 0)) = _
  rw [List.drop_zero, Nat.sub_zero]
  have e1 : z.cps.toList.length = z.cps.size := by simp
  have e2 : z.length = z.cps.size := rfl
  by_cases h : k ≤ z.length
  · rw [Nat.min_eq_left h]
  · rw [Nat.min_eq_right (by omega), List.take_of_length_le (by omega), List.take_of_length_le (by omega)]
theorem cut_hi (z : Str) (k : Nat) (h : k ≤ z.length) : (cutS z (some (k : Int)) none).cps.toList = z.cps.toList.drop k := by
  unfold cutS
  rw [HT.sIx_none, HT.sIx_nat, Nat.min_eq_left h]
  show ((z.cps.toList.drop k).take (z.length - k)) = _
  refine List.take_of_length_le ?_
  rw [List.length_drop]
  have : z.cps.toList.length = z.cps.size := by simp
  have : z.length = z.cps.size := rfl
  omega
theorem wordK_cps (z : Str) (k c : Nat) (h : k ≤ z.length) : (wordK z k c).cps.toList = z.cps.toList.take k ++ (c :: z.cps.toList.drop k) := by
  have e : (wordK z k c).cps = (cutS z none (some (k : Int))).cps ++ #[c] ++ (cutS z (some (k : Int)) none).cps := rfl
  rw [e, Array.toList_append, Array.toList_append, cut_lo, cut_hi z k h]
  simp
theorem wordK_length (z : Str) (k c : Nat) (h : k ≤ z.length) : (wordK z k c).length = z.length + 1 := by
  have e : (wordK z k c).length = (wordK z k c).cps.toList.length := by
    show (wordK z k c).cps.size = _
    simp
  rw [e, wordK_cps z k c h, List.length_append, List.length_take, List.length_cons, List.length_drop]
  have : z.cps.toList.length = z.cps.size := by simp
  have : z.length = z.cps.size := rfl
  omega
theorem wordK_inj {z : Str} {k c d : Nat} (h : k ≤ z.length) (e : wordK z k c = wordK z k d) : c = d := by
  have q := congrArg (fun s : Str => s.cps.toList) e
  simp only [wordK_cps z k _ h] at q
  have q2 := List.append_cancel_left q
  exact (List.cons.inj q2).1
theorem tails_ok : ∀ z ∈ tails, z.length ≤ 7 ∧ ∀ c ∈ z.cps.toList, 97 ≤ c ∧ c ≤ 122 := by
  decide +kernel
theorem wordK_nm {z : Str} (hz : z ∈ tails) {k c : Nat} (h : k ≤ z.length) (h1 : 97 ≤ c) (h2 : c ≤ 122) : IsNm (wordK z k c) := by
  obtain ⟨t1, t2⟩ := tails_ok z hz
  refine ⟨by rw [wordK_length z k c h]; omega, by rw [wordK_length z k c h]; omega, fun d hd => ?_⟩
  rw [wordK_cps z k c h] at hd
  rcases List.mem_append.mp hd with q | q
  · exact t2 d (List.mem_of_mem_take q)
  · rcases List.mem_cons.mp q with q | q
    · rw [q]
      exact ⟨h1, h2⟩
    · exact t2 d (List.mem_of_mem_drop q)
theorem letters_at {j : Int} (h0 : 0 ≤ j) (h1 : j < 26) : atI letters.cps.toList j = some (97 + j.toNat) := by
  have key : ∀ k : _root_.Fin 26, letters.cps.toList[k.val]? = some (97 + k.val) := by decide +kernel
  exact at_nn h0 (key ⟨j.toNat, by omega⟩)
def wordsOf (z : Str) (k : Nat) (s : Int) (n : Nat) : List Str := (List.range n).map fun (i : Nat) => wordK z k (97 + ((s + 5 * (i : Int)) % 26).toNat)
theorem wordsOf_nodup {z : Str} {k : Nat} {s : Int} {n : Nat} (h : k ≤ z.length) (hn : n ≤ 3) : (wordsOf z k s n).Nodup := by
  unfold wordsOf
  refine List.pairwise_map.mpr ((List.pairwise_lt_range (n := n)).imp_of_mem fun {a b} ha hb hab e => ?_)
  have h2 := List.mem_range.mp hb
  have q := wordK_inj h e
  omega
theorem wordsOf_nm {z : Str} (hz : z ∈ tails) {k : Nat} {s : Int} {n : Nat} (h : k ≤ z.length) : ∀ w ∈ wordsOf z k s n, IsNm w := fun w hw => by
  obtain ⟨i, _, rfl⟩ := List.mem_map.mp hw
  exact wordK_nm hz h (by omega) (by omega)
theorem wordsOf_len {z : Str} {k : Nat} {s : Int} {n : Nat} : (wordsOf z k s n).length = n := by
  unfold wordsOf
  rw [List.length_map, List.length_range]
/-- fields as the laws draw them -/
structure FsOk (fs : List Fld) : Prop where
  ne : 1 ≤ fs.length
  le : fs.length ≤ 3
  nd : (fs.map (·.1)).Nodup
  nm : ∀ f ∈ fs, IsNm f.1
  os : ∀ f ∈ fs, f.2.Nodup ∧ 2 ≤ f.2.length ∧ f.2.length ≤ 6 ∧ ∀ o ∈ f.2, o ∈ pool
theorem opts_of {fs : List Fld} (nd : (fs.map (·.1)).Nodup) {f : Fld} (h : f ∈ fs) : optsOf fs f.1 = f.2 := by
  obtain ⟨i, hi⟩ := List.mem_iff_getElem?.mp h
  have e : ix (fs.map (·.1)) f.1 = i := ix_at nd (by rw [List.getElem?_map, hi]; rfl)
  unfold optsOf posOf
  rw [e, hi]
  rfl
/-- signs of tests -/
def signs : List Str := ["=", "!", "<", ">"]
/-! ### promises of the defs that draw -/
def spAny (K : PySem.W.Frag) : Sp := fun vs H Q _ => ∃ (b l a : Addr) (G : Hp) (xs : List V), vs = [.ref b, .ref a] ∧ (SqL K G a xs ∨ SqT K G a xs) ∧ xs ≠ [] ∧ xs.length ≤ 100000 ∧ Wd b l G H ∧ ∀ x H', x ∈ xs → Wd b l G H' → Q x H'
def spMixed (K : PySem.W.Frag) : Sp := fun vs H Q _ => ∃ (b l a : Addr) (G : Hp) (xs : List V), vs = [.ref b, .ref a] ∧ SqL K G a xs ∧ xs.length ≤ 1000 ∧ Wd b l G H ∧
  ∀ (G' H' : Hp) (p : Addr) (ys : List V), Same G G' → Wd b l G' H' → G' p = some (.lst ys) → ys.Perm xs → Q (.ref p) H'
def spWords : Sp := fun vs H Q _ => ∃ (b l : Addr) (G : Hp) (n : Int), vs = [.ref b, .int n] ∧ 0 ≤ n ∧ n ≤ 3 ∧ Wd b l G H ∧
  ∀ (G' H' : Hp) (p : Addr) (ws : List Str), Same G G' → Wd b l G' H' → G' p = some (.lst (ws.map V.str)) → ws.length = n.toNat → ws.Nodup → (∀ w ∈ ws, IsNm w) → Q (.ref p) H'
def spOptions (K : PySem.W.Frag) : Sp := fun vs H Q _ => ∃ (b l : Addr) (G : Hp) (n : Int), vs = [.ref b, .int n] ∧ 2 ≤ n ∧ n ≤ 6 ∧ Wd b l G H ∧
  ∀ (G' H' : Hp) (p : Addr) (os : List Str), Same G G' → Wd b l G' H' → SqP K G' p (os.map V.str) → os.length = n.toNat → os.Nodup → (∀ o ∈ os, o ∈ pool) → Q (.ref p) H'
def spFields (K : PySem.W.Frag) : Sp := fun vs H Q _ => ∃ (b l : Addr) (G : Hp), vs = [.ref b, .int 24] ∧ Wd b l G H ∧
  ∀ (G' H' : Hp) (p : Addr) (xs : List V) (fs : List Fld), Same G G' → Wd b l G' H' → G' p = some (.lst xs) → Paired (FdAt K G') xs fs → FsOk fs → Q (.ref p) H'
def spCase (K : PySem.W.Frag) : Sp := fun vs H Q _ => ∃ (b l a : Addr) (G : Hp) (xs : List V) (fs : List Fld), vs = [.ref b, .ref a] ∧ SqL K G a xs ∧ Paired (FdAt K G) xs fs ∧ FsOk fs ∧ Wd b l G H ∧
  ∀ (G' H' : Hp) (y : V) (c : Cas), Same G G' → Wd b l G' H' → Dp K G' y (dC c) → FitC fs c → c.1.length ≤ 2 → (∀ ss, c.2 = some ss → ss.length ≤ 2) → (∀ t ∈ c.1, t.2.1 ∈ signs) → Q y H'
end Bh
namespace Bh
open PySem PySem.Spec PyProof.Rows L2
theorem cutV_take (xs : List V) {n : Int} (h : 0 ≤ n) : cutV xs none (some n) = xs.take n.toNat := by
  obtain ⟨k, rfl⟩ : ∃ m : Nat, n = (m : Int) := ⟨n.toNat, by omega⟩
  unfold cutV
  rw [HT.sIx_none, show HT.sIx xs.length xs.length (some (k : Int)) = min k xs.length from HT.sIx_nat _ _ k]
  show List.take (min k xs.length - 0) (List.drop 0 xs) = xs.take k
  rw [List.drop_zero, Nat.sub_zero]
  by_cases hk : k ≤ xs.length
  · rw [Nat.min_eq_left hk]
  · rw [Nat.min_eq_right (by omega), List.take_of_length_le (Nat.le_refl _), List.take_of_length_le (by omega)]
theorem fds_mem {K : PySem.W.Frag} {H : Hp} : ∀ {xs : List V} {fs : List Fld} {x : V}, Paired (FdAt K H) xs fs → x ∈ xs → ∃ f ∈ fs, FdAt K H x f
  | _, _, _, .nil, h => by cases h
  | _, _, x, .cons h t, hx => by
    rcases List.mem_cons.mp hx with e | hx
    · rw [e]
      exact ⟨_, List.mem_cons_self .., h⟩
    · obtain ⟨f, h1, h2⟩ := fds_mem t hx
      exact ⟨f, List.mem_cons_of_mem _ h1, h2⟩
theorem fds_len {K : PySem.W.Frag} {H : Hp} : ∀ {xs : List V} {fs : List Fld}, Paired (FdAt K H) xs fs → xs.length = fs.length
  | _, _, .nil => rfl
  | _, _, .cons _ t => congrArg Nat.succ (fds_len t)
theorem fds_snoc {K : PySem.W.Frag} {H : Hp} {x : V} {f : Fld} : ∀ {xs : List V} {fs : List Fld}, Paired (FdAt K H) xs fs → FdAt K H x f → Paired (FdAt K H) (xs ++ [x]) (fs ++ [f])
  | _, _, .nil, h => .cons h .nil
  | _, _, .cons k t, h => .cons k (fds_snoc t h)
theorem min_max_bound (z : Int) : 0 < (if (if z > 1 then z else 1) < 5 then (if z > 1 then z else 1) else 5) ∧ (if (if z > 1 then z else 1) < 5 then (if z > 1 then z else 1) else 5) ≤ (5 : Int) := by
  split <;> split <;> omega
end Bh
namespace Bh
open PySem PySem.Spec PyProof.Rows L2
theorem dpa_snoc {K : PySem.W.Frag} {H : Hp} {x : V} {d : PyData} {xs : List V} {ds : List PyData} (h : DpAll K H xs ds) (k : Dp K H x d) : DpAll K H (xs ++ [x]) (ds ++ [d]) := DpAll.append h (.cons k .nil)
end Bh
namespace Bh
open PySem PySem.Spec PyProof.Rows L2
theorem noL_dV (v : List Str) : noL (dV v) = true := noLs_map (fun _ => rfl) v
theorem noL_dT (t : Tst) : noL (dT t) = true := rfl
theorem noL_dS (s : Stp) : noL (dS s) = true := rfl
theorem noL_dO : ∀ o : Option (List Stp), noL (dO o) = true
  | none => rfl
  | some ss => noLs_map noL_dS ss
theorem noL_dC (c : Cas) : noL (dC c) = true := by
  show (noLs (c.1.map dT) && (noL (dO c.2) && true)) = true
  rw [noLs_map noL_dT, noL_dO]
  rfl
theorem FdAt.imm {K : PySem.W.Frag} {H H' : Hp} {v : V} {f : Fld} (e : Imm H H') (h : FdAt K H v f) : FdAt K H' v f := by
  obtain ⟨a, o, h1, h2, h3⟩ := h
  exact ⟨a, o, h1, e.tup h2, e.sqp h3⟩
theorem fds_imm {K : PySem.W.Frag} {H H' : Hp} (e : Imm H H') : ∀ {xs : List V} {fs : List Fld}, Paired (FdAt K H) xs fs → Paired (FdAt K H') xs fs
  | _, _, .nil => .nil
  | _, _, .cons h t => .cons (h.imm e) (fds_imm e t)
def spProg (K : PySem.W.Frag) : Sp := fun vs H Q _ => ∃ (b l a : Addr) (G : Hp) (n : Int) (xs : List V) (fs : List Fld), vs = [.ref b, .ref a, .int n] ∧ SqL K G a xs ∧ Paired (FdAt K G) xs fs ∧ FsOk fs ∧ 0 < n ∧ n ≤ 8 ∧ Wd b l G H ∧
  ∀ (G' H' : Hp) (y : V) (p : List Cas), Same G G' → Wd b l G' H' → Dp K G' y (.tuple (p.map dC)) → (∀ c ∈ p, FitC fs c ∧ c.1.length ≤ 2 ∧ (∀ ss, c.2 = some ss → ss.length ≤ 2) ∧ ∀ t ∈ c.1, t.2.1 ∈ signs) → 1 ≤ p.length → p.length ≤ 8 → Q y H'
/-! all values -/
def ext1 (acc : List (List Str)) (f : Fld) : List (List Str) := acc.flatMap fun v => f.2.map fun o => v ++ [o]
def vals (fs : List Fld) : List (List Str) := fs.foldl ext1 [[]]
theorem flat_len (os : List Str) : ∀ acc : List (List Str), (acc.flatMap fun v => os.map fun o => v ++ [o]).length = acc.length * os.length
  | [] => by simp
  | v :: r => by
    rw [List.flatMap_cons, List.length_append, List.length_map, flat_len os r, List.length_cons, Nat.succ_mul]
    omega
theorem vals_take {fs : List Fld} {i : Nat} {f : Fld} (h : fs[i]? = some f) : vals (fs.take (i + 1)) = ext1 (vals (fs.take i)) f := by
  unfold vals
  rw [List.take_add_one, h, List.foldl_append]
  rfl
theorem vals_len {fs : List Fld} (h : ∀ f ∈ fs, f.2.length ≤ 6) : ∀ i : Nat, (vals (fs.take i)).length ≤ 6 ^ i
  | 0 => by
    rw [List.take_zero]
    exact Nat.le_refl 1
  | i + 1 => by
    cases e : fs[i]? with
    | none =>
      have hl : fs.length ≤ i := List.getElem?_eq_none_iff.mp e
      rw [List.take_of_length_le (by omega), show fs = fs.take i from (List.take_of_length_le hl).symm]
      refine Nat.le_trans (vals_len h i) ?_
      rw [Nat.pow_succ]
      exact Nat.le_mul_of_pos_right _ (by decide)
    | some f =>
      rw [vals_take e]
      unfold ext1
      rw [flat_len, Nat.pow_succ]
      exact Nat.mul_le_mul (vals_len h i) (h f (List.mem_of_getElem? e))
theorem vals_fit : ∀ (fs done : List Fld) (acc : List (List Str)), (∀ v ∈ acc, FitV done v) → ∀ v ∈ fs.foldl ext1 acc, FitV (done ++ fs) v
  | [], done, acc, h, v, hv => by
    rw [List.append_nil]
    exact h v hv
  | f :: r, done, acc, h, v, hv => by
    have e : done ++ f :: r = (done ++ [f]) ++ r := by simp
    rw [e]
    refine vals_fit r (done ++ [f]) (ext1 acc f) (fun w hw => ?_) v hv
    obtain ⟨u, hu, hw2⟩ := List.mem_flatMap.mp hw
    obtain ⟨o, ho, rfl⟩ := List.mem_map.mp hw2
    obtain ⟨l1, l2⟩ := h u hu
    refine ⟨by rw [List.length_append, List.length_append, l1]; rfl, fun i g o' hg ho' => ?_⟩
    by_cases hi : i < done.length
    · rw [List.getElem?_append_left hi] at hg
      rw [List.getElem?_append_left (by omega)] at ho'
      exact l2 i g o' hg ho'
    · rw [List.getElem?_append_right (by omega)] at hg
      rw [List.getElem?_append_right (by omega), l1] at ho'
      have hz : i - done.length = 0 := by
        have := (List.getElem?_eq_some_iff.mp hg).1
        simp at this
        omega
      rw [hz] at hg ho'
      cases hg
      cases ho'
      exact ho
theorem vals_ok {fs : List Fld} : ∀ v ∈ vals fs, FitV fs v := by
  have q := vals_fit fs [] [[]] (fun v hv => by
    cases List.mem_singleton.mp hv
    exact ⟨rfl, fun i f o h => by simp at h⟩)
  show ∀ v ∈ fs.foldl ext1 [[]], FitV fs v
  simpa using q
def spVals (K : PySem.W.Frag) : Sp := fun vs H Q _ => ∃ (a : Addr) (xs : List V) (fs : List Fld), vs = [.ref a] ∧ SqL K H a xs ∧ Paired (FdAt K H) xs fs ∧ FsOk fs ∧
  ∀ (H' : Hp) (p : Addr) (ys : List V), Same H H' → H' p = some (.lst ys) → DpAll K H' ys ((vals fs).map dV) → Q (.ref p) H'
end Bh

set_option Elab.async false
set_option linter.all false
set_option maxRecDepth 100000
set_option maxHeartbeats 2000000
namespace Bh
open PySem PySem.Spec PyProof.Rows L2 LamX NdefX
/-! ### a lambda with parameters, handed to a def and called there -/
/-- its words, as those of a nested def without a body of statements -/
abbrev lamF (q : Str) (params : Arguments) (scope : Scope) (cl : List (Str × Addr)) (c : Addr) : NF := ⟨"<lambda>", q, params, [], scope, cl, c⟩
theorem CellsAt.un {cl : List (Str × Addr)} {fr : List Str} {ws : List (Option V)} {st : List Addr} {H HZ : Hp} {h h1 : Heap} (C : CellsAt cl fr ws h H) (un : Un st [] H HZ h h1) : CellsAt cl fr ws h1 HZ := by
  have kp : ∀ y c, cl.lookup y = some c → ∀ v, h.IsCell c v → h1.IsCell c v := fun y c e v ⟨o, ho, hd⟩ => by
    obtain ⟨sl, q⟩ := un.any ho (C.all y c e).1 (by simp)
    exact ⟨_, q, hd⟩
  refine ⟨C.len, fun y c e => ?_, C.inj, fun i y e => ?_⟩
  · obtain ⟨n, v, z⟩ := C.all y c e
    refine ⟨?_, v, kp y c e v z⟩
    obtain ⟨o, ho, _⟩ := z
    exact un.free c o ho n (by simp)
  · obtain ⟨c, hc, hv⟩ := C.has i y e
    refine ⟨c, hc, fun v ev => ?_⟩
    obtain ⟨u, r, z⟩ := hv v ev
    exact ⟨u, r, kp y c hc _ z⟩
section
variable {CX : CXT} {P : Program} {w : World} {K : PySem.W.Frag} {mg : Str → Option Value} {base : Heap} {N ps fr : List Str} {f c' : Addr} {k : Nat} {q : Str} {params : Arguments} {body : Expr} {scope : Scope} {cl : List (Str × Addr)}
/-- the lambda runs -/
theorem lam_run {A : Around} {outer : List Env} {s : Shared} {H : Hp} {us : List Value} {vs : List V} {ws : List (Option V)} {Q : VK} {E : XK} {pm ctv : Value} {tb : TE} (S : NScope N ps fr scope)
    (hb : ∀ (us : List Value), us.length = ps.length → bindArgs (PySem.W.kla_fn "<lambda>" q params body scope cl pm (.ref c') ctv) ⟨us, []⟩ = pure (ps.zip us))
    (hr : Room (k + 1) A) (e0 : Env0 P w K mg base A outer s H) (lim : s.heap.NoLimit) (of : s.heap.get? f = some (PySem.W.kla_obj "<lambda>" q params body scope cl pm c' ctv)) (hc : s.heap.CodeRec (.ref c') q)
    (C : CellsAt cl fr ws s.heap H) (r : Vals vs us) (hl : vs.length = ps.length)
    (hbody : Room k (A.deeper (envF (lamF q params scope cl c') f s.heap.objs.size)) → PE (ncx CX P w K mg base N (lamF q params scope cl c') f A outer s H E) body tb) (h : tb (startF N vs ws) H Q) :
    codeAny (model P w) A (.call (.ref f) ⟨us, []⟩) (CR CX outer P w H s Q E) s := by
  refine PySem.W.kla_callFunE hr.depth of rfl S.co S.gen rfl hc ?_
  rw [hb us (by rw [← r.length]; exact hl)]
  refine wpAny_pure (wpAny_newFunctionEnv S.nocell (fun ⟨n, _⟩ hy => S.par n (List.of_mem_zip hy).1) (fun h₁ hns hsb => ⟨lim.fresh _ hsb, ?_⟩) S.kind)
  show codeAny _ _ (.expr body (envF (lamF q params scope cl c') f s.heap.objs.size)) _ _
  have kp : ∀ b o, s.heap.get? b = some o → h₁.get? b = some o := fun b o e => hsb.extBut b o (Nat.ne_of_lt (Heap.lt_size e)) (Heap.get?_push_of_some _ e)
  have I : Inv (ncx CX P w K mg base N (lamF q params scope cl c') f A outer s H E) [] (startF N vs ws) H { s with heap := h₁, toks := s.toks + (ps.zip us).length } := inv_startN (F := lamF q params scope cl c') S hr.hd e0 hl r C hns kp
  refine PySem.W.kla_codeExpr (wpAny_mono ((hbody (hr.deeper _)).run [] _ (startF N vs ws) H Q I h) (fun v s' hq => ?_) fun e s' hq => hq)
  obtain ⟨w', H', J', rv, q⟩ := hq
  exact ⟨w', H', J'.os, J'.bare, J'.base, J'.hok, rv, q⟩
/-- f(e, ..), f a name of the callee that holds the lambda: Z is the callee's context, entered at s -/
def tLamAct (c' f : Addr) (q : Str) (i n : Nat) (N : List Str) (ws : List (Option V)) (tb : TE) (t : TA) : TE := fun σ H Q => σ[i]? = some (some (.ref f)) ∧ H c' = some (CodeO c' q) ∧
  t σ H fun vs H1 => H1 c' = some (CodeO c' q) ∧ vs.length = n ∧ tb (startF N vs ws) H1 Q
theorem pe_lamact {CXg : CXT} {Eg : XK} {Ng : List Str} {qg : Str} {sg : Scope} {g : Addr} {cdg pm ctv : Value} {A0 : Around} {st : List Env} {s : Shared} {H : Hp} {ws : List (Option V)} {tb : TE} {a : Str} {i : Nat} {e : Expr} {es : List Expr} {t : TA} {p1 p2 : Pos}
    (S : NScope N ps fr scope) (hb : ∀ (us : List Value), us.length = ps.length → bindArgs (PySem.W.kla_fn "<lambda>" q params body scope cl pm (.ref c') ctv) ⟨us, []⟩ = pure (ps.zip us))
    (of : s.heap.get? f = some (PySem.W.kla_obj "<lambda>" q params body scope cl pm c' ctv)) (hfn : H f = none) (hfr : f ∉ frs st) (C : CellsAt cl fr ws s.heap H)
    (hr : Room (k + 1) (A0.deeper (envOfC qg sg s.heap.objs.size g cdg)))
    (hbody : ∀ (A : Around) (outer : List Env) (s : Shared) (H : Hp), Room k (A.deeper (envF (lamF q params scope cl c') f s.heap.objs.size)) → PE (ncx C8.CX0 P w K mg base N (lamF q params scope cl c') f A outer s H C8.E0) body tb)
    (hN : Ng[i]? = some a) (hv : Vis sg a) (ha : PA (cxOf CXg P w K mg base Ng qg sg g cdg A0 st s H Eg).nox (e :: es) t)
    (hd : (a == ("__debug__" : Str)) = false := by decide) (hcd : (a == ("__classdict__" : Str)) = false := by decide)
    (he : starEach (e :: es) (cxOf CXg P w K mg base Ng qg sg g cdg A0 st s H Eg).nox.env = (false, eval e (cxOf CXg P w K mg base Ng qg sg g cdg A0 st s H Eg).nox.env) :: starEach es (cxOf CXg P w K mg base Ng qg sg g cdg A0 st s H Eg).nox.env := by rfl)
    (hpl : (backTo p2 (starEach es (cxOf CXg P w K mg base Ng qg sg g cdg A0 st s H Eg).nox.env)).any (·.1) = false := by rfl) :
    PE (cxOf CXg P w K mg base Ng qg sg g cdg A0 st s H Eg).nox (.Call (.Name a p1) (e :: es) [] p2) (tLamAct c' f q i ps.length N ws tb t) := by
  refine ⟨fun pinsZ sZ σZ HZ Q IZ h => ?_⟩
  obtain ⟨hs, hc, ht⟩ := h
  refine wpAny_Call_Name_kw (thn ((pe_var (pos := p1) (i := i) hN hv hd hcd).run pinsZ sZ σZ HZ (fun v H1 => v = .ref f ∧ H1 = HZ) IZ ⟨.ref f, hs, rfl, rfl⟩) fun u s1 ⟨v, H1, I1, r1, q1⟩ => ?_)
  obtain ⟨ev, eH⟩ := q1
  subst ev
  rw [eH] at I1
  obtain rfl : u = Value.ref f := r1
  have at_ : ∀ {pins σ HZ} {s1 : Shared}, Inv (cxOf CXg P w K mg base Ng qg sg g cdg A0 st s H Eg).nox pins σ HZ s1 → s1.heap.get? f = some (PySem.W.kla_obj "<lambda>" q params body scope cl pm c' ctv) := fun I1 => I1.base.keep f _ of hfn hfr (fun z => nomatch (show f ∈ ([] : List Addr) from z))
  refine PySem.W.callWith_F (first := []) ⟨_, _, _, _, at_ I1⟩ (thn (ha.run p2 pinsZ s1 σZ HZ _ I1 ht) fun us s2 ⟨vs, H2, I2, r, h1, h2, h3⟩ => ⟨⟨_, _, _, _, at_ I2⟩, ?_⟩) he hpl
  show wpAny _ _ (call (.ref f) us) _ _ _
  have un : Un (frs st) [] H H2 s.heap s2.heap := I2.base
  obtain ⟨⟨oc, vsc, tc, hoc, hdc, hvc⟩, _, _⟩ := I2.hok c' _ h1
  have rc := lam_run (Q := Q) (A := (cxOf CXg P w K mg base Ng qg sg g cdg A0 st s H Eg).nox.A) (outer := (cxOf CXg P w K mg base Ng qg sg g cdg A0 st s H Eg).nox.stack) S hb hr I2.env0 I2.nolimit (at_ I2) ⟨c', oc, vsc, tc, rfl, hoc, hdc, hvc⟩ (CellsAt.un C un) r h2 (fun hr2 => hbody _ _ s2 H2 hr2) h3
  refine wpAny_call (codeAny_mono rc fun r s' hq => ?_)
  cases r with
  | error e => exact (show False from hq).elim
  | ok fl =>
    cases fl with
    | ret u => exact I2.after hq
    | next => exact False.elim hq
    | brk => exact False.elim hq
    | cont => exact False.elim hq
end
end Bh
namespace Bh
open PySem PySem.Spec PyProof.Rows L2 LamX NdefX
/-- the def that calls what it got in its second place: what it makes (TT) of the lambda's reading -/
def GivesTo2 (X : Cx) (Ng : List Str) (x : Str) (sg : Scope) (g : Addr) (cdg : Value) (bg : List Stmt) (a : Str) (q : Str) (n : Nat) (TT : (List V → Hp → VK → Prop) → V → Hp → VK → Prop) : Prop :=
  ∀ (f c' : Addr) (s : Shared) (H : Hp) (Q : VK) (v1 : V) (N : List Str) (ws : List (Option V)) (tb : TE),
    (∀ (e : Expr) (es : List Expr) (t : TA) (p1 p2 : Pos), PA (cxOf C8.CX0 X.prog X.w X.K X.mg X.base Ng x sg g cdg X.A X.stack s H C8.E0).nox (e :: es) t →
      starEach (e :: es) (cxOf C8.CX0 X.prog X.w X.K X.mg X.base Ng x sg g cdg X.A X.stack s H C8.E0).nox.env = (false, eval e (cxOf C8.CX0 X.prog X.w X.K X.mg X.base Ng x sg g cdg X.A X.stack s H C8.E0).nox.env) :: starEach es (cxOf C8.CX0 X.prog X.w X.K X.mg X.base Ng x sg g cdg X.A X.stack s H C8.E0).nox.env →
      (backTo p2 (starEach es (cxOf C8.CX0 X.prog X.w X.K X.mg X.base Ng x sg g cdg X.A X.stack s H C8.E0).nox.env)).any (·.1) = false →
      PE (cxOf C8.CX0 X.prog X.w X.K X.mg X.base Ng x sg g cdg X.A X.stack s H C8.E0).nox (.Call (.Name a p1) (e :: es) [] p2) (tLamAct c' f q 1 n N ws tb t)) →
    H c' = some (CodeO c' q) → TT (fun vs H' Q' => tb (startF N vs ws) H' Q') v1 H Q →
    ∃ t, PSs (cxOf C8.CX0 X.prog X.w X.K X.mg X.base Ng x sg g cdg X.A X.stack s H C8.E0).nox bg t ∧ t { nx := fun _ H' => Q .non H', rt := Q } (L2.start Ng [v1, .ref f]) H
def tLam2 (T : List (Addr × Str)) (N : List Str) (js : List Nat) (TT : (List V → Hp → VK → Prop) → V → Hp → VK → Prop) (tb : TE) (t1 : TE) : TE := fun σ H Q => t1 σ H fun v1 H1 => Tabs T H1 ∧ ∀ H2, ExtN H1 H2 → Tabs T H2 → TT (fun vs H' Q' => tb (startF N vs (js.map (slotAt σ))) H' Q') v1 H2 Q
/-- x(e1, lambda ..: body) -/
theorem pe_lamcall2 {X : Cx} {T : List (Addr × Str)} {TT : (List V → Hp → VK → Prop) → V → Hp → VK → Prop} {x a1 a : Str} {g c P : Addr} {k : Nat} {pg : Arguments} {bg : List Stmt} {sg : Scope} {dV kV doc pm cdv ct oc : Value} {an od : Option Addr} {osl : Array (Option Value)} {Ng : List Str}
    {params : Arguments} {body : Expr} {scope : Scope} {N ps fr : List Str} {js : List Nat} {tb t1 : TE} {e1 : Expr} {p lpos pos : Pos} (hg : Gl X x) (hm : X.mg x = some (.ref g)) (hk : PySem.W.keepIn X.K (.ref g) = true)
    (lk : X.K.lookup g = some ⟨oc, od, .func (PySem.W.fnOf x x pg bg sg dV kV doc pm an cdv ct), osl⟩) (hcg : PySem.W.codeIn X.K cdv x = true) (hb : L2.Binds X.K (PySem.W.fnOf x x pg bg sg dV kV doc pm an cdv ct) [a1, a] []) (Sg : FnScope Ng [a1, a] sg) (hNg : Ng[1]? = some a) (hva : Vis sg a)
    (he1 : PE X e1 t1)
    (hG : GivesTo2 X Ng x sg g cdv bg a (X.env.qual ++ "<lambda>") ps.length TT)
    (TB : TabB X.base X.mg c P) (hcode : X.env.code = .ref c) (hmT : (P, X.env.qual ++ "<lambda>") ∈ T) (hu : ∀ p ∈ T, p.1 = P → p.2 = X.env.qual ++ "<lambda>") (hr : Room (k + 2) X.A) (hdef : defaultsOf params X.env = ([], []))
    (S : NScope N ps fr scope) (hfree : ∀ y ∈ scope.names, y.2 = .free → X.env.scope.names.lookup y.1 = some .cell ∨ X.env.scope.names.lookup y.1 = some .free) (hfr : ∀ y ∈ fr, (y, NameKind.free) ∈ scope.names) (hjs : js.map (fun j => X.N[j]?) = fr.map some)
    (hbind : ∀ (q : Str) (cl : List (Str × Addr)) (pm cv ctv : Value) (us : List Value), us.length = ps.length → bindArgs (PySem.W.kla_fn "<lambda>" q params body scope cl pm cv ctv) ⟨us, []⟩ = pure (ps.zip us))
    (hbody : ∀ (A : Around) (outer : List Env) (s : Shared) (H : Hp) (F : NF) (f : Addr), F.scope = scope → Room k (A.deeper (envF F f s.heap.objs.size)) → PE (ncx C8.CX0 X.prog X.w X.K X.mg X.base N F f A outer s H C8.E0) body tb)
    (hdb : (x == ("__debug__" : Str)) = false := by decide) (hd : (a == ("__debug__" : Str)) = false := by decide) (hcd : (a == ("__classdict__" : Str)) = false := by decide)
    (hs1 : starEach [e1, .Lambda params body scope lpos] X.env = (false, eval e1 X.env) :: starEach [.Lambda params body scope lpos] X.env := by rfl) (hpl : (backTo pos (starEach [.Lambda params body scope lpos] X.env)).any (·.1) = false := by rfl) :
    PE X (.Call (.Name x p) [e1, .Lambda params body scope lpos] [] pos) (tLam2 T N js TT tb t1) := by
  refine ⟨fun pins s σ H Q I h => ?_⟩
  refine wpAny_Call_Name_kw (ld_glob I hg hm ?_ hdb)
  refine PySem.W.callWith_K (h₀ := X.base) I.ok.mod.kin hk ?_ hs1 hpl
  rw [hs1]
  show wpAny _ _ (spliced ((false, eval e1 X.env) :: backTo pos (starEach [.Lambda params body scope lpos] X.env))) _ _ s
  refine Calls.spliced_cons (thn (he1.run pins s σ H _ I h) fun u1 s0 ⟨v1, H0, I0, r1, hT, h⟩ => ?_)
  have hfr' : ∀ y ∈ scope.names, y.2 = .free → ∃ c, X.env.cells.lookup y.1 = some c := fun y hy e => (hfree y hy e).elim (fun z => I0.ok.has _ (.inl z)) fun z => I0.ok.has _ (.inr z)
  show wpAny _ _ (spliced ((false, eval (.Lambda params body scope lpos) X.env) :: backTo pos (starEach [] X.env))) _ _ s0
  refine Calls.spliced_cons (lam_make2 I0 TB hcode hmT hu hT hdef hfr' fun f c' pm' ctv H1 s' I1 eN T1 hf hfn hfs hco => ?_)
  refine Calls.spliced_nil ⟨I1.kIn, ?_⟩
  have C := cells_of I1 (Caps.made (fr := fr) (js := js) I1.ok hfree hfr hjs)
  have rc : codeAny (model X.prog X.w) X.A (.call (.ref g) ⟨[u1, .ref f], []⟩) (CR C8.CX0 X.stack X.prog X.w H1 s' Q C8.E0) s' := by
    refine run_ofS (N := Ng) (ps := [a1, a]) (us := [u1, .ref f]) (vs := [v1, .ref f]) lk hcg Sg hr I1.env0 (hb s' [u1, .ref f] I1.kIn rfl) (.cons r1 (.cons rfl .nil)) rfl fun hr' => ?_
    refine (fun ⟨t, h1, h2⟩ => ⟨t, h1.nox, h2⟩) (hG f c' s' H1 Q v1 N (js.map (slotAt σ)) tb (fun e es t p1 p2 ha he hp => pe_lamact S (hbind _ _ _ _ _) hf hfn hfs C hr' (fun A outer s H hr2 => hbody A outer s H _ _ rfl hr2) hNg hva ha hd hcd he hp) hco (h H1 eN T1))
  refine wpAny_call (codeAny_mono rc fun r s2 hq => ?_)
  cases r with
  | error e => exact (show False from hq).elim
  | ok fl =>
    cases fl with
    | ret u => exact I1.after hq
    | next => exact False.elim hq
    | brk => exact False.elim hq
    | cont => exact False.elim hq
end Bh

set_option Elab.async false
set_option linter.all false
set_option maxRecDepth 100000
namespace Bh
open PySem PySem.Spec PyProof.Rows L2
/-! ### lines of cases: the mirror -/
def lettersD : Str := "abcdefghijklmnopqrstuvwxyz0123456789"
def wordB (w z : Str) : Bool := decide (1 ≤ w.length ∧ w.length ≤ 8) && (TL.tl w).all (fun c => decide (c ∈ TL.tl z))
def lineT (t : Tst) : Str := t.1 ++ t.2.1 ++ t.2.2
def lineS (s : Stp) : Str := if s.2 = "+" then s.1 ++ "+" else s.1 ++ ":" ++ s.2
def leftL (ts : List Tst) : Str := if ts = [] then "always" else Txt.join " and " (ts.map lineT)
def rightL : Option (List Stp) → Str
  | none => "drop"
  | some ss => if ss = [] then "keep" else Txt.join ", " (ss.map lineS)
def lineC (c : Cas) : Str := "when " ++ leftL c.1 ++ " do " ++ rightL c.2
def seqO {α : Type} : List (Option α) → Option (List α)
  | [] => some []
  | none :: _ => none
  | some x :: r => (seqO r).map (x :: ·)
def allR {α : Type} (l : List (Option α)) : Option (List α) := if l.length ≤ 6 then seqO l else none
def tryT (part s : Str) : Option Tst := if (wordB (Txt.partition part s).1 letters && wordB (Txt.partition part s).2.2 lettersD) = true then some ((Txt.partition part s).1, s, (Txt.partition part s).2.2) else none
def readT (part : Str) : Option Tst := signs.findSome? (tryT part)
def readS (part : Str) : Option Stp :=
  if Txt.endswith part "+" = true then (if wordB (Txt.removesuffix part "+") letters = true then some (Txt.removesuffix part "+", "+") else none)
  else if (wordB (Txt.partition part ":").1 letters && wordB (Txt.partition part ":").2.2 lettersD) = true then some ((Txt.partition part ":").1, (Txt.partition part ":").2.2) else none
def readTs (x : Str) : Option (List Tst) := if x = "always" then some [] else allR ((Txt.split x " and ").map readT)
def readSs (x : Str) : Option (List Stp) := if x = "keep" then some [] else allR ((Txt.split x ", ").map readS)
def readP (before behind : Str) : Option Cas := match readTs before with
  | none => none
  | some ts => if behind = "drop" then some (ts, none) else match readSs behind with
    | none => none
    | some ss => some (ts, some ss)
def readC (l : Str) : Option Cas := if Txt.startswith l "when " = true then readP (Txt.partition (Txt.removeprefix l "when ") " do ").1 (Txt.partition (Txt.removeprefix l "when ") " do ").2.2 else none
/-! what a case is -/
def OkT (t : Tst) : Prop := wordB t.1 letters = true ∧ t.2.1 ∈ signs ∧ wordB t.2.2 lettersD = true
def OkS (s : Stp) : Prop := wordB s.1 letters = true ∧ (s.2 = "+" ∨ wordB s.2 lettersD = true)
structure OkC (c : Cas) : Prop where
  n : c.1.length ≤ 6
  t : ∀ t ∈ c.1, OkT t
  m : ∀ ss, c.2 = some ss → ss.length ≤ 6
  s : ∀ ss, c.2 = some ss → ∀ s ∈ ss, OkS s
/-! words -/
theorem app_assoc (a b c : Str) : a ++ b ++ c = a ++ (b ++ c) := TL.ext_tl (by rw [TL.tl_append, TL.tl_append, TL.tl_append, TL.tl_append, List.append_assoc])
theorem word_len {w z : Str} (h : wordB w z = true) : 1 ≤ w.length ∧ w.length ≤ 8 := of_decide_eq_true (Bool.and_eq_true_iff.mp h).1
theorem word_mem {w z : Str} (h : wordB w z = true) : ∀ c ∈ TL.tl w, c ∈ TL.tl z := fun c hc => of_decide_eq_true (List.all_eq_true.mp (Bool.and_eq_true_iff.mp h).2 c hc)
theorem word_mk {w z : Str} (h1 : 1 ≤ w.length) (h2 : w.length ≤ 8) (h : ∀ c ∈ TL.tl w, c ∈ TL.tl z) : wordB w z = true :=
  Bool.and_eq_true_iff.mpr ⟨decide_eq_true ⟨h1, h2⟩, List.all_eq_true.mpr fun c hc => decide_eq_true (h c hc)⟩
theorem let_letD : ∀ c ∈ TL.tl letters, c ∈ TL.tl lettersD := by decide +kernel
theorem word_letD {w : Str} (h : wordB w letters = true) : wordB w lettersD = true := word_mk (word_len h).1 (word_len h).2 fun c hc => let_letD c (word_mem h c hc)
theorem word_free {w : Str} {c : Nat} (h : wordB w lettersD = true) (hc : c ∉ TL.tl lettersD) : c ∉ TL.tl w := fun z => hc (word_mem h c z)
theorem nm_word {w : Str} (h : IsNm w) : wordB w letters = true := word_mk h.lo h.hi fun c hc => by
  have key : ∀ k : _root_.Fin 26, 97 + k.val ∈ TL.tl letters := by decide +kernel
  obtain ⟨a, b⟩ := h.az c hc
  have q := key ⟨c - 97, by omega⟩
  rw [show 97 + (⟨c - 97, by omega⟩ : _root_.Fin 26).val = c by show 97 + (c - 97) = c; omega] at q
  exact q
theorem pool_word : ∀ o ∈ pool, wordB o lettersD = true := by decide +kernel
theorem empty_word (z : Str) : wordB Str.empty z = false := rfl
theorem nin (c : Nat) (h : c ∉ TL.tl lettersD) {a : Str} (ha : wordB a letters = true) : c ∉ TL.tl a := word_free (word_letD ha) h
/-! partition -/
theorem par_spec {S : List Nat} : ∀ {l acc a b : List Nat}, TL.par S acc l = some (a, b) → acc ++ l = a ++ (S ++ b)
  | [], acc, a, b, h => by cases h
  | c :: r, acc, a, b, h => by
    by_cases hp : TL.pre S (c :: r) = true
    · rw [TL.par_hit hp] at h
      cases h
      have e : (c :: r).take S.length = S := eq_of_beq hp
      conv =>
        lhs
        rw [← List.take_append_drop S.length (c :: r), e]
    · rw [TL.par_miss (Bool.eq_false_iff.mpr hp)] at h
      have q := par_spec h
      rw [← q, List.append_assoc]
      rfl
theorem part_cases (x y : Str) (hy : TL.tl y ≠ []) : (∃ a b, Txt.partition x y = (a, y, b) ∧ x = a ++ y ++ b) ∨ Txt.partition x y = (x, Str.empty, Str.empty) := by
  rw [TL.partition_par x y hy]
  cases h : TL.par (TL.tl y) [] (TL.tl x) with
  | none => exact .inr rfl
  | some p =>
    obtain ⟨a, b⟩ := p
    refine .inl ⟨_, _, rfl, TL.ext_tl ?_⟩
    have q := par_spec h
    rw [TL.tl_append, TL.tl_append, List.append_assoc]
    exact q
/-! prefixes, suffixes -/
theorem at0 {x y : Str} : Builtin.Str.subAt x y 0 = true ↔ (TL.tl x).take (TL.tl y).length = TL.tl y := by
  rw [StrLaws.subAt_eq, List.drop_zero, TL.len_tl y]
  exact ⟨fun h => eq_of_beq h, fun h => by rw [h]; exact beq_self_eq_true _⟩
theorem starts_app (y a : Str) : Txt.startswith (y ++ a) y = true := by
  unfold Txt.startswith
  rw [at0.mpr (by rw [TL.tl_append, List.take_left]), decide_eq_true (by rw [TL.len_tl, TL.len_tl, TL.tl_append, List.length_append]; omega)]
  rfl
theorem removeprefix_app (y a : Str) : Txt.removeprefix (y ++ a) y = a := by
  have h := starts_app y a
  unfold Txt.startswith at h
  rw [StrLaws.removeprefix_eq, if_pos h]
  refine TL.ext_tl ?_
  show List.take _ (List.drop _ (TL.tl (y ++ a))) = TL.tl a
  rw [TL.len_tl, TL.len_tl, TL.tl_append, List.drop_left, List.length_append]
  exact List.take_of_length_le (by omega)
theorem prefix_spec {x y : Str} (h : Txt.startswith x y = true) : x = y ++ Txt.removeprefix x y := by
  unfold Txt.startswith at h
  rw [StrLaws.removeprefix_eq, if_pos h]
  have h1 := at0.mp (Bool.and_eq_true_iff.mp h).2
  refine TL.ext_tl ?_
  rw [TL.tl_append]
  show _ = TL.tl y ++ List.take _ (List.drop _ (TL.tl x))
  rw [TL.len_tl, TL.len_tl, List.take_of_length_le (by rw [List.length_drop]; exact Nat.le_refl _)]
  conv =>
    lhs
    rw [← List.take_append_drop (TL.tl y).length (TL.tl x), h1]
theorem ends_app (a y : Str) : Txt.endswith (a ++ y) y = true := by
  unfold Txt.endswith
  have e : Builtin.Str.subAt (a ++ y) y ((a ++ y).length - y.length) = true := by
    rw [StrLaws.subAt_eq, TL.len_tl, TL.len_tl]
    show ((TL.tl (a ++ y)).drop _).take _ == TL.tl y
    rw [TL.tl_append, List.length_append, Nat.add_sub_cancel, List.drop_left, List.take_length]
    exact beq_self_eq_true _
  rw [e, decide_eq_true (by rw [TL.len_tl, TL.len_tl, TL.tl_append, List.length_append]; omega)]
  rfl
theorem removesuffix_app (a y : Str) : Txt.removesuffix (a ++ y) y = a := by
  have h := ends_app a y
  unfold Txt.endswith at h
  rw [StrLaws.removesuffix_eq, if_pos h]
  refine TL.ext_tl ?_
  show List.take _ (List.drop 0 (TL.tl (a ++ y))) = TL.tl a
  rw [TL.len_tl, TL.len_tl, TL.tl_append, List.drop_zero, List.length_append, Nat.add_sub_cancel, Nat.sub_zero, List.take_left]
theorem suffix_spec {x y : Str} (h : Txt.endswith x y = true) : x = Txt.removesuffix x y ++ y := by
  unfold Txt.endswith at h
  rw [StrLaws.removesuffix_eq, if_pos h]
  have h1 := (Bool.and_eq_true_iff.mp h).2
  rw [StrLaws.subAt_eq] at h1
  have h2 : (List.drop (x.length - y.length) (TL.tl x)).take y.length = TL.tl y := eq_of_beq h1
  have h3 : 0 + y.length ≤ x.length := of_decide_eq_true (Bool.and_eq_true_iff.mp h).1
  refine TL.ext_tl ?_
  rw [TL.tl_append]
  show _ = List.take _ (List.drop 0 (TL.tl x)) ++ TL.tl y
  rw [← h2, List.drop_zero, Nat.sub_zero, List.take_of_length_le (l := List.drop _ _) (by rw [List.length_drop, ← TL.len_tl]; omega), List.take_append_drop]
theorem mem_app {c : Nat} {a b : Str} : c ∈ TL.tl (a ++ b) ↔ c ∈ TL.tl a ∨ c ∈ TL.tl b := by rw [TL.tl_append]; exact List.mem_append
theorem ends_mem {x y : Str} {c : Nat} (h : Txt.endswith x y = true) (hc : c ∈ TL.tl y) : c ∈ TL.tl x := by
  rw [suffix_spec h]
  exact mem_app.mpr (.inr hc)
/-! one test, one step -/
theorem sign_nl : ∀ s ∈ signs, ∀ c ∈ TL.tl s, c ∉ TL.tl lettersD := by decide +kernel
theorem sign_one : ∀ s ∈ signs, ∃ c, TL.tl s = [c] := by
  intro s hs
  simp only [signs, List.mem_cons, List.not_mem_nil, or_false] at hs
  rcases hs with rfl | rfl | rfl | rfl <;> exact ⟨_, rfl⟩
theorem sign_ne : ∀ s ∈ signs, ∀ t ∈ signs, s ≠ t → ∀ c ∈ TL.tl s, c ∉ TL.tl t := by decide +kernel
theorem tryT_hit {t : Tst} (h : OkT t) : tryT (lineT t) t.2.1 = some t := by
  obtain ⟨h1, h2, h3⟩ := h
  obtain ⟨c, hc⟩ := sign_one _ h2
  have nl := sign_nl _ h2 c (by rw [hc]; exact List.mem_singleton.mpr rfl)
  have e : Txt.partition (lineT t) t.2.1 = (t.1, t.2.1, t.2.2) := TL.partition_app hc (nin c nl h1)
  unfold tryT
  rw [e]
  exact if_pos (Bool.and_eq_true_iff.mpr ⟨h1, h3⟩)
theorem tryT_miss {t : Tst} {s : Str} (h : OkT t) (hs : s ∈ signs) (ne : s ≠ t.2.1) : tryT (lineT t) s = none := by
  obtain ⟨h1, h2, h3⟩ := h
  obtain ⟨c, hc⟩ := sign_one _ hs
  have mc : c ∈ TL.tl s := by rw [hc]; exact List.mem_singleton.mpr rfl
  have nl := sign_nl _ hs c mc
  have nf : c ∉ TL.tl (lineT t) := fun z => by
    rcases mem_app.mp z with z | z
    · rcases mem_app.mp z with z | z
      · exact nin c nl h1 z
      · exact sign_ne _ hs _ h2 ne c mc z
    · exact word_free h3 nl z
  have e : Txt.partition (lineT t) s = (lineT t, Str.empty, Str.empty) := TL.partition_none hc nf
  unfold tryT
  rw [e]
  refine if_neg ?_
  rw [empty_word, Bool.and_false]
  exact Bool.false_ne_true
theorem find_one {α β : Type} (f : α → Option β) (y : β) : ∀ (l : List α) (x : α), x ∈ l → f x = some y → (∀ z ∈ l, z ≠ x → f z = none) → l.findSome? f = some y
  | [], x, h, _, _ => by cases h
  | a :: r, x, h, hx, hn => by
    by_cases e : a = x
    · rw [List.findSome?_cons, e, hx]
    · rw [List.findSome?_cons, hn a (List.mem_cons_self ..) e]
      rcases List.mem_cons.mp h with z | z
      · exact absurd z.symm e
      · exact find_one f y r x z hx fun w hw => hn w (List.mem_cons_of_mem _ hw)
theorem readT_line {t : Tst} (h : OkT t) : readT (lineT t) = some t := find_one _ _ signs t.2.1 h.2.1 (tryT_hit h) fun s hs ne => tryT_miss h hs ne
theorem readT_back {part : Str} {t : Tst} (h : readT part = some t) : lineT t = part ∧ OkT t := by
  obtain ⟨s, hs, e⟩ := List.exists_of_findSome?_eq_some h
  unfold tryT at e
  by_cases hw : (wordB (Txt.partition part s).1 letters && wordB (Txt.partition part s).2.2 lettersD) = true
  · rw [if_pos hw] at e
    cases e
    have hw2 := Bool.and_eq_true_iff.mp hw
    refine ⟨?_, hw2.1, hs, hw2.2⟩
    obtain ⟨c, hc⟩ := sign_one _ hs
    rcases part_cases part s (by rw [hc]; simp) with ⟨a, b, e1, e2⟩ | e1
    · rw [e1]
      exact e2.symm
    · rw [e1] at hw2
      exact absurd hw2.2 (by rw [empty_word]; exact Bool.false_ne_true)
  · rw [if_neg hw] at e
    cases e
theorem readS_line {s : Stp} (h : OkS s) : readS (lineS s) = some s := by
  obtain ⟨h1, h2⟩ := h
  obtain ⟨a, b⟩ := s
  by_cases e : b = "+"
  · subst e
    have el : lineS (a, "+") = a ++ "+" := if_pos rfl
    unfold readS
    rw [el, if_pos (ends_app a "+"), removesuffix_app]
    exact if_pos h1
  · have hb : wordB b lettersD = true := h2.resolve_left e
    have el : lineS (a, b) = a ++ ":" ++ b := if_neg e
    have nf : 43 ∉ TL.tl (a ++ ":" ++ b) := fun z => by
      rcases mem_app.mp z with z | z
      · rcases mem_app.mp z with z | z
        · exact nin 43 (by decide +kernel) h1 z
        · exact absurd z (by decide +kernel)
      · exact word_free hb (by decide +kernel) z
    have ne : ¬ Txt.endswith (a ++ ":" ++ b) "+" = true := fun z => nf (ends_mem z (by decide +kernel))
    have ep : Txt.partition (a ++ ":" ++ b) ":" = (a, (":" : Str), b) := TL.partition_app (y := ":") (s := 58) (S := []) rfl (nin 58 (by decide +kernel) h1)
    unfold readS
    rw [el, if_neg ne, ep]
    exact if_pos (Bool.and_eq_true_iff.mpr ⟨h1, hb⟩)
theorem readS_back {part : Str} {s : Stp} (h : readS part = some s) : lineS s = part ∧ OkS s := by
  unfold readS at h
  by_cases e : Txt.endswith part "+" = true
  · rw [if_pos e] at h
    by_cases hw : wordB (Txt.removesuffix part "+") letters = true
    · rw [if_pos hw] at h
      cases h
      refine ⟨?_, hw, .inl rfl⟩
      have q : lineS (Txt.removesuffix part "+", "+") = Txt.removesuffix part "+" ++ "+" := if_pos rfl
      rw [q]
      exact (suffix_spec e).symm
    · rw [if_neg hw] at h
      cases h
  · rw [if_neg e] at h
    by_cases hw : (wordB (Txt.partition part ":").1 letters && wordB (Txt.partition part ":").2.2 lettersD) = true
    · rw [if_pos hw] at h
      cases h
      have hw2 := Bool.and_eq_true_iff.mp hw
      refine ⟨?_, hw2.1, .inr hw2.2⟩
      have nb : (Txt.partition part ":").2.2 ≠ "+" := fun z => by
        rw [z] at hw2
        exact absurd hw2.2 (by decide +kernel)
      have q : lineS ((Txt.partition part ":").1, (Txt.partition part ":").2.2) = (Txt.partition part ":").1 ++ ":" ++ (Txt.partition part ":").2.2 := if_neg nb
      rw [q]
      rcases part_cases part ":" (by decide +kernel) with ⟨a, b, e1, e2⟩ | e1
      · rw [e1]
        exact e2.symm
      · rw [e1] at hw2
        exact absurd hw2.2 (by rw [empty_word]; exact Bool.false_ne_true)
    · rw [if_neg hw] at h
      cases h
/-! all of them -/
theorem seqO_some {α : Type} : ∀ l : List α, seqO (l.map some) = some l
  | [] => rfl
  | x :: r => by
    show (seqO (r.map some)).map (x :: ·) = _
    rw [seqO_some r]
    rfl
theorem seqO_back {α : Type} : ∀ {l : List (Option α)} {ys : List α}, seqO l = some ys → l = ys.map some
  | [], _, h => by cases h; rfl
  | none :: _, _, h => by cases h
  | some x :: r, ys, h => by
    have h' : (seqO r).map (x :: ·) = some ys := h
    cases e : seqO r with
    | none =>
      rw [e] at h'
      cases h'
    | some zs =>
      rw [e] at h'
      cases h'
      rw [seqO_back e]
      rfl
theorem allR_line {α : Type} {line : α → Str} {read : Str → Option α} {l : List α} (h : ∀ x ∈ l, read (line x) = some x) (n : l.length ≤ 6) : allR ((l.map line).map read) = some l := by
  have e : (l.map line).map read = l.map some := by
    rw [List.map_map]
    exact List.map_congr_left fun x hx => h x hx
  unfold allR
  rw [e, if_pos (by rw [List.length_map]; exact n), seqO_some]
theorem allR_back {α : Type} {line : α → Str} {read : Str → Option α} {Ok : α → Prop} {l : List Str} {ys : List α} (hb : ∀ p x, read p = some x → line x = p ∧ Ok x) (h : allR (l.map read) = some ys) : ys.map line = l ∧ ys.length ≤ 6 ∧ ∀ y ∈ ys, Ok y := by
  unfold allR at h
  by_cases hl : (l.map read).length ≤ 6
  · rw [if_pos hl] at h
    have q := seqO_back h
    have key : ∀ (l : List Str) (ys : List α), l.map read = ys.map some → ys.map line = l ∧ ∀ y ∈ ys, Ok y := by
      intro l
      induction l with
      | nil =>
        intro ys q
        cases ys with
        | nil => exact ⟨rfl, fun y hy => by cases hy⟩
        | cons y r => cases q
      | cons p r ih =>
        intro ys q
        cases ys with
        | nil => cases q
        | cons y ys =>
          rw [List.map_cons, List.map_cons] at q
          injection q with q1 q2
          obtain ⟨e1, e2⟩ := ih ys q2
          obtain ⟨f1, f2⟩ := hb p y q1
          refine ⟨by rw [List.map_cons, f1, e1], fun z hz => ?_⟩
          rcases List.mem_cons.mp hz with rfl | hz
          · exact f2
          · exact e2 z hz
    obtain ⟨e1, e2⟩ := key l ys q
    have hl2 : (ys.map some).length ≤ 6 := by
      rw [← q]
      exact hl
    rw [List.length_map] at hl2
    exact ⟨e1, hl2, e2⟩
  · rw [if_neg hl] at h
    cases h
theorem split_ne (x y : Str) : Txt.split x y ≠ [] := by
  unfold Txt.split
  split
  · simp
  · split
    · simp
    · intro h
      rw [StrLaws.partsBetween_eq] at h
      obtain ⟨p, q, e⟩ := StrLaws.partsFrom_ne x y.length 0 (Builtin.Str.occurrences x y 0 x.length (x.length + 1))
      rw [e] at h
      cases h
theorem join_mem {y : Str} {c : Nat} {p : Str} {r : List Str} (h : c ∈ TL.tl p) : c ∈ TL.tl (Txt.join y (p :: r)) := by
  rw [TL.join_eq]
  cases r with
  | nil => exact h
  | cons q r =>
    show c ∈ TL.tl (p ++ y ++ Str.join y (q :: r))
    exact mem_app.mpr (.inl (mem_app.mpr (.inl h)))

/-! the tests of a line, its steps -/
theorem lineT_free {t : Tst} (h : OkT t) : 32 ∉ TL.tl (lineT t) ∧ 3 ≤ (TL.tl (lineT t)).length := by
  obtain ⟨h1, h2, h3⟩ := h
  refine ⟨fun z => ?_, ?_⟩
  · rcases mem_app.mp z with z | z
    · rcases mem_app.mp z with z | z
      · exact nin 32 (by decide +kernel) h1 z
      · have key : ∀ s ∈ signs, 32 ∉ TL.tl s := by decide +kernel
        exact key _ h2 z
    · exact word_free h3 (by decide +kernel) z
  · obtain ⟨c, hc⟩ := sign_one _ h2
    have l1 := (word_len h1).1
    have l3 := (word_len h3).1
    rw [TL.len_tl] at l1 l3
    unfold lineT
    rw [TL.tl_append, TL.tl_append, hc, List.length_append, List.length_append]
    show 3 ≤ _ + 1 + _
    omega
theorem lineT_sign {t : Tst} (h : OkT t) : ∃ c ∈ ([61, 33, 60, 62] : List Nat), c ∈ TL.tl (lineT t) := by
  have key : ∀ s ∈ signs, ∃ c ∈ ([61, 33, 60, 62] : List Nat), c ∈ TL.tl s := by decide +kernel
  obtain ⟨c, h1, h2⟩ := key _ h.2.1
  exact ⟨c, h1, mem_app.mpr (.inl (mem_app.mpr (.inr h2)))⟩
theorem lineS_free {s : Stp} (h : OkS s) : 44 ∉ TL.tl (lineS s) ∧ 32 ∉ TL.tl (lineS s) ∧ ∃ c ∈ ([43, 58] : List Nat), c ∈ TL.tl (lineS s) := by
  obtain ⟨h1, h2⟩ := h
  obtain ⟨a, b⟩ := s
  by_cases e : b = "+"
  · subst e
    have el : lineS (a, "+") = a ++ "+" := if_pos rfl
    rw [el]
    refine ⟨fun z => ?_, fun z => ?_, 43, by decide, mem_app.mpr (.inr (by decide +kernel))⟩
    · rcases mem_app.mp z with z | z
      · exact nin 44 (by decide +kernel) h1 z
      · exact absurd z (by decide +kernel)
    · rcases mem_app.mp z with z | z
      · exact nin 32 (by decide +kernel) h1 z
      · exact absurd z (by decide +kernel)
  · have hb : wordB b lettersD = true := h2.resolve_left e
    have el : lineS (a, b) = a ++ ":" ++ b := if_neg e
    rw [el]
    refine ⟨fun z => ?_, fun z => ?_, 58, by decide, mem_app.mpr (.inl (mem_app.mpr (.inr (by decide +kernel))))⟩
    · rcases mem_app.mp z with z | z
      · rcases mem_app.mp z with z | z
        · exact nin 44 (by decide +kernel) h1 z
        · exact absurd z (by decide +kernel)
      · exact word_free hb (by decide +kernel) z
    · rcases mem_app.mp z with z | z
      · rcases mem_app.mp z with z | z
        · exact nin 32 (by decide +kernel) h1 z
        · exact absurd z (by decide +kernel)
      · exact word_free hb (by decide +kernel) z
theorem readTs_left {ts : List Tst} (h : ∀ t ∈ ts, OkT t) (n : ts.length ≤ 6) : readTs (leftL ts) = some ts := by
  unfold readTs leftL
  by_cases e : ts = []
  · subst e
    rfl
  · rw [if_neg e]
    have ne : Txt.join " and " (ts.map lineT) ≠ "always" := fun z => by
      cases ts with
      | nil => exact e rfl
      | cons t r =>
        obtain ⟨c, h1, h2⟩ := lineT_sign (h t (List.mem_cons_self ..))
        have q : c ∈ TL.tl (Txt.join " and " ((t :: r).map lineT)) := join_mem h2
        rw [z] at q
        have key : ∀ c ∈ ([61, 33, 60, 62] : List Nat), c ∉ TL.tl ("always" : Str) := by decide +kernel
        exact key c h1 q
    rw [if_neg ne, TL.split_join (y := " and ") (s := 32) (S := [97, 110, 100, 32]) (by decide +kernel) (by decide +kernel) (by simpa using e) (fun p hp => by
      obtain ⟨t, ht, rfl⟩ := List.mem_map.mp hp
      exact (lineT_free (h t ht)).1)]
    exact allR_line (fun t ht => readT_line (h t ht)) n
theorem readTs_back {x : Str} {ts : List Tst} (h : readTs x = some ts) : leftL ts = x ∧ ts.length ≤ 6 ∧ ∀ t ∈ ts, OkT t := by
  unfold readTs at h
  by_cases e : x = "always"
  · rw [if_pos e] at h
    cases h
    exact ⟨e.symm, by decide, fun t ht => by cases ht⟩
  · rw [if_neg e] at h
    obtain ⟨e1, e2, e3⟩ := allR_back (fun p t h => readT_back h) h
    refine ⟨?_, e2, e3⟩
    have ne : ts ≠ [] := fun z => by
      rw [z] at e1
      exact split_ne _ _ e1.symm
    unfold leftL
    rw [if_neg ne, e1, TL.join_eq, StrLaws.join_split]
theorem readSs_right {ss : List Stp} (h : ∀ s ∈ ss, OkS s) (n : ss.length ≤ 6) : readSs (rightL (some ss)) = some ss ∧ rightL (some ss) ≠ "drop" := by
  by_cases e : ss = []
  · subst e
    exact ⟨rfl, by decide +kernel⟩
  · have eR : rightL (some ss) = Txt.join ", " (ss.map lineS) := if_neg e
    rw [eR]
    have key : ∃ c ∈ ([43, 58] : List Nat), c ∈ TL.tl (Txt.join ", " (ss.map lineS)) := by
      cases ss with
      | nil => exact absurd rfl e
      | cons s r =>
        obtain ⟨_, _, c, h1, h2⟩ := lineS_free (h s (List.mem_cons_self ..))
        exact ⟨c, h1, join_mem h2⟩
    obtain ⟨c, h1, h2⟩ := key
    have nk : Txt.join ", " (ss.map lineS) ≠ "keep" := fun z => by
      rw [z] at h2
      have key : ∀ c ∈ ([43, 58] : List Nat), c ∉ TL.tl ("keep" : Str) := by decide +kernel
      exact key c h1 h2
    refine ⟨?_, fun z => ?_⟩
    · unfold readSs
      rw [if_neg nk, TL.split_join (y := ", ") (s := 44) (S := [32]) (by decide +kernel) (by decide +kernel) (by simpa using e) (fun p hp => by
        obtain ⟨s, hs, rfl⟩ := List.mem_map.mp hp
        exact (lineS_free (h s hs)).1)]
      exact allR_line (fun s hs => readS_line (h s hs)) n
    · rw [z] at h2
      have key : ∀ c ∈ ([43, 58] : List Nat), c ∉ TL.tl ("drop" : Str) := by decide +kernel
      exact key c h1 h2
theorem readSs_back {x : Str} {ss : List Stp} (h : readSs x = some ss) : rightL (some ss) = x ∧ ss.length ≤ 6 ∧ ∀ s ∈ ss, OkS s := by
  unfold readSs at h
  by_cases e : x = "keep"
  · rw [if_pos e] at h
    cases h
    exact ⟨e.symm, by decide, fun t ht => by cases ht⟩
  · rw [if_neg e] at h
    obtain ⟨e1, e2, e3⟩ := allR_back (fun p t h => readS_back h) h
    refine ⟨?_, e2, e3⟩
    have ne : ss ≠ [] := fun z => by
      rw [z] at e1
      exact split_ne _ _ e1.symm
    show (if ss = [] then ("keep" : Str) else Txt.join ", " (ss.map lineS)) = x
    rw [if_neg ne, e1, TL.join_eq, StrLaws.join_split]
/-! the whole line -/
theorem par_skip {s : Nat} {S : List Nat} : ∀ {p l acc : List Nat}, s ∉ p → TL.par (s :: S) acc (p ++ l) = TL.par (s :: S) (acc ++ p) l
  | [], l, acc, _ => by rw [List.append_nil]; rfl
  | c :: r, l, acc, h => by
    show TL.par (s :: S) acc (c :: (r ++ l)) = _
    rw [TL.par_miss (TL.pre_of_head S (r ++ l) fun z => h (by rw [z]; exact List.mem_cons_self ..)), par_skip fun z => h (List.mem_cons_of_mem _ z), List.append_assoc]
    rfl
theorem pre_do {q l : List Nat} (h : 32 ∉ q) (n : 3 ≤ q.length) : TL.pre [32, 100, 111, 32] (32 :: (q ++ l)) = false := by
  match q, h, n with
  | a :: b :: c :: r, h, _ =>
    refine Bool.eq_false_iff.mpr fun z => ?_
    have e : (32 :: (a :: b :: c :: r ++ l)).take 4 = [32, 100, 111, 32] := eq_of_beq z
    have e2 : [32, a, b, c] = [32, 100, 111, 32] := e
    injection e2 with _ e2
    injection e2 with _ e2
    injection e2 with _ e2
    injection e2 with e2 _
    exact h (by rw [e2]; simp)
theorem par_tests : ∀ {parts : List (List Nat)} {acc rest : List Nat}, parts ≠ [] → (∀ p ∈ parts, 32 ∉ p ∧ 3 ≤ p.length) →
    TL.par [32, 100, 111, 32] acc (TL.joinL [32, 97, 110, 100, 32] parts ++ ([32, 100, 111, 32] ++ rest)) = some (acc ++ TL.joinL [32, 97, 110, 100, 32] parts, rest)
  | [], _, _, h, _ => absurd rfl h
  | [p], acc, rest, _, h => TL.par_part1 (h p (List.mem_singleton.mpr rfl)).1
  | p :: q :: r, acc, rest, _, h => by
    have hp := h p (List.mem_cons_self ..)
    have hq := h q (List.mem_cons_of_mem _ (List.mem_cons_self ..))
    have ih := par_tests (parts := q :: r) (acc := acc ++ p ++ [32, 97, 110, 100, 32]) (rest := rest) (by simp) (fun z hz => h z (List.mem_cons_of_mem _ hz))
    have ej : TL.joinL [32, 97, 110, 100, 32] (p :: q :: r) = p ++ ([32, 97, 110, 100, 32] ++ TL.joinL [32, 97, 110, 100, 32] (q :: r)) := rfl
    have eq1 : ∃ t, TL.joinL [32, 97, 110, 100, 32] (q :: r) = q ++ t := by
      cases r with
      | nil => exact ⟨[], (List.append_nil _).symm⟩
      | cons z r => exact ⟨_, rfl⟩
    obtain ⟨t, et⟩ := eq1
    rw [ej, List.append_assoc, par_skip hp.1, List.append_assoc]
    show TL.par [32, 100, 111, 32] (acc ++ p) (32 :: 97 :: 110 :: 100 :: 32 :: (TL.joinL [32, 97, 110, 100, 32] (q :: r) ++ ([32, 100, 111, 32] ++ rest))) = _
    rw [TL.par_miss rfl, TL.par_miss (TL.pre_of_head _ _ (by decide)), TL.par_miss (TL.pre_of_head _ _ (by decide)), TL.par_miss (TL.pre_of_head _ _ (by decide)),
      TL.par_miss (by rw [et, List.append_assoc]; exact pre_do hq.1 hq.2)]
    have ea : acc ++ p ++ [32] ++ [97] ++ [110] ++ [100] ++ [32] = acc ++ p ++ [32, 97, 110, 100, 32] := by simp
    rw [ea, ih]
    simp
theorem part_line {ts : List Tst} (h : ∀ t ∈ ts, OkT t) (b : Str) : Txt.partition (leftL ts ++ " do " ++ b) " do " = (leftL ts, (" do " : Str), b) := by
  by_cases e : ts = []
  · subst e
    exact TL.partition_app (y := " do ") (s := 32) (S := [100, 111, 32]) (by decide +kernel) (by decide +kernel)
  · have el : leftL ts = Txt.join " and " (ts.map lineT) := if_neg e
    have et : TL.tl (leftL ts) = TL.joinL [32, 97, 110, 100, 32] (ts.map (fun t => TL.tl (lineT t))) := by
      rw [el, TL.join_eq, TL.tl_join, List.map_map]
      rfl
    have hd : TL.tl (" do " : Str) = [32, 100, 111, 32] := by decide +kernel
    rw [TL.partition_par _ _ (by rw [hd]; simp), TL.tl_append, TL.tl_append, List.append_assoc, hd, et]
    have hq : ∀ p ∈ ts.map (fun t => TL.tl (lineT t)), 32 ∉ p ∧ 3 ≤ p.length := fun p hp => by
      obtain ⟨t, ht, rfl⟩ := List.mem_map.mp hp
      exact lineT_free (h t ht)
    rw [par_tests (acc := []) (rest := TL.tl b) (by simpa using e) hq]
    show ((⟨([] ++ _ : List Nat).toArray⟩ : Str), _, (⟨(TL.tl b).toArray⟩ : Str)) = _
    rw [List.nil_append, ← et, TL.mk_tl, TL.mk_tl]
/-- the line of a case, read -/
theorem readC_line {c : Cas} (h : OkC c) : readC (lineC c) = some c := by
  have e : lineC c = "when " ++ (leftL c.1 ++ " do " ++ rightL c.2) := by
    unfold lineC
    rw [app_assoc, app_assoc, app_assoc]
  unfold readC
  rw [e, if_pos (starts_app _ _), removeprefix_app, part_line h.t]
  unfold readP
  show (match readTs (leftL c.1) with | none => none | some ts => _) = _
  rw [readTs_left h.t h.n]
  obtain ⟨ts, so⟩ := c
  cases so with
  | none => rfl
  | some ss =>
    obtain ⟨e1, e2⟩ := readSs_right (h.s ss rfl) (h.m ss rfl)
    show (if rightL (some ss) = "drop" then _ else match readSs (rightL (some ss)) with | none => none | some ss => some (ts, some ss)) = _
    rw [if_neg e2, e1]
/-- a line that is read is the line of the case -/
theorem readC_back {l : Str} {c : Cas} (h : readC l = some c) : lineC c = l ∧ OkC c := by
  unfold readC at h
  by_cases e : Txt.startswith l "when " = true
  · rw [if_pos e] at h
    have el := prefix_spec e
    have key : ∀ {x y : Str} {c : Cas}, readP x y = some c → leftL c.1 = x ∧ rightL c.2 = y ∧ OkC c := by
      intro x y c hr
      unfold readP at hr
      cases e1 : readTs x with
      | none =>
        rw [e1] at hr
        cases hr
      | some ts =>
        rw [e1] at hr
        obtain ⟨a1, a2, a3⟩ := readTs_back e1
        have hr' : (if y = "drop" then some (ts, none) else match readSs y with | none => none | some ss => some (ts, some ss)) = some c := hr
        by_cases e2 : y = "drop"
        · rw [if_pos e2] at hr'
          cases hr'
          exact ⟨a1, e2.symm, a2, a3, (fun ss z => by cases z), (fun ss z => by cases z)⟩
        · rw [if_neg e2] at hr'
          cases e3 : readSs y with
          | none =>
            rw [e3] at hr'
            cases hr'
          | some ss =>
            rw [e3] at hr'
            cases hr'
            obtain ⟨b1, b2, b3⟩ := readSs_back e3
            exact ⟨a1, b1, a2, a3, (fun ss z => by cases z; exact b2), (fun ss z => by cases z; exact b3)⟩
    obtain ⟨k1, k2, k3⟩ := key h
    refine ⟨?_, k3⟩
    rcases part_cases (Txt.removeprefix l "when ") " do " (by decide +kernel) with ⟨a, b, p1, p2⟩ | p1
    · rw [p1] at k1 k2
      unfold lineC
      rw [k1, k2, app_assoc, app_assoc, ← app_assoc a, ← p2]
      exact el.symm
    · rw [p1] at h
      have hx : readSs (Str.empty) = none := by decide +kernel
      have hy : ¬ (Str.empty : Str) = "drop" := by decide +kernel
      unfold readP at h
      cases e1 : readTs (Txt.removeprefix l "when ") with
      | none =>
        rw [e1] at h
        cases h
      | some ts =>
        rw [e1] at h
        have h' : (if (Str.empty : Str) = "drop" then some (ts, none) else match readSs Str.empty with | none => none | some ss => some (ts, some ss)) = some c := h
        rw [if_neg hy, hx] at h'
        cases h'
  · rw [if_neg e] at h
    cases h
end Bh

set_option Elab.async false
set_option linter.all false
set_option maxRecDepth 100000
namespace Bh
open PySem PySem.Spec PyProof.Rows L2
/-! ### the parts of a rulebook as data -/
/-- a statement that is never reached -/
theorem ps_dead {X : Cx} {st : Stmt} : PS X st (fun _ _ _ => False) := ⟨fun _ _ _ _ _ _ h => h.elim⟩
theorem pa_starK {X : Cx} {K : PySem.W.Frag} {e : Expr} {es : List Expr} {te : TE} {t : TA} {p : Pos} (hK : X.K = K) (he : PE X e te) (hr : PA X es t) (hs : starEach (.Starred e p :: es) X.env = (true, eval e X.env) :: starEach es X.env := by rfl) : PA X (.Starred e p :: es) (StX.tStar K te t) := by
  subst hK
  exact StX.pa_star he hr hs
theorem pe_dead {X : Cx} {e : Expr} : PE X e (fun _ _ _ => False) := ⟨fun _ _ _ _ _ _ h => h.elim⟩
theorem iteB {b : Bool} {A B : Prop} (h1 : b = true → A) (h2 : b = false → B) : if b = true then A else B := by
  cases b
  · exact h2 rfl
  · exact h1 rfl
/-- a walk, whatever is done at each turn -/
theorem walk_out {J : It} {n : Nat} {G : Hp → Prop} {Y : Nat → Hp → V → Hp → Prop} (w : Walk J n G Y) {B : V → Hp → (Hp → Prop) → Prop} {H0 : Hp} {Qd : Hp → Prop} (Pv : Nat → Hp → Prop) (h0 : Pv 0 H0) (hG : ∀ i H, i ≤ n → Pv i H → G H)
    (hs : ∀ i x H H', i < n → Pv i H → Y i H x H' → B x H' (Pv (i + 1))) (hd : ∀ H, Pv n H → Qd H) :
    ∃ W : Nat → Nat → Hp → Prop, (∃ m, W 0 m H0) ∧ ∀ i m H, W i m H → (J.stop i H ∧ Qd H) ∨ (J.go i H ∧ ∃ Nx : Hp → Prop, (∀ H', Nx H' → ∃ m', m' < m ∧ W (i + 1) m' H') ∧ ∀ x H', J.yld i H x H' → B x H' Nx) := by
  refine ⟨fun i m H => m + i = n ∧ Pv i H, ⟨n, by omega, h0⟩, ?_⟩
  rintro i m H ⟨em, p⟩
  by_cases hi : i < n
  · refine .inr ⟨w.goes i H hi (hG i H (by omega) p), Pv (i + 1), fun H' p' => ⟨m - 1, by omega, by omega, p'⟩, fun x H' y => hs i x H H' hi p (w.yields i H x H' hi (hG i H (by omega) p) y)⟩
  · obtain rfl : i = n := by omega
    exact .inl ⟨w.stops H (hG i H (Nat.le_refl _) p), hd H p⟩
/-- a comprehension of which all items come out true -/
theorem lc_trues {J : It} {n : Nat} {G : Hp → Prop} {xs : List V} (wk : Walk J n G (YAt xs)) {H : Hp} {D : Addr} {g : TG} {te : TE} {vs : List Nat} {σ : L2.St} {Qd : Hp → Prop} (nD : H D = none) (hn : n ≤ 100000) (hG : ∀ H', Same H H' → G H')
    (hs : ∀ (i : Nat) (x : V) (H' : Hp) (R : V → Hp → Prop) (R' : Hp → Prop), xs[i]? = some x → Same H H' → (∀ H4, Same H' H4 → R (.bl true) H4) → g x (wipe σ vs) H' fun σ2 H2 => wipe σ2 vs = wipe σ vs ∧ tYes σ2 H2 fun b H3 => if b = true then te σ2 H3 R else R' H3)
    (hd : ∀ H', Same H H' → H' D = some (.lst ((List.replicate n true).map V.bl)) → Qd H') :
    ∃ W : Nat → Nat → Hp → Prop, (∃ m, W 0 m (upd H D (.lst []))) ∧ ∀ i m H, W i m H →
      (J.stop i H ∧ Qd H) ∨ (J.go i H ∧ ∃ Nx : Hp → Prop, (∀ H', Nx H' → ∃ m', m' < m ∧ W (i + 1) m' H') ∧ ∀ x H', J.yld i H x H' → g x (wipe σ vs) H' fun σ2 H2 => wipe σ2 vs = wipe σ vs ∧ tYes σ2 H2 fun b H3 =>
        if b = true then te σ2 H3 fun y H4 => ∃ acc, H4 D = some (.lst acc) ∧ acc.length < sizeLine ∧ Nx (upd H4 D (.lst (acc ++ [y]))) else Nx H3) := by
  refine lc_it wk (fun i H' => Same H H' ∧ H' D = some (.lst ((List.replicate i true).map V.bl))) ⟨same_new nD, upd_same⟩ (fun i H' _ p => hG H' p.1) ?_ ?_
  · rintro i x H' H'' hi ⟨s1, hDl⟩ ⟨rfl, ey⟩
    refine hs i x H'' _ _ ey s1 fun H4 s4 => ⟨_, s4 _ _ hDl, ?_, same_mut (s1.trans s4) nD, ?_⟩
    · rw [List.length_map, List.length_replicate]
      exact lt_line (by omega)
    · rw [upd_same, List.replicate_succ', List.map_append]
      rfl
  · rintro H' ⟨s1, hDl⟩
    exact hd H' s1 hDl
/-- the same over pairs that the walk makes -/
theorem lc_truesP {J : It} {n : Nat} {G : Hp → Prop} {xs ys : Nat → Option V} (wk : Walk J n G (YPair xs ys)) {H : Hp} {D : Addr} {g : TG} {te : TE} {vs : List Nat} {σ : L2.St} {Qd : Hp → Prop} (nD : H D = none) (hn : n ≤ 100000) (hG : ∀ H', Same H H' → G H')
    (hs : ∀ (i : Nat) (x y : V) (T : Addr) (H' : Hp) (R : V → Hp → Prop) (R' : Hp → Prop), xs i = some x → ys i = some y → Same H H' → H' T = none → (∀ H4, Same (upd H' T (.tup [x, y])) H4 → R (.bl true) H4) →
      g (.ref T) (wipe σ vs) (upd H' T (.tup [x, y])) fun σ2 H2 => wipe σ2 vs = wipe σ vs ∧ tYes σ2 H2 fun b H3 => if b = true then te σ2 H3 R else R' H3)
    (hd : ∀ H', Same H H' → H' D = some (.lst ((List.replicate n true).map V.bl)) → Qd H') :
    ∃ W : Nat → Nat → Hp → Prop, (∃ m, W 0 m (upd H D (.lst []))) ∧ ∀ i m H, W i m H →
      (J.stop i H ∧ Qd H) ∨ (J.go i H ∧ ∃ Nx : Hp → Prop, (∀ H', Nx H' → ∃ m', m' < m ∧ W (i + 1) m' H') ∧ ∀ x H', J.yld i H x H' → g x (wipe σ vs) H' fun σ2 H2 => wipe σ2 vs = wipe σ vs ∧ tYes σ2 H2 fun b H3 =>
        if b = true then te σ2 H3 fun y H4 => ∃ acc, H4 D = some (.lst acc) ∧ acc.length < sizeLine ∧ Nx (upd H4 D (.lst (acc ++ [y]))) else Nx H3) := by
  refine lc_it wk (fun i H' => Same H H' ∧ H' D = some (.lst ((List.replicate i true).map V.bl))) ⟨same_new nD, upd_same⟩ (fun i H' _ p => hG H' p.1) ?_ ?_
  · rintro i z H' H'' hi ⟨s1, hDl⟩ ⟨T, x, y, rfl, nT, rfl, ex, ey⟩
    have sT : Same H' (upd H' T (.tup [x, y])) := same_new nT
    refine hs i x y T H' _ _ ex ey s1 nT fun H4 s4 => ⟨_, s4 _ _ (sT _ _ hDl), ?_, same_mut (s1.trans (sT.trans s4)) nD, ?_⟩
    · rw [List.length_map, List.length_replicate]
      exact lt_line (by omega)
    · rw [upd_same, List.replicate_succ', List.map_append]
      rfl
  · rintro H' ⟨s1, hDl⟩
    exact hd H' s1 hDl
/-- an item whose first part is the name n -/
def HdAt (K : PySem.W.Frag) (H : Hp) (v : V) (n : Str) : Prop := ∃ t r, v = .ref t ∧ SqT K H t (.str n :: r)
theorem HdAt.mono {K : PySem.W.Frag} {H H' : Hp} (e : Same H H') {v : V} {n : Str} (h : HdAt K H v n) : HdAt K H' v n := by
  obtain ⟨t, r, h1, h2⟩ := h
  exact ⟨t, r, h1, Same.tup e h2⟩
/-- a list or a tuple of items with these names -/
def HdS (K : PySem.W.Frag) (H : Hp) (v : V) (ns : List Str) : Prop := ∃ a xs, v = .ref a ∧ (SqL K H a xs ∨ SqT K H a xs) ∧ Paired (HdAt K H) xs ns
theorem HdS.mono {K : PySem.W.Frag} {H H' : Hp} (e : Same H H') {v : V} {ns : List Str} (h : HdS K H v ns) : HdS K H' v ns := by
  obtain ⟨a, xs, h1, h2, h3⟩ := h
  exact ⟨a, xs, h1, seq_mono e h2, h3.mono fun _ _ z => z.mono e⟩
/-- data whose first part is a name -/
def hdN : PyData → Str
  | .tuple (.str n :: _) => n
  | _ => ""
def Named (d : PyData) : Prop := ∃ n r, d = .tuple (.str n :: r)
theorem hdAt_of {K : PySem.W.Frag} {H : Hp} {v : V} {d : PyData} (h : Dp K H v d) (n : Named d) : HdAt K H v (hdN d) := by
  obtain ⟨n, r, rfl⟩ := n
  obtain ⟨a, xs, rfl, h1, h2⟩ := dp_tup h
  obtain ⟨x, y, rfl, h3, _⟩ := dpa_cons h2
  rw [dp_str h3] at h1
  exact ⟨a, y, rfl, h1⟩
theorem hds_of {K : PySem.W.Frag} {H : Hp} : ∀ {xs : List V} {ds : List PyData}, DpAll K H xs ds → (∀ d ∈ ds, Named d) → Paired (HdAt K H) xs (ds.map hdN)
  | _, _, .nil, _ => .nil
  | _, _, .cons h t, n => .cons (hdAt_of h (n _ (List.mem_cons_self ..))) (hds_of t fun d hd => n d (List.mem_cons_of_mem _ hd))
theorem HdS.of {K : PySem.W.Frag} {H : Hp} {v : V} {ds : List PyData} (h : DpS K H v ds) (n : ∀ d ∈ ds, Named d) : HdS K H v (ds.map hdN) := by
  obtain ⟨a, xs, h1, h2, h3⟩ := h
  exact ⟨a, xs, h1, h2, hds_of h3 n⟩
theorem named_dF (f : Fld) : Named (dF f) := ⟨_, _, rfl⟩
theorem IsNm.word {w : Str} (h : IsNm w) : wordB w letters = true := by
  unfold wordB
  rw [decide_eq_true (show 1 ≤ w.length ∧ w.length ≤ 8 from ⟨h.lo, h.hi⟩), Bool.true_and, List.all_eq_true]
  intro c hc
  have ⟨h1, h2⟩ := h.az c hc
  have key : ∀ c, 97 ≤ c → c ≤ 122 → c ∈ TL.tl letters := by
    intro c a b
    have : c = 97 ∨ c = 98 ∨ c = 99 ∨ c = 100 ∨ c = 101 ∨ c = 102 ∨ c = 103 ∨ c = 104 ∨ c = 105 ∨ c = 106 ∨ c = 107 ∨ c = 108 ∨ c = 109 ∨ c = 110 ∨ c = 111 ∨ c = 112 ∨ c = 113 ∨ c = 114 ∨ c = 115 ∨ c = 116 ∨ c = 117 ∨ c = 118 ∨ c = 119 ∨ c = 120 ∨ c = 121 ∨ c = 122 := by omega
    rcases this with rfl | rfl | rfl | rfl | rfl | rfl | rfl | rfl | rfl | rfl | rfl | rfl | rfl | rfl | rfl | rfl | rfl | rfl | rfl | rfl | rfl | rfl | rfl | rfl | rfl | rfl <;> decide +kernel
  exact decide_eq_true (key c h1 h2)
theorem in_strs (x : Str) (l : List Str) : inV (.str x) (l.map V.str) = decide (x ∈ l) := by
  unfold inV
  rw [List.any_map, Bool.eq_iff_iff, List.any_eq_true, decide_eq_true_iff]
  constructor
  · rintro ⟨y, hy, e⟩
    have e : eqV (.str y) (.str x) = true := e
    rw [eqV_str] at e
    rw [← of_decide_eq_true e]
    exact hy
  · intro h
    refine ⟨x, h, ?_⟩
    show eqV (.str x) (.str x) = true
    rw [eqV_str]
    exact decide_eq_true rfl
/-- ties, kinds -/
def dP (p : List Cas) : PyData := .tuple (p.map dC)
abbrev Tie := Str × List Cas
def dTie (t : Tie) : PyData := .tuple [.str t.1, dP t.2]
structure Knd where
  name : Str
  keys : List (Str × Str)
  taking : Option (List Cas)
  birth : Option (List Str)
def dKey (k : Str × Str) : PyData := .tuple [.str k.1, .str k.2]
def dOP : Option (List Cas) → PyData
  | none => .none
  | some p => dP p
def dKnd (k : Knd) : PyData := .tuple [.str k.name, .tuple (k.keys.map dKey), dOP k.taking, dH k.birth]
theorem named_dTie (t : Tie) : Named (dTie t) := ⟨_, _, rfl⟩
theorem named_dKnd (k : Knd) : Named (dKnd k) := ⟨_, _, rfl⟩
/-- a case as a rulebook asks it -/
structure OkCas (fs : List Fld) (c : Cas) : Prop where
  fit : FitC fs c
  nt : c.1.length ≤ 6
  ns : ∀ ss, c.2 = some ss → ss.length ≤ 6
  sg : ∀ t ∈ c.1, t.2.1 ∈ signs
structure OkPrg (fs : List Fld) (p : List Cas) : Prop where
  lo : 1 ≤ p.length
  hi : p.length ≤ 8
  all : ∀ c ∈ p, OkCas fs c
structure OkKeys (fs : List Fld) (ks : List (Str × Str)) : Prop where
  hi : ks.length ≤ fs.length
  nd : (ks.map (·.1)).Nodup
  all : ∀ k ∈ ks, k.1 ∈ fs.map (·.1) ∧ (k.2 = "+" ∨ k.2 = "-")
structure OkKnd (fs : List Fld) (k : Knd) : Prop where
  nm : IsNm k.name
  ks : OkKeys fs k.keys
  tk : ∀ p, k.taking = some p → OkPrg fs p
  bt : ∀ v, k.birth = some v → FitV fs v
end Bh

set_option Elab.async false
set_option linter.all false
set_option maxRecDepth 100000
namespace Bh
open PySem PySem.Spec PyProof.Rows L2
/-! ### a caught exception, known in the heap: what reads it may stand in another def -/
def exz (a : Addr) (cls : Value) (d : Option Addr) : HO := .ext fun h => ∃ (o : Obj) (vs : Array Value), h.get? a = some o ∧ Zc cls d o ∧ o.data = .fields vs
theorem exz_ok {P : Program} {w : World} {H : Hp} {h : Heap} {a : Addr} {cls : Value} {d : Option Addr} {o : Obj} {vs : Array Value} (e : h.get? a = some o) (z : Zc cls d o) (f : o.data = .fields vs) : ObjOk P w H h a (exz a cls d) :=
  ⟨⟨o, vs, e, z, f⟩, ⟨o, e⟩, fun _ _ y k => by
    obtain ⟨p, us, q, r⟩ := y
    exact ⟨p, us, k p q, r⟩⟩
theorem exz_at {P : Program} {w : World} {H : Hp} {h : Heap} {a : Addr} {cls : Value} {d : Option Addr} (ok : HOk P w H h) (e : H a = some (exz a cls d)) : ∃ (o : Obj) (vs : Array Value), h.get? a = some o ∧ Zc cls d o ∧ o.data = .fields vs := by
  have z : ObjOk P w H h a (.ext fun g => ∃ (o : Obj) (vs : Array Value), g.get? a = some o ∧ Zc cls d o ∧ o.data = .fields vs) := ok a _ e
  exact z.1
/-- e.n, e a caught exception that is known -/
def tXz (K : PySem.W.Frag) (n : Str) (te : TE) : TE := fun σ H Q => te σ H fun x H1 => ∃ (a C dd : Addr) (fs : List (Str × V)) (v : V), x = .ref a ∧ H1 a = some (exz a (.ref C) (some dd)) ∧ XfC K C ∧ PySem.W.findIn K (.ref C) n = some none ∧ H1 dd = some (.xd fs) ∧ fs.lookup n = some v ∧ Q v H1
theorem pe_xz {X : Cx} {e : Expr} {te : TE} {pos : Pos} {n : Str} (he : PE X e te) (hb : attributeBase e n X.env (eval e X.env) = eval e X.env := by rfl) : PE X (.Attribute e n pos) (tXz X.K n te) := by
  refine ⟨fun pins s σ H Q I h => attr_of hb (thn (he.run pins s σ H _ I h) fun u s1 hu => ?_)⟩
  obtain ⟨x, H1, J, rx, a, C, dd, fs, v, rfl, ea, xf, no, ed, lk, q⟩ := hu
  cases rx
  obtain ⟨o, vs, g, z, f⟩ := exz_at J.hok ea
  have kd : ObjOk X.prog X.w H1 s1.heap dd (.xd fs) := J.hok dd _ ed
  obtain ⟨m, ns, rel⟩ := kd
  obtain ⟨od, god, lo⟩ := lookIn_ns ns
  obtain ⟨y, hy, ry⟩ := RelO.some_of (v := v) (o := m n) (by rw [← lk]; exact rel n)
  have at_ : PySem.W.InstAt s1.heap a o C (some od) := by
    refine ⟨g, z.1, ?_, ?_⟩
    · unfold PySem.W.notCls
      rw [f] <;> rfl
    · rw [z.2]
      exact god
  have found : PySem.W.findObj X.K C (some od) n = some (.value y) := PySem.W.findObj_own xf.hdC no rfl (by rw [lo, hy])
  exact HandSPX.exc_get J.kIn at_ xf.ga xf.gg xf.exC found (handed_of ry) ⟨v, H1, J.tok _, ry, q⟩
/-! ### try: body, except (A, B) as n: suite, where all that the body raises is of one of both -/
section
variable {X : Cx} {pins : List (Addr × Obj)} {σ : L2.St} {H : Hp} {s0 s1 : Shared} {B : Heap} {a : Addr} {cls : Value} {d : Option Addr}
theorem hok_more {P : Program} {w : World} {h : Heap} {u : HO} (k : HOk P w H h) (na : H a = none) (new : ObjOk P w (upd H a u) h a u) : HOk P w (upd H a u) h := by
  intro b v q
  by_cases e : b = a
  · subst e
    rw [upd_same] at q
    cases q
    exact new
  · rw [upd_ne e] at q
    refine (k b v q).stay (fun _ _ _ r => r) (fun c r => ?_) (fun c xs r => ?_)
    · rw [upd_ne (ne_of_none r na)]
      exact r
    · rw [upd_ne (ne_of_none r na)]
      exact r
theorem Inv.seen (I : Inv X pins σ H s0) (nb : ∀ b o, s0.heap.get? b = some o → b ∉ frs X.stack → B.get? b = some o) (st : B.StaysIn s1.heap) (up : s0.heap.UpToSlots s1.heap) (os : s1.os = s0.os) (ag : AllBare s1.gens)
    (ha : s0.heap.get? a = none) (na : H a = none) {o : Obj} {vs : Array Value} (ga : s1.heap.get? a = some o) (z : Zc cls d o) (f : o.data = .fields vs) : Inv X pins σ (upd H a (exz a cls d)) s1 := by
  have fr : ∀ b ∈ frs X.stack, ∀ u, s0.heap.get? b = some u → ∃ sl, s1.heap.get? b = some { u with slots := sl } := by
    intro b hb u gu
    obtain ⟨_, u', gu', hd⟩ := I.stack.mem hb
    rw [gu] at gu'
    cases gu'
    exact up b u gu hd
  have ne : ∀ {b : Addr} {u : Obj}, s0.heap.get? b = some u → b ≠ a := by
    intro b u gu q
    rw [q, ha] at gu
    cases gu
  have old := Inv.landed (s' := s1) I nb st up os ag
  refine I.call' (ch := []) os ⟨?_, ?_, ?_, ?_, ?_, ?_, ?_⟩ (hok_more old.hok na (exz_ok ga z f)) ag (fun _ y => nomatch y)
  · exact fun b u gu _ hb _ => st b u (nb b u gu hb)
  · exact fun b u gu _ hb _ => fr b hb u gu
  · intro b u gu n _
    rw [upd_ne (ne gu)]
    exact n
  · intro b u gu _
    by_cases hb : b ∈ frs X.stack
    · obtain ⟨sl, q⟩ := fr b hb u gu
      exact ⟨_, q⟩
    · exact ⟨u, st b u (nb b u gu hb)⟩
  · intro b xs q
    rw [upd_ne (ne_of_none q na)]
    exact q
  · intro b u xs q
    rw [upd_ne (ne_of_none q na)]
    exact q
  · intro b ps q
    refine ⟨#[], ?_⟩
    rw [upd_ne (ne_of_none q na), q]
    simp
end
end Bh
namespace Bh
open PySem PySem.Spec PyProof.Rows L2
section
variable {X : Cx} {pins : List (Addr × Obj)} {σ : L2.St} {H : Hp} {s : Shared}
theorem Inv.inSuite (I : Inv X pins σ H s) (a : Addr) : Inv (X.suite a (X.pn ++ pins)) [] σ H s := by
  refine ⟨I.ok.suite _ _, I.os, I.bare, I.base, I.loc, I.cell, I.free, I.freeC, fun p hp => ?_, I.hok, I.len⟩
  rw [List.append_nil] at hp
  exact I.pin p hp
theorem Inv.offSuite {a : Addr} {more : List (Addr × Obj)} (I : Inv (X.suite a (X.pn ++ pins)) more σ H s) (ok : X.Ok) : Inv X pins σ H s :=
  ⟨ok, I.os, I.bare, I.base, I.loc, I.cell, I.free, I.freeC, fun p hp => I.pin p (List.mem_append_left _ hp), I.hok, I.len⟩
end
theorem flying_more {B h h' : Heap} {l : List Env} {a : Addr} {Z : Obj → Prop} (k : ∀ b o, h.get? b = some o → h'.get? b = some o) (f : HandSPX.FlyingZ B l a Z h) : HandSPX.FlyingZ B l a Z h' := by
  obtain ⟨f1, f2, f3, oe, vs, T, oT, ts, e1, e2, e3, e4, e5, e6, e7, e8, e9⟩ := f
  exact ⟨fun b o q => k b o (f1 b o q), f2, f3.of_keeps (fun b o q _ => ⟨o, k b o q, rfl⟩), oe, vs, T, oT, ts, k _ _ e1, e2, e3, e4, e5, e6, k _ _ e7, e8, e9⟩
/-- what the clause wishes of an exception of the body -/
def wTwo (K : PySem.W.Frag) (C1 C2 : Value) (i n : Nat) (ts : TS) (D : Ends) : WX := fun cls d σ H => PySem.W.exmAny K cls [C1, C2] = some true ∧ ∀ a, H a = none → σ.length = n →
  ts { nx := fun σ' H' => D.nx (σ'.set i none) H', rt := D.rt, bk := fun σ' H' => D.bk (σ'.set i none) H', ct := fun σ' H' => D.ct (σ'.set i none) H' } (σ.set i (some (.ref a))) (upd H a (exz a cls d))
section
variable {X : Cx} {x1 x2 n : Str} {C1 C2 : Addr} {i : Nat} {body suite : List Stmt} {b₀ : Stmt} {p1 p2 tpos pos pos' : Pos} {tb : WX → TS} {ts : TS} {kk : Nat}
theorem ps_try_two (hs : X.stack = X.env :: X.outer) (hf : X.env.frame = some X.env.locals) (hN : X.N.Nodup) (hi : X.N[i]? = some n) (hln : X.env.kindOf n = some .local)
    (g1 : Gl X x1) (m1 : X.mg x1 = some (.ref C1)) (g2 : Gl X x2) (m2 : X.mg x2 = some (.ref C2)) (d1 : (x1 == ("__debug__" : Str)) = false) (d2 : (x2 == ("__debug__" : Str)) = false)
    (hb : ∀ (W : WX) (pn : List (Addr × Obj)) (xe : Value → Shared → Prop), Takes (X.tr pn xe) W → PassesOwn (model X.prog X.w) X.A X.env xe → PSs (X.tr pn xe) body (tb W))
    (hsu : ∀ (a : Addr) (pn : List (Addr × Obj)), PSs (X.suite a pn) (b₀ :: suite) ts)
    (two : starEach [.Name x1 p1, .Name x2 p2] X.env = [(false, eval (.Name x1 p1) X.env), (false, eval (.Name x2 p2) X.env)] := by rfl) :
    PS X (.Try body [.ExceptHandler (some (.Tuple [.Name x1 p1, .Name x2 p2] kk tpos)) (some n) (b₀ :: suite) pos'] [] [] pos) (fun D σ H => tb (wTwo X.K (.ref C1) (.ref C2) i X.N.length ts D) D σ H) := by
  refine ⟨fun pins s σ H D I h => wpAny_Try_except ?_⟩
  have ok := I.ok
  have tops : X.A.frames = some (X.env :: X.outer) := ok.frames.trans (congrArg some hs)
  refine wpAny_mono ((hb (wTwo X.K (.ref C1) (.ref C2) i X.N.length ts D) (X.pn ++ pins) _ (fun u s1 air => ?caught) PassesOwn.looking).run [] s σ H D (I.toTry _) h) (fun f s1 e => ?ends) (fun _ _ e => e)
  case ends =>
    match f, e with
    | .next, ⟨σ1, H1, J, q⟩ => exact wpAny_execs_nil ⟨σ1, H1, J.ofTry ok, q⟩
    | .brk, ⟨σ1, H1, J, q⟩ => exact ⟨σ1, H1, J.ofTry ok, q⟩
    | .cont, ⟨σ1, H1, J, q⟩ => exact ⟨σ1, H1, J.ofTry ok, q⟩
    | .ret u, ⟨v, σ1, H1, J, r, q⟩ => exact ⟨v, σ1, H1, J.ofTry ok, r, q⟩
  case caught =>
    obtain ⟨a, B, s0, pins0, σ0, H0, cls, d, rfl, J0, nb, up, sky, na, os, ag, hm, go⟩ := air
    have J : Inv X pins σ0 H0 s0 := J0.ofTry ok
    rw [show (X.tr (X.pn ++ pins) _).stack = X.env :: X.outer from hs] at sky
    refine Sky.land Zc.steady tops hf sky fun h3 fl3 up3 => ?_
    obtain ⟨o3, v3, e3, z3, f3⟩ := fl3.there
    have noframe : a ∉ frs X.stack := by
      rw [hs]
      intro hm'
      obtain ⟨_, o', e', hd⟩ := fl3.2.2.1.mem hm'
      rw [e3] at e'
      cases e'
      exact hd _ f3
    have a0 : s0.heap.get? a = none := by
      cases q : s0.heap.get? a with
      | none => rfl
      | some o =>
        have z := nb a o q noframe
        rw [fl3.2.1] at z
        cases z
    have J3 := Inv.seen (s1 := { s1 with heap := h3 }) J nb fl3.1 (up.trans up3) os ag a0 na e3 z3 f3
    have S3 := Inv.inSuite J3 a
    refine wpAny_handleBy_cons (codeAny_handlers_test (wpAny_Tuple_spliced ?_)) (fun q => by cases q)
    rw [two]
    show wpAny _ _ (spliced [(false, eval (.Name x1 p1) X.env), (false, eval (.Name x2 p2) X.env)]) _ _ _
    refine Calls.spliced_cons (ld_glob S3 g1 m1 ?_ d1)
    refine Calls.spliced_cons (ld_glob S3 g2 m2 ?_ d2)
    refine Calls.spliced_nil ⟨(by show 2 ≤ sizeLine; decide), ?_⟩
    have more : ∀ b o, h3.get? b = some o → (h3.push { cls := .type "tuple", data := .seq [Value.ref C1, Value.ref C2].toArray }).get? b = some o := fun b o q => Heap.get?_push_of_some _ q
    have at_ : (h3.push { cls := .type "tuple", data := .seq [Value.ref C1, Value.ref C2].toArray }).get? h3.objs.size = some { cls := .type "tuple", data := .seq [Value.ref C1, Value.ref C2].toArray } := Heap.get?_push_size _ rfl
    have own : PySem.W.Looks (model X.prog X.w) (h3.push { cls := .type "tuple", data := .seq [Value.ref C1, Value.ref C2].toArray }) (typeOf (.ref a)) cls := fun A Q E s k q => wpAny_typeOf_ref (k _ _ (more _ _ e3)) (by rw [z3.1]; exact q)
    have hit := PySem.W.exm_tup2 (M := model X.prog X.w) (J3.kIn.keeps more) own at_ hm
    refine hit.here ?_
    refine codeAny_handlers_suite_as ?_
    have fl4 := flying_more more fl3
    refine HandSPX.lands_againZ fl4 fun h5 fl5 up5 => ?_
    obtain ⟨o5, v5, e5, z5, f5⟩ := fl5.there
    have J5 := Inv.seen (s1 := { s1 with heap := h5 }) J nb fl5.1 ((up.trans up3).trans ((Heap.UpToSlots.of_keeps more).trans up5)) os ag a0 na e5 z5 f5
    refine store_ok (X := X.suite a (X.pn ++ pins)) (v := .ref a) (Inv.inSuite J5 a) hN hi (.inl hln) rfl (fun s6 S6 => ?_) (.inr hln)
    refine wpAny_mono ((hsu a (X.pn ++ pins)).run [] s6 _ _ _ S6 (go a na J.len)) (fun f s7 e => ?_) (fun _ _ y => False.elim y)
    have leave : ∀ {σ7 : L2.St} {H7 : Hp} {R : Shared → Prop}, Inv (X.suite a (X.pn ++ pins)) [] σ7 H7 s7 → (∀ s8, Inv X pins (σ7.set i none) H7 s8 → R s8) →
        wpAny (model X.prog X.w) X.A (do bindName X.env n .none; unbindBehindTheSuite X.env n pos') (fun _ s8 => R s8) X.xe s7 := fun S7 r => gone_ok (Inv.offSuite S7 ok) hN hi hln r
    match f, e with
    | .next, ⟨σ7, H7, S7, q⟩ => exact leave S7 fun s8 J8 => ⟨_, _, J8, q⟩
    | .brk, ⟨σ7, H7, S7, q⟩ => exact leave S7 fun s8 J8 => ⟨_, _, J8, q⟩
    | .cont, ⟨σ7, H7, S7, q⟩ => exact leave S7 fun s8 J8 => ⟨_, _, J8, q⟩
    | .ret u, ⟨v, σ7, H7, S7, r, q⟩ => exact leave S7 fun s8 J8 => ⟨_, _, _, J8, r, q⟩
end
end Bh

set_option Elab.async false
set_option linter.all false
set_option maxRecDepth 100000
namespace Bh
open PySem PySem.Spec PyProof.Rows L2
/-! ### a def that runs while an exception is handled, and raises nothing -/
structure FnU (P : Program) (w : World) (K : PySem.W.Frag) (mg : Str → Option Value) (base : Heap) (k : Nat) (f : Addr) (fd : FuncData) (ps : List Str) (sp : Sp) : Prop where
  len : ∀ vs H Q E, sp vs H Q E → vs.length = ps.length
  run : ∀ (A : Around) (outer : List Env) (s : Shared) (H : Hp) (args : Args) (us : List Value) (vs : List V) (Q : VK) (E : XK), L2H.RoomH k A → Env0 P w K mg base A outer s H → BindsTo s fd args (ps.zip us) → Vals vs us → sp vs H Q E →
    codeAny (model P w) A (.call (.ref f) args) (CR CX0 outer P w H s Q E) s
def cxU (P : Program) (w : World) (K : PySem.W.Frag) (mg : Str → Option Value) (base : Heap) (N : List Str) (qual : Str) (scope : Scope) (f : Addr) (cd : Value) (A : Around) (outer : List Env) (s : Shared) (H : Hp) (E : XK) : Cx :=
  { cxOf CX0 P w K mg base N qual scope f cd A outer s H E with calm := false }
theorem start_u {P : Program} {w : World} {K : PySem.W.Frag} {mg : Str → Option Value} {base : Heap} {N ps : List Str} {qual : Str} {scope : Scope} {f : Addr} {cd : Value} {A : Around} {outer : List Env} {s s1 : Shared} {H : Hp} {E : XK} {us : List Value} {vs : List V}
    (S : FnScope N ps scope) (e0 : Env0 P w K mg base A outer s H) (hl : vs.length = ps.length) (r : Vals vs us)
    (x : InCallC s s.heap.objs.size (bindL (envOfC qual scope s.heap.objs.size f cd).kindOf (ps.zip us) fun _ => none) (cellsFrom (s.heap.objs.size + 1) scope.names []) (bindC (envOfC qual scope s.heap.objs.size f cd).kindOf (ps.zip us) fun _ => none) s1) :
    Inv (cxU P w K mg base N qual scope f cd A outer s H E) [] (L2.start N vs) H s1 := by
  have e1 : Env0 P w K mg base { A with handled := none } outer s H := ⟨e0.frames, e0.mod, e0.bs, e0.bsz, e0.funs, e0.frf, e0.hok, e0.bare⟩
  have I : Inv (cxOf CX0 P w K mg base N qual scope f cd { A with handled := none } outer s H E) [] (L2.start N vs) H s1 := inv_start S rfl e1 hl r x
  obtain ⟨o1, o2, o3, o4, o5, o6, o7, o8, _, _, o11, o12, o13, o14, o15, o16, o17, o18⟩ := I.ok
  exact ⟨⟨o1, o2, o3, o4, o5, o6, o7, o8, (fun z => Bool.noConfusion (show false = true from z)), Around.frames_deeper e0.frames, o11, o12, o13, o14, o15, o16, o17, o18⟩, I.os, I.bare, I.base, I.loc, I.cell, I.free, I.freeC, I.pin, I.hok, I.len⟩
theorem fun_u {P : Program} {w : World} {K : PySem.W.Frag} {mg : Str → Option Value} {base : Heap} {k : Nat} {f : Addr} {fd : FuncData} {x qual : Str} {st : Stmt} {N ps : List Str} {sp : Sp} (F : Fun K x qual st f fd) (S : FnScope N ps (defScope st))
    (len : ∀ vs H Q E, sp vs H Q E → vs.length = ps.length)
    (body : ∀ (cdv : Value) (A : Around) (outer : List Env) (s : Shared) (H : Hp) (vs : List V) (Q : VK) (E : XK), sp vs H Q E →
      ∃ t, PSs (cxU P w K mg base N qual (defScope st) f cdv A outer s H E) (defBody st) t ∧ t { nx := fun _ H' => Q .non H', rt := Q } (L2.start N vs) H) : FnU P w K mg base (k + 1) f fd ps sp := by
  obtain ⟨oc, od, kV, doc, pm, an, cdv, ct, osl, rfl, lk, hcd⟩ := F.ex
  refine ⟨len, fun A outer s H args us vs Q E hr e0 hb r h => ?_⟩
  have l1 := len _ _ _ _ h
  have X0 : K.In s.heap := e0.mod.kin.keeps fun b o e => (e0.bs b o e).1
  have nl : s.heap.NoLimit := e0.mod.nolimit.keeps fun b o e => (e0.bs b o e).1
  have kinds : ∀ y ∈ ps.zip us, (defScope st).names.lookup y.1 = some .local ∨ ((defScope st).names.lookup y.1 = some .cell ∧ ((cellsFrom (s.heap.objs.size + 1) (defScope st).names []).lookup y.1).isSome = true) := by
    rintro ⟨n, v⟩ hy
    exact (S.par n (List.of_mem_zip hy).1).imp id fun q => ⟨q, PySem.W.cellsFrom_some _ _ _ (.inl q)⟩
  refine codeAny_call_function hr.depth (X0 _ _ lk) rfl S.co S.gen rfl (PySem.W.codeRec_of X0 hcd) (hb _ _ _ _ (wpAny_newFunctionEnv_cells S.kind kinds fun env he s1 x => ?_))
  subst he
  obtain ⟨t, ht, hq⟩ := body cdv A outer s H vs Q E h
  refine ⟨nl.keeps x.toInCall.keep, codeAny_func (wpAny_mono (ht.run [] s1 (L2.start N vs) H _ (start_u S e0 l1 r x) hq) (fun fl s2 e => ?_) fun _ _ e => e)⟩
  match fl, e with
  | .next, ⟨σ2, H2, J, q⟩ => exact ⟨.non, H2, J.os, J.bare, J.base, J.hok, rfl, q⟩
  | .brk, ⟨_, _, _, q⟩ => exact q.elim
  | .cont, ⟨_, _, _, q⟩ => exact q.elim
  | .ret u, ⟨v, σ2, H2, J, rv, q⟩ => exact ⟨v, H2, J.os, J.bare, J.base, J.hok, rv, q⟩
theorem pe_callU {X : Cx} {k : Nat} {f : Addr} {fd : FuncData} {ps : List Str} {sp : Sp} {x : Str} {q pos : Pos} {e : Expr} {es : List Expr} {t : TA} (F : FnU X.prog X.w X.K X.mg X.base k f fd ps sp) (hr : L2H.RoomH k X.A) (hg : Gl X x) (hm : X.mg x = some (.ref f)) (hk : PySem.W.keepIn X.K (.ref f) = true) (hb : Binds X.K fd ps [])
    (ha : PA X (e :: es) t) (hdb : (x == ("__debug__" : Str)) = false := by decide) (hs : starEach (e :: es) X.env = (false, eval e X.env) :: starEach es X.env := by rfl) (hp : (backTo pos (starEach es X.env)).any (·.1) = false := by rfl) :
    PE X (.Call (.Name x q) (e :: es) [] pos) (fun σ H Q => t σ H fun vs H1 => sp vs H1 Q fun _ _ _ => False) := by
  refine ⟨fun pins s σ H Q I h => wpAny_Call_Name_kw (ld_glob I hg hm ?_ hdb)⟩
  refine PySem.W.callWith_K (h₀ := X.base) I.ok.mod.kin hk (thn (ha.run pos pins s σ H _ I h) fun us s1 hu => ?_) hs hp
  obtain ⟨vs, H1, J, rv, y⟩ := hu
  refine ⟨J.kIn, ?_⟩
  have n : us.length = ps.length := rv.length.symm.trans (F.len _ _ _ _ y)
  have bnd := hb s1 us J.kIn (by rw [List.append_nil]; exact n)
  rw [List.append_nil] at bnd
  refine wpAny_call (codeAny_mono (F.run X.A X.stack s1 H1 ⟨us, []⟩ us vs Q _ hr J.env0 bnd rv y) fun res s2 z => ?_)
  match res, z with
  | .error _, z => exact z.elim
  | .ok (.ret u), z => exact J.after z
  | .ok .next, z => exact z.elim
  | .ok .brk, z => exact z.elim
  | .ok .cont, z => exact z.elim
end Bh
namespace Bh
open PySem PySem.Spec PyProof.Rows L2
/-! ### the end of a law that makes a lambda: its table of code objects is told by the top -/
theorem walkT {l : PySem.W.OpenLaw} {n k : Nat} {q : Program} {loose : List Str} {XP : (Str → Option Value) → Heap → Prop} {YP : World → Heap → Prop} {d : DefRec} {CX : World → CXT} {x : Str}
    (hn : l.most = some n) (hn2 : n ≤ sizeLine) (hdf : d.params.defaults = []) (hr : Room k callerA)
    (F : ∀ (w : World) (mg mb : Str → Option Value) (fa : Addr) (h : Heap), (∀ (K : PySem.W.Frag), K.In h → ∀ (dd : DefRec) (y : Str) (c P : Addr), (recsOf q).find? (fun e => e.name == y) = some dd → PySem.W.tabIn K y = some (c, P) → PySem.W.CodeHd h c P ∧ h.get? P = some (PySem.W.tabObj #[])) → h.Ns mainGlobals mg → YP w h → mg d.name = some (.ref fa) → ∃ K : PySem.W.Frag, K.In h ∧ LamX.LawAtS l w K (CX w) k n x mg fa h)
    (hCX : ∀ (w : World) (H : Hp) (s : Shared) (e : Value) (s' : Shared), CX w [] H s (fun _ _ _ => False) e s' → False) :
    PySem.W.WalkO q loose XP YP l.row.toRowW d [] (fun f vs => PySem.call f vs) := by
  refine Att.attach_callB hn hdf fun w s0 s1 mg mb fa o pm cd doc a vs ns G Y _ _ _ hmg hobj hi hlen hbits hg => ?_
  obtain ⟨K, KX, fd, cs, sp, t1, t2, t3, bnd, hsp, ok⟩ := F w mg mb fa _ (fun K KX dd y c P h1 h2 => PySem.W.tab_of G.T KX h1 h2) G.T.g Y hmg
  refine LamX.law_callTs KX G.T.g G.T.b G.T.builtins G.T.nolimit hg t1 t2 t3 G.T.bmain hobj hi (Nat.le_trans hlen hn2) hr ok bnd ?_ ?_
  · exact fun H hH hS => hsp H a ns hlen hbits hH hS
  · exact fun H e s' => hCX w H s1 e s'
end Bh

set_option Elab.async false
set_option linter.all false
set_option maxRecDepth 100000
namespace Bh
open PySem PySem.Spec PyProof.Rows L2
/-! ### an own exception class over any built-in one, with an __init__ that is walked as a def -/
structure ExG (K : PySem.W.Frag) (C : Addr) : Prop where
  fam : ∃ (B newId initId : String) (bmB : List Value), ExcBaseFacts B newId initId bmB ∧ StoreFacts B bmB "object.__setattr__" "object" ∧ PySem.W.excOver K C bmB = true ∧
    ∃ nm q N bs bm sn sub ab col dd k0 k1 k2 k3 k5, K.lookup C = some (excClassObj nm q C N bs bm true sn sub ab col dd k0 k1 k2 k3 k5 newId) ∧ ∀ Y : String, bm.contains (.type Y) = bmB.contains (.type Y)
  sa : PySem.W.findIn K (.ref C) "__setattr__" = some (some (.builtin "object.__setattr__"))
  exC : PySem.W.subIn K (.ref C) (.type "BaseException") = some true
  tyC : PySem.W.typeIn K (.ref C) = some (.type "type")
  kC : PySem.W.keepIn K (.ref C) = true
  hdC : PySem.W.hasDictIn K C = true
theorem taker_no {K : PySem.W.Frag} {C : Addr} {n : Str} (h : PySem.W.findIn K (.ref C) n = some none) : PySem.W.takerIn K C n = some none := by
  unfold PySem.W.takerIn
  rw [h]
  rfl
section
variable {X : Cx} {pins : List (Addr × Obj)} {σ : L2.St} {H : Hp} {s : Shared} {a C dx : Addr} {f : Str} {y : V} {u : Value} {fs : List (Str × V)} {Q : Unit → Shared → Prop} {E : Value → Shared → Prop} {A : Around}
theorem setG_new (T : ExG X.K C) (I : Inv X pins σ H s) (e : H a = some (exo a C none)) (no : PySem.W.findIn X.K (.ref C) f = some none) (ry : RelV y u)
    (h : ∀ dx s', H dx = none → dx ≠ a → Inv X pins σ (upd (upd H dx (exd dx [(f, y)])) a (exo a C (some dx))) s' → Q () s') : wpAny (model X.prog X.w) A (setAttr (.ref a) f u) Q E s := by
  obtain ⟨B, newId, initId, bmB, FB, SF, ov, _⟩ := T.fam
  obtain ⟨t1, ga⟩ := exo_at I.hok e
  obtain ⟨hp, g, d, t, os⟩ := s
  have inst : PySem.W.InstAt hp a { cls := .ref C, dict := none, data := .fields #[.ref t1, .none, .none, .none, .bool false, .none] } C none := ⟨ga, rfl, rfl, trivial⟩
  refine PySem.W.set_plain I.kIn inst T.sa (PySem.W.osa_openX (od := none) SF I.kIn inst ov (taker_no no) fun b => ?_)
  obtain ⟨cd, hc, hd⟩ := PySem.W.any_some T.hdC
  refine wpAny_bind (wpAny_pure (wpAny_bind (PySem.W.instanceDict_exc (c2 := .none) ga (PySem.W.looks_clsIn I.kIn hc) hd ?_)))
  have na : a ≠ hp.objs.size := Nat.ne_of_lt (Heap.lt_size ga)
  refine HandSPX.store_in_new ?_ (fun h2 tk2 hn hs => ?_)
  · exact ⟨_, #[], _, (Heap.get?_update_ne _ _ _ _ na.symm).trans (Heap.get?_push_at rfl rfl), rfl, fun e he => absurd he (by simp), fun _ => rfl⟩
  have nx : H hp.objs.size = none := I.hok.fresh (Nat.le_refl _)
  have old : ∀ b o, b ≠ a → hp.get? b = some o → h2.get? b = some o := by
    intro b o hb ho
    refine (hs.2 b (Nat.ne_of_lt (Heap.lt_size ho))).trans ?_
    exact (Heap.get?_update_ne _ _ _ _ hb).trans (Heap.get?_push_of_some _ ho)
  have self2 : h2.get? a = some { cls := .ref C, dict := some hp.objs.size, data := .fields #[.ref t1, .none, .none, .none, .bool false, .none] } := by
    refine (hs.2 a na).trans ?_
    exact Heap.get?_update_self _ (Heap.get?_push_of_some _ ga) rfl
  have n1 : ∀ {b : Addr} {o : Obj}, hp.get? b = some o → b ≠ hp.objs.size := fun g => Nat.ne_of_lt (Heap.lt_size g)
  have n2 : ∀ {b : Addr}, H b = none → b ≠ a := by
    intro b hb z
    rw [z, e] at hb
    cases hb
  refine h hp.objs.size _ nx na.symm (I.un (t' := tk2) (h' := h2) ⟨?_, ?_, ?_, ?_, ?_, ?_, ?_⟩ fun b o q => ?_)
  · exact fun b o g n _ _ => old b o (n2 n) g
  · exact fun b o g n _ _ => ⟨o.slots, old b o (n2 n) g⟩
  · intro b o g n _
    rw [upd_ne (n2 n), upd_ne (n1 g)]
    exact n
  · intro b o g _
    by_cases hb : b = a
    · exact ⟨_, hb ▸ self2⟩
    · exact ⟨o, old b o hb g⟩
  · intro b xs q
    rw [upd_ne (at_ne e q exo_tup), upd_ne (ne_of_none q nx)]
    exact q
  · intro b o v q
    rw [upd_ne (at_ne e q exo_frz), upd_ne (ne_of_none q nx)]
    exact q
  · intro b ps q
    refine ⟨#[], ?_⟩
    rw [upd_ne (at_ne e q exo_tbl), upd_ne (ne_of_none q nx), q]
    simp
  · by_cases hb : b = a
    · subst hb
      rw [upd_same] at q
      cases q
      exact exo_ok self2
    rw [upd_ne hb] at q
    by_cases hd2 : b = hp.objs.size
    · subst hd2
      rw [upd_same] at q
      cases q
      exact exd_ok hn (relO_put (fs := []) ry fun _ => True.intro)
    rw [upd_ne hd2] at q
    have keepO : ∀ {c : Addr}, H c = some (.own b) → c ≠ a := fun k => at_ne e k exo_own
    refine (I.hok b o q).stay (fun c v hc z => old c v ?_ z) (fun c k => ?_) (fun c xs k => ?_)
    · rcases hc with hc | hc
      · rw [hc]
        exact hb
      · exact keepO hc
    · rw [upd_ne (at_ne e k exo_own), upd_ne (ne_of_none k nx)]
      exact k
    · rw [upd_ne (at_ne e k exo_tup), upd_ne (ne_of_none k nx)]
      exact k
theorem setG_old (T : ExG X.K C) (I : Inv X pins σ H s) (e : H a = some (exo a C (some dx))) (ed : H dx = some (exd dx fs)) (hl : fs.length ≤ 900) (no : PySem.W.findIn X.K (.ref C) f = some none) (ry : RelV y u)
    (h : ∀ s', Inv X pins σ (upd H dx (exd dx ((f, y) :: fs))) s' → Q () s') : wpAny (model X.prog X.w) A (setAttr (.ref a) f u) Q E s := by
  obtain ⟨B, newId, initId, bmB, FB, SF, ov, _⟩ := T.fam
  obtain ⟨t1, ga⟩ := exo_at I.hok e
  obtain ⟨m, ns, rel⟩ := exd_at I.hok ed
  have wi := within_of rel
  obtain ⟨hp, g, d, t, os⟩ := s
  obtain ⟨od, _, _, god, _, _⟩ := ns.count wi
  have inst : PySem.W.InstAt hp a { cls := .ref C, dict := some dx, data := .fields #[.ref t1, .none, .none, .none, .bool false, .none] } C (some od) := ⟨ga, rfl, rfl, god⟩
  refine PySem.W.set_plain I.kIn inst T.sa (PySem.W.osa_openX (od := some od) SF I.kIn inst ov (taker_no no) fun b => ?_)
  obtain ⟨cd, hc, hd⟩ := PySem.W.any_some T.hdC
  refine wpAny_bind (wpAny_pure (wpAny_bind (wpAny_bind (wpAny_loadPart ga (wpAny_bind ((PySem.W.looks_clsIn (M := model X.prog X.w) I.kIn hc).at ?_))))))
  rw [hd]
  refine wpAny_pure (a := some dx) ?_
  refine PySem.OEX.store_in_old ns wi (by rw [List.length_map]; omega) (fun h2 tk2 hn hs => ?_)
  have there : ∃ o, h2.get? dx = some o := by
    obtain ⟨o, _, _, k, _⟩ := hn
    exact ⟨o, k⟩
  exact h _ (I.write (t' := tk2) (x := dx) (e := dx) (o := exd dx ((f, y) :: fs)) (by rw [ed]; exact True.intro) (.inl rfl) (fun b o hb k => (hs.2 b hb).trans k) there (exd_ok hn (relO_put ry rel)))
end
end Bh
namespace Bh
open PySem PySem.Spec PyProof.Rows L2
/-- self.f = e, in the __init__ of such a class -/
def tSetG (K : PySem.W.Frag) (f : Str) (to te : TE) : TS := fun D σ H => te σ H fun y H1 => to σ H1 fun x H2 => ∃ a C : Addr, x = .ref a ∧ ExG K C ∧ PySem.W.findIn K (.ref C) f = some none ∧
  ((H2 a = some (exo a C none) ∧ ∀ dx, H2 dx = none → dx ≠ a → D.nx σ (upd (upd H2 dx (exd dx [(f, y)])) a (exo a C (some dx)))) ∨
    ∃ (dx : Addr) (fs : List (Str × V)), H2 a = some (exo a C (some dx)) ∧ H2 dx = some (exd dx fs) ∧ fs.length ≤ 900 ∧ D.nx σ (upd H2 dx (exd dx ((f, y) :: fs))))
theorem ps_setG {X : Cx} {o e : Expr} {to te : TE} {f : Str} {p pos : Pos} (ho : PE X o to) (he : PE X e te) (hs : swapsWith e (some (.Attribute o f p)) pos.line X.env = pure false := by rfl) : PS X (.Assign [.Attribute o f p] e pos) (tSetG X.K f to te) := by
  refine ⟨fun pins s σ H D I h => plainObj_wpAny_Assign_Attribute (thn (he.run pins s σ H _ I h) fun v s1 q => ?_) hs⟩
  obtain ⟨y, H1, I1, r1, q1⟩ := q
  refine thn (ho.run pins s1 σ H1 _ I1 q1) fun u s2 q => ?_
  obtain ⟨x, H2, I2, r2, a, C, rfl, T, no, q2⟩ := q
  cases r2
  rcases q2 with ⟨ea, k⟩ | ⟨dx, fs, ea, ed, hl, k⟩
  · exact setG_new T I2 ea no r1 fun dx s3 n ne J => ⟨σ, _, J, k dx n ne⟩
  · exact setG_old T I2 ea ed hl no r1 fun s3 J => ⟨σ, _, J, k⟩
/-! ### such an exception, made: as a value, and to be raised -/
/-- C(..) with C's own __init__ that keeps sp: known as exo, its dict as exd -/
def tMkG (C : Addr) (sp : Sp) (ta : TA) : TE := fun σ H Q => ta σ H fun vs H1 => vs.length ≤ 1000 ∧ ∀ a, H1 a = none → sp (.ref a :: vs) (upd H1 a (exo a C none)) (fun v H2 => v = .non ∧ Q (.ref a) H2) fun _ _ _ => False
theorem pe_mkG {X : Cx} {x : Str} {C fI : Addr} {k : Nat} {fd : FuncData} {ps : List Str} {sp : Sp} {e : Expr} {es : List Expr} {ta : TA} {p pos : Pos} (T : ExG X.K C) (iC : PySem.W.findIn X.K (.ref C) "__init__" = some (some (.ref fI))) (tI : PySem.W.typeIn X.K (.ref fI) = some (.type "function"))
    (F : FnOk X.prog X.w X.K X.mg X.base CX0 k fI fd ps sp) (hr : Room (k + 1) X.A) (hb : Binds X.K fd ps []) (hg : Gl X x) (hm : X.mg x = some (.ref C)) (ha : PA X (e :: es) ta)
    (hdb : (x == ("__debug__" : Str)) = false := by decide) (hs : starEach (e :: es) X.env = (false, eval e X.env) :: starEach es X.env := by rfl) (hp : (backTo pos (starEach es X.env)).any (·.1) = false := by rfl) :
    PE X (.Call (.Name x p) (e :: es) [] pos) (tMkG C sp ta) := by
  refine ⟨fun pins s σ H Q I h => wpAny_Call_Name_kw (ld_glob I hg hm ?_ hdb)⟩
  obtain ⟨B, newId, initId, bmB, FB, SF, ov, nm, q, N, bs, bm, sn, sub, ab, col, dd, k0, k1, k2, k3, k5, look, same⟩ := T.fam
  refine PySem.W.callWith_K (h₀ := X.base) I.ok.mod.kin T.kC (thn (ha.run pos pins s σ H _ I h) fun us s1 hu => ?_) hs hp
  obtain ⟨vs, H1, J, rv, hz, y⟩ := hu
  refine ⟨J.kIn, ?_⟩
  show wpAny _ _ (call (.ref C) us) _ _ _
  obtain ⟨hh, g, dr, tk, os⟩ := s1
  have n1 : H1 (hh.objs.size + 1) = none := J.hok.fresh (Nat.le_succ _)
  have yy := y (hh.objs.size + 1) n1
  have more : ∀ b o, hh.get? b = some o → ((hh.push (PySem.W.kdv_tup us)).push (PySem.HandSPX.excO C hh.objs.size)).get? b = some o := fun b o z => Heap.get?_push_of_some _ (Heap.get?_push_of_some _ z)
  have at_ : ((hh.push (PySem.W.kdv_tup us)).push (PySem.HandSPX.excO C hh.objs.size)).get? (hh.objs.size + 1) = some (PySem.HandSPX.excO C hh.objs.size) := by heap_get
  have J2 : Inv X pins σ (upd H1 (hh.objs.size + 1) (exo (hh.objs.size + 1) C none)) ⟨(hh.push (PySem.W.kdv_tup us)).push (PySem.HandSPX.excO C hh.objs.size), g, dr, tk, os⟩ := J.laid (t' := tk) more (Nat.le_succ _) (exo_ok at_)
  have rv2 : Vals (V.ref (hh.objs.size + 1) :: vs) (Value.ref (hh.objs.size + 1) :: us) := .cons rfl rv
  have ln : (Value.ref (hh.objs.size + 1) :: us).length = ps.length := rv2.length.symm.trans (F.len _ _ _ _ yy)
  have few : us.length ≤ sizeLine := by
    rw [← Paired.length rv, sizeLine_eq]
    omega
  have bnd := hb _ (Value.ref (hh.objs.size + 1) :: us) J2.kIn (by rw [List.append_nil]; exact ln)
  rw [List.append_nil] at bnd
  have body := F.run _ X.stack _ _ ⟨Value.ref (hh.objs.size + 1) :: us, []⟩ _ _ _ (fun _ _ _ => False) (hr.make C us []) (J2.env0.make C us []) bnd rv2 yy
  refine wpAny_call (PySem.HandSPX.call_own FB same (J.kIn _ _ look) (PySem.W.looks_findIn J.kIn iC) (fun self => PySem.W.bind_fn J.kIn self tI) few (codeAny_mono body fun r s2 z => ?_))
  cases r with
  | error _ => exact z.elim
  | ok fl =>
    cases fl with
    | ret w =>
      obtain ⟨v, H2, o2, b2, un2, ok2, rw2, ev, q2⟩ := z
      subst ev
      exact ⟨rw2, ⟨V.ref (hh.objs.size + 1), H2, J2.call' (ch := []) o2 un2 ok2 b2 (fun _ m => nomatch m), rfl, q2⟩⟩
    | next => exact z.elim
    | brk => exact z.elim
    | cont => exact z.elim
end Bh
namespace Bh
open PySem PySem.Spec PyProof.Rows L2
/-- the same, for raise -/
theorem pmk_mkG {X : Cx} {x : Str} {C fI : Addr} {k : Nat} {fd : FuncData} {ps : List Str} {sp : Sp} {e : Expr} {es : List Expr} {ta : TA} {p pos : Pos} (T : ExG X.K C) (iC : PySem.W.findIn X.K (.ref C) "__init__" = some (some (.ref fI))) (tI : PySem.W.typeIn X.K (.ref fI) = some (.type "function"))
    (F : FnOk X.prog X.w X.K X.mg X.base CX0 k fI fd ps sp) (hr : Room (k + 1) X.A) (hb : Binds X.K fd ps []) (hg : Gl X x) (hm : X.mg x = some (.ref C)) (ha : PA X (e :: es) ta)
    (hdb : (x == ("__debug__" : Str)) = false := by decide) (hs : starEach (e :: es) X.env = (false, eval e X.env) :: starEach es X.env := by rfl) (hp : (backTo pos (starEach es X.env)).any (·.1) = false := by rfl) :
    PMk X (.Call (.Name x p) (e :: es) [] pos) (tMkO C sp [] ta) := by
  intro pins s σ H Q I h
  refine wpAny_Call_Name_kw (ld_glob I hg hm ?_ hdb)
  obtain ⟨B, newId, initId, bmB, FB, SF, ov, nm, q, N, bs, bm, sn, sub, ab, col, dd, k0, k1, k2, k3, k5, look, same⟩ := T.fam
  refine PySem.W.callWith_K (h₀ := X.base) I.ok.mod.kin T.kC (thn (ha.run pos pins s σ H _ I h) fun us s1 hu => ?_) hs hp
  obtain ⟨vs, H1, J, rv, hz, y⟩ := hu
  refine ⟨J.kIn, ?_⟩
  show wpAny _ _ (call (.ref C) us) _ _ _
  obtain ⟨hh, g, dr, tk, os⟩ := s1
  have big : hh.objs.size ≤ hh.objs.size + 1 := Nat.le_succ _
  have yy := y (hh.objs.size + 1) (J.hok.fresh big)
  rw [List.append_nil] at yy
  have more : ∀ b o, hh.get? b = some o → ((hh.push (PySem.W.kdv_tup us)).push (PySem.HandSPX.excO C hh.objs.size)).get? b = some o := fun b o z => Heap.get?_push_of_some _ (Heap.get?_push_of_some _ z)
  have at_ : ((hh.push (PySem.W.kdv_tup us)).push (PySem.HandSPX.excO C hh.objs.size)).get? (hh.objs.size + 1) = some (PySem.HandSPX.excO C hh.objs.size) := by heap_get
  have J2 : Inv X pins σ (upd H1 (hh.objs.size + 1) (exo (hh.objs.size + 1) C none)) ⟨(hh.push (PySem.W.kdv_tup us)).push (PySem.HandSPX.excO C hh.objs.size), g, dr, tk, os⟩ := J.laid (t' := tk) more big (exo_ok at_)
  have rv2 : Vals (V.ref (hh.objs.size + 1) :: vs) (Value.ref (hh.objs.size + 1) :: us) := .cons rfl rv
  have ln : (Value.ref (hh.objs.size + 1) :: us).length = ps.length := rv2.length.symm.trans (F.len _ _ _ _ yy)
  have few : us.length ≤ sizeLine := by
    rw [← Paired.length rv, sizeLine_eq]
    omega
  have bnd := hb _ (Value.ref (hh.objs.size + 1) :: us) J2.kIn (by rw [List.append_nil]; exact ln)
  rw [List.append_nil] at bnd
  have body := F.run _ X.stack _ _ ⟨Value.ref (hh.objs.size + 1) :: us, []⟩ _ _ _ (fun _ _ _ => False) (hr.make C us []) (J2.env0.make C us []) bnd rv2 yy
  refine wpAny_call (PySem.HandSPX.call_own FB same (J.kIn _ _ look) (PySem.W.looks_findIn J.kIn iC) (fun self => PySem.W.bind_fn J.kIn self tI) few (codeAny_mono body fun r s2 z => ?_))
  cases r with
  | error _ => exact z.elim
  | ok fl =>
    cases fl with
    | ret w =>
      obtain ⟨v, H2, o2, b2, un2, ok2, rw2, ev, dx, fs, ea, ed, nd, q2⟩ := z
      subst ev
      obtain ⟨h2, g2, d2, t2, os2⟩ := s2
      exact ⟨rw2, mk_end (raises_own T.exC T.tyC) J big more un2 ok2 o2 b2 ea ed nd q2⟩
    | next => exact z.elim
    | brk => exact z.elim
    | cont => exact z.elim
/-- e.n, e such an exception that was not raised -/
def tXo (K : PySem.W.Frag) (n : Str) (te : TE) : TE := fun σ H Q => te σ H fun x H1 => ∃ (a C dd : Addr) (fs : List (Str × V)) (v : V), x = .ref a ∧ H1 a = some (exo a C (some dd)) ∧ XfC K C ∧ PySem.W.findIn K (.ref C) n = some none ∧ H1 dd = some (exd dd fs) ∧ fs.lookup n = some v ∧ Q v H1
theorem pe_xo {X : Cx} {e : Expr} {te : TE} {pos : Pos} {n : Str} (he : PE X e te) (hb : attributeBase e n X.env (eval e X.env) = eval e X.env := by rfl) : PE X (.Attribute e n pos) (tXo X.K n te) := by
  refine ⟨fun pins s σ H Q I h => attr_of hb (thn (he.run pins s σ H _ I h) fun u s1 hu => ?_)⟩
  obtain ⟨x, H1, J, rx, a, C, dd, fs, v, rfl, ea, xf, no, ed, lk, q⟩ := hu
  cases rx
  obtain ⟨t1, g⟩ := exo_at J.hok ea
  obtain ⟨m, ns, rel⟩ := exd_at J.hok ed
  obtain ⟨od, _, _, god, _, _⟩ := ns.count (within_of rel)
  obtain ⟨od2, god2, lo⟩ := lookIn_ns ns
  obtain ⟨y, hy, ry⟩ := RelO.some_of (v := v) (o := m n) (by rw [← lk]; exact rel n)
  have inst : PySem.W.InstAt s1.heap a { cls := .ref C, dict := some dd, data := .fields #[.ref t1, .none, .none, .none, .bool false, .none] } C (some od2) := ⟨g, rfl, rfl, god2⟩
  exact HandSPX.exc_get J.kIn inst xf.ga xf.gg xf.exC (PySem.W.findObj_own xf.hdC no rfl (by rw [lo, hy])) (handed_of ry) ⟨v, H1, J.tok _, ry, q⟩
end Bh
namespace Bh
open PySem PySem.Spec PyProof.Rows L2
/-- isinstance(e, c), e such an exception that was not raised -/
def rIsO (K : PySem.W.Frag) : List V → Hp → VK → Prop := fun xs H Q => ∃ (a D dd : Addr) (fs : List (Str × V)) (c : V) (cv : Value) (b : Bool), xs = [.ref a, c] ∧ ExcC K D ∧ H a = some (exo a D (some dd)) ∧ H dd = some (exd dd fs) ∧ (∀ u, RelV c u → u = cv) ∧ PySem.W.kitOne K (.ref D) cv = some b ∧ Q (.bl b) H
theorem call_isO {X : Cx} : CallR X (.builtin "isinstance") (rIsO X.K) := by
  intro pins s σ H xs us Q I r h
  obtain ⟨a, D, dd, fs, c, cv, b, rfl, F, ea, ed, hc, e, q⟩ := h
  obtain ⟨u1, u2, rfl, r1, r2⟩ := vals2 r
  cases r1
  obtain rfl := hc _ r2
  obtain ⟨t1, g⟩ := exo_at I.hok ea
  obtain ⟨m, ns, rel⟩ := exd_at I.hok ed
  obtain ⟨od, god, _⟩ := lookIn_ns ns
  have inst : PySem.W.InstAt s.heap a { cls := .ref D, dict := some dd, data := .fields #[.ref t1, .none, .none, .none, .bool false, .none] } D (some od) := ⟨g, rfl, rfl, god⟩
  have hcl : (PySem.W.clsIn X.K D).isSome = true := by
    obtain ⟨cd, k, _⟩ := PySem.W.any_some F.hd
    rw [k]
    rfl
  exact PySem.W.kia_one (PySem.W.kitx_exc hcl F.hg F.hk F.hs F.ha F.hn F.ht F.hm) I.kIn inst e (fun z => nomatch z) fun tk => ⟨.bl b, H, I.kept (t' := tk) fun _ _ z => z, rfl, q⟩
end Bh

set_option Elab.async false
set_option linter.all false
set_option maxRecDepth 100000
namespace Bh
open PySem PySem.Spec PyProof PyProof.Rows L2 HandSPX
/-! ### an own exception made by keyword -/
section
variable {prog : Program} {w : World} {A : Around} {E : Value → Shared → Prop} {R : Result → Shared → Prop} {h : Heap} {g : Array GenState} {d : Drawn} {t : Nat} {os : OsState}
variable {nm q : Str} {C N : Addr} {bs bm bmB : List Value} {hdct : Bool} {sn : List Str} {sub : List Value} {ab : Bool} {col : Option Bool} {dd : Option Addr} {k0 k1 k2 k3 k5 : Option Value} {B newId initId : String} {kk : Str} {kv : Value}
theorem kw_check {M : Model} (F : ExcBaseFacts B newId initId bmB) (hT : ∀ X : String, bm.contains (.type X) = bmB.contains (.type X)) {Q : Unit → Shared → Prop}
    (hC : h.get? C = some (excClassObj nm q C N bs bm hdct sn sub ab col dd k0 k1 k2 k3 k5 newId)) (hq : Q () ⟨h, g, d, t, os⟩) : wpAny M A (checkBuiltinCall newId ⟨[.ref C], [(kk, kv)]⟩) Q E ⟨h, g, d, t, os⟩ := by
  have c1 : (Value.ref C :: bm).contains (.type B) = true := by rw [List.contains_cons, hT, F.hasB, Bool.or_true]
  have c2 := F.noStar
  simp only [checkBuiltinCall, F.newKind, F.newSplit, F.newRow]
  repeat (first | refine wpAny_loadPart_at hC ?_ | (refine wpAny_isSubtype_exc hC ?_; rw [c1]) | refine wpAny_staticBase_exc hC ?_ | refine wpAny_madeBy_exc hC ?_ | simp only [bne_self_eq_false, Bool.false_eq_true, if_false] | wp_step)
  exact hq
theorem kw_new (F : ExcBaseFacts B newId initId bmB) (hT : ∀ X : String, bm.contains (.type X) = bmB.contains (.type X))
    (hC : h.get? C = some (excClassObj nm q C N bs bm hdct sn sub ab col dd k0 k1 k2 k3 k5 newId))
    (hq : R (.ok (.ret (.ref (h.objs.size + 1)))) ⟨(h.push (PySem.W.kdv_tup [])).push (excO C h.objs.size), g, d, t, os⟩) :
    codeAny (model prog w) A (.builtin newId ⟨[.ref C], [(kk, kv)]⟩) R ⟨h, g, d, t, os⟩ := by
  have ends := F.ends
  have c1 : (Value.ref C :: bm).contains (.type B) = true := by rw [List.contains_cons, hT, F.hasB, Bool.or_true]
  have c2 : (Value.ref C :: bm).contains (.type "AttributeError") = false := by rw [List.contains_cons, hT, F.noAttr]; rfl
  have c3 : (Value.ref C :: bm).contains (.type "NameError") = false := by rw [List.contains_cons, hT, F.noName]; rfl
  refine codeAny_builtinAt F.entry ?_
  unfold Builtin.«BaseException.__new__»
  refine PySem.wpAt_bind ?_
  show PySem.wpAt _ _ _ (stack >>= _) _ _ _
  refine PySem.wpAt_bind (PySem.wpAt_stack fun p below => PySem.wpAt_of_wpAny ?_)
  wp_walk
  refine PySem.wpAt_of_wpAny ?_
  rw [F.owner]
  repeat (first | with_reducible refine wpAny_madeHere_exc F.canon hC ?_ | with_reducible refine wpAny_loadPart_at hC ?_ | (with_reducible refine wpAny_isSubtype_exc hC ?_; first | rw [c1] | rw [c2] | rw [c3]) | wp_step)
  show R _ _
  rw [Heap.size_push]
  exact hq
theorem kw_type (F : ExcBaseFacts B newId initId bmB) (hT : ∀ X : String, bm.contains (.type X) = bmB.contains (.type X)) {fI : Addr} {Q : Fin → Shared → Prop}
    (hC : h.get? C = some (excClassObj nm q C N bs bm hdct sn sub ab col dd k0 k1 k2 k3 k5 newId))
    (hi : PySem.W.Looks (model prog w) h (typeLookup (.ref C) "__init__") (some (.ref fI))) (hb : ∀ self, PySem.W.Looks (model prog w) h (bindSpecial (.ref fI) self) (.ref fI, [self]))
    (hq : codeAny (model prog w) A (.call (.ref fI) ⟨[.ref (h.objs.size + 1)], [(kk, kv)]⟩)
      (fun r s' => match r with | .ok (.ret v) => v = .none ∧ Q (.done (.ret (.ref (h.objs.size + 1)))) s' | .ok _ => False | .error e => E e s')
      ⟨(h.push (PySem.W.kdv_tup [])).push (excO C h.objs.size), g, d, t, os⟩) :
    wpAny (model prog w) A (Builtin.«type.__call__» ⟨[.ref C], [(kk, kv)]⟩) Q E ⟨h, g, d, t, os⟩ := by
  repeat (first | with_reducible refine wpAny_loadPart_at hC ?_ | with_reducible refine wpAny_madeBy_exc hC ?_ | wp_step)
  refine codeAny_call_builtin_code (Code.quiet_builtin _ F.quiet) (kw_check F hT hC ?_)
  refine kw_new F hT hC ?_
  show wpAny _ _ _ _ _ _
  have k : ∀ b o, h.get? b = some o → ((h.push (PySem.W.kdv_tup [])).push (excO C h.objs.size)).get? b = some o := fun b o e => Heap.get?_push_of_some _ (Heap.get?_push_of_some _ e)
  have hC1 := k _ _ hC
  have hget : ((h.push (PySem.W.kdv_tup [])).push (excO C h.objs.size)).get? (h.objs.size + 1) = some (excO C h.objs.size) := by heap_get
  have hcC : (Value.ref C :: bm).contains (.ref C) = true := by simp
  have i1 := hi.keeps k
  have b1 := (hb (.ref (h.objs.size + 1))).keeps k
  unfold isInstance
  repeat (first | with_reducible refine wpAny_loadPart_at hget ?_ | (with_reducible refine wpAny_isSubtype_exc hC1 ?_; rw [hcC]) | wp_step)
  show wpAny _ _ (typeLookup (.ref C) _) _ _ _
  refine i1.at ?_
  refine wpAny_holding (wpAny_bind (b1.at ?_))
  refine wpAny_bind (wpAny_call (codeAny_mono hq fun r s' z => ?_))
  rcases r with e | (v | _ | _ | _) <;> first | exact z | exact z.elim | skip
  obtain ⟨rfl, z⟩ := z
  first
    | exact wpAny_pure (wpAny_pure z)
    | (wp_walk; exact z)
theorem kw_call (F : ExcBaseFacts B newId initId bmB) (hT : ∀ X : String, bm.contains (.type X) = bmB.contains (.type X)) {fI : Addr}
    (hC : h.get? C = some (excClassObj nm q C N bs bm hdct sn sub ab col dd k0 k1 k2 k3 k5 newId))
    (hi : PySem.W.Looks (model prog w) h (typeLookup (.ref C) "__init__") (some (.ref fI))) (hb : ∀ self, PySem.W.Looks (model prog w) h (bindSpecial (.ref fI) self) (.ref fI, [self]))
    (hq : codeAny (model prog w) (A.under (.builtin "type.__call__" ⟨[.ref C], [(kk, kv)]⟩)) (.call (.ref fI) ⟨[.ref (h.objs.size + 1)], [(kk, kv)]⟩) (PySem.W.InitBack (h.objs.size + 1) R)
      ⟨(h.push (PySem.W.kdv_tup [])).push (excO C h.objs.size), g, d, t, os⟩) :
    codeAny (model prog w) A (.call (.ref C) ⟨[], [(kk, kv)]⟩) R ⟨h, g, d, t, os⟩ := by
  have f1 := tc_lookup
  have f2 := tc_bind (.ref C)
  have hTy : (⟨h, g, d, t, os⟩ : Shared).TypeIs (.ref C) "type" := ⟨_, hC, rfl⟩
  refine codeAny_of_tree ?_
  show wpAny _ _ (callAny (.ref C) _) _ _ _
  repeat (any_goals (first | assumption | with_reducible refine wpAny_loadPart_at hC ?_ | wp_step))
  refine ⟨rfl, ?_⟩
  refine codeAny_call_builtin_at (Code.quiet_builtin _ (by decide +kernel)) entry_typeCall (wpAny_check_type_call_sub hC (kw_type F hT hC hi hb ?_))
  refine codeAny_mono hq fun r s' z => ?_
  rcases r with e | (v | _ | _ | _) <;> exact z
end
end Bh

set_option Elab.async false
set_option linter.all false
set_option maxRecDepth 100000
namespace Bh
open PySem PySem.Spec PyProof.Rows L2
/-- C() with C's own __init__ -/
theorem pe_mkG0 {X : Cx} {x : Str} {C fI : Addr} {k : Nat} {fd : FuncData} {ps : List Str} {sp : Sp} {p pos : Pos} (T : ExG X.K C) (iC : PySem.W.findIn X.K (.ref C) "__init__" = some (some (.ref fI))) (tI : PySem.W.typeIn X.K (.ref fI) = some (.type "function"))
    (F : FnOk X.prog X.w X.K X.mg X.base CX0 k fI fd ps sp) (hr : Room (k + 1) X.A) (hb : Binds X.K fd ps []) (hg : Gl X x) (hm : X.mg x = some (.ref C))
    (hdb : (x == ("__debug__" : Str)) = false := by decide) :
    PE X (.Call (.Name x p) [] [] pos) (tMkG C sp tNil) := by
  refine ⟨fun pins s σ H Q I h => wpAny_Call_Name_kw (ld_glob I hg hm ?_ hdb)⟩
  obtain ⟨B, newId, initId, bmB, FB, SF, ov, nm, q, N, bs, bm, sn, sub, ab, col, dd, k0, k1, k2, k3, k5, look, same⟩ := T.fam
  refine PySem.W.callWith_K0 I.kIn T.kC ?_
  obtain ⟨_, y⟩ := (h : _ ∧ _)
  obtain ⟨hh, g, dr, tk, os⟩ := s
  have n1 : H (hh.objs.size + 1) = none := I.hok.fresh (Nat.le_succ _)
  have yy := y (hh.objs.size + 1) n1
  have more : ∀ b o, hh.get? b = some o → ((hh.push (PySem.W.kdv_tup [])).push (PySem.HandSPX.excO C hh.objs.size)).get? b = some o := fun b o z => Heap.get?_push_of_some _ (Heap.get?_push_of_some _ z)
  have at_ : ((hh.push (PySem.W.kdv_tup [])).push (PySem.HandSPX.excO C hh.objs.size)).get? (hh.objs.size + 1) = some (PySem.HandSPX.excO C hh.objs.size) := by heap_get
  have J2 : Inv X pins σ (upd H (hh.objs.size + 1) (exo (hh.objs.size + 1) C none)) ⟨(hh.push (PySem.W.kdv_tup [])).push (PySem.HandSPX.excO C hh.objs.size), g, dr, tk, os⟩ := I.laid (t' := tk) more (Nat.le_succ _) (exo_ok at_)
  have rv2 : Vals [V.ref (hh.objs.size + 1)] [Value.ref (hh.objs.size + 1)] := .cons rfl .nil
  have ln : [Value.ref (hh.objs.size + 1)].length = ps.length := rv2.length.symm.trans (F.len _ _ _ _ yy)
  have bnd := hb _ [Value.ref (hh.objs.size + 1)] J2.kIn (by rw [List.append_nil]; exact ln)
  rw [List.append_nil] at bnd
  have body := F.run _ X.stack _ _ ⟨[Value.ref (hh.objs.size + 1)], []⟩ _ _ _ (fun _ _ _ => False) (hr.make C [] []) (J2.env0.make C [] []) bnd rv2 yy
  refine wpAny_call (PySem.HandSPX.call_own FB same (I.kIn _ _ look) (PySem.W.looks_findIn I.kIn iC) (fun self => PySem.W.bind_fn I.kIn self tI) (Nat.zero_le _) (codeAny_mono body fun r s2 z => ?_))
  cases r with
  | error _ => exact z.elim
  | ok fl =>
    cases fl with
    | ret w =>
      obtain ⟨v, H2, o2, b2, un2, ok2, rw2, ev, q2⟩ := z
      subst ev
      exact ⟨rw2, ⟨V.ref (hh.objs.size + 1), H2, J2.call' (ch := []) o2 un2 ok2 b2 (fun _ m => nomatch m), rfl, q2⟩⟩
    | next => exact z.elim
    | brk => exact z.elim
    | cont => exact z.elim
/-- C(k = e): kb is the promise of the binding of self and one keyword -/
theorem pe_mkGK {X : Cx} {x kk : Str} {C fI : Addr} {k : Nat} {fd : FuncData} {ps : List Str} {sp : Sp} {p pos : Pos} {kws : List Keyword} {tk : TA} {g : List Value → List Value → List Value} {gV : List V → List V → List V} (T : ExG X.K C) (iC : PySem.W.findIn X.K (.ref C) "__init__" = some (some (.ref fI))) (tI : PySem.W.typeIn X.K (.ref fI) = some (.type "function"))
    (F : FnOk X.prog X.w X.K X.mg X.base CX0 k fI fd ps sp) (hr : Room (k + 1) X.A) (hb : KBn X.K fd ps 1 [kk] g gV) (hg : Gl X x) (hm : X.mg x = some (.ref C)) (hkw : PK X kws tk)
    (hall : (backToKw pos (keywordEach kws X.env)).all (·.1.isSome) = true := by rfl) (hks : (backToKw pos (keywordEach kws X.env)).filterMap (·.1) = [kk] := by rfl)
    (hdb : (x == ("__debug__" : Str)) = false := by decide) (hpl : ((backTo pos (starEach [] X.env)).any (·.1) || (backToKw pos (keywordEach kws X.env)).any (·.1.isNone)) = false := by rfl) :
    PE X (.Call (.Name x p) [] kws pos) (fun σ H Q => tk σ H fun zs H1 => zs.length = 1 ∧ ∀ a, H1 a = none → sp (gV [.ref a] zs) (upd H1 a (exo a C none)) (fun v H2 => v = .non ∧ Q (.ref a) H2) fun _ _ _ => False) := by
  refine ⟨fun pins s σ H Q I h => wpAny_Call_Name_kw (ld_glob I hg hm ?_ hdb)⟩
  obtain ⟨B, newId, initId, bmB, FB, SF, ov, nm, q, N, bs, bm, sn, sub, ab, col, dd, k0, k1, k2, k3, k5, look, same⟩ := T.fam
  refine PySem.W.callWith_KW0 (h₀ := X.base) I.ok.mod.kin T.kC hall ?_ hpl
  refine thn (hkw.run pos pins s σ H _ I h) fun ws s2 ⟨zs, H1, J, rz, lz, y⟩ => ⟨J.kIn, ?_⟩
  rw [hks]
  obtain ⟨u, rfl⟩ : ∃ u, ws = [u] := by
    cases rz with
    | nil => cases lz
    | cons a b => cases b with
      | nil => exact ⟨_, rfl⟩
      | cons => cases lz
  show wpAny _ _ (call (.ref C) [] [(kk, u)]) _ _ _
  obtain ⟨hh, gg, dr, tk2, os⟩ := s2
  have n1 : H1 (hh.objs.size + 1) = none := J.hok.fresh (Nat.le_succ _)
  have yy := y (hh.objs.size + 1) n1
  have more : ∀ b o, hh.get? b = some o → ((hh.push (PySem.W.kdv_tup [])).push (PySem.HandSPX.excO C hh.objs.size)).get? b = some o := fun b o z => Heap.get?_push_of_some _ (Heap.get?_push_of_some _ z)
  have at_ : ((hh.push (PySem.W.kdv_tup [])).push (PySem.HandSPX.excO C hh.objs.size)).get? (hh.objs.size + 1) = some (PySem.HandSPX.excO C hh.objs.size) := by heap_get
  have J2 : Inv X pins σ (upd H1 (hh.objs.size + 1) (exo (hh.objs.size + 1) C none)) ⟨(hh.push (PySem.W.kdv_tup [])).push (PySem.HandSPX.excO C hh.objs.size), gg, dr, tk2, os⟩ := J.laid (t' := tk2) more (Nat.le_succ _) (exo_ok at_)
  have rv2 : Vals [V.ref (hh.objs.size + 1)] [Value.ref (hh.objs.size + 1)] := .cons rfl .nil
  have bnd := hb.to _ [Value.ref (hh.objs.size + 1)] [u] J2.kIn rfl rfl
  have body := F.run _ X.stack _ _ ⟨[Value.ref (hh.objs.size + 1)], [(kk, u)]⟩ _ _ _ (fun _ _ _ => False) (hr.make C [] [(kk, u)]) (J2.env0.make C [] [(kk, u)]) bnd (hb.rel rv2 rz) yy
  refine wpAny_call (kw_call FB same (J.kIn _ _ look) (PySem.W.looks_findIn J.kIn iC) (fun self => PySem.W.bind_fn J.kIn self tI) (codeAny_mono body fun r s2 z => ?_))
  cases r with
  | error _ => exact z.elim
  | ok fl =>
    cases fl with
    | ret w =>
      obtain ⟨v, H2, o2, b2, un2, ok2, rw2, ev, q2⟩ := z
      subst ev
      exact ⟨rw2, ⟨V.ref (hh.objs.size + 1), H2, J2.call' (ch := []) o2 un2 ok2 b2 (fun _ m => nomatch m), rfl, q2⟩⟩
    | next => exact z.elim
    | brk => exact z.elim
    | cont => exact z.elim
end Bh

set_option Elab.async false
set_option linter.all false
set_option maxRecDepth 100000
set_option maxHeartbeats 1000000
namespace Bh
open PySem PySem.Spec PyProof.Rows L2
/-! ### what is new -/
def newOf (H H' : Hp) : Hp := fun a => if H a = none then H' a else none
section
variable {H H1 H2 : Hp} {a p D : Addr} {o : HO} {u : HO}
theorem newOf_le : Same (newOf H H1) H1 := fun a u e => by
  unfold newOf at e
  by_cases h : H a = none
  · rw [if_pos h] at e
    exact e
  · rw [if_neg h] at e
    cases e
theorem newOf_at (h : H a = none) : newOf H H1 a = H1 a := if_pos h
theorem newOf_mono (s : Same H1 H2) : Same (newOf H H1) (newOf H H2) := fun a u e => by
  unfold newOf at e ⊢
  by_cases h : H a = none
  · rw [if_pos h] at e ⊢
    exact s _ _ e
  · rw [if_neg h] at e
    cases e
theorem newOf_trans (s : Same H H1) : Same (newOf H1 H2) (newOf H H2) := fun a u e => by
  unfold newOf at e ⊢
  by_cases h : H1 a = none
  · rw [if_pos h] at e
    rw [if_pos (s.free h)]
    exact e
  · rw [if_neg h] at e
    cases e
/-- new since, and not at D, which was there -/
theorem newOf_hid (s : Same H H1) (hD : H1 D = some u) : Same (newOf H1 H2) (hid D (newOf H (upd H2 D o))) := fun a v e => by
  have n : H1 a = none := by
    cases q : H1 a with
    | none => rfl
    | some w =>
      unfold newOf at e
      rw [if_neg (by rw [q]; exact fun z => nomatch z)] at e
      cases e
  have ne : a ≠ D := fun z => by
    rw [z, hD] at n
    cases n
  rw [newOf_at n] at e
  rw [hid_ne ne, newOf_at (s.free n), upd_ne ne]
  exact e
theorem hid_newOf (s : Same H1 H2) : Same (hid D (newOf H H1)) (hid D (newOf H (upd H2 D o))) := fun a v e => by
  by_cases ne : a = D
  · rw [ne] at e
    unfold hid at e
    rw [if_pos rfl] at e
    cases e
  rw [hid_ne ne] at e ⊢
  have k := newOf_mono (H := H) s _ _ e
  unfold newOf at k ⊢
  by_cases h : H a = none
  · rw [if_pos h] at k ⊢
    rw [upd_ne ne]
    exact k
  · rw [if_neg h] at k
    cases k
end
/-- the promise of copy_of (n: how deep, one more): the same data, all of its lists and tuples new -/
def spCp (K : PySem.W.Frag) : Nat → Sp
  | 0 => fun _ _ _ _ => False
  | n + 1 => fun vs H Q _ => ∃ (v : V) (d : PyData), vs = [v] ∧ Dp K H v d ∧ Sh n d ∧ ∀ H' r, Same H H' → Dp K (newOf H H') r d → Q r H'
structure ExR (K : PySem.W.Frag) (mg : Str → Option Value) (x q : Str) (st : Stmt) (ps at_ : List Str) : Type where
  c : Addr
  f : Addr
  fd : FuncData
  F : Fun K "__init__" q st f fd
  b : Binds K fd ps []
  g : mg x = some (.ref c)
  e : ExG K c
  i : PySem.W.findIn K (.ref c) "__init__" = some (some (.ref f))
  t : PySem.W.typeIn K (.ref f) = some (.type "function")
  n : ∀ y ∈ at_, PySem.W.findIn K (.ref c) y = some none
  x : XfC K c
  k : ExcC K c

/-- an own error's dict gets the code and, under f, a copy of d all of whose lists and tuples are new -/
def spIe (K : PySem.W.Frag) (C : Addr) (nm f : Str) (n : Nat) : Sp := fun vs H Q _ => ∃ (a : Addr) (v : V) (d : PyData), vs = [.ref a, v] ∧ H a = some (exo a C none) ∧ Dp K H v d ∧ Sh n d ∧
  ∀ (dx : Addr) (r : V) (H2 : Hp), H dx = none → dx ≠ a → H2 a = some (exo a C (some dx)) → H2 dx = some (exd dx [("code", .str nm), (f, r)]) → Same (hid a H) H2 → Dp K (hid dx (newOf H H2)) r d → Q .non H2
theorem ie_same {H H3 : Hp} {a dx : Addr} {o1 o2 o3 : HO} (s : Same H H3) (nd : H3 dx = none) : Same (hid a H) (upd (upd (upd H3 dx o1) a o2) dx o3) := fun b u e => by
  have ne : b ≠ a := fun z => by
    rw [z] at e
    unfold hid at e
    rw [if_pos rfl] at e
    cases e
  rw [hid_ne ne] at e
  have k := s _ _ e
  have ne2 : b ≠ dx := ne_of_none k nd
  rw [upd_ne ne2, upd_ne ne, upd_ne ne2]
  exact k
theorem ie_new {H H3 : Hp} {a dx : Addr} {o1 o2 o3 w : HO} (ea : H a = some w) (s : Same H H3) (nd : H3 dx = none) : Same (newOf H H3) (hid dx (newOf H (upd (upd (upd H3 dx o1) a o2) dx o3))) := fun b u e => by
  have n : H b = none := by
    cases q : H b with
    | none => rfl
    | some z =>
      unfold newOf at e
      rw [if_neg (by rw [q]; exact fun z => nomatch z)] at e
      cases e
  rw [newOf_at n] at e
  have ne : b ≠ a := fun z => by
    rw [z, ea] at n
    cases n
  have ne2 : b ≠ dx := ne_of_none e nd
  rw [hid_ne ne2, newOf_at n, upd_ne ne2, upd_ne ne, upd_ne ne2]
  exact e
/-- the error, raised: what its making leaves -/
theorem ie_raise {K : PySem.W.Frag} {H : Hp} {C a : Addr} {nm f : Str} {n : Nat} {v : V} {d : PyData} {Q : XK} (hd : Dp K H v d) (hs : Sh n d) (na : H a = none)
    (k : ∀ (dd : Addr) (r : V) (H2 : Hp), H dd = none → Same H H2 → H2 dd = some (.xd [("code", .str nm), (f, r)]) → Dp K (newOf H H2) r d → Q (.ref C) (some dd) H2) :
    spIe K C nm f n (V.ref a :: ([v] ++ [])) (upd H a (exo a C none)) (fun v H2 => v = .non ∧ ∃ (d : Addr) (fs : List (Str × V)), H2 a = some (exo a C (some d)) ∧ H2 d = some (exd d fs) ∧ H d = none ∧ Q (.ref C) (some d) (upd (del H2 a) d (.xd fs))) (fun _ _ _ => False) := by
  refine ⟨a, v, d, rfl, upd_same, Dp.mono (same_new na) hd, hs, fun dx r H2 nd ne e1 e2 s1 hr => ⟨rfl, dx, _, e1, e2, ?_, ?_⟩⟩
  · rw [upd_ne ne] at nd
    exact nd
  · rw [upd_ne ne] at nd
    refine k dx r _ nd (fun b u e => ?_) upd_same (Dp.mono (fun b u e => ?_) hr)
    · have b1 : b ≠ dx := ne_of_none e nd
      have b2 : b ≠ a := ne_of_none e na
      rw [upd_ne b1, del_ne b2]
      exact s1 _ _ (by rw [hid_ne b2, upd_ne b2]; exact e)
    · have b1 : b ≠ dx := fun z => by
        rw [z] at e
        unfold hid at e
        rw [if_pos rfl] at e
        cases e
      rw [hid_ne b1] at e
      have n : upd H a (exo a C none) b = none := by
        cases q : upd H a (exo a C none) b with
        | none => rfl
        | some z =>
          unfold newOf at e
          rw [if_neg (by rw [q]; exact fun z => nomatch z)] at e
          cases e
      have b2 : b ≠ a := fun z => by
        rw [z, upd_same] at n
        cases n
      rw [newOf_at n] at e
      rw [upd_ne b2] at n
      rw [newOf_at n, upd_ne b1, del_ne b2]
      exact e
/-- what an except suite is to know of a raised error -/
structure ErC (K : PySem.W.Frag) (cBE cMS C : Addr) (nm f : Str) : Prop where
  x : XfC K C
  n1 : PySem.W.findIn K (.ref C) "code" = some none
  n2 : PySem.W.findIn K (.ref C) f = some none
  ex : PySem.W.exmAny K (.ref C) [.ref cBE, .ref cMS] = some true
theorem pe_weak {X : Cx} {e : Expr} {t : TE} (h : PE X e t) : PE X e (fun σ H Q => ∃ Q0, t σ H Q0 ∧ ∀ v H2, Q0 v H2 → Q v H2) :=
  ⟨fun pins s σ H Q I ⟨Q0, h0, m⟩ => wpAny_mono (h.run pins s σ H Q0 I h0) (fun u s1 ⟨v, H1, J, r, q⟩ => ⟨v, H1, J, r, m v H1 q⟩) (fun _ _ x => x)⟩
theorem pe_xz_K {X : Cx} {K : PySem.W.Frag} (hK : X.K = K) {e : Expr} {te : TE} {pos : Pos} {n : Str} (he : PE X e te) (hb : attributeBase e n X.env (eval e X.env) = eval e X.env := by rfl) : PE X (.Attribute e n pos) (tXz K n te) := by
  subst hK
  exact pe_xz he hb
/-- what _law_try makes of a question -/
def TTryE (K : PySem.W.Frag) (cBE cMS : Addr) (pairs : List (Str × Str)) : (XK → Hp → VK → Prop) → Hp → VK → Prop := fun tl H Q => ∃ (Ech : XK) (Q0 : VK), tl Ech H Q0 ∧
  (∀ cls d H2, Ech cls d H2 → ∃ (C dd : Addr) (nm f : Str) (v : V), cls = .ref C ∧ d = some dd ∧ H2 dd = some (.xd [("code", .str nm), (f, v)]) ∧ ErC K cBE cMS C nm f ∧ (nm, f) ∈ pairs ∧ ∀ H3 p, Same H2 H3 → H3 p = some (.tup [.str nm, v]) → Q (.ref p) H3) ∧
  ∀ v H2, Q0 v H2 → ∀ p, H2 p = none → Q (.ref p) (upd H2 p (.tup [.str "value", v]))
/-- what _law_given tells of a caught error -/
def spGivenE (K : PySem.W.Frag) (cBE cMS : Addr) (pairs : List (Str × Str)) : Sp := fun vs H Q _ => ∃ (a C dd : Addr) (nm f : Str) (v : V), vs = [.ref a] ∧ H a = some (exz a (.ref C) (some dd)) ∧ H dd = some (.xd [("code", .str nm), (f, v)]) ∧ ErC K cBE cMS C nm f ∧ (nm, f) ∈ pairs ∧ ∀ H', Same H H' → Q v H'
theorem op_inDK {X : Cx} {K : PySem.W.Frag} (hK : X.K = K) (hu : X.A.units + 65 < cLine) : OpR X (compareOp .In) (rInD K) := by
  subst hK
  exact op_inD hu
theorem op_notInDK {X : Cx} {K : PySem.W.Frag} (hK : X.K = K) (hu : X.A.units + 65 < cLine) : OpR X (compareOp .NotIn) (rNotInD K) := by
  subst hK
  exact op_notInD hu
theorem r65 {k : Nat} {A : Around} (r : Room k A) : A.units + 65 < cLine := by
  have := r.un
  omega
theorem eqv_strs (a b : Str) : PyData.eqv (.str a) (.str b) = decide (a = b) := by
  first | rfl | (simp [PyData.eqv])
end Bh

set_option Elab.async false
set_option linter.all false
set_option maxRecDepth 100000
set_option maxHeartbeats 1000000
namespace Bh
open PySem PySem.Spec PyProof.Rows L2
structure Top (K : PySem.W.Frag) (mg : Str → Option Value) : Type where
  a_copy_of : Addr
  fd_copy_of : FuncData
  d_copy_of : Df K mg "copy_of" s_copy_of ["value"] a_copy_of fd_copy_of
  a_is_name : Addr
  fd_is_name : FuncData
  d_is_name : Df K mg "is_name" s_is_name ["value"] a_is_name fd_is_name
  a_is_option : Addr
  fd_is_option : FuncData
  d_is_option : Df K mg "is_option" s_is_option ["value"] a_is_option fd_is_option
  a_is_word : Addr
  fd_is_word : FuncData
  d_is_word : Df K mg "_is_word" s_is_word ["value", "characters"] a_is_word fd_is_word
  a_field_fits : Addr
  fd_field_fits : FuncData
  d_field_fits : Df K mg "field_fits" s_field_fits ["before", "field"] a_field_fits fd_field_fits
  a_tie_fits : Addr
  fd_tie_fits : FuncData
  d_tie_fits : Df K mg "tie_fits" s_tie_fits ["fields", "before", "tie"] a_tie_fits fd_tie_fits
  a_kind_fits : Addr
  fd_kind_fits : FuncData
  d_kind_fits : Df K mg "kind_fits" s_kind_fits ["fields", "before", "kind"] a_kind_fits fd_kind_fits
  a_name_fits : Addr
  fd_name_fits : FuncData
  d_name_fits : Df K mg "name_fits" s_name_fits ["before", "name", "most"] a_name_fits fd_name_fits
  a_names_of : Addr
  fd_names_of : FuncData
  d_names_of : Df K mg "names_of" s_names_of ["items"] a_names_of fd_names_of
  a_is_program : Addr
  fd_is_program : FuncData
  d_is_program : Df K mg "is_program" s_is_program ["fields", "value"] a_is_program fd_is_program
  a_is_case : Addr
  fd_is_case : FuncData
  d_is_case : Df K mg "is_case" s_is_case ["fields", "value"] a_is_case fd_is_case
  a_is_holding : Addr
  fd_is_holding : FuncData
  d_is_holding : Df K mg "is_holding" s_is_holding ["fields", "value"] a_is_holding fd_is_holding
  a_is_value : Addr
  fd_is_value : FuncData
  d_is_value : Df K mg "is_value" s_is_value ["fields", "value"] a_is_value fd_is_value
  a_values_of : Addr
  fd_values_of : FuncData
  d_values_of : Df K mg "values_of" s_values_of ["fields"] a_values_of fd_values_of
  a_is_tuple : Addr
  fd_is_tuple : FuncData
  d_is_tuple : Df K mg "_is_tuple" s_is_tuple ["value", "least", "most"] a_is_tuple fd_is_tuple
  a_are_options : Addr
  fd_are_options : FuncData
  d_are_options : Df K mg "_are_options" s_are_options ["value"] a_are_options fd_are_options
  a_are_keys : Addr
  fd_are_keys : FuncData
  d_are_keys : Df K mg "_are_keys" s_are_keys ["fields", "value"] a_are_keys fd_are_keys
  a_is_key : Addr
  fd_is_key : FuncData
  d_is_key : Df K mg "_is_key" s_is_key ["fields", "value"] a_is_key fd_is_key
  a_is_test : Addr
  fd_is_test : FuncData
  d_is_test : Df K mg "_is_test" s_is_test ["fields", "value"] a_is_test fd_is_test
  a_is_step : Addr
  fd_is_step : FuncData
  d_is_step : Df K mg "_is_step" s_is_step ["fields", "value"] a_is_step fd_is_step
  a_options_of : Addr
  fd_options_of : FuncData
  d_options_of : Df K mg "_options_of" s_options_of ["fields", "name"] a_options_of fd_options_of
  a_first_wrong : Addr
  fd_first_wrong : FuncData
  d_first_wrong : Df K mg "_first_wrong" s_first_wrong ["items", "fits"] a_first_wrong fd_first_wrong
  a_l_bag : Addr
  fd_l_bag : FuncData
  d_l_bag : Df K mg "_law_bag" s_l_bag ["_law_script"] a_l_bag fd_l_bag
  a_l_draw : Addr
  fd_l_draw : FuncData
  d_l_draw : Df K mg "_law_draw" s_l_draw ["_law_bag_here", "_law_many"] a_l_draw fd_l_draw
  a_l_any : Addr
  fd_l_any : FuncData
  d_l_any : Df K mg "_law_any" s_l_any ["_law_bag_here", "_law_row"] a_l_any fd_l_any
  a_l_mixed : Addr
  fd_l_mixed : FuncData
  d_l_mixed : Df K mg "_law_mixed" s_l_mixed ["_law_bag_here", "_law_row"] a_l_mixed fd_l_mixed
  a_l_like : Addr
  fd_l_like : FuncData
  d_l_like : Df K mg "_law_like" s_l_like ["_law_found", "_law_due"] a_l_like fd_l_like
  a_l_given : Addr
  fd_l_given : FuncData
  d_l_given : Df K mg "_law_given" s_l_given ["_law_e"] a_l_given fd_l_given
  a_l_try : Addr
  fd_l_try : FuncData
  d_l_try : Df K mg "_law_try" s_l_try ["_law_ask"] a_l_try fd_l_try
  a_l_words : Addr
  fd_l_words : FuncData
  d_l_words : Df K mg "_law_words" s_l_words ["_law_bag_here", "_law_many"] a_l_words fd_l_words
  a_l_options : Addr
  fd_l_options : FuncData
  d_l_options : Df K mg "_law_options" s_l_options ["_law_bag_here", "_law_many"] a_l_options fd_l_options
  a_l_fields : Addr
  fd_l_fields : FuncData
  d_l_fields : Df K mg "_law_fields" s_l_fields ["_law_bag_here", "_law_room"] a_l_fields fd_l_fields
  a_l_case : Addr
  fd_l_case : FuncData
  d_l_case : Df K mg "_law_case" s_l_case ["_law_bag_here", "_law_fields_here"] a_l_case fd_l_case
  a_l_program : Addr
  fd_l_program : FuncData
  d_l_program : Df K mg "_law_program" s_l_program ["_law_bag_here", "_law_fields_here", "_law_most"] a_l_program fd_l_program
  a_l_value : Addr
  fd_l_value : FuncData
  d_l_value : Df K mg "_law_value" s_l_value ["_law_bag_here", "_law_fields_here"] a_l_value fd_l_value
  a_l_keys : Addr
  fd_l_keys : FuncData
  d_l_keys : Df K mg "_law_keys" s_l_keys ["_law_bag_here", "_law_fields_here"] a_l_keys fd_l_keys
  a_l_kinds : Addr
  fd_l_kinds : FuncData
  d_l_kinds : Df K mg "_law_kinds" s_l_kinds ["_law_bag_here", "_law_fields_here", "_law_most"] a_l_kinds fd_l_kinds
  a_l_book : Addr
  fd_l_book : FuncData
  d_l_book : Df K mg "_law_book" s_l_book ["_law_bag_here", "_law_room", "_law_most"] a_l_book fd_l_book
  a_l_values : Addr
  fd_l_values : FuncData
  d_l_values : Df K mg "_law_values" s_l_values ["_law_fields_here"] a_l_values fd_l_values
  a_l_odd_field : Addr
  fd_l_odd_field : FuncData
  d_l_odd_field : Df K mg "_law_odd_field" s_l_odd_field ["_law_bag_here", "_law_fields_here"] a_l_odd_field fd_l_odd_field
  a_l_odd_case : Addr
  fd_l_odd_case : FuncData
  d_l_odd_case : Df K mg "_law_odd_case" s_l_odd_case ["_law_bag_here", "_law_fields_here"] a_l_odd_case fd_l_odd_case
  a_l_odd_tie : Addr
  fd_l_odd_tie : FuncData
  d_l_odd_tie : Df K mg "_law_odd_tie" s_l_odd_tie ["_law_bag_here", "_law_m"] a_l_odd_tie fd_l_odd_tie
  a_l_odd_kind : Addr
  fd_l_odd_kind : FuncData
  d_l_odd_kind : Df K mg "_law_odd_kind" s_l_odd_kind ["_law_bag_here", "_law_m"] a_l_odd_kind fd_l_odd_kind
  b_all : mg "all" = none
  b_dict : mg "dict" = none
  b_isinstance : mg "isinstance" = none
  b_len : mg "len" = none
  b_list : mg "list" = none
  b_max : mg "max" = none
  b_min : mg "min" = none
  b_range : mg "range" = none
  b_sorted : mg "sorted" = none
  b_tuple : mg "tuple" = none
  b_int : mg "int" = none
  b_zip : mg "zip" = none
  b_bool : mg "bool" = none
  b_str : mg "str" = none
  b_set : mg "set" = none
  b_enumerate : mg "enumerate" = none
  b_repr : mg "repr" = none
  g_LETTERS : ∃ t, mg "LETTERS" = some (Value.str "abcdefghijklmnopqrstuvwxyz" t)
  g_LETTERS_AND_DIGITS : ∃ t, mg "LETTERS_AND_DIGITS" = some (Value.str "abcdefghijklmnopqrstuvwxyz0123456789" t)
  g_LONGEST : ∃ t, mg "LONGEST" = some (Value.int 8 t)
  a_SIGNS : Addr
  g_SIGNS : mg "SIGNS" = some (.ref a_SIGNS)
  k_SIGNS : ∀ H : Hp, SqT K H a_SIGNS [V.str "=", V.str "!", V.str "<", V.str ">"]
  g_NEXT : ∃ t, mg "NEXT" = some (Value.str "+" t)
  g_MOST_ITEMS : ∃ t, mg "MOST_ITEMS" = some (Value.int 6 t)
  g_LEAST_OPTIONS : ∃ t, mg "LEAST_OPTIONS" = some (Value.int 2 t)
  g_MOST_OPTIONS : ∃ t, mg "MOST_OPTIONS" = some (Value.int 6 t)
  g_MOST_FIELDS : ∃ t, mg "MOST_FIELDS" = some (Value.int 3 t)
  g_MOST_VALUES : ∃ t, mg "MOST_VALUES" = some (Value.int 24 t)
  g_MOST_CASES : ∃ t, mg "MOST_CASES" = some (Value.int 8 t)
  g_MOST_TIES : ∃ t, mg "MOST_TIES" = some (Value.int 4 t)
  g_MOST_KINDS : ∃ t, mg "MOST_KINDS" = some (Value.int 3 t)
  a_DIRECTIONS : Addr
  g_DIRECTIONS : mg "DIRECTIONS" = some (.ref a_DIRECTIONS)
  k_DIRECTIONS : ∀ H : Hp, SqT K H a_DIRECTIONS [V.str "+", V.str "-"]
  r_InvalidField : ExR K mg "InvalidField" "InvalidField.__init__" s_InvalidField__init ["self", "position"] ["code", "position"]
  r_InvalidTie : ExR K mg "InvalidTie" "InvalidTie.__init__" s_InvalidTie__init ["self", "position"] ["code", "position"]
  r_InvalidKind : ExR K mg "InvalidKind" "InvalidKind.__init__" s_InvalidKind__init ["self", "position"] ["code", "position"]
  cBE : Addr
  cMS : Addr
  gBE : mg "BestError" = some (.ref cBE)
  gMS : mg "Missing" = some (.ref cMS)
  e_InvalidField : ErC K cBE cMS r_InvalidField.c "InvalidField" "position"
  e_InvalidTie : ErC K cBE cMS r_InvalidTie.c "InvalidTie" "position"
  e_InvalidKind : ErC K cBE cMS r_InvalidKind.c "InvalidKind" "position"
section
variable {P : Program} {w : World} {K : PySem.W.Frag} {mg : Str → Option Value} {base : Heap}
theorem cut63 (ns : List Int) (h : ns.length ≤ 63) : cutV (ns.map V.int) none (some 63) = ns.map V.int := by
  unfold cutV
  rw [HT.sIx_none, show HT.sIx (ns.map V.int).length (ns.map V.int).length (some 63) = min 63 (ns.map V.int).length from HT.sIx_nat _ _ 63, List.length_map, Nat.min_eq_right h]
  show List.take (ns.length - 0) (List.drop 0 (ns.map V.int)) = _
  rw [List.drop_zero, Nat.sub_zero]
  exact List.take_of_length_le (by rw [List.length_map]; exact Nat.le_refl _)
theorem ok_bag (T : Top K mg) : FnOk P w K mg base CX0 1 T.a_l_bag T.fd_l_bag ["_law_script"] (spBag K) := by
  refine T.d_l_bag.F.ok sc_l_bag (fun vs H Q E h => ?_) (fun cdv A outer s H vs Q E hr h => ?_)
  · obtain ⟨a, ns, rfl, _⟩ := h
    rfl
  obtain ⟨a, ns, rfl, hS, h63, q⟩ := h
  refine ⟨_, (pss_cons (ps_set (i := 1) sc_l_bag.nd rfl (Or.inl rfl) (pe_op op_add pe_int (pe_op op_mul pe_int (pe_callB (call_len_seq_K (K := K) (by rfl)) (by rfl) T.b_len PySem.boot_len (pa_cons (pe_slice (sl_list_K (K := K) (by rfl)) (pv 0) po_none (po_some pe_int)) pa_nil)))))
    (pss_cons (ps_for PassesOwn.never rfl (pi_list_K (K := K) (by rfl) (pe_slice (sl_list_K (K := K) (by rfl)) (pv 0) po_none (po_some pe_int))) (pg_name (i := 2) sc_l_bag.nd rfl (Or.inl rfl))
      (pss_one (ps_set (i := 1) sc_l_bag.nd rfl (Or.inl rfl) (pe_op op_mod (pe_callTy call_int1 (by rfl) T.b_int (by decide +kernel) (pa_cons (pe_op op_add (pe_op op_add (pe_op op_mul (pv 1) pe_int) (pe_op op_mod (pe_callTy call_int1 (by rfl) T.b_int (by decide +kernel) (pa_cons (pv 2) pa_nil)) pe_int)) pe_int) pa_nil)) pe_int))))
    (pss_one (ps_ret (pe_lst (pa_cons (pe_callTy (call_list_of_K (K := K) (by rfl)) (by rfl) T.b_list (by decide +kernel) (pa_cons (pe_slice (sl_list_K (K := K) (by rfl)) (pv 0) po_none (po_some pe_int)) pa_nil)) (pa_cons pe_int (pa_cons pe_int (pa_cons (pv 1) pa_nil))))))))), ?_⟩
  refine ⟨_, rfl, _, rfl, _, _, rfl, hS, fun p1 n1 => ?_⟩
  rw [cut63 ns h63]
  refine ⟨_, _, rfl, .inl (SqL.of upd_same), _, _, rfl, rfl, .inl ⟨by decide, by decide⟩, _, _, rfl, rfl, ?_⟩
  have e1 : Same H (upd H p1 (.lst (ns.map V.int))) := same_new n1
  refine ⟨_, rfl, _, rfl, _, _, rfl, e1.seq hS, fun p2 n2 => ?_⟩
  rw [cut63 ns h63]
  have e2 := e1.trans (same_new (o := .lst (ns.map V.int)) n2)
  refine ⟨p2, rfl, ⟨_, SqL.of upd_same⟩, for_list (K := K) (a := p2) (xs := ns.map V.int) (fun i σ H' => ∃ (z : Int) (v : Option V), σ = [some (.ref a), some (.int z), v] ∧ (0 < i → 0 ≤ z ∧ z < 2147483647) ∧ (z < 100000 ∨ 0 < i) ∧ 0 ≤ z ∧ H' = (upd (upd H p1 (.lst (ns.map V.int))) p2 (.lst (ns.map V.int))))
    ⟨_, none, rfl, fun z => absurd z (Nat.lt_irrefl _), .inl ?_, ?_, rfl⟩ (fun i σ H' _ ⟨_, _, _, _, _, _, e⟩ => by rw [e]; exact SqL.of upd_same) ?_ ?_⟩
  · rw [List.length_map]
    omega
  · rw [List.length_map]
    omega
  · rintro i y σ H' hi ⟨z, v, rfl, z1, z2, z0, rfl⟩
    obtain ⟨u, _, rfl⟩ := get_map hi
    refine ⟨_, rfl, _, _, rfl, rfl, .inr ⟨by decide, by decide⟩, _, rfl, .inl ⟨_, rfl, _, _, rfl, rfl, p31, _, _, rfl, rfl, _, _, rfl, rfl, .inl ⟨_, rfl, _, _, rfl, rfl, p31, ?_⟩⟩⟩
    refine ⟨_, _, rfl, fun _ => ⟨?_, ?_⟩, .inr (Nat.succ_pos i), ?_, rfl⟩ <;> omega
  · rintro σ H' ⟨z, v, rfl, z1, z2, z0, rfl⟩
    refine ⟨_, rfl, _, rfl, _, _, rfl, e2.seq hS, fun p3 n3 => ?_⟩
    rw [cut63 ns h63]
    refine ⟨_, _, rfl, .inl (SqL.of upd_same), fun l nl => ?_⟩
    have e3 := e2.trans (same_new (o := .lst (ns.map V.int)) n3)
    have e4 := e3.trans (same_new (o := .lst (ns.map V.int)) nl)
    refine ⟨_, rfl, (by show 4 ≤ sizeLine; decide), fun b nb => ?_⟩
    have e5 := e4.trans (same_new (o := .lst [.ref l, .int 0, .int 0, .int z]) nb)
    refine q b l _ (e4.free nb) (e3.free nl) e5 ⟨ns, 0, 0, z, upd_same, ?_, h63, by omega, by omega, by omega, z0, by omega⟩
    rw [upd_ne (ne_of_none upd_same nb), upd_same]
theorem ok_draw (T : Top K mg) : FnOk P w K mg base CX0 1 T.a_l_draw T.fd_l_draw ["_law_bag_here", "_law_many"] spDraw := by
  refine T.d_l_draw.F.ok sc_l_draw (fun vs H Q E h => ?_) (fun cdv A outer s H vs Q E hr h => ?_)
  · obtain ⟨b, l, G, n, rfl, _⟩ := h
    rfl
  obtain ⟨b, l, G, n, rfl, n0, n1, wd, q⟩ := h
  refine ⟨_, (Evl.pss_cut (ps_if (PW.pt (pw_and (pt_cmpR op_eq (pe_ix (ix_list_K (K := K) (by rfl)) (pv 0) pe_int (fun _ _ => rfl)) pe_int (nomark _)) (pw_and1 (pt_cmpR op_lt (pe_ix (ix_list_K (K := K) (by rfl)) (pv 0) pe_int (fun _ _ => rfl)) (pe_callB (call_len_seq_K (K := K) (by rfl)) (by rfl) T.b_len PySem.boot_len (pa_cons (pe_ix (ix_list_K (K := K) (by rfl)) (pv 0) pe_int (fun _ _ => rfl)) pa_nil)) (nomark _))))) (pss_cons (ps_set (i := 2) sc_l_draw.nd rfl (Or.inl rfl) (pe_ix (ix_list_K (K := K) (by rfl)) (pe_ix (ix_list_K (K := K) (by rfl)) (pv 0) pe_int (fun _ _ => rfl)) (pe_ix (ix_list_K (K := K) (by rfl)) (pv 0) pe_int (fun _ _ => rfl)) (fun _ _ => rfl)))
      (pss_cons (ps_asg (pe_op op_add (pe_ix (ix_list_K (K := K) (by rfl)) (pv 0) pe_int (fun _ _ => rfl)) pe_int) (pg_sub (pv 0) pe_int set_list))
      (pss_one (ps_if (pt_cmpR op_ge (pv 2) (pe_op op_pow pe_int pe_int) (nomark _)) (pss_one (ps_asg (pv 2) (pg_sub (pv 0) pe_int set_list))) (pss_one (ps_asg (pe_op op_mod (pe_callTy call_int1 (by rfl) T.b_int (by decide +kernel) (pa_cons (pe_op op_add (pe_op op_add (pe_op op_mul (pe_ix (ix_list_K (K := K) (by rfl)) (pv 0) pe_int (fun _ _ => rfl)) pe_int) (pe_op op_mul (pe_op op_mod (pe_callTy call_int1 (by rfl) T.b_int (by decide +kernel) (pa_cons (pv 2) pa_nil)) pe_int) pe_int)) (pe_ix (ix_list_K (K := K) (by rfl)) (pv 0) pe_int (fun _ _ => rfl))) pa_nil)) pe_int) (pg_sub (pv 0) pe_int set_list))))))) pss_nil)
    (pss_cons (ps_if (pt_cmpR op_gt (pe_ix (ix_list_K (K := K) (by rfl)) (pv 0) pe_int (fun _ _ => rfl)) pe_int (nomark _)) (pss_cons (ps_set (i := 3) sc_l_draw.nd rfl (Or.inl rfl) (pe_op op_mod (pe_callTy call_int1 (by rfl) T.b_int (by decide +kernel) (pa_cons (pe_ix (ix_list_K (K := K) (by rfl)) (pv 0) pe_int (fun _ _ => rfl)) pa_nil)) (pv 1)))
      (pss_cons (ps_asg (pe_op op_fdiv (pe_ix (ix_list_K (K := K) (by rfl)) (pv 0) pe_int (fun _ _ => rfl)) (pv 1)) (pg_sub (pv 0) pe_int set_list))
      (pss_one (ps_ret (pv 3))))) pss_nil)
    (pss_cons (ps_set (i := 4) sc_l_draw.nd rfl (Or.inl rfl) (pe_ix (ix_list_K (K := K) (by rfl)) (pv 0) pe_int (fun _ _ => rfl)))
    (pss_cons (ps_asg (pe_op op_mod (pe_callTy call_int1 (by rfl) T.b_int (by decide +kernel) (pa_cons (pe_op op_add (pe_op op_add (pe_op op_mul (pv 4) (pv 4)) (pe_op op_mul (pv 4) pe_int)) pe_int) pa_nil)) pe_int) (pg_sub (pv 0) pe_int set_list))
    (pss_one (ps_ret (pe_op op_mod (pe_callTy call_int1 (by rfl) T.b_int (by decide +kernel) (pa_cons (pe_op op_add (pe_op op_fdiv (pe_ix (ix_list_K (K := K) (by rfl)) (pv 0) pe_int (fun _ _ => rfl)) pe_int) (pe_op op_mul (pe_op op_mod (pe_callTy call_int1 (by rfl) T.b_int (by decide +kernel) (pa_cons (pe_ix (ix_list_K (K := K) (by rfl)) (pv 0) pe_int (fun _ _ => rfl)) pa_nil)) pe_int) pe_int)) pa_nil)) (pv 1)))))))), ?_⟩
  obtain ⟨ns, i, c, s, hb, hl, h63, i0, i1, c0, s0, s1⟩ := id wd.bag
  have lb : l ≠ b := ne_of hl hb (by intro z; cases ns with | nil => cases z | cons x r => cases r with | nil => cases z | cons => cases z)
  have B := SqL.of (K := K) hb
  refine ⟨fun σ' H' => ∃ v, σ' = [some (.ref b), some (.int n), v, none, none] ∧ Wd b l G H', ?_, ?_⟩
  · refine ⟨_, rfl, _, _, _, _, rfl, rfl, B, rfl, rfl, _, rfl, ?_⟩
    refine ite2 (fun _ => ?_) (fun _ => ?_)
    · refine ⟨_, rfl, _, _, _, _, rfl, rfl, B, rfl, _, rfl, _, _, _, _, rfl, rfl, B, rfl, _, _, rfl, .inl (SqL.of hl), _, _, rfl, rfl, _, rfl, ?_⟩
      refine ite2 (fun c1 => ?_) (fun _ => ?_)
      · have c2 := of_decide_eq_true c1
        rw [List.length_map] at c2
        have c3 : i.toNat < ns.length := by omega
        refine ⟨_, rfl, _, _, _, _, rfl, rfl, B, rfl, _, rfl, _, _, _, _, rfl, rfl, B, rfl, _, _, _, .int ns[i.toNat], rfl, rfl, SqL.of hl, at_nn i0 (by rw [List.getElem?_map, List.getElem?_eq_getElem c3]; rfl), ?_⟩
        refine ⟨_, rfl, _, _, _, _, rfl, rfl, B, rfl, _, _, rfl, rfl, _, rfl, _, _, _, 1, rfl, rfl, hb, rfl, ?_⟩
        refine ⟨_, rfl, _, _, rfl, rfl, ⟨by decide, by decide, by decide⟩, _, _, rfl, rfl, _, rfl, ?_⟩
        refine ite2 (fun g1 => ?_) (fun _ => ?_)
        · have g2 := of_decide_eq_true g1
          refine ⟨_, rfl, _, rfl, _, _, _, 2, rfl, rfl, upd_same, rfl, ?_⟩
          refine ⟨_, rfl, ?_⟩
          rw [upd_upd]
          exact wd.bagged ⟨ns, i + 1, _, s, upd_same, by rw [upd_ne lb]; exact hl, h63, by omega, by omega, Int.le_trans (by decide) g2, s0, s1⟩
        · refine ⟨_, rfl, _, _, _, _, rfl, rfl, SqL.of upd_same, rfl, _, _, rfl, rfl, .inr ⟨by decide, by decide⟩, _, rfl, .inl ⟨_, rfl, _, _, rfl, rfl, p31, _, _, rfl, rfl, .inr ⟨by decide, by decide⟩, _, _, rfl, rfl, _, rfl, _, _, _, _, rfl, rfl, SqL.of upd_same, rfl, _, _, rfl, rfl, .inl ⟨_, rfl, _, _, rfl, rfl, p31, ?_⟩⟩⟩
          refine ⟨_, rfl, _, _, _, 3, rfl, rfl, upd_same, rfl, ?_⟩
          refine ⟨_, rfl, ?_⟩
          rw [upd_upd]
          exact wd.bagged ⟨ns, i + 1, c, _, upd_same, by rw [upd_ne lb]; exact hl, h63, by omega, by omega, c0, Int.emod_nonneg _ (by decide), Int.emod_lt_of_pos _ (by decide)⟩
      · exact ⟨_, rfl, wd⟩
    · exact ⟨_, rfl, wd⟩
  · rintro σ' H' ⟨v, rfl, wd⟩
    obtain ⟨ns, i, c, s, hb, hl, h63, i0, i1, c0, s0, s1⟩ := id wd.bag
    have lb : l ≠ b := ne_of hl hb (by intro z; cases ns with | nil => cases z | cons x r => cases r with | nil => cases z | cons => cases z)
    have B := SqL.of (K := K) hb
    refine ⟨_, rfl, _, _, _, _, rfl, rfl, B, rfl, _, _, rfl, rfl, _, rfl, ?_⟩
    refine ite2 (fun g1 => ?_) (fun _ => ?_)
    · refine ⟨_, rfl, _, _, _, _, rfl, rfl, B, rfl, .inl ⟨_, rfl, _, rfl, _, _, rfl, rfl, n0, ?_⟩⟩
      refine ⟨_, rfl, _, _, _, _, rfl, rfl, B, rfl, _, rfl, _, _, rfl, rfl, ⟨n0, n1⟩, _, rfl, _, _, _, 2, rfl, rfl, hb, rfl, ?_⟩
      refine ⟨_, rfl, ?_⟩
      exact q _ _ (Int.emod_nonneg _ (by omega)) (Int.emod_lt_of_pos _ n0) (wd.bagged ⟨ns, i, c / n, s, upd_same, by rw [upd_ne lb]; exact hl, h63, i0, i1, Int.ediv_nonneg c0 (by omega), s0, s1⟩)
    · refine ⟨_, rfl, _, _, _, _, rfl, rfl, B, rfl, ?_⟩
      refine ⟨_, rfl, _, rfl, _, _, rfl, rfl, .inl ⟨by omega, by omega⟩, _, rfl, _, _, rfl, rfl, .inr ⟨by decide, by decide⟩, _, _, rfl, rfl, _, _, rfl, rfl, .inl ⟨_, rfl, _, _, rfl, rfl, p31, ?_⟩⟩
      refine ⟨_, rfl, _, _, _, 3, rfl, rfl, hb, rfl, ?_⟩
      refine ⟨_, rfl, _, _, _, _, rfl, rfl, SqL.of upd_same, rfl, _, _, rfl, rfl, ⟨by decide, by decide⟩, _, rfl, _, _, _, _, rfl, rfl, SqL.of upd_same, rfl, .inl ⟨_, rfl, _, _, rfl, rfl, p8117, _, _, rfl, rfl, .inr ⟨by decide, by decide⟩, _, _, rfl, rfl, .inl ⟨_, rfl, _, rfl, _, _, rfl, rfl, n0, ?_⟩⟩⟩
      exact q _ _ (Int.emod_nonneg _ (by omega)) (Int.emod_lt_of_pos _ n0) (wd.bagged ⟨ns, i, c, _, upd_same, by rw [upd_ne lb]; exact hl, h63, i0, i1, c0, Int.emod_nonneg _ (by decide), Int.emod_lt_of_pos _ (by decide)⟩)
end
end Bh

set_option Elab.async false
set_option linter.all false
set_option maxRecDepth 100000
set_option maxHeartbeats 1000000
namespace Bh
open PySem PySem.Spec PyProof.Rows L2
def spWord : Sp := fun vs H Q _ => ∃ (w z : Str), vs = [.str w, .str z] ∧ w.length ≤ 100000 ∧ ∀ H', Same H H' → Q (.bl (wordB w z)) H'
def spNm (z : Str) : Sp := fun vs H Q _ => ∃ (w : Str), vs = [.str w] ∧ w.length ≤ 100000 ∧ ∀ H', Same H H' → Q (.bl (wordB w z)) H'
section
variable {P : Program} {w : World} {K : PySem.W.Frag} {mg : Str → Option Value} {base : Heap}
theorem ok_word (T : Top K mg) : FnOk P w K mg base CX0 1 T.a_is_word T.fd_is_word ["value", "characters"] spWord := by
  refine T.d_is_word.F.ok sc_is_word (fun vs H Q E h => ?_) (fun cdv A outer s H vs Q E hr h => ?_)
  · obtain ⟨v, z, rfl, _⟩ := h
    rfl
  obtain ⟨v, z, rfl, hl, q⟩ := h
  refine ⟨_, (pss_cons (ps_if (pt_not (pt_val (pe_callB (call_isi_K (K := K) (by rfl)) (by rfl) T.b_isinstance (by decide +kernel) (pa_cons (pv 0) (pa_cons (pe_tyN "str" (by rfl) T.b_str (by decide +kernel)) pa_nil))))) (pss_one (ps_ret pe_bl)) pss_nil)
    (pss_one (ps_ret (pe_and (pe_chain op_le op_le pe_int (pe_callB call_len_str (by rfl) T.b_len PySem.boot_len (pa_cons (pv 0) pa_nil)) (pe_gI rfl T.g_LONGEST)) (pe_one (pe_callB (cr_all_K (K := K) (by rfl) rfl) (by rfl) T.b_all (by decide +kernel) (pa_cons (pe_lc (own := [("character", 2)]) rfl sc_is_word.nd (pi_str (pv 0)) (blkOk_by (own := [("character", 2)]) (N := ["value", "characters", "character"]) (sc := defScope s_is_word) (by decide +kernel)) (fun _ _ _ _ _ => by exact (pg_name (i := 2) sc_is_word.nd rfl (Or.inl rfl))) (fun _ _ _ _ _ => by exact pts_nil) (fun _ _ _ _ _ => by exact (pe_cmpR op_in_sign (pv 2) (pv 1) (by rfl)))) pa_nil))))))), ?_⟩
  refine ⟨_, rfl, _, _, _, _, true, rfl, .ty _, .base (.str v), kit_ty (by decide +kernel), _, rfl, ?_⟩
  refine iteF ?_
  refine ⟨_, rfl, v, rfl, le_line hl, _, _, rfl, rfl, _, rfl, ?_⟩
  have no : ¬ (1 ≤ v.length ∧ v.length ≤ 8) → Q (.bl false) H := fun z => by
    have k := q H (Same.refl _)
    unfold wordB at k
    rw [decide_eq_false z] at k
    exact k
  refine ite3 (fun h1 => ?_) (fun h1 => ⟨false, rfl, iteF (no (by omega))⟩)
  refine ⟨_, _, rfl, rfl, _, rfl, ite3 (fun h2 => ?_) (fun h2 => no (by omega))⟩
  refine ⟨_, rfl, v, rfl, fun D nD => ?_⟩
  refine lc_it walk_str (fun i H' => Same H H' ∧ H' D = some (.lst ((((TL.tl v).map fun c => decide (c ∈ TL.tl z)).take i).map V.bl))) ⟨same_new nD, upd_same⟩ (fun _ _ _ _ => True.intro) ?_ ?_
  · rintro i y H' H'' hi ⟨s1, hDl⟩ ⟨rfl, c, ec, rfl⟩
    have ec' : (TL.tl v)[i]? = some c := by rw [← ec]; exact Array.getElem?_toList
    refine ⟨rfl, _, rfl, _, rfl, c, z, rfl, rfl, _, hDl, ?_, same_mut s1 nD, ?_⟩
    · rw [List.length_map, List.length_take]
      have : i < v.length := hi
      exact lt_line (by omega)
    · rw [upd_same, List.take_add_one, List.getElem?_map, ec', List.map_append]
      rfl
  · rintro H' ⟨s1, hDl⟩
    rw [List.take_of_length_le (by rw [List.length_map, ← TL.len_tl]; exact Nat.le_refl _)] at hDl
    refine ⟨D, _, rfl, SqL.of hDl, ?_⟩
    have k := q _ s1
    unfold wordB at k
    rw [decide_eq_true (show 1 ≤ v.length ∧ v.length ≤ 8 by omega)] at k
    rw [List.all_map]
    exact k
theorem ok_name (T : Top K mg) : FnOk P w K mg base CX0 2 T.a_is_name T.fd_is_name ["value"] (spNm letters) := by
  have G_is_word := ok_word (P := P) (w := w) (base := base) T
  refine T.d_is_name.F.ok sc_is_name (fun vs H Q E h => ?_) (fun cdv A outer s H vs Q E hr h => ?_)
  · obtain ⟨v, rfl, _⟩ := h
    rfl
  obtain ⟨v, rfl, hl, q⟩ := h
  refine ⟨_, (pss_one (ps_ret (pe_call G_is_word (hr.mono (by decide)) (by rfl) T.d_is_word.g T.d_is_word.kp T.d_is_word.b .nil pass0 (pa_cons (pv 0) (pa_cons (pe_gS rfl T.g_LETTERS) pa_nil))))), ?_⟩
  exact ⟨_, rfl, v, letters, rfl, hl, q⟩
theorem ok_option (T : Top K mg) : FnOk P w K mg base CX0 2 T.a_is_option T.fd_is_option ["value"] (spNm lettersD) := by
  have G_is_word := ok_word (P := P) (w := w) (base := base) T
  refine T.d_is_option.F.ok sc_is_option (fun vs H Q E h => ?_) (fun cdv A outer s H vs Q E hr h => ?_)
  · obtain ⟨v, rfl, _⟩ := h
    rfl
  obtain ⟨v, rfl, hl, q⟩ := h
  refine ⟨_, (pss_one (ps_ret (pe_call G_is_word (hr.mono (by decide)) (by rfl) T.d_is_word.g T.d_is_word.kp T.d_is_word.b .nil pass0 (pa_cons (pv 0) (pa_cons (pe_gS rfl T.g_LETTERS_AND_DIGITS) pa_nil))))), ?_⟩
  exact ⟨_, rfl, v, lettersD, rfl, hl, q⟩
theorem paired_get {α β : Type} {F : α → β → Prop} : ∀ {l : List α} {m : List β} {i : Nat} {x : α}, Paired F l m → l[i]? = some x → ∃ y, m[i]? = some y ∧ F x y
  | _, _, _, _, .nil, e => by cases e
  | _, _, 0, _, .cons h _, e => by
    cases e
    exact ⟨_, rfl, h⟩
  | _, _, i + 1, _, .cons _ t, e => paired_get (i := i) t e
def spTup (K : PySem.W.Frag) : Sp := fun vs H Q _ => ∃ (a : Addr) (xs : List V) (l m : Int), vs = [.ref a, .int l, .int m] ∧ SqT K H a xs ∧ l ≤ xs.length ∧ (xs.length : Int) ≤ m ∧ Q (.bl true) H
theorem ok_tup (T : Top K mg) : FnOk P w K mg base CX0 1 T.a_is_tuple T.fd_is_tuple ["value", "least", "most"] (spTup K) := by
  refine T.d_is_tuple.F.ok sc_is_tuple (fun vs H Q E h => ?_) (fun cdv A outer s H vs Q E hr h => ?_)
  · obtain ⟨a, xs, l, m, rfl, _⟩ := h
    rfl
  obtain ⟨a, xs, l, m, rfl, hx, h1, h2, q⟩ := h
  refine ⟨_, (pss_one (ps_ret (pe_and (pe_callB (call_isi_K (K := K) (by rfl)) (by rfl) T.b_isinstance (by decide +kernel) (pa_cons (pv 0) (pa_cons (pe_tyN "tuple" (by rfl) T.b_tuple (by decide +kernel)) pa_nil))) (pe_one (pe_chain op_le op_le (pv 1) (pe_callB (call_len_seq_K (K := K) (by rfl)) (by rfl) T.b_len PySem.boot_len (pa_cons (pv 0) pa_nil)) (pv 2)))))), ?_⟩
  refine ⟨_, rfl, _, _, _, _, true, rfl, .ty _, tyT hx, kit_ty (by decide +kernel), _, rfl, iteT ?_⟩
  refine ⟨_, rfl, _, rfl, a, xs, rfl, .inr hx, _, _, rfl, rfl, _, rfl, iteY h1 ?_⟩
  refine ⟨_, rfl, _, _, rfl, rfl, ?_⟩
  show Q (.bl (decide ((xs.length : Int) ≤ m))) H
  rw [decide_eq_true h2]
  exact q
def spNamesOf (K : PySem.W.Frag) : Sp := fun vs H Q _ => ∃ (v : V) (ns : List Str), vs = [v] ∧ HdS K H v ns ∧ ns.length ≤ 1000 ∧ ∀ (p : Addr) (H' : Hp), H p = none → Same H H' → H' p = some (.lst (ns.map V.str)) → Q (.ref p) H'
theorem ok_namesof (T : Top K mg) : FnOk P w K mg base CX0 1 T.a_names_of T.fd_names_of ["items"] (spNamesOf K) := by
  refine T.d_names_of.F.ok sc_names_of (fun vs H Q E h => ?_) (fun cdv A outer s H vs Q E hr h => ?_)
  · obtain ⟨v, ns, rfl, _⟩ := h
    rfl
  obtain ⟨v, ns, rfl, ⟨a, xs, rfl, hx, hp⟩, hl, q⟩ := h
  refine ⟨_, (pss_one (ps_ret (pe_lc (own := [("item", 1)]) rfl sc_names_of.nd (pi_seq_K (K := K) (by rfl) (pv 0)) (blkOk_by (own := [("item", 1)]) (N := ["items", "item"]) (sc := defScope s_names_of) (by decide +kernel)) (fun _ _ _ _ _ => by exact (pg_name (i := 1) sc_names_of.nd rfl (Or.inl rfl))) (fun _ _ _ _ _ => by exact pts_nil) (fun _ _ _ _ _ => by exact (pe_ix (ix_tup_K (K := K) (by rfl)) (pv 1) pe_int (fun _ _ => rfl)))))), ?_⟩
  have lx : xs.length = ns.length := hp.length
  refine iSeqV rfl hx fun J G wk hG D nD => ?_
  refine lc_it wk (fun i H' => Same H H' ∧ H' D = some (.lst ((ns.take i).map V.str))) ⟨same_new nD, upd_same⟩ (fun i H' _ p => hG H' p.1) ?_ ?_
  · rintro i y H' H'' hi ⟨s1, hDl⟩ ⟨rfl, ey⟩
    obtain ⟨n, en, t, r, rfl, ht⟩ := paired_get hp ey
    refine ⟨rfl, _, rfl, t, _, (0 : Int), .str n, rfl, rfl, Same.tup s1 ht, at_nn (by decide) rfl, _, hDl, ?_, same_mut s1 nD, ?_⟩
    · rw [List.length_map, List.length_take]
      exact lt_line (by omega)
    · rw [upd_same, List.take_add_one, en, List.map_append]
      rfl
  · rintro H' ⟨s1, hDl⟩
    rw [lx, List.take_of_length_le (Nat.le_refl _)] at hDl
    exact q _ _ nD s1 hDl
def spNameFits (K : PySem.W.Frag) : Sp := fun vs H Q _ => ∃ (v : V) (ns : List Str) (n : Str) (m : Int), vs = [v, .str n, .int m] ∧ HdS K H v ns ∧ ns.length ≤ 1000 ∧ (ns.length : Int) < m ∧ IsNm n ∧ n ∉ ns ∧ ∀ H', Same H H' → Q (.bl true) H'
theorem ok_namefits (T : Top K mg) : FnOk P w K mg base CX0 3 T.a_name_fits T.fd_name_fits ["before", "name", "most"] (spNameFits K) := by
  have G_is_name := ok_name (P := P) (w := w) (base := base) T
  have G_names_of := ok_namesof (P := P) (w := w) (base := base) T
  refine T.d_name_fits.F.ok sc_name_fits (fun vs H Q E h => ?_) (fun cdv A outer s H vs Q E hr h => ?_)
  · obtain ⟨v, ns, n, m, rfl, _⟩ := h
    rfl
  obtain ⟨v, ns, n, m, rfl, hv, hl, hm, hn, hno, q⟩ := h
  refine ⟨_, (pss_one (ps_ret (pe_and (pe_cmpR op_lt (pe_callB (call_len_seq_K (K := K) (by rfl)) (by rfl) T.b_len PySem.boot_len (pa_cons (pv 0) pa_nil)) (pv 2) (nomark _)) (pe_and (pe_call G_is_name (hr.mono (by decide)) (by rfl) T.d_is_name.g T.d_is_name.kp T.d_is_name.b .nil pass0 (pa_cons (pv 1) pa_nil)) (pe_one (pe_cmpR (op_notIn_seq_K (K := K) (by rfl)) (pv 1) (pe_call G_names_of (hr.mono (by decide)) (by rfl) T.d_names_of.g T.d_names_of.kp T.d_names_of.b .nil pass0 (pa_cons (pv 0) pa_nil)) (by rfl))))))), ?_⟩
  obtain ⟨a, xs, rfl, hx, hp⟩ := id hv
  have lx : xs.length = ns.length := hp.length
  refine ⟨_, rfl, a, xs, rfl, hx, _, rfl, _, _, rfl, rfl, _, rfl, iteY (by rw [lx]; exact hm) ?_⟩
  refine ⟨_, rfl, _, rfl, Nat.le_trans hn.hi (by decide), fun H1 s1 => ?_⟩
  rw [hn.word]
  refine ⟨_, rfl, iteT ?_⟩
  refine ⟨_, rfl, _, rfl, _, ns, rfl, hv.mono s1, hl, fun p H2 _ s2 hp2 => ?_⟩
  refine ⟨p, _, rfl, .inl (SqL.of hp2), rfl, flat_strs _, ?_⟩
  show Q (.bl (!inV (.str n) (ns.map V.str))) H2
  rw [in_strs, decide_eq_false hno]
  exact q _ (s1.trans s2)
def spOptsOf (K : PySem.W.Frag) : Sp := fun vs H Q _ => ∃ (v : V) (fs : List Fld) (x : Str), vs = [v, .str x] ∧ DpS K H v (fs.map dF) ∧ (fs.map (·.1)).Nodup ∧ x ∈ fs.map (·.1) ∧ ∀ o, SqT K H o ((optsOf fs x).map V.str) → Q (.ref o) H
theorem ok_optsof (T : Top K mg) : FnOk P w K mg base CX0 1 T.a_options_of T.fd_options_of ["fields", "name"] (spOptsOf K) := by
  refine T.d_options_of.F.ok sc_options_of (fun vs H Q E h => ?_) (fun cdv A outer s H vs Q E hr h => ?_)
  · obtain ⟨v, fs, x, rfl, _⟩ := h
    rfl
  obtain ⟨v, fs, x, rfl, ⟨a, xs, rfl, hS, hD⟩, nd, hx, q⟩ := h
  refine ⟨_, (pss_cons (ps_for PassesOwn.never rfl (pi_seq_K (K := K) (by rfl) (pv 0)) (pg_tup_K (K := K) (by rfl) (n := 2) (by rfl) (pgs_cons (pg_name (i := 2) sc_options_of.nd rfl (Or.inl rfl)) (pgs_cons (pg_name (i := 3) sc_options_of.nd rfl (Or.inl rfl)) pgs_nil)))
      (pss_one (ps_if (pt_cmpR op_eq (pv 2) (pv 1) (nomark _)) (pss_one (ps_ret (pv 3))) pss_nil)))
    (pss_one (ps_ret (pe_tup pa_nil)))), ?_⟩
  have lx : xs.length = fs.length := by rw [DpAll.length hD, List.length_map]
  refine iSeqV rfl hS fun J G wk hG => for_it wk (fun i σ H' => ∃ k o, σ = [some (.ref a), some (.str x), k, o] ∧ H' = H ∧ ∀ (j : Nat) (f : Fld), j < i → fs[j]? = some f → f.1 ≠ x)
    ⟨none, none, rfl, rfl, fun j f h => absurd h (Nat.not_lt_zero j)⟩ (fun i σ H' _ ⟨_, _, _, e, _⟩ => by rw [e]; exact hG _ (Same.refl _)) ?_ ?_
  · rintro i y σ H' H'' hi ⟨k, o, rfl, rfl, hno⟩ ⟨rfl, ey⟩
    obtain ⟨d, e1, e2⟩ := DpAll.get hD ey
    rw [List.getElem?_map] at e1
    cases ef : fs[i]? with
    | none =>
      rw [ef] at e1
      cases e1
    | some f =>
      rw [ef] at e1
      cases e1
      obtain ⟨t, o, rfl, k1, k2⟩ := dp_dF e2
      refine ⟨t, _, rfl, k1, rfl, _, _, rfl, _, _, rfl, rfl, ?_⟩
      refine ⟨_, rfl, _, rfl, rfl, _, rfl, iteB (fun z => ?_) (fun z => ?_)⟩
      · have z1 : f.1 = x := by
          have z2 := of_decide_eq_true z
          cases z2
          rfl
        refine ⟨_, rfl, q o ?_⟩
        rw [← z1, opts_of nd (List.mem_of_getElem? ef)]
        exact k2
      · refine ⟨_, _, rfl, rfl, fun j g hj hg => ?_⟩
        by_cases hji : j = i
        · rw [hji, ef] at hg
          cases hg
          intro z1
          rw [z1] at z
          simp at z
        · exact hno j g (by omega) hg
  · rintro σ H' ⟨k, o, rfl, rfl, hno⟩
    obtain ⟨f, hf, rfl⟩ := List.mem_map.mp hx
    obtain ⟨j, hj⟩ := List.getElem?_of_mem hf
    have lj := (List.getElem?_eq_some_iff.mp hj).1
    exact absurd rfl (hno j f (by rw [lx]; exact lj) hj)
def spIsTest (K : PySem.W.Frag) : Sp := fun vs H Q _ => ∃ (v t : V) (fs : List Fld) (c : Tst), vs = [v, t] ∧ DpS K H v (fs.map dF) ∧ (fs.map (·.1)).Nodup ∧ Dp K H t (dT c) ∧ FitT fs c ∧ c.2.1 ∈ signs ∧ ∀ H', Same H H' → Q (.bl true) H'
theorem ok_istest (T : Top K mg) : FnOk P w K mg base CX0 2 T.a_is_test T.fd_is_test ["fields", "value"] (spIsTest K) := by
  have G_is_tuple := ok_tup (P := P) (w := w) (base := base) T
  have G_options_of := ok_optsof (P := P) (w := w) (base := base) T
  refine T.d_is_test.F.ok sc_is_test (fun vs H Q E h => ?_) (fun cdv A outer s H vs Q E hr h => ?_)
  · obtain ⟨v, t, fs, c, rfl, _⟩ := h
    rfl
  obtain ⟨v, t, fs, c, rfl, hv, nd, ht, hf, hsg, q⟩ := h
  obtain ⟨a, xs, rfl, h1, h2⟩ := dp_tup ht
  obtain ⟨x1, r1, rfl, e1, h2⟩ := dpa_cons h2
  obtain ⟨x2, r2, rfl, e2, h2⟩ := dpa_cons h2
  obtain ⟨x3, r3, rfl, e3, h2⟩ := dpa_cons h2
  obtain rfl := dpa_nil h2
  rw [dp_str e1, dp_str e2, dp_str e3] at h1
  refine ⟨_, (pss_one (ps_ret (pe_and (pe_call G_is_tuple (hr.mono (by decide)) (by rfl) T.d_is_tuple.g T.d_is_tuple.kp T.d_is_tuple.b .nil pass0 (pa_cons (pv 1) (pa_cons pe_int (pa_cons pe_int pa_nil)))) (pe_and (pe_cmpR (op_in_seq_K (K := K) (by rfl)) (pe_ix (ix_tup_K (K := K) (by rfl)) (pv 1) pe_int (fun _ _ => rfl)) (pe_gR rfl T.g_SIGNS) (by rfl)) (pe_one (pe_cmpR (op_in_seq_K (K := K) (by rfl)) (pe_ix (ix_tup_K (K := K) (by rfl)) (pv 1) pe_int (fun _ _ => rfl)) (pe_call G_options_of (hr.mono (by decide)) (by rfl) T.d_options_of.g T.d_options_of.kp T.d_options_of.b .nil pass0 (pa_cons (pv 0) (pa_cons (pe_ix (ix_tup_K (K := K) (by rfl)) (pv 1) pe_int (fun _ _ => rfl)) pa_nil))) (by rfl))))))), ?_⟩
  refine ⟨_, rfl, a, _, 3, 3, rfl, h1, (by show (3 : Int) ≤ 3; decide), (by show (3 : Int) ≤ 3; decide), _, rfl, iteT ?_⟩
  refine ⟨_, rfl, a, _, (1 : Int), .str c.2.1, rfl, rfl, h1, at_nn (by decide) rfl, T.a_SIGNS, signs.map V.str, rfl, .inr (T.k_SIGNS H), rfl, flat_strs _, inV (.str c.2.1) (signs.map V.str), rfl, ?_⟩
  rw [in_strs, decide_eq_true hsg]
  refine iteT ?_
  refine ⟨_, rfl, a, _, (2 : Int), .str c.2.2, rfl, rfl, h1, at_nn (by decide) rfl, _, rfl, _, rfl, a, _, (0 : Int), .str c.1, rfl, rfl, h1, at_nn (by decide) rfl, ?_⟩
  refine ⟨v, fs, c.1, rfl, hv, nd, hf.1, fun o ho => ⟨o, _, rfl, .inr ho, rfl, flat_strs _, ?_⟩⟩
  show Q (.bl (inV (.str c.2.2) ((optsOf fs c.1).map V.str))) H
  rw [in_strs, decide_eq_true hf.2]
  exact q _ (Same.refl H)
def spIsStep (K : PySem.W.Frag) : Sp := fun vs H Q _ => ∃ (v t : V) (fs : List Fld) (c : Stp), vs = [v, t] ∧ DpS K H v (fs.map dF) ∧ (fs.map (·.1)).Nodup ∧ fs.length ≤ 1000 ∧ (∀ f ∈ fs, f.2.length ≤ 1000) ∧ Dp K H t (dS c) ∧ FitS fs c ∧ ∀ H', Same H H' → Q (.bl true) H'
theorem ok_isstep (T : Top K mg) : FnOk P w K mg base CX0 2 T.a_is_step T.fd_is_step ["fields", "value"] (spIsStep K) := by
  have G_is_tuple := ok_tup (P := P) (w := w) (base := base) T
  have G_options_of := ok_optsof (P := P) (w := w) (base := base) T
  have G_names_of := ok_namesof (P := P) (w := w) (base := base) T
  refine T.d_is_step.F.ok sc_is_step (fun vs H Q E h => ?_) (fun cdv A outer s H vs Q E hr h => ?_)
  · obtain ⟨v, t, fs, c, rfl, _⟩ := h
    rfl
  obtain ⟨v, t, fs, c, rfl, hv, nd, hl, ho, ht, hf, q⟩ := h
  obtain ⟨a, xs, rfl, h1, h2⟩ := dp_tup ht
  obtain ⟨x1, r1, rfl, e1, h2⟩ := dpa_cons h2
  obtain ⟨x2, r2, rfl, e2, h2⟩ := dpa_cons h2
  obtain rfl := dpa_nil h2
  rw [dp_str e1, dp_str e2] at h1
  refine ⟨_, (pss_cons (ps_if (pt_not (pt_val (pe_call G_is_tuple (hr.mono (by decide)) (by rfl) T.d_is_tuple.g T.d_is_tuple.kp T.d_is_tuple.b .nil pass0 (pa_cons (pv 1) (pa_cons pe_int (pa_cons pe_int pa_nil)))))) (pss_one (ps_ret pe_bl)) pss_nil)
    (pss_one (ps_ret (pe_and (pe_cmpR (op_in_seq_K (K := K) (by rfl)) (pe_ix (ix_tup_K (K := K) (by rfl)) (pv 1) pe_int (fun _ _ => rfl)) (pe_tup (pa_cons (pe_gS rfl T.g_NEXT) (pa_starK (K := K) (by rfl) (pe_call G_options_of (hr.mono (by decide)) (by rfl) T.d_options_of.g T.d_options_of.kp T.d_options_of.b .nil pass0 (pa_cons (pv 0) (pa_cons (pe_ix (ix_tup_K (K := K) (by rfl)) (pv 1) pe_int (fun _ _ => rfl)) pa_nil))) pa_nil))) (by rfl)) (pe_one (pe_cmpR (op_in_seq_K (K := K) (by rfl)) (pe_ix (ix_tup_K (K := K) (by rfl)) (pv 1) pe_int (fun _ _ => rfl)) (pe_call G_names_of (hr.mono (by decide)) (by rfl) T.d_names_of.g T.d_names_of.kp T.d_names_of.b .nil pass0 (pa_cons (pv 0) pa_nil)) (by rfl))))))), ?_⟩
  refine ⟨_, rfl, a, _, 2, 2, rfl, h1, (by show (2 : Int) ≤ 2; decide), (by show (2 : Int) ≤ 2; decide), _, rfl, iteF ?_⟩
  refine ⟨_, rfl, a, _, (1 : Int), .str c.2, rfl, rfl, h1, at_nn (by decide) rfl, ?_⟩
  refine ⟨_, rfl, _, rfl, a, _, (0 : Int), .str c.1, rfl, rfl, h1, at_nn (by decide) rfl, v, fs, c.1, rfl, hv, nd, hf.1, fun o ho2 => ⟨o, _, rfl, .inl ho2, ?_⟩⟩
  have lo : (optsOf fs c.1).length ≤ 1000 := by
    obtain ⟨f, g1, g2, g3⟩ := pos_at hf.1
    rw [← g3]
    exact ho f (List.mem_of_getElem? g1)
  have le : V.str "+" :: ((optsOf fs c.1).map V.str ++ []) = (("+" : Str) :: optsOf fs c.1).map V.str := by rw [List.append_nil]; rfl
  refine ⟨(by rw [le, List.length_map]; show (optsOf fs c.1).length + 1 ≤ sizeLine; exact le_line (by omega)), fun p np => ?_⟩
  have s1 := same_new (o := .tup (V.str "+" :: ((optsOf fs c.1).map V.str ++ []))) np
  have hp : upd H p (.tup (V.str "+" :: ((optsOf fs c.1).map V.str ++ []))) p = some (.tup ((("+" : Str) :: optsOf fs c.1).map V.str)) := by rw [upd_same, le]
  refine ⟨p, _, rfl, .inr (SqT.of hp), rfl, flat_strs _, inV (.str c.2) ((("+" : Str) :: optsOf fs c.1).map V.str), rfl, ?_⟩
  rw [in_strs, decide_eq_true (show c.2 ∈ ("+" : Str) :: optsOf fs c.1 by
    by_cases z : c.2 = "+"
    · rw [z]
      exact List.mem_cons_self ..
    · exact List.mem_cons_of_mem _ (hf.2 z))]
  refine iteT ?_
  have hns := HdS.of hv (fun d hd => by
    obtain ⟨f, _, rfl⟩ := List.mem_map.mp hd
    exact named_dF f)
  rw [List.map_map] at hns
  refine ⟨_, rfl, a, _, (0 : Int), .str c.1, rfl, rfl, Same.tup s1 h1, at_nn (by decide) rfl, ?_⟩
  refine ⟨_, rfl, v, fs.map (·.1), rfl, hns.mono s1, by rw [List.length_map]; exact hl, fun p2 H2 _ s2 hp2 => ?_⟩
  refine ⟨p2, _, rfl, .inl (SqL.of hp2), rfl, flat_strs _, ?_⟩
  show Q (.bl (inV (.str c.1) ((fs.map (·.1)).map V.str))) H2
  rw [in_strs, decide_eq_true hf.1]
  exact q _ (s1.trans s2)
theorem Dp.tupA {K : PySem.W.Frag} {H : Hp} {v : V} {ds : List PyData} (h : Dp K H v (.tuple ds)) : ∃ a xs, v = .ref a ∧ SqT K H a xs ∧ DpAll K H xs ds ∧ xs.length = ds.length := by
  obtain ⟨a, xs, e, h1, h2⟩ := dp_tup h
  exact ⟨a, xs, e, h1, h2, DpAll.length h2⟩
def spIsCase (K : PySem.W.Frag) : Sp := fun vs H Q _ => ∃ (v t : V) (fs : List Fld) (c : Cas), vs = [v, t] ∧ DpS K H v (fs.map dF) ∧ (fs.map (·.1)).Nodup ∧ fs.length ≤ 1000 ∧ (∀ f ∈ fs, f.2.length ≤ 1000) ∧ Dp K H t (dC c) ∧ OkCas fs c ∧ ∀ H', Same H H' → Q (.bl true) H'
theorem ok_iscase (T : Top K mg) : FnOk P w K mg base CX0 3 T.a_is_case T.fd_is_case ["fields", "value"] (spIsCase K) := by
  have G_is_tuple := ok_tup (P := P) (w := w) (base := base) T
  have G_is_test := ok_istest (P := P) (w := w) (base := base) T
  have G_is_step := ok_isstep (P := P) (w := w) (base := base) T
  refine T.d_is_case.F.ok sc_is_case (fun vs H Q E h => ?_) (fun cdv A outer s H vs Q E hr h => ?_)
  · obtain ⟨v, t, fs, c, rfl, _⟩ := h
    rfl
  obtain ⟨v, t, fs, c, rfl, hv, nd, hl, ho, ht, hc, q⟩ := h
  obtain ⟨a, xs, rfl, h1, h2⟩ := dp_tup ht
  obtain ⟨x1, r1, rfl, e1, h2⟩ := dpa_cons h2
  obtain ⟨x2, r2, rfl, e2, h2⟩ := dpa_cons h2
  obtain rfl := dpa_nil h2
  refine ⟨_, (pss_cons (ps_if (pt_not (pt_val (pe_call G_is_tuple (hr.mono (by decide)) (by rfl) T.d_is_tuple.g T.d_is_tuple.kp T.d_is_tuple.b .nil pass0 (pa_cons (pv 1) (pa_cons pe_int (pa_cons pe_int pa_nil)))))) (pss_one (ps_ret pe_bl)) pss_nil)
    (pss_cons (ps_asg (pv 1) (pg_tup_K (K := K) (by rfl) (n := 2) (by rfl) (pgs_cons (pg_name (i := 2) sc_is_case.nd rfl (Or.inl rfl)) (pgs_cons (pg_name (i := 3) sc_is_case.nd rfl (Or.inl rfl)) pgs_nil))))
    (pss_cons (ps_if (PW.pt (pw_or (pt_not (pt_val (pe_call G_is_tuple (hr.mono (by decide)) (by rfl) T.d_is_tuple.g T.d_is_tuple.kp T.d_is_tuple.b .nil pass0 (pa_cons (pv 2) (pa_cons pe_int (pa_cons (pe_gI rfl T.g_MOST_ITEMS) pa_nil)))))) (pw_or1 (pt_not (pt_val (pe_callB (cr_all_K (K := K) (by rfl) rfl) (by rfl) T.b_all (by decide +kernel) (pa_cons (pe_lc (own := [("test", 4)]) rfl sc_is_case.nd (pi_tup_K (K := K) (by rfl) (pv 2)) (blkOk_by (own := [("test", 4)]) (N := ["fields", "value", "tests", "steps", "test", "step"]) (sc := defScope s_is_case) (by decide +kernel)) (fun _ _ _ _ _ => by exact (pg_name (i := 4) sc_is_case.nd rfl (Or.inl rfl))) (fun _ _ _ _ _ => by exact pts_nil) (fun _ _ _ _ _ => by exact (pe_call G_is_test (hr.mono (by decide)) (by rfl) T.d_is_test.g T.d_is_test.kp T.d_is_test.b .nil pass0 (pa_cons (pv 0) (pa_cons (pv 4) pa_nil))))) pa_nil))))))) (pss_one (ps_ret pe_bl)) pss_nil)
    (pss_one (ps_ret (L2.pe_or (pe_cmpR op_isN (pv 3) pe_non (nomark _)) (pe_one (pe_and (pe_call G_is_tuple (hr.mono (by decide)) (by rfl) T.d_is_tuple.g T.d_is_tuple.kp T.d_is_tuple.b .nil pass0 (pa_cons (pv 3) (pa_cons pe_int (pa_cons (pe_gI rfl T.g_MOST_ITEMS) pa_nil)))) (pe_one (pe_callB (cr_all_K (K := K) (by rfl) rfl) (by rfl) T.b_all (by decide +kernel) (pa_cons (pe_lc (own := [("step", 5)]) rfl sc_is_case.nd (pi_tup_K (K := K) (by rfl) (pv 3)) (blkOk_by (own := [("step", 5)]) (N := ["fields", "value", "tests", "steps", "test", "step"]) (sc := defScope s_is_case) (by decide +kernel)) (fun _ _ _ _ _ => by exact (pg_name (i := 5) sc_is_case.nd rfl (Or.inl rfl))) (fun _ _ _ _ _ => by exact pts_nil) (fun _ _ _ _ _ => by exact (pe_call G_is_step (hr.mono (by decide)) (by rfl) T.d_is_step.g T.d_is_step.kp T.d_is_step.b .nil pass0 (pa_cons (pv 0) (pa_cons (pv 5) pa_nil))))) pa_nil))))))))))), ?_⟩
  refine ⟨_, rfl, a, _, 2, 2, rfl, h1, (by show (2 : Int) ≤ 2; decide), (by show (2 : Int) ≤ 2; decide), _, rfl, iteF ?_⟩
  obtain ⟨tt, ts, rfl, ht1, ht2⟩ := dp_tup e1
  have lt : ts.length = c.1.length := by rw [DpAll.length ht2, List.length_map]
  refine ⟨_, rfl, a, _, rfl, h1, rfl, _, _, rfl, _, _, rfl, rfl, ?_⟩
  refine ⟨_, rfl, tt, ts, 0, 6, rfl, ht1, by omega, by rw [lt]; have := hc.nt; omega, _, rfl, iteF ?_⟩
  refine ⟨_, rfl, tt, rfl, ⟨_, ht1⟩, fun D nD => ?_⟩
  have lt2 := hc.nt
  refine lc_trues walk_tup nD (by omega) (fun H' s => Same.tup s ht1) (fun i x H' R R' ex s1 k => ?_) (fun H1 s1 hD => ?_)
  · obtain ⟨d, g1, g2⟩ := DpAll.get ht2 ex
    obtain ⟨tst, hm, rfl⟩ := List.mem_map.mp (List.mem_of_getElem? g1)
    exact ⟨rfl, _, rfl, _, rfl, v, x, fs, tst, rfl, hv.mono s1, nd, Dp.mono s1 g2, hc.fit.t tst hm, hc.sg tst hm, k⟩
  refine ⟨D, _, rfl, SqL.of hD, ?_⟩
  rw [bls_true]
  refine ⟨_, rfl, iteF ?_⟩
  cases hso : c.2 with
  | none =>
    rw [hso] at e2
    obtain rfl := dp_non e2
    exact ⟨_, rfl, rfl, _, rfl, iteY rfl (q _ s1)⟩
  | some ss =>
    rw [hso] at e2
    obtain ⟨t2, ys, rfl, g1, g2⟩ := dp_tup e2
    have lu : ys.length = ss.length := by rw [DpAll.length g2, List.length_map]
    have lu2 := hc.ns ss hso
    refine ⟨_, rfl, rfl, _, rfl, iteN (fun z => by cases z) ?_⟩
    refine ⟨_, rfl, t2, ys, 0, 6, rfl, Same.tup s1 g1, by omega, by omega, _, rfl, iteT ?_⟩
    refine ⟨_, rfl, t2, rfl, ⟨_, Same.tup s1 g1⟩, fun D2 nD2 => ?_⟩
    refine lc_trues walk_tup nD2 (by omega) (fun H' s => Same.tup (s1.trans s) g1) (fun i x H' R R' ex s2 k => ?_) (fun H2 s2 hD2 => ?_)
    · obtain ⟨d, f1, f2⟩ := DpAll.get g2 ex
      obtain ⟨stp, hm, rfl⟩ := List.mem_map.mp (List.mem_of_getElem? f1)
      exact ⟨rfl, _, rfl, _, rfl, v, x, fs, stp, rfl, hv.mono (s1.trans s2), nd, hl, ho, Dp.mono (s1.trans s2) f2, hc.fit.s ss hso stp hm, k⟩
    refine ⟨D2, _, rfl, SqL.of hD2, ?_⟩
    rw [bls_true]
    exact q _ (s1.trans s2)
structure FsB (fs : List Fld) : Prop where
  nd : (fs.map (·.1)).Nodup
  len : fs.length ≤ 1000
  os : ∀ f ∈ fs, f.2.length ≤ 1000
def spIsProg (K : PySem.W.Frag) : Sp := fun vs H Q _ => ∃ (v t : V) (fs : List Fld) (p : List Cas), vs = [v, t] ∧ DpS K H v (fs.map dF) ∧ FsB fs ∧ Dp K H t (dP p) ∧ OkPrg fs p ∧ ∀ H', Same H H' → Q (.bl true) H'
theorem ok_isprog (T : Top K mg) : FnOk P w K mg base CX0 4 T.a_is_program T.fd_is_program ["fields", "value"] (spIsProg K) := by
  have G_is_tuple := ok_tup (P := P) (w := w) (base := base) T
  have G_is_case := ok_iscase (P := P) (w := w) (base := base) T
  refine T.d_is_program.F.ok sc_is_program (fun vs H Q E h => ?_) (fun cdv A outer s H vs Q E hr h => ?_)
  · obtain ⟨v, t, fs, c, rfl, _⟩ := h
    rfl
  obtain ⟨v, t, fs, p, rfl, hv, fb, ht, hp, q⟩ := h
  obtain ⟨a, xs, rfl, h1, h2⟩ := dp_tup ht
  have lx : xs.length = p.length := by rw [DpAll.length h2, List.length_map]
  have k1 := hp.lo
  have k2 := hp.hi
  refine ⟨_, (pss_one (ps_ret (pe_and (pe_call G_is_tuple (hr.mono (by decide)) (by rfl) T.d_is_tuple.g T.d_is_tuple.kp T.d_is_tuple.b .nil pass0 (pa_cons (pv 1) (pa_cons pe_int (pa_cons (pe_gI rfl T.g_MOST_CASES) pa_nil)))) (pe_one (pe_callB (cr_all_K (K := K) (by rfl) rfl) (by rfl) T.b_all (by decide +kernel) (pa_cons (pe_lc (own := [("case", 2)]) rfl sc_is_program.nd (pi_tup_K (K := K) (by rfl) (pv 1)) (blkOk_by (own := [("case", 2)]) (N := ["fields", "value", "case"]) (sc := defScope s_is_program) (by decide +kernel)) (fun _ _ _ _ _ => by exact (pg_name (i := 2) sc_is_program.nd rfl (Or.inl rfl))) (fun _ _ _ _ _ => by exact pts_nil) (fun _ _ _ _ _ => by exact (pe_call G_is_case (hr.mono (by decide)) (by rfl) T.d_is_case.g T.d_is_case.kp T.d_is_case.b .nil pass0 (pa_cons (pv 0) (pa_cons (pv 2) pa_nil))))) pa_nil)))))), ?_⟩
  refine ⟨_, rfl, a, xs, 1, 8, rfl, h1, by omega, by omega, _, rfl, iteT ?_⟩
  refine ⟨_, rfl, a, rfl, ⟨_, h1⟩, fun D nD => ?_⟩
  refine lc_trues walk_tup nD (by omega) (fun H' s => Same.tup s h1) (fun i x H' R R' ex s1 k => ?_) (fun H1 s1 hD => ?_)
  · obtain ⟨d, g1, g2⟩ := DpAll.get h2 ex
    obtain ⟨cs, hm, rfl⟩ := List.mem_map.mp (List.mem_of_getElem? g1)
    exact ⟨rfl, _, rfl, _, rfl, v, x, fs, cs, rfl, hv.mono s1, fb.nd, fb.len, fb.os, Dp.mono s1 g2, hp.all cs hm, k⟩
  refine ⟨D, _, rfl, SqL.of hD, ?_⟩
  rw [bls_true]
  exact q _ s1
/-- a tie behind others with the names ns -/
def spTieFits (K : PySem.W.Frag) : Sp := fun vs H Q _ => ∃ (v b t : V) (fs : List Fld) (ns : List Str) (c : Tie), vs = [v, b, t] ∧ DpS K H v (fs.map dF) ∧ FsB fs ∧ HdS K H b ns ∧ ns.length < 4 ∧ c.1 ∉ ns ∧ IsNm c.1 ∧ Dp K H t (dTie c) ∧ OkPrg fs c.2 ∧ ∀ H', Same H H' → Q (.bl true) H'
theorem ok_tiefits (T : Top K mg) : FnOk P w K mg base CX0 5 T.a_tie_fits T.fd_tie_fits ["fields", "before", "tie"] (spTieFits K) := by
  have G_is_tuple := ok_tup (P := P) (w := w) (base := base) T
  have G_is_program := ok_isprog (P := P) (w := w) (base := base) T
  have G_name_fits := ok_namefits (P := P) (w := w) (base := base) T
  refine T.d_tie_fits.F.ok sc_tie_fits (fun vs H Q E h => ?_) (fun cdv A outer s H vs Q E hr h => ?_)
  · obtain ⟨v, b, t, fs, ns, c, rfl, _⟩ := h
    rfl
  obtain ⟨v, b, t, fs, ns, c, rfl, hv, fb, hb, hl, hno, hn, ht, hp, q⟩ := h
  obtain ⟨a, xs, rfl, h1, h2⟩ := dp_tup ht
  obtain ⟨x1, r1, rfl, e1, h2⟩ := dpa_cons h2
  obtain ⟨x2, r2, rfl, e2, h2⟩ := dpa_cons h2
  obtain rfl := dpa_nil h2
  rw [dp_str e1] at h1
  refine ⟨_, (pss_one (ps_ret (pe_and (pe_call G_is_tuple (hr.mono (by decide)) (by rfl) T.d_is_tuple.g T.d_is_tuple.kp T.d_is_tuple.b .nil pass0 (pa_cons (pv 2) (pa_cons pe_int (pa_cons pe_int pa_nil)))) (pe_and (pe_call G_name_fits (hr.mono (by decide)) (by rfl) T.d_name_fits.g T.d_name_fits.kp T.d_name_fits.b .nil pass0 (pa_cons (pv 1) (pa_cons (pe_ix (ix_tup_K (K := K) (by rfl)) (pv 2) pe_int (fun _ _ => rfl)) (pa_cons (pe_gI rfl T.g_MOST_TIES) pa_nil)))) (pe_one (pe_call G_is_program (hr.mono (by decide)) (by rfl) T.d_is_program.g T.d_is_program.kp T.d_is_program.b .nil pass0 (pa_cons (pv 0) (pa_cons (pe_ix (ix_tup_K (K := K) (by rfl)) (pv 2) pe_int (fun _ _ => rfl)) pa_nil)))))))), ?_⟩
  refine ⟨_, rfl, a, _, 2, 2, rfl, h1, (by show (2 : Int) ≤ 2; decide), (by show (2 : Int) ≤ 2; decide), _, rfl, iteT ?_⟩
  refine ⟨_, rfl, _, rfl, a, _, (0 : Int), .str c.1, rfl, rfl, h1, at_nn (by decide) rfl, b, ns, c.1, 4, rfl, hb, by omega, by omega, hn, hno, fun H1 s1 => ⟨_, rfl, iteT ?_⟩⟩
  exact ⟨_, rfl, _, rfl, a, _, (1 : Int), x2, rfl, rfl, Same.tup s1 h1, at_nn (by decide) rfl, v, x2, fs, c.2, rfl, hv.mono s1, fb, Dp.mono s1 e2, hp, fun H2 s2 => q _ (s1.trans s2)⟩
def spIsKey (K : PySem.W.Frag) : Sp := fun vs H Q _ => ∃ (v t : V) (fs : List Fld) (k : Str × Str), vs = [v, t] ∧ DpS K H v (fs.map dF) ∧ FsB fs ∧ Dp K H t (dKey k) ∧ k.1 ∈ fs.map (·.1) ∧ (k.2 = "+" ∨ k.2 = "-") ∧ ∀ H', Same H H' → Q (.bl true) H'
theorem ok_iskey (T : Top K mg) : FnOk P w K mg base CX0 2 T.a_is_key T.fd_is_key ["fields", "value"] (spIsKey K) := by
  have G_is_tuple := ok_tup (P := P) (w := w) (base := base) T
  have G_names_of := ok_namesof (P := P) (w := w) (base := base) T
  refine T.d_is_key.F.ok sc_is_key (fun vs H Q E h => ?_) (fun cdv A outer s H vs Q E hr h => ?_)
  · obtain ⟨v, t, fs, c, rfl, _⟩ := h
    rfl
  obtain ⟨v, t, fs, c, rfl, hv, fb, ht, hk, hd, q⟩ := h
  obtain ⟨a, xs, rfl, h1, h2⟩ := dp_tup ht
  obtain ⟨x1, r1, rfl, e1, h2⟩ := dpa_cons h2
  obtain ⟨x2, r2, rfl, e2, h2⟩ := dpa_cons h2
  obtain rfl := dpa_nil h2
  rw [dp_str e1, dp_str e2] at h1
  have hns := HdS.of hv (fun d hd => by
    obtain ⟨f, _, rfl⟩ := List.mem_map.mp hd
    exact named_dF f)
  rw [List.map_map] at hns
  refine ⟨_, (pss_one (ps_ret (pe_and (pe_call G_is_tuple (hr.mono (by decide)) (by rfl) T.d_is_tuple.g T.d_is_tuple.kp T.d_is_tuple.b .nil pass0 (pa_cons (pv 1) (pa_cons pe_int (pa_cons pe_int pa_nil)))) (pe_and (pe_cmpR (op_in_seq_K (K := K) (by rfl)) (pe_ix (ix_tup_K (K := K) (by rfl)) (pv 1) pe_int (fun _ _ => rfl)) (pe_call G_names_of (hr.mono (by decide)) (by rfl) T.d_names_of.g T.d_names_of.kp T.d_names_of.b .nil pass0 (pa_cons (pv 0) pa_nil)) (by rfl)) (pe_one (pe_cmpR (op_in_seq_K (K := K) (by rfl)) (pe_ix (ix_tup_K (K := K) (by rfl)) (pv 1) pe_int (fun _ _ => rfl)) (pe_gR rfl T.g_DIRECTIONS) (by rfl))))))), ?_⟩
  refine ⟨_, rfl, a, _, 2, 2, rfl, h1, (by show (2 : Int) ≤ 2; decide), (by show (2 : Int) ≤ 2; decide), _, rfl, iteT ?_⟩
  refine ⟨_, rfl, a, _, (0 : Int), .str c.1, rfl, rfl, h1, at_nn (by decide) rfl, ?_⟩
  refine ⟨_, rfl, v, fs.map (·.1), rfl, hns, by rw [List.length_map]; exact fb.len, fun p2 H2 _ s2 hp2 => ?_⟩
  refine ⟨p2, _, rfl, .inl (SqL.of hp2), rfl, flat_strs _, inV (.str c.1) ((fs.map (·.1)).map V.str), rfl, ?_⟩
  rw [in_strs, decide_eq_true hk]
  refine iteT ?_
  refine ⟨_, rfl, a, _, (1 : Int), .str c.2, rfl, rfl, Same.tup s2 h1, at_nn (by decide) rfl, T.a_DIRECTIONS, (["+", "-"] : List Str).map V.str, rfl, .inr (T.k_DIRECTIONS _), rfl, flat_strs _, ?_⟩
  show Q (.bl (inV (.str c.2) ((["+", "-"] : List Str).map V.str))) H2
  rw [in_strs, decide_eq_true (show c.2 ∈ (["+", "-"] : List Str) by
    rcases hd with z | z
    · rw [z]; exact List.mem_cons_self ..
    · rw [z]; exact List.mem_cons_of_mem _ (List.mem_cons_self ..))]
  exact q _ s2
end
end Bh

set_option Elab.async false
set_option linter.all false
set_option maxRecDepth 100000
set_option maxHeartbeats 2000000
namespace Bh
open PySem PySem.Spec PyProof.Rows L2
/-! ### enumerate of a tuple, zip of a tuple and a list -/
/-- the tuple at a, each item with its place in a new pair -/
def ItEn (K : PySem.W.Frag) (a : Addr) : It where
  go := fun i H => ∃ (l : List V) (y : V), SqT K H a l ∧ l[i]? = some y
  yld := fun i H v H' => ∃ (T : Addr) (y : V), v = .ref T ∧ H T = none ∧ H' = upd H T (.tup [.int (i : Nat), y]) ∧ ∀ l, SqT K H a l → l[i]? = some y
  stop := fun i H => ∃ l : List V, SqT K H a l ∧ l.length = i
theorem turn_en {P : Program} {w : World} {K : PySem.W.Frag} {elts : List Expr} {kk : Nat} {tpos : Pos} {a e it : Addr} (d1 : e ≠ it) (d2 : a ≠ e) (d3 : a ≠ it) :
    Turn P w K (.Tuple elts kk tpos) (ItEn K a) [e, it] e (fun i h => (∃ old, IsEnum h e it ((i : Nat) : Int) old) ∧ h.IsTupleIter it a i) where
  mem := List.mem_cons_self ..
  obj := fun i h ⟨⟨old, q1⟩, o, q2, _, q3⟩ b hb => by
    rcases List.mem_cons.mp hb with rfl | hb
    · exact ⟨_, q1, fun v z => nomatch z⟩
    · rw [List.mem_singleton.mp hb]
      exact ⟨o, q2, fun v z => by rw [q3] at z; cases z⟩
  keep := fun i h h' ⟨⟨old, q1⟩, q2⟩ k => ⟨⟨old, k e (List.mem_cons_self ..) _ q1⟩, q2.at fun o z => k it (List.mem_cons_of_mem _ (List.mem_singleton.mpr rfl)) o z⟩
  item := by
    intro X eP eW eK hc i pins s σ H E I hf ⟨⟨old, q1⟩, q2⟩ ⟨l, y, hl, hy⟩
    subst eP eW eK
    obtain ⟨its, rv, pl, _⟩ := I.tuple hl
    obtain ⟨u, hu, ru⟩ := rv.get hy
    have li : i < its.toArray.size := by
      rw [List.size_toArray]
      exact (List.getElem?_eq_some_iff.mp hu).1
    have lte : e < s.heap.objs.size := Heap.lt_size q1
    have lti : it < s.heap.objs.size := by
      obtain ⟨_, z, _⟩ := q2
      exact Heap.lt_size z
    have D := Draws.tuple (prog := X.prog) (w := X.w) (A := X.A.in1) (by rw [Around.in1_handled]; exact I.ok.hd hc) it a d3 its.toArray
    refine wpAny_pyNext_enum_itemD D q1 ⟨q2, pl⟩ li d1 (fun z => ?_) fun x h' tk hx ho st' hT hsz hk => ⟨_, rfl, wpAny_letOwnedTupleGo_enum (s := { s with heap := h', toks := tk + 1 }) ho fun h2 he2 sb => ?_⟩
    · rcases List.mem_cons.mp z with z | z
      · exact d1 z
      · exact d2 (List.mem_singleton.mp z).symm
    obtain rfl : x = u := by
      have hx2 : its[i]? = some x := by rw [← hx]; exact List.getElem?_toArray.symm
      rw [hu] at hx2
      exact (Option.some.inj hx2).symm
    have at2 : h2.get? s.heap.objs.size = some { cls := .type "tuple", data := .seq #[.int i tk, x] } := (sb.2 _ (Nat.ne_of_gt lte)).trans hT
    have nw : ObjOk X.prog X.w (upd H s.heap.objs.size (.tup [.int (i : Nat), y])) h2 s.heap.objs.size (.tup [.int (i : Nat), y]) := by
      refine ⟨(by show 2 ≤ sizeLine; decide), [.int i tk, x], .cons ⟨_, rfl⟩ (.cons ru .nil), _, at2, rfl, _, rfl⟩
    have J : Inv X pins σ (upd H s.heap.objs.size (.tup [.int (i : Nat), y])) { s with heap := h2, toks := tk + 1 } := by
      refine I.turnedNew (ch := [e, it]) (fun b o nb z => ?_) hf (Nat.le_refl _) nw
      have n1 : b ≠ e := fun z => nb (by rw [z]; exact List.mem_cons_self ..)
      have n2 : b ≠ it := fun z => nb (by rw [z]; exact List.mem_cons_of_mem _ (List.mem_singleton.mpr rfl))
      exact (sb.2 b n1).trans (hk b o n1 n2 z)
    have ei : ((i + 1 : Nat) : Int) = (i : Int) + 1 := by omega
    refine ⟨.ref s.heap.objs.size, _, J, rfl, ⟨_, y, rfl, I.hok.fresh (Nat.le_refl _), rfl, fun l2 h2' => by rw [I.tuple_inj h2' hl]; exact hy⟩, ⟨⟨x, ei ▸ he2⟩, st'.1.at fun o z => (sb.2 it d1.symm).trans z⟩, fun b hb => ?_⟩
    have lb : b < s.heap.objs.size := by
      rcases List.mem_cons.mp hb with z | z
      · rw [z]; exact lte
      · rw [List.mem_singleton.mp z]; exact lti
    rw [upd_ne (Nat.ne_of_lt lb)]
    exact (hf b hb).1
  done := by
    intro X eP eW eK hc i pins s σ H E I hf ⟨⟨old, q1⟩, q2⟩ ⟨l, hl, hle⟩
    subst eP eW eK
    obtain ⟨its, rv, pl, _⟩ := I.tuple hl
    have en : its.toArray.size = i := by rw [List.size_toArray, ← rv.length, hle]
    obtain ⟨f0, f1, f2, f3, f4, f5⟩ := hf it (List.mem_cons_of_mem _ (List.mem_singleton.mpr rfl))
    have D := Draws.tuple (prog := X.prog) (w := X.w) (A := X.A.in1) (by rw [Around.in1_handled]; exact I.ok.hd hc) it a d3 its.toArray
    rw [en] at D
    exact wpAny_pyNext_enum_endD D q1 ⟨q2, pl⟩ fun h' eb => ⟨rfl, I.turned (t' := s.toks) (fun b o nb z => eb b o nb z) f0 f1 f3 f4 f5⟩
  self := fun A i s Q E ⟨⟨_, q1⟩, _⟩ h => wpAny_pyIter_enum q1 h
abbrev enIt (t : Addr) : Obj := { cls := .type "tuple_iterator", data := .fields #[.ref t, .int 0 0] }
abbrev enOb (it : Addr) : Obj := { cls := .type "enumerate", data := .fields #[.none, .bool false, .ref it, rawInt 0, .none, .none] }
theorem meets_enT {t : Addr} {items : Array Value} : Meets (Builtin.«enumerate.__new__» ⟨[.type "enumerate", .ref t], []⟩) (fun _ R s => s.heap.IsTuple t items ∧ R (.ok (.ret (.ref (s.heap.push (enIt t)).objs.size))) { s with heap := (s.heap.push (enIt t)).push (enOb s.heap.objs.size) }) :=
  .of_wp fun pr wd A R st z => by
    obtain ⟨hp, gg, dr, tk, os⟩ := st
    obtain ⟨z1, z2⟩ := z
    have hsub := sub_enumerate
    have bg : ∀ {A' : Around} {E : Value → Shared → Prop} {Q : Value → Shared → Prop}, Q (.ref hp.objs.size) ⟨hp.push (enIt t), gg, dr, tk, os⟩ → wpAny (model pr wd) A' (pyIter (.ref t)) Q E ⟨hp, gg, dr, tk, os⟩ := fun q => wpAny_pyIter_tuple z1 q
    wp_walk using bg
    refine wpAny_stack_any fun sk => wpAny_pure ?_
    split
    · rename_i c _ _ _ _ _
      cases (c == Value.type "enumerate") <;> (wp_walk using bg; exact ⟨_, rfl, z2⟩)
    · wp_walk using bg
      exact ⟨_, rfl, z2⟩
theorem call_enT {prog : Program} {w : World} {A : Around} {E : Value → Shared → Prop} {s : Shared} {t : Addr} {items : Array Value} {Q : Value → Shared → Prop} (ht : s.heap.IsTuple t items)
    (k : ∀ h', IsEnum h' (s.heap.objs.size + 1) s.heap.objs.size 0 .none → h'.IsTupleIter s.heap.objs.size t 0 → (∀ b o, s.heap.get? b = some o → h'.get? b = some o) → Q (.ref (s.heap.objs.size + 1)) { s with heap := h' }) :
    wpAny (model prog w) A (call (.type "enumerate") [.ref t]) Q E s := by
  refine callType_new F.called_enumerate (by decide) (F.typeCall_enumerate_1 _) (F.newCall_enumerate_1 _) (fun ob => F.args_object_init_2 ob _) F.entry_enumerate_new meets_enT ⟨ht, ?_⟩
  have e1 : (s.heap.push (enIt t)).objs.size = s.heap.objs.size + 1 := Heap.size_push ..
  have e2 : ((s.heap.push (enIt t)).push (enOb s.heap.objs.size)).get? (s.heap.push (enIt t)).objs.size = some (enOb s.heap.objs.size) := Heap.get?_push_size _ rfl
  show _ ∧ _
  rw [e1] at e2 ⊢
  exact ⟨⟨_, e2, rfl⟩, k _ e2 ⟨_, Heap.get?_push_of_some _ (Heap.get?_push_size _ rfl), rfl, rfl⟩ fun b o x => Heap.get?_push_of_some _ (Heap.get?_push_of_some _ x)⟩
def iEnumS (K : PySem.W.Frag) (ta : TA) : TI := fun σ H R => ta σ H fun vs H1 => ∃ a xs, vs = [.ref a] ∧ (SqL K H1 a xs ∨ SqT K H1 a xs) ∧
  ∀ J : It, Walk J xs.length (fun H => Same H1 H) (YPair (fun i => some (.int (i : Nat))) (fun i => xs[i]?)) → R J H1
theorem walk_en {K : PySem.W.Frag} {a : Addr} {xs : List V} : Walk (ItEn K a) xs.length (fun H => SqT K H a xs) (YPair (fun i => some (.int (i : Nat))) (fun i => xs[i]?)) := by
  refine ⟨fun i _ hi q => ⟨xs, xs[i], q, List.getElem?_eq_getElem hi⟩, fun _ q => ⟨xs, q, rfl⟩, fun i H v H' _ q y => ?_⟩
  obtain ⟨T, z, e1, e2, e3, e4⟩ := y
  exact ⟨T, .int (i : Nat), z, e1, e2, e3, rfl, e4 xs q⟩
theorem pi_enumS {X : Cx} {K : PySem.W.Frag} (hK : X.K = K) {e : Expr} {ta : TA} {p pos tpos : Pos} {elts : List Expr} {kk : Nat} (hg : Gl X "enumerate") (hm : X.mg "enumerate" = none) (ha : PA X [e] ta) (hs : starEach [e] X.env = [(false, eval e X.env)] := by rfl) :
    PI X (.Tuple elts kk tpos) (.Call (.Name "enumerate" p) [e] [] pos) (iEnumS K ta) := by
  subst hK
  refine ⟨fun pins s σ H R I h => ?_⟩
  refine Call_ (ld_blt I hg hm boot_enumerate (PyProof.Rows.callWith_type1 (thn (ha.run pos pins s σ H _ I h) fun us s1 ⟨vs, H1, I1, r1, q1⟩ => ?_) hs rfl))
  obtain ⟨a, xs, rfl, hq, q⟩ := q1
  obtain ⟨u, rfl, r⟩ := vals1 r1
  cases r
  have two : ∀ b ∈ [s1.heap.objs.size + 1, s1.heap.objs.size], FpOk X pins H1 b := fun b hb => by
    have le : s1.heap.objs.size ≤ b := by
      rcases List.mem_cons.mp hb with z | z
      · rw [z]; exact Nat.le_succ _
      · rw [List.mem_singleton.mp z]; exact Nat.le_refl _
    exact I1.fpOk le (I1.hok.fresh le)
  rcases hq with hq | hq
  · obtain ⟨its, rv, pl, _⟩ := I1.list hq
    refine call_enumerate_list pl.isList fun h' he hit hsz hk => wpAny_pyIter_enum he ⟨s1.heap.objs.size + 1, _, _, _, H1, rfl, I1.kept (t' := s1.toks) hk, turn_enum a (s1.heap.objs.size + 1) s1.heap.objs.size, ⟨⟨.none, he⟩, hit, Nat.succ_ne_self _⟩, two, q _ ?_⟩
    exact walk_enum.mono (fun H' z => z.seq hq) (fun _ _ _ _ _ _ y => y)
  · obtain ⟨its, rv, pl, _⟩ := I1.tuple hq
    obtain ⟨ob, hob, _⟩ := id pl
    have la : a < s1.heap.objs.size := Heap.lt_size hob
    refine call_enT pl fun h' he hit hk => wpAny_pyIter_enum he ⟨s1.heap.objs.size + 1, _, _, _, H1, rfl, I1.kept (t' := s1.toks) hk, turn_en (a := a) (Nat.succ_ne_self _) (Nat.ne_of_lt (Nat.lt_succ_of_lt la)) (Nat.ne_of_lt la), ⟨⟨.none, he⟩, hit⟩, two, q _ ?_⟩
    exact walk_en.mono (fun H' z => Same.tup z hq) (fun _ _ _ _ _ _ y => y)
end Bh

set_option Elab.async false
set_option linter.all false
set_option maxRecDepth 100000
set_option maxHeartbeats 2000000
namespace Bh
open PySem PySem.Spec PyProof.Rows L2
/-- the tuple at a and the list at b side by side, the items in new pairs -/
def ItZm (K : PySem.W.Frag) (a b : Addr) : It where
  go := fun i H => ∃ (l m : List V) (x y : V), SqT K H a l ∧ SqL K H b m ∧ l[i]? = some x ∧ m[i]? = some y
  yld := fun i H v H' => ∃ (T : Addr) (x y : V), v = .ref T ∧ H T = none ∧ H' = upd H T (.tup [x, y]) ∧ (∀ l, SqT K H a l → l[i]? = some x) ∧ ∀ m, SqL K H b m → m[i]? = some y
  stop := fun i H => ∃ l m : List V, SqT K H a l ∧ SqL K H b m ∧ i ≤ l.length ∧ i ≤ m.length ∧ (i = l.length ∨ i = m.length)
theorem turn_zm {P : Program} {w : World} {K : PySem.W.Frag} {elts : List Expr} {kk : Nat} {tpos : Pos} {a b z TI TO i1 i2 : Addr} (S : ZipSep2 z TI TO i1 i2 [i1, a] [i2, b]) (n1 : a ≠ i1) (n2 : b ≠ i2) :
    Turn P w K (.Tuple elts kk tpos) (ItZm K a b) [z, TI, TO, i1, i2] z (fun i h => IsZip h z TI TO .none ∧ IsTupOf2 h TI (.ref i1) (.ref i2) ∧ (∃ x y, IsTupOf2 h TO x y) ∧ h.IsTupleIter i1 a i ∧ h.IsListIter i2 b i) where
  mem := List.mem_cons_self ..
  obj := fun i h ⟨q1, q2, ⟨x, y, q3⟩, ⟨o1, q4, _, q5⟩, ⟨o2, q6, _, q7⟩⟩ c hc => by
    simp only [List.mem_cons, List.not_mem_nil, or_false] at hc
    rcases hc with rfl | rfl | rfl | rfl | rfl
    · exact ⟨_, q1, fun v u => nomatch u⟩
    · exact ⟨_, q2, fun v u => nomatch u⟩
    · exact ⟨_, q3, fun v u => nomatch u⟩
    · exact ⟨o1, q4, fun v u => by rw [q5] at u; cases u⟩
    · exact ⟨o2, q6, fun v u => by rw [q7] at u; cases u⟩
  keep := fun i h h' ⟨q1, q2, ⟨x, y, q3⟩, q4, q5⟩ k => ⟨k z (by simp) _ q1, k TI (by simp) _ q2, ⟨x, y, k TO (by simp) _ q3⟩, q4.at fun o u => k i1 (by simp) o u, q5.at fun o u => k i2 (by simp) o u⟩
  item := by
    intro X eP eW eK hc i pins s σ H E I hf ⟨q1, q2, ⟨x0, y0, q3⟩, q4, q5⟩ ⟨l, m, x, y, hl, hm, hx, hy⟩
    subst eP eW eK
    obtain ⟨it1, r1, pl1, _⟩ := I.tuple hl
    obtain ⟨it2, r2, pl2, _⟩ := I.list hm
    obtain ⟨u1, hu1, ru1⟩ := r1.get hx
    obtain ⟨u2, hu2, ru2⟩ := r2.get hy
    have hh : X.A.in1.handled = none := by rw [Around.in1_handled]; exact I.ok.hd hc
    have D1 := Draws.tuple (prog := X.prog) (w := X.w) hh i1 a n1 it1.toArray
    have D2 := Draws.list (prog := X.prog) (w := X.w) hh i2 b n2 it2.toArray
    have li1 : i < it1.toArray.size := by rw [List.size_toArray]; exact (List.getElem?_eq_some_iff.mp hu1).1
    have li2 : i < it2.toArray.size := by rw [List.size_toArray]; exact (List.getElem?_eq_some_iff.mp hu2).1
    have lz : z < s.heap.objs.size := Heap.lt_size q1
    refine wpAny_pyNext_zipD2_item S D1 D2 q1 q2 q3 ⟨q4, pl1⟩ ⟨q5, pl2.isList⟩ li1 li2 fun x1 x2 h' tk p1 p2 hz' hO st1 st2 hT hsz hk => ⟨_, rfl, wpAny_letOwnedTupleGo_zip (s := { s with heap := h', toks := tk }) hz' fun h2 hz2 sb => ?_⟩
    obtain rfl : x1 = u1 := by
      have e1 : it1[i]? = some x1 := by rw [← p1]; exact List.getElem?_toArray.symm
      rw [hu1] at e1
      exact (Option.some.inj e1).symm
    obtain rfl : x2 = u2 := by
      have e1 : it2[i]? = some x2 := by rw [← p2]; exact List.getElem?_toArray.symm
      rw [hu2] at e1
      exact (Option.some.inj e1).symm
    have at2 : h2.get? s.heap.objs.size = some { cls := .type "tuple", data := .seq #[x1, x2] } := (sb.2 _ (Nat.ne_of_gt lz)).trans hT
    have nw : ObjOk X.prog X.w (upd H s.heap.objs.size (.tup [x, y])) h2 s.heap.objs.size (.tup [x, y]) := by
      refine ⟨(by show 2 ≤ sizeLine; decide), [x1, x2], .cons ru1 (.cons ru2 .nil), _, at2, rfl, _, rfl⟩
    have J : Inv X pins σ (upd H s.heap.objs.size (.tup [x, y])) { s with heap := h2, toks := tk } := by
      refine I.turnedNew (ch := [z, TI, TO, i1, i2]) (fun b o nb e => ?_) hf (Nat.le_refl _) nw
      exact (sb.2 b (fun e' => nb (by simp [e']))).trans (hk b o (fun e' => nb (by simp [e'])) (fun e' => nb (by simp [e'])) (fun e' => nb (by simp [e'])) (fun e' => nb (by simp [e'])) e)
    refine ⟨.ref s.heap.objs.size, _, J, rfl, ⟨_, x, y, rfl, I.hok.fresh (Nat.le_refl _), rfl, fun l2 h2' => by rw [I.tuple_inj h2' hl]; exact hx, fun m2 h2' => by rw [I.list_inj h2' hm]; exact hy⟩, ⟨hz2, ?_, ⟨x1, x2, ?_⟩, ?_, ?_⟩, fun c hcm => ?_⟩
    · exact (sb.2 _ S.TIz).trans (hk _ _ S.TIz S.TITO S.TIi1 S.TIi2 q2)
    · exact (sb.2 _ S.TOz).trans hO
    · exact st1.1.at fun o e => (sb.2 _ S.zi1.symm).trans e
    · exact st2.1.at fun o e => (sb.2 _ S.zi2.symm).trans e
    · have hlt : c < s.heap.objs.size := by
        have e' : c = z ∨ c = TI ∨ c = TO ∨ c = i1 ∨ c = i2 := by simpa using hcm
        rcases e' with q | q | q | q | q
        · rw [q]; exact lz
        · rw [q]; exact Heap.lt_size q2
        · rw [q]; exact Heap.lt_size q3
        · rw [q]; obtain ⟨_, e1, _⟩ := q4; exact Heap.lt_size e1
        · rw [q]; obtain ⟨_, e2, _⟩ := q5; exact Heap.lt_size e2
      rw [upd_ne (Nat.ne_of_lt hlt)]
      exact (hf c hcm).1
  done := by
    intro X eP eW eK hc i pins s σ H E I hf ⟨q1, q2, ⟨x0, y0, q3⟩, q4, q5⟩ ⟨l, m, hl, hm, hx, hy, he⟩
    subst eP eW eK
    obtain ⟨it1, r1, pl1, _⟩ := I.tuple hl
    obtain ⟨it2, r2, pl2, _⟩ := I.list hm
    have l1 := r1.length
    have l2 := r2.length
    have hh : X.A.in1.handled = none := by rw [Around.in1_handled]; exact I.ok.hd hc
    have D1 := Draws.tuple (prog := X.prog) (w := X.w) hh i1 a n1 it1.toArray
    have D2 := Draws.list (prog := X.prog) (w := X.w) hh i2 b n2 it2.toArray
    refine wpAny_pyNext_zipD2_end S D1 D2 q1 q2 q3 ⟨q4, pl1⟩ ⟨q5, pl2.isList⟩ (by simp; omega) (by simp; omega) (by simp; omega) fun h' tk hk => ⟨rfl, I.turnedL (t' := tk) (ch := [z, TI, TO, i1, i2]) (fun c o hb q =>
      hk c o (fun q' => hb (by simp [q'])) (fun q' => hb (by simp [q'])) (fun q' => hb (by simp [q'])) (fun q' => hb (by simp [q'])) q) hf⟩
  self := fun A i s Q E st h => wpAny_pyIter_zip st.1 h
theorem walk_zm {K : PySem.W.Frag} {a b : Addr} {xs ys : List V} : Walk (ItZm K a b) (min xs.length ys.length) (fun H => SqT K H a xs ∧ SqL K H b ys) (YPair (fun i => xs[i]?) (fun i => ys[i]?)) := by
  refine ⟨fun i _ hi q => ?_, fun _ q => ⟨xs, ys, q.1, q.2, Nat.min_le_left .., Nat.min_le_right .., by omega⟩, fun i H v H' _ q y => ?_⟩
  · have l1 : i < xs.length := by omega
    have l2 : i < ys.length := by omega
    exact ⟨xs, ys, xs[i], ys[i], q.1, q.2, List.getElem?_eq_getElem l1, List.getElem?_eq_getElem l2⟩
  · obtain ⟨T, x, y, e1, e2, e3, e4, e5⟩ := y
    exact ⟨T, x, y, e1, e2, e3, e4 xs q.1, e5 ys q.2⟩
theorem walk_zt {K : PySem.W.Frag} {a b : Addr} {xs ys : List V} : Walk (RZ.ItzT K a b) (min xs.length ys.length) (fun H => SqT K H a xs ∧ SqT K H b ys) (YPair (fun i => xs[i]?) (fun i => ys[i]?)) := by
  refine ⟨fun i _ hi q => ?_, fun _ q => ⟨xs, ys, q.1, q.2, by omega⟩, fun i H v H' _ q y => ?_⟩
  · have l1 : i < xs.length := by omega
    have l2 : i < ys.length := by omega
    exact ⟨xs, ys, xs[i], ys[i], q.1, q.2, List.getElem?_eq_getElem l1, List.getElem?_eq_getElem l2⟩
  · obtain ⟨T, x, y, e1, e2, e3, e4, e5⟩ := y
    exact ⟨T, x, y, e1, e2, e3, e4 xs q.1, e5 ys q.2⟩
theorem apart2 {x y : Nat} (h : x < y ∨ y < x) : x ≠ y := by omega
theorem notIn2 {x y z : Nat} (h : (x < y ∨ y < x) ∧ (x < z ∨ z < x)) : x ∉ [y, z] := by
  intro q
  simp at q
  omega
theorem zip_sepZ {n a b : Nat} (la : a < n) (lb : b < n) : ZipSep2 (n + 4) (n + 2) (n + 3) n (n + 1) [n, a] [n + 1, b] := by
  constructor
  case mem1 => exact List.mem_cons_self ..
  case mem2 => exact List.mem_cons_self ..
  all_goals first | exact apart2 (by omega) | exact notIn2 (by omega)
def iZipM (K : PySem.W.Frag) (ta : TA) : TI := fun σ H R => ta σ H fun vs H1 => ∃ a b xs ys, vs = [.ref a, .ref b] ∧ SqT K H1 a xs ∧ (SqL K H1 b ys ∨ SqT K H1 b ys) ∧
  ∀ J : It, Walk J (min xs.length ys.length) (fun H => Same H1 H) (YPair (fun i => xs[i]?) (fun i => ys[i]?)) → R J H1
theorem pi_zipM {X : Cx} {K : PySem.W.Frag} (hK : X.K = K) {e e2 : Expr} {ta : TA} {p pos tpos : Pos} {elts : List Expr} {kk : Nat} (hg : Gl X "zip") (hm : X.mg "zip" = none) (ha : PA X [e, e2] ta)
    (hs : starEach [e, e2] X.env = (false, eval e X.env) :: starEach [e2] X.env := by rfl) (hpl : (backTo pos (starEach [e2] X.env)).any (·.1) = false := by rfl) :
    PI X (.Tuple elts kk tpos) (.Call (.Name "zip" p) [e, e2] [] pos) (iZipM K ta) := by
  subst hK
  refine ⟨fun pins s σ H R I h => ?_⟩
  refine Call_ (ld_blt I hg hm PyProof.Rows.boot_zip (PyProof.Rows.callWith_type1 (thn (ha.run pos pins s σ H _ I h) fun us s1 ⟨vs, H1, I1, r1, q1⟩ => ?_) hs hpl))
  obtain ⟨a, b, xs, ys, rfl, hqx, hqy, q⟩ := q1
  obtain ⟨u, w, rfl, ra, rb⟩ : ∃ u w, us = [u, w] ∧ RelV (.ref a) u ∧ RelV (.ref b) w := by
    cases r1 with
    | cons x y =>
      cases y with
      | cons x2 z => cases z; exact ⟨_, _, rfl, x, x2⟩
  cases ra
  cases rb
  have new5 : ∀ c ∈ [s1.heap.objs.size + 4, s1.heap.objs.size + 2, s1.heap.objs.size + 3, s1.heap.objs.size, s1.heap.objs.size + 1], FpOk X pins H1 c := fun c hc => by
    have le : s1.heap.objs.size ≤ c := by
      simp only [List.mem_cons, List.not_mem_nil, or_false] at hc
      omega
    exact I1.fpOk le (I1.hok.fresh le)
  obtain ⟨it1, r1', p1, _⟩ := I1.tuple hqx
  obtain ⟨o1, ho1, _⟩ := id p1
  have la : a < s1.heap.objs.size := Heap.lt_size ho1
  rcases hqy with hqy | hqy
  · obtain ⟨it2, r2', p2, _⟩ := I1.list hqy
    have lb : b < s1.heap.objs.size := p2.lt
    refine zip_begins2 (begins_tuple a it1.toArray) (begins_list b it2.toArray) p1 p2.isList fun h' hz hTI hTO g1 g2 hsz hk => wpAny_pyIter_zip hz ?_
    refine ⟨s1.heap.objs.size + 4, _, _, _, H1, rfl, I1.kept (t' := s1.toks) hk, turn_zm (zip_sepZ la lb) (Nat.ne_of_lt la) (Nat.ne_of_lt (Nat.lt_succ_of_lt lb)), ⟨hz, hTI, ⟨_, _, hTO⟩, ⟨_, g1, rfl, rfl⟩, ⟨_, g2, rfl, rfl⟩⟩, new5, q _ ?_⟩
    exact walk_zm.mono (fun H' z => ⟨Same.tup z hqx, z.seq hqy⟩) (fun _ _ _ _ _ _ y => y)
  · obtain ⟨it2, r2', p2, _⟩ := I1.tuple hqy
    obtain ⟨o2, ho2, _⟩ := id p2
    have lb : b < s1.heap.objs.size := Heap.lt_size ho2
    refine RZ.call_zipT (show s1.heap.IsTuple a it1.toArray from p1) (show s1.heap.IsTuple b it2.toArray from p2) fun h' hz hTI hTO h1 h2 hsz hk => wpAny_pyIter_zip hz ?_
    refine ⟨s1.heap.objs.size + 4, _, _, _, H1, rfl, I1.kept (t' := s1.toks) hk, RZ.turn_zipT (PySem.W.ktu_apart s1.heap.objs.size a b la lb), ⟨hz, hTI, ⟨_, _, hTO⟩, h1, h2⟩, new5, q _ ?_⟩
    exact walk_zt.mono (fun H' z => ⟨Same.tup z hqx, Same.tup z hqy⟩) (fun _ _ _ _ _ _ y => y)
end Bh

set_option Elab.async false
set_option linter.all false
set_option maxRecDepth 100000
namespace Bh
open PySem PySem.Spec PyProof.Rows L2
/-! ### len(set(xs)) of distinct texts -/
theorem takeAny {ys : List Str} (d : ys.Nodup) {j : Nat} (hj : j < ys.length) : ((ys.take j).any (· == ys[j])) = false := by
  refine List.any_eq_false.mpr fun z hz ez => ?_
  obtain ⟨i, hi⟩ := List.mem_iff_getElem?.mp hz
  rw [List.getElem?_take] at hi
  split at hi
  · rename_i lt
    obtain ⟨li, ei⟩ := List.getElem?_eq_some_iff.mp hi
    exact List.pairwise_iff_getElem.mp d i j li hj lt (ei.trans (eq_of_beq ez))
  · cases hi
theorem takeGrow {ys : List Str} {j : Nat} (hj : j < ys.length) (c : Str) : ((ys.take j).any (· == c) || decide (c = ys[j])) = (ys.take (j + 1)).any (· == c) := by
  rw [List.take_add_one, List.getElem?_eq_getElem hj, List.any_append]
  congr 1
  show decide (c = ys[j]) = (ys[j] == c || false)
  rw [Bool.or_false]
  by_cases e : c = ys[j]
  · rw [← e]; simp
  · have e2 : ¬ ys[j] = c := fun z => e z.symm
    simp [e, e2]
abbrev TakeSet (P : Program) (w : World) (h : Heap) (D : Addr) (ys : List Str) (j : Nat) : Prop := h.SetOf (strKind P w) D (fun c => (ys.take j).any (· == c)) j
theorem TakeSet.at {P : Program} {w : World} {h h2 : Heap} {D : Addr} {ys : List Str} {j : Nat} (z : TakeSet P w h D ys j) (k : ∀ o, h.get? D = some o → h2.get? D = some o) : TakeSet P w h2 D ys j := by
  obtain ⟨o, es, ep, tb, e, more⟩ := z
  exact ⟨o, es, ep, tb, k o e, more⟩
section
variable {P : Program} {w : World} {A : Around} {C : Result → Shared → Prop} {it : Addr} {fp wr : List Addr} {G : Array GenState → Array GenState → Prop} {n : Nat} {Pv : Nat → Value → Prop} {St : Nat → Shared → Prop}
theorem fillLoop (W : WalksS P w A.in1 it fp wr G n Pv St) (D : Addr) (far : D ∉ fp) (ys : List Str) (hn : ys.length = n) (room : n + 1 < scanBound) (d : ys.Nodup)
    (hv : ∀ j v, Pv j v → ∃ t, v = .str (ys.getD j Str.empty) t) (left : Nat) :
    ∀ (j : Nat) (s : Shared), n - j = left → j ≤ n → St j s → TakeSet P w s.heap D ys j →
      (∀ s2, Moved (D :: wr) G s s2 → TakeSet P w s2.heap D ys n → C (.ok (.ret .none)) s2) →
      codeAny (model P w) A (.builtin "set.update.loop" ⟨[.ref D, .ref it], []⟩) C s := by
  have far2 : D ∉ wr := fun z => far (W.sub _ z)
  induction left with
  | zero =>
    intro j s ej le st z fin
    obtain rfl : j = n := by omega
    refine codeAny_builtin PyProof.Rows.F.entry_set_update_loop ((Around.under_plainId PyProof.Rows.F.plain_set_update_loop _).symm ▸ ?_)
    refine wpAny_bind (m := pyNext (.ref it)) (W.done s _ _ st fun s2 mv => wpAny_pure (fin s2 (mv.mono fun b hb => .tail _ hb) ?_))
    exact z.at fun o e => mv.heap D o far2 e
  | succ left ih =>
    intro j s ej le st z fin
    have lt : j < n := by omega
    have lj : j < ys.length := by omega
    refine codeAny_builtin PyProof.Rows.F.entry_set_update_loop ((Around.under_plainId PyProof.Rows.F.plain_set_update_loop _).symm ▸ ?_)
    refine wpAny_bind (m := pyNext (.ref it)) (W.item j s _ _ lt st fun v s2 pv st2 mv => ?_)
    obtain ⟨t, ev⟩ := hv j v pv
    rw [List.getD_eq_getElem?_getD, List.getElem?_eq_getElem lj] at ev
    change v = .str ys[j] t at ev
    subst ev
    have z2 : TakeSet P w s2.heap D ys j := z.at fun o e => mv.heap D o far2 e
    refine wpAny_bind (m := holding [Value.str ys[j] t] (setAdd D (.str ys[j] t))) (wpAny_holding ?_)
    unfold setAdd
    refine wpAny_holding (wpAny_bind ((strKind P w).pyHash (k := ys[j]) (strKind_is _ _ _ _) ?_))
    refine wpAny_setAddHashed_of (knd := strKind P w) (s := { s2 with toks := s2.toks + 1 }) (strKind_is _ _ _ _) rfl z2 (by omega) fun h3 sb z3 => ?_
    have z4 : TakeSet P w h3 D ys (j + 1) := SetOf_congr z3 (takeGrow lj) (by rw [takeAny d lj]; rfl)
    have off : ∀ {b : Addr} {o : Obj}, b ≠ D → s2.heap.get? b = some o → h3.get? b = some o := fun nb e => (sb.2 _ nb).trans e
    refine wpAny_pure ⟨plainId_quiet PyProof.Rows.F.plain_set_update_loop _, ih (j + 1) _ (by omega) lt (W.frame _ s2 _ _ st2 (Nat.le_succ _) fun b hb o e => off (fun q => far (q ▸ hb)) e) z4 fun s4 mv2 z5 => ?_⟩
    exact fin s4 (Moved.trans W.gtrans ((mv.mono fun b hb => .tail _ hb).then_heap (Nat.le_succ _) fun b o nb e => off (fun q => nb (q ▸ .head _)) e) mv2) z5
end
section
variable {P : Program} {w : World} {A : Around} {E : Value → Shared → Prop} {s : Shared}
abbrev set0 (led : Bool) : Obj := { cls := .type "set", dict := none, data := .set #[] 0 (.fresh 0 0 led) }
/-- set(x), by what set.__init__ does to the new set -/
theorem set_made {x : Value} {Z : Shared → Prop} {Q : Value → Shared → Prop}
    (fill : ∀ led : Bool, wpAny (model P w) A.in1.in1 (Builtin.«set.__init__» ⟨[.ref s.heap.objs.size, x], []⟩)
      (fun fin s2 => match fin with | .done f => wants (fun r s3 => r = .none ∧ Z s3) E (.ok f) s2 | .again c => c.quiet = true ∧ codeAny (model P w) A.in1 c (wants (fun r s3 => r = .none ∧ Z s3) E) s2)
      (fun e s2 => wants (fun r s3 => r = .none ∧ Z s3) E (.error e) s2) { s with heap := s.heap.push (set0 led) })
    (use : ∀ s3, Z s3 → Q (.ref s.heap.objs.size) s3) : wpAny (model P w) A (call (.type "set") [x]) Q E s := by
  obtain ⟨mc, mt, road⟩ := PySem.F.called_set.mro
  have mk1 := PySem.F.called_set.made
  have mk2 := PySem.F.called_set.sub
  have mk3 := PySem.F.called_set.notType
  have mk4 := PySem.F.called_set.canCreate
  have mk5 := PySem.F.typeCall_set_1 x
  refine wpAny_call (codeAny_of_tree (show wpAny (model P w) _ (callAny (.type "set") ⟨[x], []⟩) _ _ s from wpAny_pure ⟨Code.quiet_builtin _ (by decide +kernel), codeAny_builtin PySem.F.entry_type_call ?_⟩))
  rw [Around.under_plain (weight_type_call_type "set" [x] []) rfl]
  repeat (any_goals (first | assumption | wp_step))
  refine codeAny_mono (code_set_new_1 x (E := E) (Q₁ := fun D s2 => ∃ led : Bool, D = .ref s.heap.objs.size ∧ s2 = { s with heap := s.heap.push (set0 led) }) fun led => ⟨led, rfl, rfl⟩) fun r s2 end1 => ?_
  cases r with
  | error e => exact end1
  | ok fl =>
    cases fl with
    | ret D =>
      obtain ⟨led, eD, eS⟩ := end1
      subst eD eS
      have at0 : (s.heap.push (set0 led)).get? s.heap.objs.size = some (set0 led) := Heap.get?_push_size _ rfl
      have ty0 : Shared.TypeIs { s with heap := s.heap.push (set0 led) } (.ref s.heap.objs.size) "set" := ⟨_, at0, rfl⟩
      have in1 := PySem.F.called_set.init.lookup
      have in2 := PySem.F.called_set.init.bind (.ref s.heap.objs.size)
      repeat (any_goals (first | assumption | wp_step))
      refine codeAny_mono (codeAny_call_builtin PySem.F.called_set.init.plain PySem.F.entry_set_init (check_set_init_1 ty0 (fill led))) fun r2 s3 end2 => ?_
      cases r2 with
      | error e => exact end2
      | ok fl2 =>
        cases fl2 with
        | ret r =>
          obtain ⟨er, z⟩ := end2
          subst er
          repeat (any_goals (first | assumption | wp_step))
          exact use _ z
        | _ => exact end2.elim
    | _ => exact end1.elim
end
end Bh

set_option Elab.async false
set_option linter.all false
set_option maxRecDepth 100000
set_option maxHeartbeats 3200000
namespace Bh
open PySem PySem.Spec PyProof.Rows L2
theorem texts_at : ∀ {ys : List Str} {us : List Value}, Vals (ys.map V.str) us → ∀ (j : Nat) (v : Value), us[j]? = some v → ∃ t, v = .str (ys.getD j Str.empty) t
  | [], _, .nil, j, v, h => by simp at h
  | y :: ys, _, .cons ⟨t, e⟩ _, 0, v, h => ⟨t, by simp at h; rw [← h, e]; rfl⟩
  | y :: ys, _, .cons _ more, j + 1, v, h => by
    obtain ⟨t, e⟩ := texts_at more j v (by simpa using h)
    exact ⟨t, by rw [e] <;> rfl⟩
section
variable {P : Program} {w : World} {A : Around} {E : Value → Shared → Prop} {s : Shared}
/-- what stands behind set(x): the set of the texts at the new address -/
def Filled (P : Program) (w : World) (s : Shared) (ys : List Str) (s3 : Shared) : Prop :=
  ∃ h3 t3, s3 = { s with heap := h3, toks := t3 } ∧ TakeSet P w h3 s.heap.objs.size ys ys.length ∧ ∀ b o, b < s.heap.objs.size → s.heap.get? b = some o → h3.get? b = some o
theorem fill_end {s2 : Shared} {D : Addr} {led : Bool} {ob : Obj} {ys : List Str} (mv : Moved [D, (s.heap.push (set0 led)).objs.size] (fun a b => b = a) { s with heap := (s.heap.push (set0 led)).push ob } s2) (eD : D = s.heap.objs.size) (z : TakeSet P w s2.heap D ys ys.length) : Filled P w s ys s2 := by
  subst eD
  refine ⟨s2.heap, s2.toks, ?_, z, fun b o lt e => mv.heap b o ?_ (Heap.get?_push_of_some _ (Heap.get?_push_of_some _ e))⟩
  · obtain ⟨h, g, d, t, os⟩ := s2
    have e1 : g = s.gens := mv.gens
    have e2 : d = s.drawn := mv.drawn
    have e3 : os = s.os := mv.os
    rw [e1, e2, e3]
  · rw [Heap.size_push]
    intro q
    rcases List.mem_cons.mp q with q | q
    · exact Nat.ne_of_lt lt q
    · exact Nat.ne_of_lt (Nat.lt_succ_of_lt lt) (List.mem_singleton.mp q)
theorem fill_list {l : Addr} {us : List Value} {ys : List Str} (hh : A.handled = none) (hl : s.heap.IsList l us.toArray) (rv : Vals (ys.map V.str) us) (d : ys.Nodup) (few : ys.length + 1 < scanBound) (led : Bool) :
    wpAny (model P w) A.in1.in1 (Builtin.«set.__init__» ⟨[.ref s.heap.objs.size, .ref l], []⟩)
      (fun fin s2 => match fin with | .done f => wants (fun r s3 => r = .none ∧ Filled P w s ys s3) E (.ok f) s2 | .again c => c.quiet = true ∧ codeAny (model P w) A.in1 c (wants (fun r s3 => r = .none ∧ Filled P w s ys s3) E) s2)
      (fun e s2 => wants (fun r s3 => r = .none ∧ Filled P w s ys s3) E (.error e) s2) { s with heap := s.heap.push (set0 led) } := by
  have ll : l < s.heap.objs.size := by
    obtain ⟨o, e, _⟩ := id hl
    exact Heap.lt_size e
  obtain ⟨⟨oc, od, odt, osl⟩, oe, ec, on, ed⟩ := id hl
  simp only at ec ed
  subst ec ed
  have at0 : (s.heap.push (set0 led)).get? s.heap.objs.size = some (set0 led) := Heap.get?_push_size _ rfl
  have oe2 : (s.heap.push (set0 led)).get? l = some { cls := .type "list", dict := od, data := .seq us.toArray on, slots := osl } := Heap.get?_push_of_some _ oe
  have no1 := PySem.F.sub_list_set
  have no2 := PySem.F.sub_list_frozenset
  have no3 : (Value.type "list" == Value.type "dict") = false := by decide
  have hl2 : (s.heap.push (set0 led)).IsList l us.toArray := ⟨_, oe2, rfl, on, rfl⟩
  unfold Builtin.«set.__init__» noKeywords Builtin.Frozenset.updateFrom
  generalize ePI : pyIter = PI
  wp_walk
  subst ePI
  refine wpAny_pyIter_list hl2 (wpAny_bind (wpAny_runValue ?_))
  have hh3 : A.in1.in1.in1.handled = none := by simp [hh]
  have ne1 : l ≠ (s.heap.push (set0 led)).objs.size := by rw [Heap.size_push]; exact Nat.ne_of_lt (Nat.lt_succ_of_lt ll)
  have len : us.toArray.size = ys.length := by rw [List.size_toArray, ← rv.length, List.length_map]
  refine fillLoop ((Walks.list hh3 _ l ne1 us.toArray).toS) s.heap.objs.size ?far ys len.symm (by rw [len]; exact few) d (fun j v e => texts_at rv j v (by simpa using e)) us.toArray.size 0 _ rfl (Nat.zero_le _)
    ⟨⟨_, Heap.get?_push_size _ rfl, rfl, rfl⟩, hl2.push _⟩ ?beg fun s2 mv z => ?fin
  case far =>
    rw [Heap.size_push]
    intro q
    rcases List.mem_cons.mp q with q | q
    · exact Nat.ne_of_lt (Nat.lt_succ_self _) q
    · exact Nat.ne_of_gt ll (List.mem_singleton.mp q)
  case beg => exact SetOf_congr ((setObjOf_fresh (knd := strKind P w) led).setOf (Heap.get?_push_of_some _ at0) (by unfold scanBound; omega)) (fun _ => rfl) rfl
  case fin =>
    rw [len] at z
    exact wpAny_pure (wpAny_pure ⟨rfl, fill_end mv rfl z⟩)
theorem fill_tuple {l : Addr} {us : List Value} {ys : List Str} (hh : A.handled = none) (hl : s.heap.IsTuple l us.toArray) (rv : Vals (ys.map V.str) us) (d : ys.Nodup) (few : ys.length + 1 < scanBound) (led : Bool) :
    wpAny (model P w) A.in1.in1 (Builtin.«set.__init__» ⟨[.ref s.heap.objs.size, .ref l], []⟩)
      (fun fin s2 => match fin with | .done f => wants (fun r s3 => r = .none ∧ Filled P w s ys s3) E (.ok f) s2 | .again c => c.quiet = true ∧ codeAny (model P w) A.in1 c (wants (fun r s3 => r = .none ∧ Filled P w s ys s3) E) s2)
      (fun e s2 => wants (fun r s3 => r = .none ∧ Filled P w s ys s3) E (.error e) s2) { s with heap := s.heap.push (set0 led) } := by
  have ll : l < s.heap.objs.size := by
    obtain ⟨o, e, _⟩ := id hl
    exact Heap.lt_size e
  obtain ⟨⟨oc, od, odt, osl⟩, oe, ec, on, ed⟩ := id hl
  simp only at ec ed
  subst ec ed
  have at0 : (s.heap.push (set0 led)).get? s.heap.objs.size = some (set0 led) := Heap.get?_push_size _ rfl
  have oe2 : (s.heap.push (set0 led)).get? l = some { cls := .type "tuple", dict := od, data := .seq us.toArray on, slots := osl } := Heap.get?_push_of_some _ oe
  have no1 := PySem.F.sub_tuple_set
  have no2 := PySem.F.sub_tuple_frozenset
  have no3 : (Value.type "tuple" == Value.type "dict") = false := by decide
  have hl2 : (s.heap.push (set0 led)).IsTuple l us.toArray := ⟨_, oe2, rfl, on, rfl⟩
  unfold Builtin.«set.__init__» noKeywords Builtin.Frozenset.updateFrom
  generalize ePI : pyIter = PI
  wp_walk
  subst ePI
  refine wpAny_pyIter_tuple hl2 (wpAny_bind (wpAny_runValue ?_))
  have hh3 : A.in1.in1.in1.handled = none := by simp [hh]
  have ne1 : l ≠ (s.heap.push (set0 led)).objs.size := by rw [Heap.size_push]; exact Nat.ne_of_lt (Nat.lt_succ_of_lt ll)
  have len : us.toArray.size = ys.length := by rw [List.size_toArray, ← rv.length, List.length_map]
  refine fillLoop ((Walks.tuple hh3 _ l ne1 us.toArray).toS) s.heap.objs.size ?far ys len.symm (by rw [len]; exact few) d (fun j v e => texts_at rv j v (by simpa using e)) us.toArray.size 0 _ rfl (Nat.zero_le _)
    ⟨⟨_, Heap.get?_push_size _ rfl, rfl, rfl⟩, hl2.push _⟩ ?beg fun s2 mv z => ?fin
  case far =>
    rw [Heap.size_push]
    intro q
    rcases List.mem_cons.mp q with q | q
    · exact Nat.ne_of_lt (Nat.lt_succ_self _) q
    · exact Nat.ne_of_gt ll (List.mem_singleton.mp q)
  case beg => exact SetOf_congr ((setObjOf_fresh (knd := strKind P w) led).setOf (Heap.get?_push_of_some _ at0) (by unfold scanBound; omega)) (fun _ => rfl) rfl
  case fin =>
    rw [len] at z
    exact wpAny_pure (wpAny_pure ⟨rfl, fill_end mv rfl z⟩)
end
def tLenSetS (K : PySem.W.Frag) (ta : TE) : TE := fun σ H Q => ta σ H fun x H1 => ∃ (l : Addr) (xs : List Str), x = .ref l ∧ (SqL K H1 l (xs.map V.str) ∨ SqT K H1 l (xs.map V.str)) ∧ xs.Nodup ∧ xs.length ≤ 1000 ∧ Q (.int xs.length) H1
theorem pe_lenSetS {X : Cx} {K : PySem.W.Frag} (hK : X.K = K) {a : Expr} {ta : TE} {p p2 q pos : Pos} (hc : X.calm = true) (hg : Gl X "len") (hm : X.mg "len" = none) (hg2 : Gl X "set") (hm2 : X.mg "set" = none) (ha : PE X a ta)
    (na : starEach [a] X.env = (false, eval a X.env) :: starEach [] X.env := by rfl) : PE X (.Call (.Name "len" p) [.Call (.Name "set" p2) [a] [] q] [] pos) (tLenSetS K ta) := by
  subst hK
  refine ⟨fun pins s σ H Q I h => Call_ (ld_blt I hg hm boot_len (callWith_builtin1 (args_cons ?_ rfl) rfl rfl))⟩
  refine Call_ (ld_blt I hg2 hm2 boot_set (callWith_type1 (args_cons (thn (ha.run pins s σ H _ I h) fun v s1 ⟨x, H1, I1, r1, q1⟩ => args_nil ?_) na) na rfl))
  obtain ⟨l, xs, rfl, hq, nd, few, q1⟩ := q1
  cases r1
  have hcalm := I1.ok.hd hc
  have room : xs.length + 1 < scanBound := by unfold scanBound; omega
  have after : ∀ s3, Filled X.prog X.w s1 xs s3 → wpAny (model X.prog X.w) X.A (spliced (backTo pos (starEach [] X.env))) (fun vs s₂ => wpAny (model X.prog X.w) X.A (call (.builtin "len") (Value.ref s1.heap.objs.size :: vs)) (EP X pins σ Q) X.xe s₂) X.xe s3 := by
    intro s3 ⟨h3, t3, e3, z, kp⟩
    subst e3
    refine args_nil ?_
    obtain ⟨o, es, ep, t, ho, hex, hd, _, _, _, hf, hn⟩ := z
    have I2 : Inv X pins σ H1 { s1 with heap := h3, toks := t3 } := I1.kept fun b o e => kp b o (Heap.lt_size e) e
    exact call_len_set ho hex hd hf (by rw [hn] <;> omega) ⟨.int xs.length, H1, I2.tok _, ⟨_, by rw [hn]⟩, q1⟩
  rcases hq with hq | hq
  · obtain ⟨its, r, pl, hz⟩ := I1.list hq
    exact set_made (fill_list hcalm pl.isList r nd room) after
  · obtain ⟨its, r, pl, hz⟩ := I1.tuple hq
    exact set_made (fill_tuple hcalm pl r nd room) after
end Bh


set_option Elab.async false
set_option linter.all false
set_option maxRecDepth 100000
set_option maxHeartbeats 1000000
namespace Bh
open PySem PySem.Spec PyProof.Rows L2
section
variable {P : Program} {w : World} {K : PySem.W.Frag} {mg : Str → Option Value} {base : Heap}
theorem map_str_inj : ∀ {l m : List Str}, l.map PyData.str = m.map PyData.str → l = m
  | [], [], _ => rfl
  | [], _ :: _, e => by cases e
  | _ :: _, [], e => by cases e
  | a :: l, b :: m, e => by
    have e1 := List.cons.inj e
    have e2 : a = b := by
      have := e1.1
      injection this
    rw [e2, map_str_inj e1.2]
theorem dF_inj {f g : Fld} (e : dF f = dF g) : f = g := by
  unfold dF at e
  injection e with e
  have e1 := List.cons.inj e
  have e2 := List.cons.inj e1.2
  have h1 : f.1 = g.1 := by
    have := e1.1
    injection this
  have h2 : f.2 = g.2 := by
    have := e2.1
    injection this with h
    exact map_str_inj h
  exact Prod.ext h1 h2
/-- how many values the first fields have -/
def FsV (fs : List Fld) : Prop := ∀ i, (vals (fs.take i)).length ≤ 10000
def spValuesOf (K : PySem.W.Frag) : Sp := fun vs H Q _ => ∃ (v : V) (fs : List Fld), vs = [v] ∧ DpS K H v (fs.map dF) ∧ FsB fs ∧ FsV fs ∧ ∀ (p : Addr) (ys : List V) (H' : Hp), H p = none → Same H H' → H' p = some (.lst ys) → DpAll K H' ys ((vals fs).map dV) → Q (.ref p) H'
theorem ok_valuesof (T : Top K mg) : FnOk P w K mg base CX0 1 T.a_values_of T.fd_values_of ["fields"] (spValuesOf K) := by
  refine T.d_values_of.F.ok sc_values_of (fun vs H Q E h => ?_) (fun cdv A outer s H vs Q E hr h => ?_)
  · obtain ⟨v, fs, rfl, _⟩ := h
    rfl
  obtain ⟨v, fs, rfl, ⟨a, xs, rfl, hS, hD⟩, fb, fv, q⟩ := h
  refine ⟨_, (pss_cons (ps_set (i := 1) sc_values_of.nd rfl (Or.inl rfl) (pe_lst (pa_cons (pe_tup pa_nil) pa_nil)))
    (pss_cons (ps_for PassesOwn.never rfl (pi_seq_K (K := K) (by rfl) (pv 0)) (pg_tup_K (K := K) (by rfl) (n := 2) (by rfl) (pgs_cons (pg_name (i := 2) sc_values_of.nd rfl (Or.inl rfl)) (pgs_cons (pg_name (i := 3) sc_values_of.nd rfl (Or.inr rfl)) pgs_nil)))
      (pss_one (ps_setLc2 (i := 1) rfl sc_values_of.nd rfl rfl (sw_true rfl rfl rfl (by decide +kernel)) (pi_list_K (K := K) (by rfl) (pv 1)) (blkOk_by (own := [("value", 4), ("option", 5)]) (N := ["fields", "found", "_", "options", "value", "option"]) (sc := defScope s_values_of) (by decide +kernel)) (vs1 := [5]) (by decide) (fun _ _ _ _ _ => by exact (pg_name (i := 4) sc_values_of.nd rfl (Or.inl rfl))) (fun _ _ _ _ _ => by exact pts_nil) (fun _ _ _ _ _ => by exact (pi_tup_K (K := K) (by rfl) (pv 3))) (fun _ _ _ _ _ => by exact (pg_name (i := 5) sc_values_of.nd rfl (Or.inl rfl))) (fun _ _ _ _ _ => by exact pts_nil) (fun _ _ _ _ _ => by exact (pe_tup (pa_starK (K := K) (by rfl) (pv 4) (pa_cons (pv 5) pa_nil)))))))
    (pss_one (ps_ret (pv 1))))), ?_⟩
  have lx : xs.length = fs.length := by rw [DpAll.length hD, List.length_map]
  refine ⟨Nat.zero_le _, fun t0 n0 => ⟨(by show 1 ≤ sizeLine; decide), fun p0 m0 => ?_⟩⟩
  have s0 := (same_new (o := .tup []) n0).trans (same_new (o := .lst [.ref t0]) m0)
  have h0 : DpAll K (upd (upd H t0 (.tup [])) p0 (.lst [.ref t0])) [.ref t0] ((vals (fs.take 0)).map dV) := .cons (.tup (SqT.of ((same_new (o := .lst [.ref t0]) m0) _ _ upd_same)) .nil) .nil
  refine iSeqV rfl (seq_mono s0 hS) fun J G wk hG => for_it wk (fun i σ H' => ∃ p ys x2 x3, σ = [some (.ref a), some (.ref p), x2, x3, none, none] ∧ Same (upd (upd H t0 (.tup [])) p0 (.lst [.ref t0])) H' ∧ H p = none ∧ H' p = some (.lst ys) ∧ DpAll K H' ys ((vals (fs.take i)).map dV))
    ⟨p0, _, none, none, rfl, Same.refl _, (same_new n0).free m0, upd_same, h0⟩ (fun i σ H' _ ⟨_, _, _, _, _, s, _⟩ => hG H' s) ?_ ?_
  · rintro i y σ H' H'' hi ⟨p, ys, x2, x3, rfl, s1, np, hp, hys⟩ ⟨rfl, ey⟩
    obtain ⟨d, e1, e2⟩ := DpAll.get hD ey
    obtain ⟨f, hf, rfl⟩ := List.mem_map.mp (List.mem_of_getElem? e1)
    have ef : fs[i]? = some f := by
      rw [List.getElem?_map] at e1
      cases ef : fs[i]? with
      | none => rw [ef] at e1; cases e1
      | some g =>
        rw [ef] at e1
        have e3 : dF g = dF f := Option.some.inj e1
        have e4 : g = f := dF_inj e3
        rw [e4]
    obtain ⟨t, o, rfl, k1, k2⟩ := dp_dF (Dp.mono (s0.trans s1) e2)
    have ly : ys.length = (vals (fs.take i)).length := by rw [DpAll.length hys, List.length_map]
    have b1 := fv i
    have b2 := fv (i + 1)
    rw [vals_take ef] at b2
    refine ⟨t, _, rfl, k1, rfl, _, _, rfl, _, _, rfl, rfl, ?_⟩
    refine ⟨_, rfl, p, rfl, ⟨_, SqL.of hp⟩, fun D nD => ?_⟩
    refine walk_out walk_list (fun j H2 => Same H'' H2 ∧ ∃ acc, H2 D = some (.lst acc) ∧ DpAll K H2 acc ((ext1 ((vals (fs.take i)).take j) f).map dV)) ⟨same_new nD, [], upd_same, .nil⟩ (fun j H2 _ z => SqL.of (z.1 _ _ hp)) ?_ ?_
    · rintro j x H2 H3 hj ⟨s2, acc, hacc, dacc⟩ ⟨rfl, ex⟩
      obtain ⟨d, g1, g2⟩ := DpAll.get hys ex
      have ew : ∃ w0, (vals (fs.take i))[j]? = some w0 ∧ d = dV w0 := by
        rw [List.getElem?_map] at g1
        cases ew : (vals (fs.take i))[j]? with
        | none => rw [ew] at g1; cases g1
        | some w0 =>
          rw [ew] at g1
          exact ⟨w0, rfl, (Option.some.inj g1).symm⟩
      obtain ⟨w0, ew, rfl⟩ := ew
      obtain ⟨u, us, rfl, hu, hus⟩ := dp_tup g2
      obtain rfl := dp_strs hus
      have lu : (ext1 ((vals (fs.take i)).take j) f).length + f.2.length ≤ 10000 := by
        refine Nat.le_trans ?_ b2
        unfold ext1
        rw [flat_len, flat_len, List.length_take, ← Nat.succ_mul]
        have : j < (vals (fs.take i)).length := (List.getElem?_eq_some_iff.mp ew).1
        exact Nat.mul_le_mul_right _ (by omega)
      have lw : w0.length ≤ 1000 := by
        have z := (vals_ok (fs := fs.take i) w0 (List.mem_of_getElem? ew)).1
        rw [List.length_take] at z
        have := fb.len
        omega
      have la : acc.length = (ext1 ((vals (fs.take i)).take j) f).length := by rw [DpAll.length dacc, List.length_map]
      refine ⟨rfl, _, rfl, o, rfl, ⟨_, Same.tup s2 k2⟩, ?_⟩
      refine walk_out walk_tup (fun k H4 => Same H'' H4 ∧ ∃ acc4, H4 D = some (.lst acc4) ∧ DpAll K H4 acc4 ((ext1 ((vals (fs.take i)).take j) f ++ (f.2.take k).map fun o => w0 ++ [o]).map dV)) ⟨s2, acc, hacc, by rw [List.take_zero, List.map_nil, List.append_nil]; exact dacc⟩ (fun k H4 _ z => Same.tup z.1 k2) ?_ ?_
      · rintro k x H4 H5 hk ⟨s4, acc4, hacc4, dacc4⟩ ⟨rfl, ex2⟩
        rw [List.getElem?_map] at ex2
        cases eo : f.2[k]? with
        | none => rw [eo] at ex2; cases ex2
        | some o2 =>
          rw [eo] at ex2
          cases ex2
          have lk : k < f.2.length := (List.getElem?_eq_some_iff.mp eo).1
          have l4 : acc4.length ≤ 10000 := by
            rw [DpAll.length dacc4, List.length_map, List.length_append, List.length_map, List.length_take]
            omega
          refine ⟨rfl, _, rfl, u, _, rfl, .inl (Same.tup s4 hu), _, rfl, (by rw [List.length_append, List.length_map]; show _ + 1 ≤ sizeLine; exact le_line (by omega)), fun tq nq => ?_⟩
          have s5 : Same H5 (upd H5 tq (.tup (w0.map V.str ++ [.str o2]))) := same_new nq
          have im : Imm (upd H5 tq (.tup (w0.map V.str ++ [.str o2]))) (upd (upd H5 tq (.tup (w0.map V.str ++ [.str o2]))) D (.lst (acc4 ++ [.ref tq]))) := imm_upd (s5 _ _ hacc4)
          refine ⟨acc4, s5 _ _ hacc4, lt_line (by omega), same_mut (s4.trans s5) nD, _, upd_same, ?_⟩
          have eL : ((ext1 ((vals (fs.take i)).take j) f ++ (f.2.take (k + 1)).map fun o => w0 ++ [o]).map dV) = ((ext1 ((vals (fs.take i)).take j) f ++ (f.2.take k).map fun o => w0 ++ [o]).map dV) ++ [dV (w0 ++ [o2])] := by
            rw [List.take_add_one, eo]
            simp
          rw [eL]
          have ht : upd H5 tq (.tup (w0.map V.str ++ [.str o2])) tq = some (.tup ((w0 ++ [o2]).map V.str)) := by rw [upd_same, List.map_append]; rfl
          exact dpa_snoc (DpAll.imm im (noLs_map noL_dV _) (DpAll.mono s5 dacc4)) (Dp.imm im (noL_dV _) (.tup (SqT.of ht) (strs_dp _)))
      · rintro H4 ⟨s4, acc4, hacc4, dacc4⟩
        rw [List.length_map, List.take_length] at dacc4
        refine ⟨s4, acc4, hacc4, ?_⟩
        rw [List.take_add_one, ew]
        unfold ext1 at dacc4 ⊢
        rw [List.flatMap_append]
        simpa using dacc4
    · rintro H2 ⟨s2, acc, hacc, dacc⟩
      rw [ly, List.take_length] at dacc
      refine ⟨D, acc, _, _, rfl, s1.trans s2, (s0.trans s1).free nD, hacc, ?_⟩
      rw [vals_take ef]
      exact dacc
  · rintro σ H' ⟨p, ys, x2, x3, rfl, s1, np, hp, hys⟩
    rw [lx, List.take_length] at hys
    exact ⟨_, rfl, q _ _ _ np (s0.trans s1) hp hys⟩
/-- names of options -/
def IsOp (o : Str) : Prop := wordB o lettersD = true ∧ o.length ≤ 8
def spAreOpts (K : PySem.W.Frag) : Sp := fun vs H Q _ => ∃ (a : Addr) (os : List Str), vs = [.ref a] ∧ SqT K H a (os.map V.str) ∧ 2 ≤ os.length ∧ os.length ≤ 6 ∧ os.Nodup ∧ (∀ o ∈ os, IsOp o) ∧ ∀ H', Same H H' → Q (.bl true) H'
theorem ok_areopts (T : Top K mg) : FnOk P w K mg base CX0 3 T.a_are_options T.fd_are_options ["value"] (spAreOpts K) := by
  have G_is_tuple := ok_tup (P := P) (w := w) (base := base) T
  have G_is_option := ok_option (P := P) (w := w) (base := base) T
  refine T.d_are_options.F.ok sc_are_options (fun vs H Q E h => ?_) (fun cdv A outer s H vs Q E hr h => ?_)
  · obtain ⟨a, os, rfl, _⟩ := h
    rfl
  obtain ⟨a, os, rfl, hx, l1, l2, nd, hop, q⟩ := h
  refine ⟨_, (pss_cons (ps_if (pt_not (pt_val (pe_call G_is_tuple (hr.mono (by decide)) (by rfl) T.d_is_tuple.g T.d_is_tuple.kp T.d_is_tuple.b .nil pass0 (pa_cons (pv 0) (pa_cons (pe_gI rfl T.g_LEAST_OPTIONS) (pa_cons (pe_gI rfl T.g_MOST_OPTIONS) pa_nil)))))) (pss_one (ps_ret pe_bl)) pss_nil)
    (pss_one (ps_ret (pe_and (pe_callB (cr_all_K (K := K) (by rfl) rfl) (by rfl) T.b_all (by decide +kernel) (pa_cons (pe_lc (own := [("option", 1)]) rfl sc_are_options.nd (pi_tup_K (K := K) (by rfl) (pv 0)) (blkOk_by (own := [("option", 1)]) (N := ["value", "option"]) (sc := defScope s_are_options) (by decide +kernel)) (fun _ _ _ _ _ => by exact (pg_name (i := 1) sc_are_options.nd rfl (Or.inl rfl))) (fun _ _ _ _ _ => by exact pts_nil) (fun _ _ _ _ _ => by exact (pe_call G_is_option (hr.mono (by decide)) (by rfl) T.d_is_option.g T.d_is_option.kp T.d_is_option.b .nil pass0 (pa_cons (pv 1) pa_nil)))) pa_nil)) (pe_one (pe_cmpR op_eq (pe_lenSetS (K := K) (by rfl) rfl (by rfl) T.b_len (by rfl) T.b_set (pv 0)) (pe_callB (call_len_seq_K (K := K) (by rfl)) (by rfl) T.b_len PySem.boot_len (pa_cons (pv 0) pa_nil)) (nomark _))))))), ?_⟩
  have lo : (os.map V.str).length = os.length := List.length_map _
  refine ⟨_, rfl, a, _, 2, 6, rfl, hx, by omega, by omega, _, rfl, iteF ?_⟩
  refine ⟨_, rfl, a, rfl, ⟨_, hx⟩, fun D nD => ?_⟩
  refine lc_trues walk_tup nD (by omega) (fun H' s => Same.tup s hx) (fun i x H' R R' ex s1 k => ?_) (fun H1 s1 hD => ?_)
  · rw [List.getElem?_map] at ex
    cases eo : os[i]? with
    | none => rw [eo] at ex; cases ex
    | some o =>
      rw [eo] at ex
      cases ex
      have ho := hop o (List.mem_of_getElem? eo)
      refine ⟨rfl, _, rfl, o, rfl, Nat.le_trans ho.2 (by decide), fun H4 s4 => ?_⟩
      rw [ho.1]
      exact k H4 s4
  refine ⟨D, _, rfl, SqL.of hD, ?_⟩
  rw [bls_true]
  refine ⟨_, rfl, iteT ?_⟩
  refine ⟨_, rfl, a, os, rfl, .inr (Same.tup s1 hx), nd, by omega, _, rfl, a, _, rfl, .inr (Same.tup s1 hx), rfl, ?_⟩
  show Q (.bl (decide (V.int (os.length : Int) = V.int ((os.map V.str).length : Int)))) H1
  rw [lo, decide_eq_true rfl]
  exact q _ s1
theorem names_hd {H : Hp} {v : V} {fs : List Fld} (h : DpS K H v (fs.map dF)) : HdS K H v (fs.map (·.1)) := by
  have hns := HdS.of h (fun d hd => by
    obtain ⟨f, _, rfl⟩ := List.mem_map.mp hd
    exact named_dF f)
  rw [List.map_map] at hns
  exact hns
/-- a field that may stand behind these -/
structure OkFld (fs : List Fld) (f : Fld) : Prop where
  few : fs.length < 3
  no : f.1 ∉ fs.map (·.1)
  nm : IsNm f.1
  lo : 2 ≤ f.2.length
  hi : f.2.length ≤ 6
  nd : f.2.Nodup
  op : ∀ o ∈ f.2, IsOp o
  fb : FsB (fs ++ [f])
  fv : FsV (fs ++ [f])
  sz : (vals (fs ++ [f])).length ≤ 24
def spFieldFits (K : PySem.W.Frag) : Sp := fun vs H Q _ => ∃ (b t : V) (fs : List Fld) (f : Fld), vs = [b, t] ∧ DpS K H b (fs.map dF) ∧ Dp K H t (dF f) ∧ OkFld fs f ∧ ∀ H', Same H H' → Q (.bl true) H'
theorem ok_fieldfits (T : Top K mg) : FnOk P w K mg base CX0 4 T.a_field_fits T.fd_field_fits ["before", "field"] (spFieldFits K) := by
  have G_is_tuple := ok_tup (P := P) (w := w) (base := base) T
  have G_name_fits := ok_namefits (P := P) (w := w) (base := base) T
  have G_are_options := ok_areopts (P := P) (w := w) (base := base) T
  have G_values_of := ok_valuesof (P := P) (w := w) (base := base) T
  refine T.d_field_fits.F.ok sc_field_fits (fun vs H Q E h => ?_) (fun cdv A outer s H vs Q E hr h => ?_)
  · obtain ⟨b, t, fs, f, rfl, _⟩ := h
    rfl
  obtain ⟨b, t, fs, f, rfl, hb, ht, ok, q⟩ := h
  obtain ⟨a, o, rfl, h1, h2⟩ := dp_dF ht
  refine ⟨_, (pss_cons (ps_if (PW.pt (pw_or (pt_not (pt_val (pe_call G_is_tuple (hr.mono (by decide)) (by rfl) T.d_is_tuple.g T.d_is_tuple.kp T.d_is_tuple.b .nil pass0 (pa_cons (pv 1) (pa_cons pe_int (pa_cons pe_int pa_nil)))))) (pw_or (pt_not (pt_val (pe_call G_name_fits (hr.mono (by decide)) (by rfl) T.d_name_fits.g T.d_name_fits.kp T.d_name_fits.b .nil pass0 (pa_cons (pv 0) (pa_cons (pe_ix (ix_tup_K (K := K) (by rfl)) (pv 1) pe_int (fun _ _ => rfl)) (pa_cons (pe_gI rfl T.g_MOST_FIELDS) pa_nil)))))) (pw_or1 (pt_not (pt_val (pe_call G_are_options (hr.mono (by decide)) (by rfl) T.d_are_options.g T.d_are_options.kp T.d_are_options.b .nil pass0 (pa_cons (pe_ix (ix_tup_K (K := K) (by rfl)) (pv 1) pe_int (fun _ _ => rfl)) pa_nil)))))))) (pss_one (ps_ret pe_bl)) pss_nil)
    (pss_one (ps_ret (pe_cmpR op_le (pe_callB (call_len_seq_K (K := K) (by rfl)) (by rfl) T.b_len PySem.boot_len (pa_cons (pe_call G_values_of (hr.mono (by decide)) (by rfl) T.d_values_of.g T.d_values_of.kp T.d_values_of.b .nil pass0 (pa_cons (pe_lst (pa_starK (K := K) (by rfl) (pv 0) (pa_cons (pv 1) pa_nil))) pa_nil)) pa_nil)) (pe_gI rfl T.g_MOST_VALUES) (nomark _))))), ?_⟩
  have few := ok.few
  have lf : (fs.map (·.1)).length = fs.length := List.length_map _
  refine ⟨_, rfl, a, _, 2, 2, rfl, h1, (by show (2 : Int) ≤ 2; decide), (by show (2 : Int) ≤ 2; decide), _, rfl, iteF ?_⟩
  refine ⟨_, rfl, _, rfl, a, _, (0 : Int), .str f.1, rfl, rfl, h1, at_nn (by decide) rfl, b, fs.map (·.1), f.1, 3, rfl, names_hd hb, by omega, by omega, ok.nm, ok.no, fun H1 s1 => ⟨_, rfl, iteF ?_⟩⟩
  refine ⟨_, rfl, a, _, (1 : Int), .ref o, rfl, rfl, Same.tup s1 h1, at_nn (by decide) rfl, o, f.2, rfl, Same.tup s1 h2, ok.lo, ok.hi, ok.nd, ok.op, fun H2 s2 => ⟨_, rfl, iteF ?_⟩⟩
  have s12 := s1.trans s2
  obtain ⟨ab, bs, rfl, hS, hD⟩ := hb.mono s12
  have lb : bs.length = fs.length := by rw [DpAll.length hD, List.length_map]
  refine ⟨_, rfl, ab, bs, rfl, hS.symm, _, rfl, (by rw [List.length_append, lb]; show _ + 1 ≤ sizeLine; exact le_line (by omega)), fun p np => ?_⟩
  have s3 := same_new (o := .lst (bs ++ [.ref a])) np
  refine ⟨.ref p, fs ++ [f], rfl, ⟨p, _, rfl, .inl (SqL.of upd_same), ?_⟩, ok.fb, ok.fv, fun p2 ys H4 _ s4 hp2 hys => ?_⟩
  · rw [List.map_append]
    exact dpa_snoc (DpAll.mono s3 hD) (Dp.mono (s12.trans s3) ht)
  have ly : ys.length = (vals (fs ++ [f])).length := by rw [DpAll.length hys, List.length_map]
  refine ⟨p2, ys, rfl, .inl (SqL.of hp2), _, _, rfl, rfl, ?_⟩
  show Q (.bl (decide ((ys.length : Int) ≤ 24))) H4
  have sz := ok.sz
  rw [decide_eq_true (by omega)]
  exact q _ (s12.trans (s3.trans s4))
def spAreKeys (K : PySem.W.Frag) : Sp := fun vs H Q _ => ∃ (v t : V) (fs : List Fld) (ks : List (Str × Str)), vs = [v, t] ∧ DpS K H v (fs.map dF) ∧ FsB fs ∧ Dp K H t (.tuple (ks.map dKey)) ∧ OkKeys fs ks ∧ ∀ H', Same H H' → Q (.bl true) H'
theorem ok_arekeys (T : Top K mg) : FnOk P w K mg base CX0 3 T.a_are_keys T.fd_are_keys ["fields", "value"] (spAreKeys K) := by
  have G_is_tuple := ok_tup (P := P) (w := w) (base := base) T
  have G_is_key := ok_iskey (P := P) (w := w) (base := base) T
  have G_names_of := ok_namesof (P := P) (w := w) (base := base) T
  refine T.d_are_keys.F.ok sc_are_keys (fun vs H Q E h => ?_) (fun cdv A outer s H vs Q E hr h => ?_)
  · obtain ⟨v, t, fs, ks, rfl, _⟩ := h
    rfl
  obtain ⟨v, t, fs, ks, rfl, hv, fb, ht, ok, q⟩ := h
  obtain ⟨a, xs, rfl, h1, h2⟩ := dp_tup ht
  have lk : xs.length = ks.length := by rw [DpAll.length h2, List.length_map]
  have l1 := ok.hi
  have l2 := fb.len
  refine ⟨_, (pss_cons (ps_if (PW.pt (pw_or (pt_not (pt_val (pe_call G_is_tuple (hr.mono (by decide)) (by rfl) T.d_is_tuple.g T.d_is_tuple.kp T.d_is_tuple.b .nil pass0 (pa_cons (pv 1) (pa_cons pe_int (pa_cons (pe_callB (call_len_seq_K (K := K) (by rfl)) (by rfl) T.b_len PySem.boot_len (pa_cons (pv 0) pa_nil)) pa_nil)))))) (pw_or1 (pt_not (pt_val (pe_callB (cr_all_K (K := K) (by rfl) rfl) (by rfl) T.b_all (by decide +kernel) (pa_cons (pe_lc (own := [("key", 2)]) rfl sc_are_keys.nd (pi_tup_K (K := K) (by rfl) (pv 1)) (blkOk_by (own := [("key", 2)]) (N := ["fields", "value", "key"]) (sc := defScope s_are_keys) (by decide +kernel)) (fun _ _ _ _ _ => by exact (pg_name (i := 2) sc_are_keys.nd rfl (Or.inl rfl))) (fun _ _ _ _ _ => by exact pts_nil) (fun _ _ _ _ _ => by exact (pe_call G_is_key (hr.mono (by decide)) (by rfl) T.d_is_key.g T.d_is_key.kp T.d_is_key.b .nil pass0 (pa_cons (pv 0) (pa_cons (pv 2) pa_nil))))) pa_nil))))))) (pss_one (ps_ret pe_bl)) pss_nil)
    (pss_one (ps_ret (pe_cmpR op_eq (pe_lenSetS (K := K) (by rfl) rfl (by rfl) T.b_len (by rfl) T.b_set (pe_call G_names_of (hr.mono (by decide)) (by rfl) T.d_names_of.g T.d_names_of.kp T.d_names_of.b .nil pass0 (pa_cons (pv 1) pa_nil))) (pe_callB (call_len_seq_K (K := K) (by rfl)) (by rfl) T.b_len PySem.boot_len (pa_cons (pv 1) pa_nil)) (nomark _))))), ?_⟩
  obtain ⟨av, vs', rfl, hS, hD⟩ := id hv
  have lv : vs'.length = fs.length := by rw [DpAll.length hD, List.length_map]
  refine ⟨_, rfl, _, rfl, av, vs', rfl, hS, a, xs, 0, (vs'.length : Int), rfl, h1, by omega, by omega, _, rfl, iteF ?_⟩
  refine ⟨_, rfl, a, rfl, ⟨_, h1⟩, fun D nD => ?_⟩
  refine lc_trues walk_tup nD (by omega) (fun H' s => Same.tup s h1) (fun i x H' R R' ex s1 k => ?_) (fun H1 s1 hD1 => ?_)
  · obtain ⟨d, g1, g2⟩ := DpAll.get h2 ex
    obtain ⟨ky, hm, rfl⟩ := List.mem_map.mp (List.mem_of_getElem? g1)
    exact ⟨rfl, _, rfl, _, rfl, .ref av, x, fs, ky, rfl, hv.mono s1, fb, Dp.mono s1 g2, (ok.all ky hm).1, (ok.all ky hm).2, k⟩
  refine ⟨D, _, rfl, SqL.of hD1, ?_⟩
  rw [bls_true]
  refine ⟨_, rfl, iteF ?_⟩
  have hns : HdS K H1 (.ref a) (ks.map (·.1)) := by
    have z := HdS.of (DpS.ofT (Dp.mono s1 ht)) (fun d hd => by
      obtain ⟨f, _, rfl⟩ := List.mem_map.mp hd
      exact ⟨_, _, rfl⟩)
    rw [List.map_map] at z
    exact z
  have lk2 : (ks.map (·.1)).length = ks.length := List.length_map _
  refine ⟨_, rfl, .ref a, ks.map (·.1), rfl, hns, by omega, fun p H2 _ s2 hp2 => ?_⟩
  refine ⟨p, ks.map (·.1), rfl, .inl (SqL.of hp2), ok.nd, by omega, _, rfl, a, xs, rfl, .inr (Same.tup (s1.trans s2) h1), rfl, ?_⟩
  show Q (.bl (decide (V.int ((ks.map (·.1)).length : Int) = V.int (xs.length : Int)))) H2
  rw [lk2, lk, decide_eq_true rfl]
  exact q _ (s1.trans s2)
def spIsValue (K : PySem.W.Frag) : Sp := fun vs H Q _ => ∃ (v t : V) (fs : List Fld) (u : List Str), vs = [v, t] ∧ DpS K H v (fs.map dF) ∧ FsB fs ∧ Dp K H t (dV u) ∧ FitV fs u ∧ ∀ H', Same H H' → Q (.bl true) H'
theorem ok_isvalue (T : Top K mg) : FnOk P w K mg base CX0 2 T.a_is_value T.fd_is_value ["fields", "value"] (spIsValue K) := by
  have G_is_tuple := ok_tup (P := P) (w := w) (base := base) T
  refine T.d_is_value.F.ok sc_is_value (fun vs H Q E h => ?_) (fun cdv A outer s H vs Q E hr h => ?_)
  · obtain ⟨v, t, fs, ks, rfl, _⟩ := h
    rfl
  obtain ⟨v, t, fs, u, rfl, hv, fb, ht, ok, q⟩ := h
  obtain ⟨a, xs, rfl, h1, h2⟩ := dp_tup ht
  obtain rfl := dp_strs h2
  have lu : (u.map V.str).length = u.length := List.length_map _
  have l1 := ok.1
  have l2 := fb.len
  refine ⟨_, (pss_cons (ps_if (pt_not (pt_val (pe_call G_is_tuple (hr.mono (by decide)) (by rfl) T.d_is_tuple.g T.d_is_tuple.kp T.d_is_tuple.b .nil pass0 (pa_cons (pv 1) (pa_cons (pe_callB (call_len_seq_K (K := K) (by rfl)) (by rfl) T.b_len PySem.boot_len (pa_cons (pv 0) pa_nil)) (pa_cons (pe_callB (call_len_seq_K (K := K) (by rfl)) (by rfl) T.b_len PySem.boot_len (pa_cons (pv 0) pa_nil)) pa_nil)))))) (pss_one (ps_ret pe_bl)) pss_nil)
    (pss_one (ps_ret (pe_callB (cr_all_K (K := K) (by rfl) rfl) (by rfl) T.b_all (by decide +kernel) (pa_cons (pe_lc (own := [("option", 2), ("_", 3), ("options", 4)]) rfl sc_is_value.nd (pi_zipM (K := K) (by rfl) (by rfl) T.b_zip (pa_cons (pv 1) (pa_cons (pv 0) pa_nil))) (blkOk_by (own := [("option", 2), ("_", 3), ("options", 4)]) (N := ["fields", "value", "option", "_", "options"]) (sc := defScope s_is_value) (by decide +kernel)) (fun _ _ _ _ _ => by exact (pg_tup_K (K := K) (by rfl) (n := 2) (by rfl) (pgs_cons (pg_name (i := 2) sc_is_value.nd rfl (Or.inl rfl)) (pgs_cons (pg_tup_K (K := K) (by rfl) (n := 2) (by rfl) (pgs_cons (pg_name (i := 3) sc_is_value.nd rfl (Or.inl rfl)) (pgs_cons (pg_name (i := 4) sc_is_value.nd rfl (Or.inl rfl)) pgs_nil))) pgs_nil)))) (fun _ _ _ _ _ => by exact pts_nil) (fun _ _ _ _ _ => by exact (pe_cmpR (op_in_seq_K (K := K) (by rfl)) (pv 2) (pv 4) (by rfl)))) pa_nil))))), ?_⟩
  obtain ⟨av, vs', rfl, hS, hD⟩ := id hv
  have lv : vs'.length = fs.length := by rw [DpAll.length hD, List.length_map]
  refine ⟨_, rfl, _, rfl, av, vs', rfl, hS, _, rfl, av, vs', rfl, hS, a, _, (vs'.length : Int), (vs'.length : Int), rfl, h1, by omega, by omega, _, rfl, iteF ?_⟩
  refine ⟨_, rfl, _, rfl, a, av, _, vs', rfl, h1, hS, fun J wk D nD => ?_⟩
  have lm : min (u.map V.str).length vs'.length = fs.length := by omega
  rw [lm] at wk
  refine lc_truesP wk nD (by omega) (fun H' s => s) (fun i x y T0 H' R R' ex ey s1 nT k => ?_) (fun H1 s1 hD1 => ?_)
  · obtain ⟨d, g1, g2⟩ := DpAll.get hD ey
    rw [List.getElem?_map] at g1 ex
    cases ef : fs[i]? with
    | none => rw [ef] at g1; cases g1
    | some f =>
      rw [ef] at g1
      cases g1
      cases eo : u[i]? with
      | none => rw [eo] at ex; cases ex
      | some o =>
        rw [eo] at ex
        cases ex
        have s2 := s1.trans (same_new (o := .tup [.str o, y]) nT)
        obtain ⟨t2, o2, rfl, k1, k2⟩ := dp_dF (Dp.mono s2 g2)
        refine ⟨T0, _, rfl, SqT.of upd_same, rfl, _, _, rfl, _, _, rfl, t2, _, rfl, k1, rfl, _, _, rfl, _, _, rfl, rfl, rfl, rfl, ?_⟩
        refine ⟨_, rfl, _, rfl, o2, _, rfl, .inr k2, rfl, flat_strs _, ?_⟩
        show R (.bl (inV (.str o) (f.2.map V.str))) _
        rw [in_strs, decide_eq_true (ok.2 i f o ef eo)]
        exact k _ (Same.refl _)
  refine ⟨D, _, rfl, SqL.of hD1, ?_⟩
  rw [bls_true]
  exact q _ s1
def spIsHolding (K : PySem.W.Frag) : Sp := fun vs H Q _ => ∃ (v t : V) (fs : List Fld) (u : Option (List Str)), vs = [v, t] ∧ DpS K H v (fs.map dF) ∧ FsB fs ∧ Dp K H t (dH u) ∧ (∀ w, u = some w → FitV fs w) ∧ ∀ H', Same H H' → Q (.bl true) H'
theorem ok_isholding (T : Top K mg) : FnOk P w K mg base CX0 3 T.a_is_holding T.fd_is_holding ["fields", "value"] (spIsHolding K) := by
  have G_is_value := ok_isvalue (P := P) (w := w) (base := base) T
  refine T.d_is_holding.F.ok sc_is_holding (fun vs H Q E h => ?_) (fun cdv A outer s H vs Q E hr h => ?_)
  · obtain ⟨v, t, fs, ks, rfl, _⟩ := h
    rfl
  obtain ⟨v, t, fs, u, rfl, hv, fb, ht, ok, q⟩ := h
  refine ⟨_, (pss_one (ps_ret (L2.pe_or (pe_cmpR op_isN (pv 1) pe_non (nomark _)) (pe_one (pe_call G_is_value (hr.mono (by decide)) (by rfl) T.d_is_value.g T.d_is_value.kp T.d_is_value.b .nil pass0 (pa_cons (pv 0) (pa_cons (pv 1) pa_nil))))))), ?_⟩
  cases u with
  | none =>
    obtain rfl := dp_non ht
    exact ⟨_, rfl, rfl, _, rfl, iteY rfl (q _ (Same.refl _))⟩
  | some w0 =>
    obtain ⟨a, xs, rfl, h1, h2⟩ := dp_tup ht
    exact ⟨_, rfl, rfl, _, rfl, iteN (fun z => by cases z) ⟨_, rfl, _, rfl, v, .ref a, fs, w0, rfl, hv, fb, ht, ok w0 rfl, q⟩⟩
def spKindFits (K : PySem.W.Frag) : Sp := fun vs H Q _ => ∃ (v b t : V) (fs : List Fld) (ns : List Str) (k : Knd), vs = [v, b, t] ∧ DpS K H v (fs.map dF) ∧ FsB fs ∧ HdS K H b ns ∧ ns.length < 3 ∧ k.name ∉ ns ∧ Dp K H t (dKnd k) ∧ OkKnd fs k ∧ ∀ H', Same H H' → Q (.bl true) H'
theorem ok_kindfits (T : Top K mg) : FnOk P w K mg base CX0 5 T.a_kind_fits T.fd_kind_fits ["fields", "before", "kind"] (spKindFits K) := by
  have G_is_tuple := ok_tup (P := P) (w := w) (base := base) T
  have G_is_program := ok_isprog (P := P) (w := w) (base := base) T
  have G_name_fits := ok_namefits (P := P) (w := w) (base := base) T
  have G_are_keys := ok_arekeys (P := P) (w := w) (base := base) T
  have G_is_holding := ok_isholding (P := P) (w := w) (base := base) T
  refine T.d_kind_fits.F.ok sc_kind_fits (fun vs H Q E h => ?_) (fun cdv A outer s H vs Q E hr h => ?_)
  · obtain ⟨v, b, t, fs, ns, c, rfl, _⟩ := h
    rfl
  obtain ⟨v, b, t, fs, ns, k, rfl, hv, fb, hb, hl, hno, ht, ok, q⟩ := h
  obtain ⟨a, xs, rfl, h1, h2⟩ := dp_tup ht
  obtain ⟨x1, r1, rfl, e1, h2⟩ := dpa_cons h2
  obtain ⟨x2, r2, rfl, e2, h2⟩ := dpa_cons h2
  obtain ⟨x3, r3, rfl, e3, h2⟩ := dpa_cons h2
  obtain ⟨x4, r4, rfl, e4, h2⟩ := dpa_cons h2
  obtain rfl := dpa_nil h2
  rw [dp_str e1] at h1
  refine ⟨_, (pss_cons (ps_if (pt_not (pt_val (pe_call G_is_tuple (hr.mono (by decide)) (by rfl) T.d_is_tuple.g T.d_is_tuple.kp T.d_is_tuple.b .nil pass0 (pa_cons (pv 2) (pa_cons pe_int (pa_cons pe_int pa_nil)))))) (pss_one (ps_ret pe_bl)) pss_nil)
    (pss_cons (ps_asg (pv 2) (pg_tup_K (K := K) (by rfl) (n := 4) (by rfl) (pgs_cons (pg_name (i := 3) sc_kind_fits.nd rfl (Or.inl rfl)) (pgs_cons (pg_name (i := 4) sc_kind_fits.nd rfl (Or.inl rfl)) (pgs_cons (pg_name (i := 5) sc_kind_fits.nd rfl (Or.inl rfl)) (pgs_cons (pg_name (i := 6) sc_kind_fits.nd rfl (Or.inl rfl)) pgs_nil))))))
    (pss_cons (ps_if (PW.pt (pw_or (pt_not (pt_val (pe_call G_name_fits (hr.mono (by decide)) (by rfl) T.d_name_fits.g T.d_name_fits.kp T.d_name_fits.b .nil pass0 (pa_cons (pv 1) (pa_cons (pv 3) (pa_cons (pe_gI rfl T.g_MOST_KINDS) pa_nil)))))) (pw_or1 (pt_not (pt_val (pe_call G_are_keys (hr.mono (by decide)) (by rfl) T.d_are_keys.g T.d_are_keys.kp T.d_are_keys.b .nil pass0 (pa_cons (pv 0) (pa_cons (pv 4) pa_nil)))))))) (pss_one (ps_ret pe_bl)) pss_nil)
    (pss_one (ps_ret (pe_and (L2.pe_or (pe_cmpR op_isN (pv 5) pe_non (nomark _)) (pe_one (pe_call G_is_program (hr.mono (by decide)) (by rfl) T.d_is_program.g T.d_is_program.kp T.d_is_program.b .nil pass0 (pa_cons (pv 0) (pa_cons (pv 5) pa_nil))))) (pe_one (pe_call G_is_holding (hr.mono (by decide)) (by rfl) T.d_is_holding.g T.d_is_holding.kp T.d_is_holding.b .nil pass0 (pa_cons (pv 0) (pa_cons (pv 6) pa_nil)))))))))), ?_⟩
  refine ⟨_, rfl, a, _, 4, 4, rfl, h1, (by show (4 : Int) ≤ 4; decide), (by show (4 : Int) ≤ 4; decide), _, rfl, iteF ?_⟩
  refine ⟨_, rfl, a, _, rfl, h1, rfl, _, _, rfl, _, _, rfl, _, _, rfl, _, _, rfl, rfl, ?_⟩
  refine ⟨_, rfl, _, rfl, b, ns, k.name, 3, rfl, hb, by omega, by omega, ok.nm, hno, fun H1 s1 => ⟨_, rfl, iteF ?_⟩⟩
  refine ⟨_, rfl, _, rfl, v, x2, fs, k.keys, rfl, hv.mono s1, fb, Dp.mono s1 e2, ok.ks, fun H2 s2 => ⟨_, rfl, iteF ?_⟩⟩
  have s12 := s1.trans s2
  have fin : ∀ H3, Same H2 H3 → tCall (spIsHolding K) [] E0 (tCons (tVar 0) (tCons (tVar 6) tNil)) [some v, some b, some (.ref a), some (.str k.name), some x2, some x3, some x4] H3 Q := fun H3 s3 =>
    ⟨_, rfl, _, rfl, v, x4, fs, k.birth, rfl, hv.mono (s12.trans s3), fb, Dp.mono (s12.trans s3) e4, ok.bt, fun H4 s4 => q _ (s12.trans (s3.trans s4))⟩
  cases hk : k.taking with
  | none =>
    rw [hk] at e3
    obtain rfl := dp_non e3
    exact ⟨_, rfl, rfl, _, rfl, iteY rfl ⟨_, rfl, iteT (fin _ (Same.refl _))⟩⟩
  | some p =>
    rw [hk] at e3
    obtain ⟨tp, us, rfl, g1, g2⟩ := dp_tup e3
    exact ⟨_, rfl, rfl, _, rfl, iteN (fun z => by cases z) ⟨_, rfl, _, rfl, v, _, fs, p, rfl, hv.mono s12, fb, Dp.mono s12 e3, ok.tk p hk, fun H3 s3 => ⟨_, rfl, iteT (fin _ s3)⟩⟩⟩
end
end Bh

set_option Elab.async false
set_option linter.all false
set_option maxRecDepth 100000
set_option maxHeartbeats 1000000
namespace Bh
open PySem PySem.Spec PyProof.Rows L2 LamX NdefX
section
variable {P : Program} {w : World} {K : PySem.W.Frag} {mg : Str → Option Value} {base : Heap}
/-- a call of the function value fv that the callee holds in its second slot -/
def tFit (fv : V) (I0 : Hp → Prop) (tl : List V → Hp → VK → Prop) (t : TA) : TE := fun σ H Q => σ[1]? = some (some fv) ∧ I0 H ∧ t σ H fun vs H1 => tl vs H1 Q
theorem isi_lt {H : Hp} {p a : Addr} {xs : List V} (hx : SqL K H a xs ∨ SqT K H a xs) (np : H p = none) {Q' : VK} (q : Q' (.bl true) (upd H p (.tup [.ty "list", .ty "tuple"]))) : rIsiT K [.ref a, .ref p] (upd H p (.tup [.ty "list", .ty "tuple"])) Q' := by
  rcases hx with hx | hx
  · exact ⟨_, p, _, _, _, true, rfl, upd_same, .cons (.ty _) (.cons (.ty _) .nil), tyL ((same_new np).seq hx), kitAny_cons (kit_ty (b := "list") (r := true) (by decide +kernel)) (fun z => nomatch z) (fun _ => rfl), q⟩
  · exact ⟨_, p, _, _, _, true, rfl, upd_same, .cons (.ty _) (.cons (.ty _) .nil), tyT (Same.tup (same_new np) hx), kitAny_cons (kit_ty (b := "list") (r := false) (by decide +kernel)) (fun _ => kitAny_cons (kit_ty (r := true) (by decide +kernel)) (fun z => nomatch z) (fun _ => rfl)) (fun z => nomatch z), q⟩
theorem fw_go {CXg : CXT} {E : XK} {cdv : Value} {A : Around} {outer : List Env} {s : Shared} {H : Hp} {Q : VK} (T : Top K mg) {fv : V} {I0 : Hp → Prop} {tl : List V → Hp → VK → Prop}
    (act : ∀ (e : Expr) (es : List Expr) (t : TA) (p1 p2 : Pos), PA (cxOf CXg P w K mg base ["items", "fits", "position", "item"] "_first_wrong" (defScope s_first_wrong) T.a_first_wrong cdv A outer s H E).nox (e :: es) t →
      starEach (e :: es) (cxOf CXg P w K mg base ["items", "fits", "position", "item"] "_first_wrong" (defScope s_first_wrong) T.a_first_wrong cdv A outer s H E).nox.env = (false, eval e (cxOf CXg P w K mg base ["items", "fits", "position", "item"] "_first_wrong" (defScope s_first_wrong) T.a_first_wrong cdv A outer s H E).nox.env) :: starEach es (cxOf CXg P w K mg base ["items", "fits", "position", "item"] "_first_wrong" (defScope s_first_wrong) T.a_first_wrong cdv A outer s H E).nox.env →
      (backTo p2 (starEach es (cxOf CXg P w K mg base ["items", "fits", "position", "item"] "_first_wrong" (defScope s_first_wrong) T.a_first_wrong cdv A outer s H E).nox.env)).any (·.1) = false →
      PE (cxOf CXg P w K mg base ["items", "fits", "position", "item"] "_first_wrong" (defScope s_first_wrong) T.a_first_wrong cdv A outer s H E).nox (.Call (.Name "fits" p1) (e :: es) [] p2) (tFit fv I0 tl t))
    (hI : ∀ H1 H2, Same H1 H2 → I0 H1 → I0 H2) (h0 : I0 H) {a : Addr} {xs : List V} (hx : SqL K H a xs ∨ SqT K H a xs) (ne : 1 ≤ xs.length) (hl : xs.length ≤ 1000)
    (hs : ∀ (i : Nat) (x : V) (b : Addr) (H' : Hp) (R : VK), xs[i]? = some x → Same H H' → (SqL K H' b (xs.take i) ∨ SqT K H' b (xs.take i)) → (∀ H2, Same H' H2 → R (.bl true) H2) → tl [.ref b, x] H' R)
    (q : ∀ H', Same H H' → Q .non H') :
    ∃ t, PSs (cxOf CXg P w K mg base ["items", "fits", "position", "item"] "_first_wrong" (defScope s_first_wrong) T.a_first_wrong cdv A outer s H E).nox (defBody s_first_wrong) t ∧ t { nx := fun _ H' => Q .non H', rt := Q } (L2.start ["items", "fits", "position", "item"] [.ref a, fv]) H := by
  refine ⟨_, (pss_cons (ps_if (PW.pt (pw_or (pt_not (pt_val (pe_callB (call_isiT_K (K := K) (by rfl)) (by rfl) T.b_isinstance (by decide +kernel) (pa_cons (pv 0) (pa_cons (pe_tup (pa_cons (pe_tyN "list" (by rfl) T.b_list (by decide +kernel)) (pa_cons (pe_tyN "tuple" (by rfl) T.b_tuple (by decide +kernel)) pa_nil))) pa_nil))))) (pw_or1 (pt_cmpR op_eq (pe_callB (call_len_seq_K (K := K) (by rfl)) (by rfl) T.b_len PySem.boot_len (pa_cons (pv 0) pa_nil)) pe_int (nomark _))))) (pss_one (ps_ret pe_int)) pss_nil)
    (pss_cons (ps_for PassesOwn.never rfl (pi_enumS (K := K) (by rfl) (by rfl) T.b_enumerate (pa_cons (pv 0) pa_nil)) (pg_tup_K (K := K) (by rfl) (n := 2) (by rfl) (pgs_cons (pg_name (i := 2) sc_first_wrong.nd rfl (Or.inl rfl)) (pgs_cons (pg_name (i := 3) sc_first_wrong.nd rfl (Or.inl rfl)) pgs_nil)))
      (pss_one (ps_if (pt_not (pt_val (act _ _ _ _ _ (pa_cons (pe_slice (SlR.or (sl_list_K (K := K) (by rfl)) (sl_tupA_K (K := K) (by rfl))) (pv 0) po_none (po_some (pv 2))) (pa_cons (pv 3) pa_nil)) (by rfl) (by rfl)))) (pss_one (ps_ret (pv 2))) pss_nil)))
    (pss_one (ps_ret pe_non)))), ?_⟩
  refine ⟨_, rfl, (by show 2 ≤ sizeLine; decide), fun p np => ?_⟩
  dsimp only [tNil]
  refine isi_lt hx np ?_
  have s0 := same_new (o := .tup [.ty "list", .ty "tuple"]) np
  have hx0 := seq_mono s0 hx
  refine ⟨_, rfl, iteF ?_⟩
  refine ⟨_, rfl, a, xs, rfl, hx0, rfl, _, rfl, iteN (fun z => by
    have z1 : ((xs.length : Nat) : Int) = 0 := by injection z
    omega) ?_⟩
  refine ⟨_, rfl, a, xs, rfl, hx0, fun J wk => for_it wk (fun i σ H' => ∃ x2 x3, σ = [some (.ref a), some fv, x2, x3] ∧ Same (upd H p (.tup [.ty "list", .ty "tuple"])) H') ⟨none, none, rfl, Same.refl _⟩ (fun i σ H' _ ⟨_, _, _, e⟩ => e) ?_ ?_⟩
  · rintro i y σ H' H'' hi ⟨x2, x3, rfl, s1⟩ ⟨T0, xi, yi, rfl, nT, rfl, ei, ey⟩
    cases ei
    have s2 := s1.trans (same_new (o := .tup [.int (i : Nat), yi]) nT)
    refine ⟨T0, _, rfl, SqT.of upd_same, rfl, _, _, rfl, _, _, rfl, rfl, ?_⟩
    have hx2 := seq_mono s2 hx0
    refine ⟨rfl, hI _ _ (s0.trans s2) h0, ?_⟩
    have key : ∀ (b : Addr) (H3 : Hp), Same (upd H' T0 (.tup [.int (i : Nat), yi])) H3 → (SqL K H3 b (xs.take i) ∨ SqT K H3 b (xs.take i)) → ∀ R : VK, (∀ H2, Same H3 H2 → R (.bl true) H2) → tl [.ref b, yi] H3 R := fun b H3 s3 hb R k => hs i yi b H3 R ey (s0.trans (s2.trans s3)) hb k
    have fin : ∀ (b : Addr) (o : HO), upd H' T0 (.tup [.int (i : Nat), yi]) b = none → ∀ H4, Same (upd (upd H' T0 (.tup [.int (i : Nat), yi])) b o) H4 → Same (upd H p (.tup [.ty "list", .ty "tuple"])) H4 := fun b o nb H4 s4 => s2.trans ((same_new nb).trans s4)
    refine ⟨_, rfl, _, rfl, (i : Int), rfl, ?_⟩
    rcases hx2 with hL | hT
    · refine .inl ⟨a, xs, rfl, hL, fun b nb => ⟨_, rfl, key b _ (same_new nb) (.inl (SqL.of ?_)) _ fun H4 s4 => ⟨_, rfl, iteF ⟨_, _, rfl, fin b _ nb _ s4⟩⟩⟩⟩
      rw [upd_same, cutV_take xs (by omega)]
      rfl
    · refine .inr ⟨a, xs, rfl, hT, fun ⟨_, z⟩ => ?_, fun _ b nb => ⟨_, rfl, key b _ (same_new nb) (.inr (SqT.of ?_)) _ fun H4 s4 => ⟨_, rfl, iteF ⟨_, _, rfl, fin b _ nb _ s4⟩⟩⟩⟩
      · rw [show HT.sIx xs.length xs.length (some (i : Int)) = min i xs.length from HT.sIx_nat _ _ i] at z
        omega
      · rw [upd_same, cutV_take xs (by omega)]
        rfl
  · rintro σ H' ⟨x2, x3, rfl, s1⟩
    exact q _ (s0.trans s1)
theorem pe_imp {X : Cx} {e : Expr} {t t' : TE} (h : PE X e t) (w : ∀ σ H Q, t' σ H Q → t σ H Q) : PE X e t' := ⟨fun pins s σ H Q I z => h.run pins s σ H Q I (w _ _ _ z)⟩
/-- what _first_wrong makes of a function that says True of each item behind those ahead of it -/
def TTfw (K : PySem.W.Frag) (tl : List V → Hp → VK → Prop) (v1 : V) (H : Hp) (Q : VK) : Prop := ∃ a xs, v1 = .ref a ∧ (SqL K H a xs ∨ SqT K H a xs) ∧ 1 ≤ xs.length ∧ xs.length ≤ 1000 ∧
  (∀ (i : Nat) (x : V) (b : Addr) (H' : Hp) (R : VK), xs[i]? = some x → Same H H' → (SqL K H' b (xs.take i) ∨ SqT K H' b (xs.take i)) → (∀ H2, Same H' H2 → R (.bl true) H2) → tl [.ref b, x] H' R) ∧
  ∀ H', Same H H' → Q .non H'
theorem fw_gives {X : Cx} (T : Top X.K X.mg) (cdg : Value) (q : Str) : GivesTo2 X ["items", "fits", "position", "item"] "_first_wrong" (defScope s_first_wrong) T.a_first_wrong cdg (defBody s_first_wrong) "fits" q 2 (TTfw X.K) := by
  intro f c' s H Q v1 N ws tb act hc h
  obtain ⟨a, xs, rfl, hx, ne, hl, hs, hq⟩ := h
  exact fw_go T (fv := .ref f) (I0 := fun H => H c' = some (CodeO c' q)) (tl := fun vs H1 Q => H1 c' = some (CodeO c' q) ∧ vs.length = 2 ∧ tb (startF N vs ws) H1 Q) act (fun H1 H2 s h => s _ _ h) hc hx ne hl
    (fun i x b H' R ex s1 hb k => ⟨s1 _ _ hc, rfl, hs i x b H' R ex s1 hb k⟩) hq
def spFw1 (K : PySem.W.Frag) (fv : Addr) : Sp := fun vs H Q _ => ∃ (a : Addr) (xs : List V) (fs : List Fld), vs = [.ref a, .ref fv] ∧ (SqL K H a xs ∨ SqT K H a xs) ∧ DpAll K H xs (fs.map dF) ∧ 1 ≤ fs.length ∧ fs.length ≤ 1000 ∧ (∀ (i : Nat) (f : Fld), fs[i]? = some f → OkFld (fs.take i) f) ∧ ∀ H', Same H H' → Q .non H'
theorem ok_fw1 (T : Top K mg) : FnOk P w K mg base CX0 5 T.a_first_wrong T.fd_first_wrong ["items", "fits"] (spFw1 K T.a_field_fits) := by
  have G_field_fits := ok_fieldfits (P := P) (w := w) (base := base) T
  refine T.d_first_wrong.F.ok sc_first_wrong (fun vs H Q E h => ?_) (fun cdv A outer s H vs Q E hr h => ?_)
  · obtain ⟨a, xs, fs, rfl, _⟩ := h
    rfl
  obtain ⟨a, xs, fs, rfl, hx, hD, l1, l2, ok, q⟩ := h
  have lx : xs.length = fs.length := by rw [DpAll.length hD, List.length_map]
  refine fw_go T (fv := .ref T.a_field_fits) (I0 := fun _ => True) (tl := fun vs H1 Q => spFieldFits K (vs ++ []) H1 Q E0)
    (fun e es t p1 p2 ha he hp => pe_imp (pe_callL (i := 1) (dvs := []) (E := E0) G_field_fits (hr.mono (by decide)) (by rfl) (.inl (by rfl)) T.d_field_fits.kp T.d_field_fits.b .nil pass0 ha (he := he) (hpl := hp)) (fun σ H Q z => ⟨z.1, z.2.2⟩)) (fun _ _ _ _ => trivial) trivial hx (by omega) (by omega) (fun i x b H' R ex s1 hb k => ?_) q
  obtain ⟨d, g1, g2⟩ := DpAll.get hD ex
  rw [List.getElem?_map] at g1
  cases ef : fs[i]? with
  | none => rw [ef] at g1; cases g1
  | some f =>
    rw [ef] at g1
    cases g1
    refine ⟨.ref b, x, fs.take i, f, rfl, ⟨b, _, rfl, hb, ?_⟩, Dp.mono s1 g2, ok i f ef, k⟩
    rw [List.map_take]
    exact DpAll.take i (DpAll.mono s1 hD)
end
end Bh

set_option Elab.async false
set_option linter.all false
set_option maxRecDepth 100000
set_option maxHeartbeats 1000000
namespace Bh
open PySem PySem.Spec PyProof.Rows L2 LamX NdefX
/-- what is known, but tables of code objects and the object x -/
def noT (x : Addr) (H : Hp) : Hp := fun a => if a = x then none else match H a with
  | some (.tbl _) => none
  | o => o
theorem noT_le {x : Addr} {H : Hp} : Same (noT x H) H := fun a o e => by
  unfold noT at e
  split at e
  · cases e
  · split at e
    · cases e
    · exact e
theorem noT_at {x : Addr} {H : Hp} {a : Addr} {o : HO} (e : H a = some o) (n : ∀ ps, o ≠ .tbl ps) (m : a ≠ x) : noT x H a = some o := by
  unfold noT
  rw [if_neg m, e]
  cases o with
  | tbl ps => exact absurd rfl (n ps)
  | _ => rfl
theorem noT_x {x : Addr} {H : Hp} : noT x H x = none := if_pos rfl
theorem noT_tbl {x : Addr} {H : Hp} {a : Addr} {ps : Array Value} (e : H a = some (.tbl ps)) : noT x H a = none := by
  unfold noT
  split
  · rfl
  · rw [e]
/-- x is an instance -/
def InsX (H : Hp) (x : Addr) : Prop := ∃ C dx fs, H x = some (.ins C dx fs)
theorem noT_lst {x : Addr} {H : Hp} (hx : InsX H x) {a : Addr} {o : HO} (e : H a = some o) (n : ∀ ps, o ≠ .tbl ps) (m : ∀ C dx fs, o ≠ .ins C dx fs) : noT x H a = some o :=
  noT_at e n fun z => by
    obtain ⟨C, dx, fs, h⟩ := hx
    rw [z, h] at e
    cases e
    exact m _ _ _ rfl
theorem ExtN.same {x : Addr} {H H' : Hp} (e : ExtN H H') : Same (noT x H) H' := fun a o h => e a o (noT_le a o h) fun ps z => by
  rw [noT_tbl (by rw [noT_le a o h, z])] at h
  cases h
/-- an instance changes -/
theorem Same.ins {D H : Hp} {a : Addr} {o : HO} (s : Same D H) (n : D a = none) : Same D (upd H a o) := fun b u e => by
  rw [upd_ne (ne_of_none e n)]
  exact s _ _ e
theorem SqL.nT {K : PySem.W.Frag} {H : Hp} {x a : Addr} {xs : List V} (hx : InsX H x) (h : SqL K H a xs) : SqL K (noT x H) a xs :=
  h.imp (fun h => h.imp (fun h => noT_lst hx h (fun _ z => nomatch z) fun _ _ _ z => nomatch z) fun ⟨o, h⟩ => ⟨o, noT_lst hx h (fun _ z => nomatch z) fun _ _ _ z => nomatch z⟩) id
theorem SqT.nT {K : PySem.W.Frag} {H : Hp} {x a : Addr} {xs : List V} (hx : InsX H x) (h : SqT K H a xs) : SqT K (noT x H) a xs :=
  h.imp (fun h => h.imp (fun h => noT_lst hx h (fun _ z => nomatch z) fun _ _ _ z => nomatch z) fun ⟨o, h⟩ => ⟨o, noT_lst hx h (fun _ z => nomatch z) fun _ _ _ z => nomatch z⟩) id
mutual
theorem Dp.nT {K : PySem.W.Frag} {H : Hp} {x : Addr} (hx : InsX H x) : ∀ {v : V} {d : PyData}, Dp K H v d → Dp K (noT x H) v d
  | _, _, .non => .non
  | _, _, .bl b => .bl b
  | _, _, .int i => .int i
  | _, _, .str x => .str x
  | _, _, .lst h all => .lst (SqL.nT hx h) (DpAll.nT hx all)
  | _, _, .tup h all => .tup (SqT.nT hx h) (DpAll.nT hx all)
theorem DpAll.nT {K : PySem.W.Frag} {H : Hp} {x : Addr} (hx : InsX H x) : ∀ {vs : List V} {ds : List PyData}, DpAll K H vs ds → DpAll K (noT x H) vs ds
  | _, _, .nil => .nil
  | _, _, .cons h t => .cons (Dp.nT hx h) (DpAll.nT hx t)
end
theorem DpS.nT {K : PySem.W.Frag} {H : Hp} {x : Addr} (hx : InsX H x) {v : V} {ds : List PyData} (h : DpS K H v ds) : DpS K (noT x H) v ds := by
  obtain ⟨a, xs, e, h1, h2⟩ := h
  exact ⟨a, xs, e, h1.imp (SqL.nT hx) (SqT.nT hx), DpAll.nT hx h2⟩
/-- a rulebook's parts -/
structure OkBook (fs : List Fld) (ts : List Tie) (ks : List Knd) : Prop where
  f1 : 1 ≤ fs.length
  f2 : fs.length ≤ 3
  fok : ∀ (i : Nat) (f : Fld), fs[i]? = some f → OkFld (fs.take i) f
  fb : FsB fs
  fv : FsV fs
  t1 : 1 ≤ ts.length
  t2 : ts.length ≤ 4
  tnd : (ts.map (·.1)).Nodup
  tok : ∀ t ∈ ts, IsNm t.1 ∧ OkPrg fs t.2
  k1 : 1 ≤ ks.length
  k2 : ks.length ≤ 3
  knd : (ks.map (·.name)).Nodup
  kok : ∀ k ∈ ks, OkKnd fs k
theorem TabS.ins {H : Hp} {P x C C2 dx dx2 : Addr} {fs fs2 : List (Str × V)} {q : Str} (t : TabS H P q) (hx : H x = some (.ins C2 dx2 fs2)) : TabS (upd H x (.ins C dx fs)) P q := by
  obtain ⟨ps, h1, h2, h3⟩ := t
  refine ⟨ps, ?_, h2, fun pos cv hc => ?_⟩
  · rw [upd_ne (fun z => by rw [z, hx] at h1; cases h1)]
    exact h1
  · obtain ⟨c, e1, e2⟩ := h3 pos cv hc
    refine ⟨c, e1, ?_⟩
    rw [upd_ne (fun z => by rw [z, hx] at e2; unfold CodeO at e2; cases e2)]
    exact e2
theorem tabs_ins {TL : List (Addr × Str)} {H : Hp} {x C C2 dx dx2 : Addr} {fs fs2 : List (Str × V)} (t : Tabs TL H) (hx : H x = some (.ins C2 dx2 fs2)) : Tabs TL (upd H x (.ins C dx fs)) := fun p hp => TabS.ins (t p hp) hx
theorem nd_take {l : List Str} {i : Nat} {x : Str} (nd : l.Nodup) (h : l[i]? = some x) : x ∉ l.take i := fun m => by
  obtain ⟨j, hj⟩ := List.getElem?_of_mem m
  have lj : j < i := by
    have := (List.getElem?_eq_some_iff.mp hj).1
    rw [List.length_take] at this
    omega
  rw [List.getElem?_take_of_lt lj] at hj
  have e := (List.getElem?_inj (List.getElem?_eq_some_iff.mp hj).1 nd).mp (hj.trans h.symm)
  omega
theorem nd_takeM {α : Type} {f : α → Str} {l : List α} {i : Nat} {x : α} (nd : (l.map f).Nodup) (h : l[i]? = some x) : f x ∉ (l.take i).map f := by
  rw [List.map_take]
  exact nd_take nd (by rw [List.getElem?_map, h]; rfl)
section
variable {P : Program} {w : World} {K : PySem.W.Frag} {mg : Str → Option Value} {base : Heap}
def rbF (a1 a2 a3 : Addr) : List (Str × V) := [("_fields", .ref a1), ("_ties", .ref a2), ("_kinds", .ref a3)]
/-- the class Rulebook -/
structure RbC (K : PySem.W.Frag) (mg : Str → Option Value) : Type where
  C : Addr
  g : mg "Rulebook" = some (.ref C)
  cl : Cls K C
  n1 : NoAttr K C "_fields"
  n2 : NoAttr K C "_ties"
  n3 : NoAttr K C "_kinds"
  ha : PySem.W.findIn K (.ref C) "__class__" = some (some (.builtin "object.__class__"))
  hn : PySem.W.specialIn K (.builtin "object.__class__") "__get__" = some (some (.builtin "getset_descriptor.__get__"))
  ht : PySem.W.takesIn K (.builtin "object.__class__") = some true
  hm : PySem.W.mroIn K C (.type "object") = some true
  k1 : PySem.W.kitOne K (.ref C) (.ref C) = some true
  k2 : PySem.W.kitOne K (.type "tuple") (.ref C) = some false
abbrev rbQ : Str := "Rulebook.__init__.<locals>.<lambda>"
/-- a list or tuple of these items, that are this data -/
def DpX (K : PySem.W.Frag) (H : Hp) (v : V) (xs : List V) (ds : List PyData) : Prop := ∃ a : Addr, v = .ref a ∧ (SqL K H a xs ∨ SqT K H a xs) ∧ DpAll K H xs ds
theorem DpX.mono {H H' : Hp} {v : V} {xs : List V} {ds : List PyData} (s : Same H H') (h : DpX K H v xs ds) : DpX K H' v xs ds := by
  obtain ⟨a, e, h1, h2⟩ := h
  exact ⟨a, e, seq_mono s h1, DpAll.mono s h2⟩
def spInit (K : PySem.W.Frag) (TL : List (Addr × Str)) (C : Addr) : Sp := fun vs H Q _ => ∃ (x dx : Addr) (v1 v2 v3 : V) (y1 y2 y3 : List V) (fs : List Fld) (ts : List Tie) (ks : List Knd), vs = [.ref x, v1, v2, v3] ∧ H x = some (.ins C dx []) ∧ DpX K H v1 y1 (fs.map dF) ∧ DpX K H v2 y2 (ts.map dTie) ∧ DpX K H v3 y3 (ks.map dKnd) ∧ OkBook fs ts ks ∧ Tabs TL H ∧
  ∀ (H' : Hp) (a1 a2 a3 : Addr), Same (noT x H) H' → H' x = some (.ins C dx (rbF a1 a2 a3)) → H' a1 = some (.lst y1) → H' a2 = some (.lst y2) → H' a3 = some (.lst y3) → noT x H a1 = none → noT x H a2 = none → noT x H a3 = none → 
    DpAll K H' y1 (fs.map dF) → DpAll K H' y2 (ts.map dTie) → DpAll K H' y3 (ks.map dKnd) → Tabs TL H' → Q .non H'
theorem ok_rinit {fI cI pI : Addr} {od an : Option Addr} {oc kV doc pm ct : Value} {osl : Array (Option Value)} {TL : List (Addr × Str)} (T : Top K mg) (R : RbC K mg) (TB : TabB base mg cI pI) (mT0 : (pI, rbQ) ∈ TL) (uT0 : ∀ p ∈ TL, p.1 = pI → p.2 = rbQ)
    (lk : K.lookup fI = some ⟨oc, od, .func (PySem.W.fnOf "__init__" "Rulebook.__init__" (defArgs s_Rulebook__init) (defBody s_Rulebook__init) (defScope s_Rulebook__init) .none kV doc pm an (.ref cI) ct), osl⟩) (hcd : PySem.W.codeIn K (.ref cI) "Rulebook.__init__" = true) :
    FnOk P w K mg base CX0 9 fI (PySem.W.fnOf "__init__" "Rulebook.__init__" (defArgs s_Rulebook__init) (defBody s_Rulebook__init) (defScope s_Rulebook__init) .none kV doc pm an (.ref cI) ct) ["self", "fields", "ties", "kinds"] (spInit K TL R.C) := by
  have G_first_wrong := ok_fw1 (P := P) (w := w) (base := base) T
  have G_tie_fits := ok_tiefits (P := P) (w := w) (base := base) T
  have G_kind_fits := ok_kindfits (P := P) (w := w) (base := base) T
  obtain ⟨oc2, od2, kV2, doc2, pm2, an2, cdvF, ct2, osl2, eF, lkF, hcF⟩ := T.d_first_wrong.F.ex
  have bF := T.d_first_wrong.b
  rw [eF] at bF lkF
  refine fn_of lk hcd sc_Rulebook__init (fun vs H Q E h => ?_) (fun A outer s H vs Q E hr h => ?_)
  · obtain ⟨x, dx, v1, v2, v3, y1, y2, y3, fs, ts, ks, rfl, _⟩ := h
    rfl
  obtain ⟨x, dx, v1, v2, v3, x1, x2, x3, fs, ts, ks, rfl, hx, ⟨b1, rfl, hb1, hd1⟩, ⟨b2, rfl, hb2, hd2⟩, ⟨b3, rfl, hb3, hd3⟩, ok, hT, q⟩ := h
  have mT : (pI, ("Rulebook.__init__.<locals>." : Str) ++ "<lambda>") ∈ TL := by
    rw [show (("Rulebook.__init__.<locals>." : Str) ++ "<lambda>") = rbQ by decide +kernel]
    exact mT0
  have uT : ∀ p ∈ TL, p.1 = pI → p.2 = ("Rulebook.__init__.<locals>." : Str) ++ "<lambda>" := fun p hp e => (uT0 p hp e).trans (show rbQ = ("Rulebook.__init__.<locals>." : Str) ++ "<lambda>" by decide +kernel)
  refine ⟨_, PSs.nox (pss_cons (ps_set (i := 4) sc_Rulebook__init.nd rfl (Or.inl rfl) (pe_call G_first_wrong (hr.mono (by decide)) (by rfl) T.d_first_wrong.g T.d_first_wrong.kp T.d_first_wrong.b .nil pass0 (pa_cons (pv 1) (pa_cons (pe_gR rfl T.d_field_fits.g) pa_nil))))
    (pss_cons (ps_if (pt_cmpR op_notN (pv 4) pe_non (nomark _)) (pss_one ps_dead) pss_nil)
    (pss_cons (ps_set (i := 4) sc_Rulebook__init.nd rfl (Or.inl rfl) (pe_lamcall2 (T := TL) (TT := TTfw K) (a1 := "items") (a := "fits") (Ng := ["items", "fits", "position", "item"]) (N := ["before", "tie", "fields"]) (ps := ["before", "tie"]) (fr := ["fields"]) (js := [1]) (k := 5) (tb := tCall (spTieFits K) [] E0 (tCons (tVar 2) (tCons (tVar 0) (tCons (tVar 1) tNil)))) (by rfl) T.d_first_wrong.g T.d_first_wrong.kp lkF hcF bF sc_first_wrong rfl (.inl (by rfl)) (pv 2) (fw_gives (X := (cxOf CX0 P w K mg base ["self", "fields", "ties", "kinds", "wrong"] "Rulebook.__init__" (defScope s_Rulebook__init) fI (.ref cI) A outer s H E).nox) T cdvF _) TB rfl mT uT (hr.mono (by decide)) rfl (nscope_by (by decide +kernel)) (ndef_free (sc := defScope s_Rulebook__init) (fr := ["fields"]) (by decide +kernel)) (ndef_fr (sc := defScope s_Rulebook__init) (by decide +kernel)) rfl (fun _ _ _ _ _ us hl => match us, hl with | [_, _], _ => rfl) (fun A outer s H F f hF hr2 => by
      obtain ⟨fn, fq, fp, fb, fsc, fcl, fc⟩ := F
      cases hF
      exact (pe_call G_tie_fits (hr2.mono (by decide)) (by rfl) T.d_tie_fits.g T.d_tie_fits.kp T.d_tie_fits.b .nil pass0 (pa_cons (pv 2) (pa_cons (pv 0) (pa_cons (pv 1) pa_nil)))))))
    (pss_cons (ps_if (pt_cmpR op_notN (pv 4) pe_non (nomark _)) (pss_one ps_dead) pss_nil)
    (pss_cons (ps_set (i := 4) sc_Rulebook__init.nd rfl (Or.inl rfl) (pe_lamcall2 (T := TL) (TT := TTfw K) (a1 := "items") (a := "fits") (Ng := ["items", "fits", "position", "item"]) (N := ["before", "kind", "fields"]) (ps := ["before", "kind"]) (fr := ["fields"]) (js := [1]) (k := 5) (tb := tCall (spKindFits K) [] E0 (tCons (tVar 2) (tCons (tVar 0) (tCons (tVar 1) tNil)))) (by rfl) T.d_first_wrong.g T.d_first_wrong.kp lkF hcF bF sc_first_wrong rfl (.inl (by rfl)) (pv 3) (fw_gives (X := (cxOf CX0 P w K mg base ["self", "fields", "ties", "kinds", "wrong"] "Rulebook.__init__" (defScope s_Rulebook__init) fI (.ref cI) A outer s H E).nox) T cdvF _) TB rfl mT uT (hr.mono (by decide)) rfl (nscope_by (by decide +kernel)) (ndef_free (sc := defScope s_Rulebook__init) (fr := ["fields"]) (by decide +kernel)) (ndef_fr (sc := defScope s_Rulebook__init) (by decide +kernel)) rfl (fun _ _ _ _ _ us hl => match us, hl with | [_, _], _ => rfl) (fun A outer s H F f hF hr2 => by
      obtain ⟨fn, fq, fp, fb, fsc, fcl, fc⟩ := F
      cases hF
      exact (pe_call G_kind_fits (hr2.mono (by decide)) (by rfl) T.d_kind_fits.g T.d_kind_fits.kp T.d_kind_fits.b .nil pass0 (pa_cons (pv 2) (pa_cons (pv 0) (pa_cons (pv 1) pa_nil)))))))
    (pss_cons (ps_if (pt_cmpR op_notN (pv 4) pe_non (nomark _)) (pss_one ps_dead) pss_nil)
    (pss_cons (ps_fld (pv 0) (pe_callTy (call_list_of_K (K := K) (by rfl)) (by rfl) T.b_list (by decide +kernel) (pa_cons (pv 1) pa_nil)) (by rfl))
    (pss_cons (ps_fld (pv 0) (pe_callTy (call_list_of_K (K := K) (by rfl)) (by rfl) T.b_list (by decide +kernel) (pa_cons (pv 2) pa_nil)) (by rfl))
    (pss_one (ps_fld (pv 0) (pe_callTy (call_list_of_K (K := K) (by rfl)) (by rfl) T.b_list (by decide +kernel) (pa_cons (pv 3) pa_nil)) (by rfl))))))))))), ?_⟩
  have hX : InsX H x := ⟨_, _, _, hx⟩
  have hb1 := hb1.imp (SqL.nT hX) (SqT.nT hX)
  have hb2 := hb2.imp (SqL.nT hX) (SqT.nT hX)
  have hb3 := hb3.imp (SqL.nT hX) (SqT.nT hX)
  have hd1 := DpAll.nT hX hd1
  have hd2 := DpAll.nT hX hd2
  have hd3 := DpAll.nT hX hd3
  have d1 : DpS K (noT x H) (.ref b1) (fs.map dF) := ⟨b1, x1, rfl, hb1, hd1⟩
  have nx := (noT_x : noT x H x = none)
  have l1 : x1.length = fs.length := by rw [DpAll.length hd1, List.length_map]
  have l2 : x2.length = ts.length := by rw [DpAll.length hd2, List.length_map]
  have l3 : x3.length = ks.length := by rw [DpAll.length hd3, List.length_map]
  have f1 := ok.f1
  have f2 := ok.f2
  have t1 := ok.t1
  have t2 := ok.t2
  have k1 := ok.k1
  have k2 := ok.k2
  refine ⟨_, rfl, b1, x1, fs, rfl, seq_mono noT_le hb1, DpAll.mono noT_le hd1, f1, by omega, ok.fok, fun H1 s1 => ?_⟩
  refine ⟨_, rfl, rfl, _, rfl, iteB (fun z => by simp at z) (fun _ => ?_)⟩
  have g1 : Same (noT x H) H1 := noT_le.trans s1
  have T1 : Tabs TL H1 := hT.ext s1
  refine ⟨_, rfl, T1, fun H2 e2 T2 => ?_⟩
  have hx2 : H2 x = some (.ins R.C dx []) := e2 _ _ (s1 _ _ hx) fun _ z => nomatch z
  have g2 : Same (noT x H) H2 := fun a o h => e2 a o (g1 a o h) fun ps z => by
    rw [noT_tbl (by rw [noT_le a o h, z])] at h
    cases h
  have T2' : Tabs TL H2 := T2
  refine ⟨b2, x2, rfl, seq_mono g2 hb2, by omega, by omega, fun i y b H' R ex s' hb k => ?_, fun H3 s3 => ?_⟩
  · obtain ⟨d, e1, e2⟩ := DpAll.get hd2 ex
    rw [List.getElem?_map] at e1
    cases et : ts[i]? with
    | none => rw [et] at e1; cases e1
    | some c =>
      rw [et] at e1
      cases e1
      have gs := g2.trans s'
      have li : i < ts.length := (List.getElem?_eq_some_iff.mp et).1
      have hh : HdS K H' (.ref b) ((ts.take i).map (·.1)) := by
        have z := hds_of (DpAll.take i (DpAll.mono gs hd2)) (fun d hd => by
          obtain ⟨c2, _, rfl⟩ := List.mem_map.mp (List.mem_of_mem_take hd)
          exact named_dTie c2)
        rw [← List.map_take, List.map_map] at z
        exact ⟨b, _, rfl, hb, z⟩
      have tk := ok.tok c (List.mem_of_getElem? et)
      exact ⟨_, rfl, _, rfl, _, rfl, .ref b1, .ref b, y, fs, _, c, rfl, d1.mono gs, ok.fb, hh, by rw [List.length_map, List.length_take]; omega, nd_takeM (f := fun c : Tie => c.1) ok.tnd et, tk.1, Dp.mono gs e2, tk.2, k⟩
  refine ⟨_, rfl, rfl, _, rfl, iteB (fun z => by simp at z) (fun _ => ?_)⟩
  have g3 := g2.trans s3
  have hx3 := s3 _ _ hx2
  refine ⟨_, rfl, T2'.ext s3, fun H4 e4 T4 => ?_⟩
  have hx4 : H4 x = some (.ins R.C dx []) := e4 _ _ hx3 fun _ z => nomatch z
  have g4 : Same (noT x H) H4 := fun a o h => e4 a o (g3 a o h) fun ps z => by
    rw [noT_tbl (by rw [noT_le a o h, z])] at h
    cases h
  have T4' : Tabs TL H4 := T4
  refine ⟨b3, x3, rfl, seq_mono g4 hb3, by omega, by omega, fun i y b H' R ex s' hb k => ?_, fun H5 s5 => ?_⟩
  · obtain ⟨d, e1, e2⟩ := DpAll.get hd3 ex
    rw [List.getElem?_map] at e1
    cases et : ks[i]? with
    | none => rw [et] at e1; cases e1
    | some c =>
      rw [et] at e1
      cases e1
      have gs := g4.trans s'
      have li : i < ks.length := (List.getElem?_eq_some_iff.mp et).1
      have hh : HdS K H' (.ref b) ((ks.take i).map (·.name)) := by
        have z := hds_of (DpAll.take i (DpAll.mono gs hd3)) (fun d hd => by
          obtain ⟨c2, _, rfl⟩ := List.mem_map.mp (List.mem_of_mem_take hd)
          exact named_dKnd c2)
        rw [← List.map_take, List.map_map] at z
        exact ⟨b, _, rfl, hb, z⟩
      exact ⟨_, rfl, _, rfl, _, rfl, .ref b1, .ref b, y, fs, _, c, rfl, d1.mono gs, ok.fb, hh, by rw [List.length_map, List.length_take]; omega, nd_takeM (f := Knd.name) ok.knd et, Dp.mono gs e2, ok.kok c (List.mem_of_getElem? et), k⟩
  refine ⟨_, rfl, rfl, _, rfl, iteB (fun z => by simp at z) (fun _ => ?_)⟩
  have g5 := g4.trans s5
  have hx5 := s5 _ _ hx4
  have T5 := T4'.ext s5
  refine ⟨_, rfl, b1, x1, rfl, seq_mono g5 hb1, fun a1 n1 => ⟨_, rfl, x, R.C, dx, [], rfl, (same_new n1) _ _ hx5, R.cl, R.n1, by decide, ?_⟩⟩
  have n1x : a1 ≠ x := (ne_of_none hx5 n1).symm
  have g6 : Same (noT x H) (upd (upd H5 a1 (.lst x1)) x (.ins R.C dx [("_fields", .ref a1)])) := Same.ins (g5.trans (same_new n1)) nx
  refine ⟨_, rfl, b2, x2, rfl, seq_mono g6 hb2, fun a2 n2 => ⟨_, rfl, x, R.C, dx, [("_fields", .ref a1)], rfl, (same_new n2) _ _ upd_same, R.cl, R.n2, (by show 1 < 1000; decide), ?_⟩⟩
  have n2x : a2 ≠ x := (ne_of_none upd_same n2).symm
  have g7 : Same (noT x H) (upd (upd (upd (upd H5 a1 (.lst x1)) x (.ins R.C dx [("_fields", .ref a1)])) a2 (.lst x2)) x (.ins R.C dx [("_fields", .ref a1), ("_ties", .ref a2)])) := Same.ins (g6.trans (same_new n2)) nx
  refine ⟨_, rfl, b3, x3, rfl, seq_mono g7 hb3, fun a3 n3 => ⟨_, rfl, x, R.C, dx, [("_fields", .ref a1), ("_ties", .ref a2)], rfl, (same_new n3) _ _ upd_same, R.cl, R.n3, (by show 2 < 1000; decide), ?_⟩⟩
  have n3x : a3 ≠ x := (ne_of_none upd_same n3).symm
  have g8 : Same (noT x H) (upd (upd (upd (upd (upd (upd H5 a1 (.lst x1)) x (.ins R.C dx [("_fields", .ref a1)])) a2 (.lst x2)) x (.ins R.C dx [("_fields", .ref a1), ("_ties", .ref a2)])) a3 (.lst x3)) x (.ins R.C dx (rbF a1 a2 a3))) := Same.ins (g7.trans (same_new n3)) nx
  have e1 := (upd_ne (H := upd (upd (upd (upd (upd H5 a1 (.lst x1)) x (.ins R.C dx [("_fields", .ref a1)])) a2 (.lst x2)) x (.ins R.C dx [("_fields", .ref a1), ("_ties", .ref a2)])) a3 (.lst x3)) (o := .ins R.C dx (rbF a1 a2 a3)) n1x).trans ((same_new n3) _ _ ((upd_ne n1x).trans ((same_new n2) _ _ ((upd_ne n1x).trans upd_same))))
  have e2 := (upd_ne (H := upd (upd (upd (upd (upd H5 a1 (.lst x1)) x (.ins R.C dx [("_fields", .ref a1)])) a2 (.lst x2)) x (.ins R.C dx [("_fields", .ref a1), ("_ties", .ref a2)])) a3 (.lst x3)) (o := .ins R.C dx (rbF a1 a2 a3)) n2x).trans ((same_new n3) _ _ ((upd_ne n2x).trans upd_same))
  have e3 := (upd_ne (H := upd (upd (upd (upd (upd H5 a1 (.lst x1)) x (.ins R.C dx [("_fields", .ref a1)])) a2 (.lst x2)) x (.ins R.C dx [("_fields", .ref a1), ("_ties", .ref a2)])) a3 (.lst x3)) (o := .ins R.C dx (rbF a1 a2 a3)) n3x).trans upd_same
  have T6 := tabs_ins (C := R.C) (dx := dx) (fs := rbF a1 a2 a3) (((tabs_ins (C := R.C) (dx := dx) (fs := [("_fields", .ref a1), ("_ties", .ref a2)]) (((tabs_ins (C := R.C) (dx := dx) (fs := [("_fields", .ref a1)]) (T5.ext (same_new (o := .lst x1) n1)) ((same_new n1) _ _ hx5)).ext (same_new (o := .lst x2) n2))) ((same_new n2) _ _ upd_same)).ext (same_new (o := .lst x3) n3))) ((same_new n3) _ _ upd_same)
  exact q _ a1 a2 a3 g8 upd_same e1 e2 e3 (g5.free n1) (g6.free n2) (g7.free n3) (DpAll.mono g8 hd1) (DpAll.mono g8 hd2) (DpAll.mono g8 hd3) T6
end
end Bh

set_option Elab.async false
set_option linter.all false
set_option maxRecDepth 100000
namespace Bh
open PySem PySem.Spec PyProof.Rows L2
/-! ### None in a list of tuples and Nones -/
def nonU : Value → Bool
  | .none => true
  | _ => false
def nonV : V → Bool
  | .non => true
  | _ => false
def rInNone (K : PySem.W.Frag) : R2 := fun x y H Q => ∃ p xs, x = .non ∧ y = .ref p ∧ SqL K H p xs ∧ (∀ v ∈ xs, v = .non ∨ ∃ a ys, v = .ref a ∧ SqT K H a ys) ∧ Q (.bl (xs.any nonV)) H
theorem vals_mem : ∀ {xs : List V} {us : List Value}, Vals xs us → ∀ u ∈ us, ∃ v ∈ xs, RelV v u
  | _, _, .nil, u, h => by cases h
  | x :: xs, w :: us, .cons r t, u, h => by
    rcases List.mem_cons.mp h with rfl | h
    · exact ⟨x, List.mem_cons_self .., r⟩
    · obtain ⟨v, h1, h2⟩ := vals_mem t u h
      exact ⟨v, List.mem_cons_of_mem _ h1, h2⟩
theorem any_non {K : PySem.W.Frag} {H : Hp} : ∀ {xs : List V} {us : List Value}, Vals xs us → (∀ v ∈ xs, v = .non ∨ ∃ a ys, v = .ref a ∧ SqT K H a ys) → us.any nonU = xs.any nonV
  | _, _, .nil, _ => rfl
  | x :: xs, w :: us, .cons r t, h => by
    rw [List.any_cons, List.any_cons, any_non t fun v hv => h v (List.mem_cons_of_mem _ hv)]
    rcases h x (List.mem_cons_self ..) with e | ⟨a, ys, e, _⟩
    · subst e
      cases r
      rfl
    · subst e
      cases r
      rfl
theorem op_inNone {X : Cx} {K : PySem.W.Frag} (hK : X.K = K) (hu : X.A.units + 64 < cLine) : OpR X (compareOp .In) (rInNone K) := by
  subst hK
  intro pins s σ H x y v u Q I rx ry h
  obtain ⟨p, xs, rfl, rfl, hq, hall, q⟩ := h
  cases rx
  cases ry
  obtain ⟨its, r, pl, hz⟩ := I.list hq
  refine SeqAt.in_listAt nonU pl.isList (fun w hw => ?_) ⟨.bl _, H, I, rfl, ?_⟩
  · obtain ⟨v, hv, rv⟩ := vals_mem r w (by simpa using hw)
    rcases hall v hv with e | ⟨a, ys, e, hT⟩
    · subst e
      cases rv
      exact SeqAt.EqAt.same _
    · subst e
      cases rv
      obtain ⟨its2, _, pl2, _⟩ := I.tuple hT
      obtain ⟨o, k1, k2, n, k3⟩ := pl2
      exact SeqAt.EqAt.tuple_none ⟨o, k1, k2, n, k3⟩ (show X.A.units + 1 < cLine by omega)
  · rw [show its.toArray.any nonU = its.any nonU by simp, any_non r hall]
    exact q
end Bh

set_option Elab.async false
set_option linter.all false
set_option maxRecDepth 100000
set_option maxHeartbeats 1000000
set_option autoImplicit false
namespace Bh
open PySem PySem.Spec PyProof.Rows L2
/-! ### the checks of shapes, told over any data -/
mutual
def okD : PyData → Bool
  | .str w => decide (w.length ≤ 100000)
  | .tuple ds => okDs ds
  | .list ds => okDs ds
  | _ => true
def okDs : List PyData → Bool
  | [] => true
  | d :: ds => okD d && okDs ds
end
theorem okDs_mem : ∀ {ds : List PyData} {d : PyData}, okDs ds = true → d ∈ ds → okD d = true
  | [], _, _, h => by cases h
  | e :: es, d, h, m => by
    have h : (okD e && okDs es) = true := h
    rw [Bool.and_eq_true] at h
    rcases List.mem_cons.mp m with z | z
    · rw [z]
      exact h.1
    · exact okDs_mem h.2 z
theorem okDs_map {α : Type} {f : α → PyData} : ∀ {l : List α}, (∀ x ∈ l, okD (f x) = true) → okDs (l.map f) = true
  | [], _ => rfl
  | x :: l, h => by
    show (okD (f x) && okDs (l.map f)) = true
    rw [h x (List.mem_cons_self ..), okDs_map fun y hy => h y (List.mem_cons_of_mem _ hy)]
    rfl
theorem okDs_of : ∀ {l : List PyData}, (∀ x ∈ l, okD x = true) → okDs l = true
  | [], _ => rfl
  | x :: l, h => by
    show (okD x && okDs l) = true
    rw [h x (List.mem_cons_self ..), okDs_of fun y hy => h y (List.mem_cons_of_mem _ hy)]
    rfl
theorem okD_str {w : Str} (h : w.length ≤ 100000) : okD (.str w) = true := decide_eq_true h
theorem okD_str_le {w : Str} (h : okD (.str w) = true) : w.length ≤ 100000 := of_decide_eq_true h
/-- one of these texts -/
def membD (zs : List Str) (d : PyData) : Bool := match d with
  | .str z => decide (z ∈ zs)
  | _ => false
theorem membD_str {zs : List Str} {d : PyData} (h : membD zs d = true) : ∃ z, d = .str z ∧ z ∈ zs := by
  cases d with
  | str z => exact ⟨z, rfl, of_decide_eq_true h⟩
  | _ => cases h
def nmD (zs : Str) (d : PyData) : Bool := match d with
  | .str w => wordB w zs
  | _ => false
theorem nmD_str {zs : Str} {d : PyData} (h : nmD zs d = true) : ∃ z, d = .str z ∧ wordB z zs = true := by
  cases d with
  | str z => exact ⟨z, rfl, h⟩
  | _ => cases h
def tupI (l m : Int) (d : PyData) : Bool := match d with
  | .tuple ds => decide (l ≤ (ds.length : Int)) && decide ((ds.length : Int) ≤ m)
  | _ => false
theorem tupI_of {l m : Int} {d : PyData} (h : tupI l m d = true) : ∃ ds, d = .tuple ds ∧ l ≤ (ds.length : Int) ∧ (ds.length : Int) ≤ m := by
  cases d with
  | tuple ds =>
    have h : (decide (l ≤ (ds.length : Int)) && decide ((ds.length : Int) ≤ m)) = true := h
    rw [Bool.and_eq_true, decide_eq_true_iff, decide_eq_true_iff] at h
    exact ⟨ds, rfl, h.1, h.2⟩
  | _ => cases h
theorem tup_two {d : PyData} (h : tupI 2 2 d = true) : ∃ x y, d = .tuple [x, y] := by
  obtain ⟨ds, rfl, h1, h2⟩ := tupI_of h
  match ds, h1, h2 with
  | [x, y], _, _ => exact ⟨x, y, rfl⟩
  | [], h1, _ => exact absurd h1 (by simp)
  | [_], h1, _ => exact absurd h1 (by simp)
  | _ :: _ :: _ :: r, _, h2 => simp at h2; omega
theorem tup_three {d : PyData} (h : tupI 3 3 d = true) : ∃ x y z, d = .tuple [x, y, z] := by
  obtain ⟨ds, rfl, h1, h2⟩ := tupI_of h
  match ds, h1, h2 with
  | [x, y, z], _, _ => exact ⟨x, y, z, rfl⟩
  | [], h1, _ => exact absurd h1 (by simp)
  | [_], h1, _ => exact absurd h1 (by simp)
  | [_, _], h1, _ => exact absurd h1 (by simp)
  | _ :: _ :: _ :: _ :: r, _, h2 => simp at h2; omega
theorem tup_four {d : PyData} (h : tupI 4 4 d = true) : ∃ x y z u, d = .tuple [x, y, z, u] := by
  obtain ⟨ds, rfl, h1, h2⟩ := tupI_of h
  match ds, h1, h2 with
  | [x, y, z, u], _, _ => exact ⟨x, y, z, u, rfl⟩
  | [], h1, _ => exact absurd h1 (by simp)
  | [_], h1, _ => exact absurd h1 (by simp)
  | [_, _], h1, _ => exact absurd h1 (by simp)
  | [_, _, _], h1, _ => exact absurd h1 (by simp)
  | _ :: _ :: _ :: _ :: _ :: r, _, h2 => simp at h2; omega
/-- the options of the field of this name, none where there is none -/
def optsD (fs : List Fld) (d : PyData) : List Str := match fs.find? (fun f => PyData.eqv (.str f.1) d) with
  | some f => f.2
  | none => []
def testD (fs : List Fld) (d : PyData) : Bool := match d with
  | .tuple [f, s, o] => membD signs s && membD (optsD fs f) o
  | _ => false
def stepD (fs : List Fld) (d : PyData) : Bool := match d with
  | .tuple [f, o] => membD ("+" :: optsD fs f) o && membD (fs.map (·.1)) f
  | _ => false
def stepsD (fs : List Fld) (d : PyData) : Bool := match d with
  | .none => true
  | .tuple zs => decide (zs.length ≤ 6) && zs.all (stepD fs)
  | _ => false
def testsD (fs : List Fld) (d : PyData) : Bool := match d with
  | .tuple zs => decide (zs.length ≤ 6) && zs.all (testD fs)
  | _ => false
def caseD (fs : List Fld) (d : PyData) : Bool := match d with
  | .tuple [t, s] => testsD fs t && stepsD fs s
  | _ => false
def progD (fs : List Fld) (d : PyData) : Bool := match d with
  | .tuple cs => tupI 1 8 (.tuple cs) && cs.all (caseD fs)
  | _ => false
def valI (fs : List Fld) (os : List PyData) (i : Nat) : Bool := match fs[i]?, os[i]? with
  | some f, some o => membD f.2 o
  | _, _ => true
def valD (fs : List Fld) (d : PyData) : Bool := match d with
  | .tuple os => decide (os.length = fs.length) && ((List.range fs.length).map (valI fs os)).all id
  | _ => false
def nonD (d : PyData) : Bool := match d with
  | .none => true
  | _ => false
def holdD (fs : List Fld) (d : PyData) : Bool := nonD d || valD fs d
def keyD (fs : List Fld) (d : PyData) : Bool := match d with
  | .tuple [f, s] => membD (fs.map (·.1)) f && membD ["+", "-"] s
  | _ => false
def keysD (fs : List Fld) (d : PyData) : Bool := match d with
  | .tuple ks => decide (ks.length ≤ fs.length) && ks.all (keyD fs) && decide ((ks.map hdN).Nodup)
  | _ => false
def strOf (d : PyData) : Str := match d with
  | .str z => z
  | _ => ""
def strsOf (d : PyData) : List Str := match d with
  | .tuple os => os.map strOf
  | _ => []
def nameFitD (ns : List Str) (m : Nat) (d : PyData) : Bool := decide (ns.length < m) && nmD letters d && !membD ns d
def optsAreD (d : PyData) : Bool := match d with
  | .tuple os => tupI 2 6 (.tuple os) && os.all (nmD lettersD) && decide ((os.map strOf).Nodup)
  | _ => false
def fieldD (fs : List Fld) (d : PyData) : Bool := match d with
  | .tuple [n, o] => nameFitD (fs.map (·.1)) 3 n && optsAreD o && decide ((vals (fs ++ [(strOf n, strsOf o)])).length ≤ 24)
  | _ => false
def tieD (fs : List Fld) (ns : List Str) (d : PyData) : Bool := match d with
  | .tuple [n, p] => nameFitD ns 4 n && progD fs p
  | _ => false
def kindD (fs : List Fld) (ns : List Str) (d : PyData) : Bool := match d with
  | .tuple [n, ks, tk, b] => nameFitD ns 3 n && keysD fs ks && (nonD tk || progD fs tk) && holdD fs b
  | _ => false
/-! ### x in a list or tuple of texts, x any data -/
def rInS (K : PySem.W.Frag) : R2 := fun x y H Q => ∃ (d : PyData) (p : Addr) (zs : List Str), Dp K H x d ∧ y = .ref p ∧ (SqL K H p (zs.map V.str) ∨ SqT K H p (zs.map V.str)) ∧ Q (.bl (membD zs d)) H
end Bh
namespace Bh
open PySem PySem.Spec PyProof.Rows L2
theorem nb1 {b : Bool} (h : (!b) = true) : b = false := by cases b <;> first | rfl | cases h
theorem nb0 {b : Bool} (h : (!b) = false) : b = true := by cases b <;> first | rfl | cases h
theorem two_no {d x y : PyData} (h : tupI 2 2 d = false) : d ≠ .tuple [x, y] := fun e => by subst e; exact Bool.noConfusion h
theorem three_no {d x y z : PyData} (h : tupI 3 3 d = false) : d ≠ .tuple [x, y, z] := fun e => by subst e; exact Bool.noConfusion h
theorem four_no {d x y z u : PyData} (h : tupI 4 4 d = false) : d ≠ .tuple [x, y, z, u] := fun e => by subst e; exact Bool.noConfusion h
section
variable {fs : List Fld} {ns : List Str} {d : PyData}
theorem testD_no (h : tupI 3 3 d = false) : testD fs d = false := by
  unfold testD
  split
  · exact absurd rfl (three_no h)
  · rfl
theorem stepD_no (h : tupI 2 2 d = false) : stepD fs d = false := by
  unfold stepD
  split
  · exact absurd rfl (two_no h)
  · rfl
theorem caseD_no (h : tupI 2 2 d = false) : caseD fs d = false := by
  unfold caseD
  split
  · exact absurd rfl (two_no h)
  · rfl
theorem keyD_no (h : tupI 2 2 d = false) : keyD fs d = false := by
  unfold keyD
  split
  · exact absurd rfl (two_no h)
  · rfl
theorem tieD_no (h : tupI 2 2 d = false) : tieD fs ns d = false := by
  unfold tieD
  split
  · exact absurd rfl (two_no h)
  · rfl
theorem fieldD_no (h : tupI 2 2 d = false) : fieldD fs d = false := by
  unfold fieldD
  split
  · exact absurd rfl (two_no h)
  · rfl
theorem kindD_no (h : tupI 4 4 d = false) : kindD fs ns d = false := by
  unfold kindD
  split
  · exact absurd rfl (four_no h)
  · rfl
theorem progD_no (h : tupI 1 8 d = false) : progD fs d = false := by
  unfold progD
  split
  · rw [h]
    rfl
  · rfl
theorem optsAreD_no (h : tupI 2 6 d = false) : optsAreD d = false := by
  unfold optsAreD
  split
  · rw [h]
    rfl
  · rfl
theorem testsD_no (h : tupI 0 6 d = false) : testsD fs d = false := by
  unfold testsD
  split
  · unfold tupI at h
    dsimp only at h
    rw [Bool.and_eq_false_iff, decide_eq_false_iff_not, decide_eq_false_iff_not] at h
    rw [decide_eq_false (by omega)]
    rfl
  · rfl
theorem stepsD_no (n : d ≠ .none) (h : tupI 0 6 d = false) : stepsD fs d = false := by
  unfold stepsD
  split
  · exact absurd rfl n
  · unfold tupI at h
    dsimp only at h
    rw [Bool.and_eq_false_iff, decide_eq_false_iff_not, decide_eq_false_iff_not] at h
    rw [decide_eq_false (by omega)]
    rfl
  · rfl
theorem valD_no (h : tupI fs.length fs.length d = false) : valD fs d = false := by
  unfold valD
  split
  · unfold tupI at h
    dsimp only at h
    rw [Bool.and_eq_false_iff, decide_eq_false_iff_not, decide_eq_false_iff_not] at h
    rw [decide_eq_false (by omega)]
    rfl
  · rfl
theorem keysD_no (h : tupI 0 fs.length d = false) : keysD fs d = false := by
  unfold keysD
  split
  · unfold tupI at h
    dsimp only at h
    rw [Bool.and_eq_false_iff, decide_eq_false_iff_not, decide_eq_false_iff_not] at h
    rw [decide_eq_false (by omega)]
    rfl
  · rfl
end
/-- the items' answers, by place -/
def getB (p : PyData → Bool) (ds : List PyData) (i : Nat) : Bool := match ds[i]? with
  | some d => p d
  | none => true
theorem getB_at {p : PyData → Bool} {ds : List PyData} {i : Nat} {d : PyData} (h : ds[i]? = some d) : getB p ds i = p d := by
  unfold getB
  rw [h]
theorem all_getB (p : PyData → Bool) (ds : List PyData) : ((List.range ds.length).map (getB p ds)).all id = ds.all p := by
  rw [Bool.eq_iff_iff, List.all_eq_true, List.all_eq_true]
  constructor
  · intro h d hd
    obtain ⟨i, hi⟩ := List.mem_iff_getElem?.mp hd
    have := h (getB p ds i) (List.mem_map.mpr ⟨i, List.mem_range.mpr (List.getElem?_eq_some_iff.mp hi).1, rfl⟩)
    rw [getB_at hi] at this
    exact this
  · intro h b hb
    obtain ⟨i, hi, rfl⟩ := List.mem_map.mp hb
    have li := List.mem_range.mp hi
    rw [getB_at (List.getElem?_eq_getElem li)]
    exact h _ (List.getElem_mem li)
theorem optsD_at {fs : List Fld} {d : PyData} {i : Nat} {f : Fld} (h : fs[i]? = some f) (e : PyData.eqv (.str f.1) d = true) (no : ∀ (j : Nat) (g : Fld), j < i → fs[j]? = some g → PyData.eqv (.str g.1) d = false) : optsD fs d = f.2 := by
  have : fs.find? (fun f => PyData.eqv (.str f.1) d) = some f := by
    rw [List.find?_eq_some_iff_getElem]
    obtain ⟨li, hf⟩ := List.getElem?_eq_some_iff.mp h
    refine ⟨e, i, li, hf, fun j hj => ?_⟩
    rw [no j _ hj (List.getElem?_eq_getElem (by omega))]
    rfl
  unfold optsD
  rw [this]
theorem optsD_none {fs : List Fld} {d : PyData} (no : ∀ (j : Nat) (g : Fld), fs[j]? = some g → PyData.eqv (.str g.1) d = false) : optsD fs d = [] := by
  have : fs.find? (fun f => PyData.eqv (.str f.1) d) = none := by
    rw [List.find?_eq_none]
    intro f hf
    obtain ⟨i, hi⟩ := List.mem_iff_getElem?.mp hf
    rw [no i f hi]
    decide
  unfold optsD
  rw [this]
/-- a comprehension of truth values -/
theorem lc_bools {J : It} {n : Nat} {G : Hp → Prop} {xs : List V} (b : Nat → Bool) (wk : Walk J n G (YAt xs)) {H : Hp} {D : Addr} {g : TG} {te : TE} {vs : List Nat} {σ : L2.St} {Qd : Hp → Prop} (nD : H D = none) (hn : n ≤ 100000) (hG : ∀ H', Same H H' → G H')
    (hs : ∀ (i : Nat) (x : V) (H' : Hp) (R : V → Hp → Prop) (R' : Hp → Prop), xs[i]? = some x → Same H H' → (∀ H4, Same H' H4 → R (.bl (b i)) H4) → g x (wipe σ vs) H' fun σ2 H2 => wipe σ2 vs = wipe σ vs ∧ tYes σ2 H2 fun b H3 => if b = true then te σ2 H3 R else R' H3)
    (hd : ∀ H', Same H H' → H' D = some (.lst (((List.range n).map b).map V.bl)) → Qd H') :
    ∃ W : Nat → Nat → Hp → Prop, (∃ m, W 0 m (upd H D (.lst []))) ∧ ∀ i m H, W i m H →
      (J.stop i H ∧ Qd H) ∨ (J.go i H ∧ ∃ Nx : Hp → Prop, (∀ H', Nx H' → ∃ m', m' < m ∧ W (i + 1) m' H') ∧ ∀ x H', J.yld i H x H' → g x (wipe σ vs) H' fun σ2 H2 => wipe σ2 vs = wipe σ vs ∧ tYes σ2 H2 fun b H3 =>
        if b = true then te σ2 H3 fun y H4 => ∃ acc, H4 D = some (.lst acc) ∧ acc.length < sizeLine ∧ Nx (upd H4 D (.lst (acc ++ [y]))) else Nx H3) := by
  refine lc_it wk (fun i H' => Same H H' ∧ H' D = some (.lst (((List.range i).map b).map V.bl))) ⟨same_new nD, upd_same⟩ (fun i H' _ p => hG H' p.1) ?_ ?_
  · rintro i x H' H'' hi ⟨s1, hDl⟩ ⟨rfl, ey⟩
    refine hs i x H'' _ _ ey s1 fun H4 s4 => ⟨_, s4 _ _ hDl, ?_, same_mut (s1.trans s4) nD, ?_⟩
    · rw [List.length_map, List.length_map, List.length_range]
      exact lt_line (by omega)
    · rw [upd_same, List.range_succ, List.map_append, List.map_append]
      rfl
  · rintro H' ⟨s1, hDl⟩
    exact hd H' s1 hDl
end Bh
namespace Bh
open PySem PySem.Spec PyProof.Rows L2
def inSU (d : PyData) : Value → Bool
  | .str z _ => PyData.eqv (.str z) d
  | _ => false
theorem eqv_memb (zs : List Str) (d : PyData) : (zs.any fun z => PyData.eqv (.str z) d) = membD zs d := by
  cases d with
  | str w =>
    rw [Bool.eq_iff_iff, List.any_eq_true]
    show _ ↔ decide (w ∈ zs) = true
    rw [decide_eq_true_iff]
    constructor
    · rintro ⟨y, hy, e⟩
      rw [eqv_strs, decide_eq_true_iff] at e
      rw [← e]
      exact hy
    · intro h
      exact ⟨w, h, by rw [eqv_strs]; exact decide_eq_true rfl⟩
  | _ =>
    show _ = false
    rw [List.any_eq_false]
    intro y _
    simp [PyData.eqv]
theorem any_inS {d : PyData} : ∀ {zs : List Str} {us : List Value}, Vals (zs.map V.str) us → us.any (inSU d) = zs.any fun z => PyData.eqv (.str z) d
  | [], _, .nil => rfl
  | z :: zs, _, .cons r t => by
    rw [List.any_cons, List.any_cons, any_inS t]
    obtain ⟨tk, rfl⟩ := r
    rfl
section
variable {X : Cx} {K : PySem.W.Frag}
theorem op_inS (hK : X.K = K) (hu : X.A.units + 64 < cLine) : OpR X (compareOp .In) (rInS K) := by
  subst hK
  intro pins s σ H x y v u Q I rx ry h
  obtain ⟨d, p, zs, hd, rfl, hq, q⟩ := h
  cases ry
  obtain ⟨as, r1⟩ := Dp.reads I d x v hd rx
  have key : ∀ {its : List Value}, Vals (zs.map V.str) its → ∀ w ∈ its.toArray, SeqAt.EqAt X.A.in1 s w v (inSU d w) := fun {its} r w hw => by
    obtain ⟨z, hz, rz⟩ := vals_mem r w (by simpa using hw)
    obtain ⟨z, _, rfl⟩ := List.mem_map.mp hz
    obtain ⟨bs, r2⟩ := Dp.reads I (.str z) (.str z) w (.str z) rz
    have e : inSU d w = PyData.eqv (.str z) d := by
      obtain ⟨tk, rfl⟩ := rz
      rfl
    rw [e]
    exact SeqAt.eqAt_plain _ _ _ _ _ _ _ _ r2 r1 rfl (Dp.plain hd) (by
      have : min (PyData.str z).depth d.depth = 0 := Nat.le_zero.mp (Nat.min_le_left _ _)
      rw [this]
      show X.A.units + 1 + 0 < cLine
      omega)
  rcases hq with hq | hq
  · obtain ⟨its, r, pl, hz⟩ := I.list hq
    refine SeqAt.in_listAt (inSU d) pl.isList (key r) ⟨.bl _, H, I, rfl, ?_⟩
    rw [show its.toArray.any (inSU d) = its.any (inSU d) by simp, any_inS r, eqv_memb]
    exact q
  · obtain ⟨its, r, pl, hz⟩ := I.tuple hq
    refine SeqAt.in_tupleAt (inSU d) pl (key r) ⟨.bl _, H, I, rfl, ?_⟩
    rw [show its.toArray.any (inSU d) = its.any (inSU d) by simp, any_inS r, eqv_memb]
    exact q
end
end Bh
namespace Bh
open PySem PySem.Spec PyProof.Rows L2
/-- a comprehension of truth values, told one by one -/
theorem lc_boolsP {J : It} {n : Nat} {G : Hp → Prop} {xs ys : Nat → Option V} (wk : Walk J n G (YPair xs ys)) {H : Hp} {D : Addr} {g : TG} {te : TE} {vs : List Nat} {σ : L2.St} {Qd : Hp → Prop} {b : Nat → Bool} (nD : H D = none) (hn : n ≤ 100000) (hG : ∀ H', Same H H' → G H')
    (hs : ∀ (i : Nat) (x y : V) (T : Addr) (H' : Hp) (R : V → Hp → Prop) (R' : Hp → Prop), xs i = some x → ys i = some y → Same H H' → H' T = none → (∀ H4, Same (upd H' T (.tup [x, y])) H4 → R (.bl (b i)) H4) →
      g (.ref T) (wipe σ vs) (upd H' T (.tup [x, y])) fun σ2 H2 => wipe σ2 vs = wipe σ vs ∧ tYes σ2 H2 fun b H3 => if b = true then te σ2 H3 R else R' H3)
    (hd : ∀ H', Same H H' → H' D = some (.lst (((List.range n).map b).map V.bl)) → Qd H') :
    ∃ W : Nat → Nat → Hp → Prop, (∃ m, W 0 m (upd H D (.lst []))) ∧ ∀ i m H, W i m H →
      (J.stop i H ∧ Qd H) ∨ (J.go i H ∧ ∃ Nx : Hp → Prop, (∀ H', Nx H' → ∃ m', m' < m ∧ W (i + 1) m' H') ∧ ∀ x H', J.yld i H x H' → g x (wipe σ vs) H' fun σ2 H2 => wipe σ2 vs = wipe σ vs ∧ tYes σ2 H2 fun b H3 =>
        if b = true then te σ2 H3 fun y H4 => ∃ acc, H4 D = some (.lst acc) ∧ acc.length < sizeLine ∧ Nx (upd H4 D (.lst (acc ++ [y]))) else Nx H3) := by
  refine lc_it wk (fun i H' => Same H H' ∧ H' D = some (.lst (((List.range i).map b).map V.bl))) ⟨same_new nD, upd_same⟩ (fun i H' _ p => hG H' p.1) ?_ ?_
  · rintro i z H' H'' hi ⟨s1, hDl⟩ ⟨T, x, y, rfl, nT, rfl, ex, ey⟩
    have sT : Same H' (upd H' T (.tup [x, y])) := same_new nT
    refine hs i x y T H' _ _ ex ey s1 nT fun H4 s4 => ⟨_, s4 _ _ (sT _ _ hDl), ?_, same_mut (s1.trans (sT.trans s4)) nD, ?_⟩
    · rw [List.length_map, List.length_map, List.length_range]
      exact lt_line (by omega)
    · rw [upd_same, List.range_succ, List.map_append, List.map_append]
      rfl
  · rintro H' ⟨s1, hDl⟩
    exact hd H' s1 hDl
end Bh

set_option Elab.async false
set_option linter.all false
set_option maxRecDepth 100000
set_option maxHeartbeats 1000000
set_option autoImplicit false
namespace Bh
open PySem PySem.Spec PyProof.Rows L2 LamX NdefX
def spWordD (K : PySem.W.Frag) : Sp := fun vs H Q _ => ∃ (v : V) (d : PyData) (z : Str), vs = [v, .str z] ∧ Dp K H v d ∧ okD d = true ∧ ∀ H', Same H H' → Q (.bl (nmD z d)) H'
def spNmD (K : PySem.W.Frag) (z : Str) : Sp := fun vs H Q _ => ∃ (v : V) (d : PyData), vs = [v] ∧ Dp K H v d ∧ okD d = true ∧ ∀ H', Same H H' → Q (.bl (nmD z d)) H'
def spTupD (K : PySem.W.Frag) : Sp := fun vs H Q _ => ∃ (v : V) (d : PyData) (l m : Int), vs = [v, .int l, .int m] ∧ Dp K H v d ∧ Q (.bl (tupI l m d)) H
def spOptsOfD (K : PySem.W.Frag) : Sp := fun vs H Q _ => ∃ (v t : V) (fs : List Fld) (d : PyData), vs = [v, t] ∧ DpS K H v (fs.map dF) ∧ Dp K H t d ∧ ∀ (o : Addr) (H' : Hp), Same H H' → SqT K H' o ((optsD fs d).map V.str) → Q (.ref o) H'
/-- a check that takes the fields and a value -/
def spChkD (K : PySem.W.Frag) (p : List Fld → PyData → Bool) : Sp := fun vs H Q _ => ∃ (v t : V) (fs : List Fld) (d : PyData), vs = [v, t] ∧ DpS K H v (fs.map dF) ∧ FsB fs ∧ Dp K H t d ∧ okD d = true ∧ ∀ H', Same H H' → Q (.bl (p fs d)) H'
/-- the same, with what stands before it (of which the names ns) -/
def spChkN (K : PySem.W.Frag) (p : List Fld → List Str → PyData → Bool) : Sp := fun vs H Q _ => ∃ (v b t : V) (fs : List Fld) (ns : List Str) (d : PyData), vs = [v, b, t] ∧ DpS K H v (fs.map dF) ∧ FsB fs ∧ HdS K H b ns ∧ ns.length ≤ 1000 ∧ Dp K H t d ∧ okD d = true ∧ ∀ H', Same H H' → Q (.bl (p fs ns d)) H'
def spNameFitD (K : PySem.W.Frag) : Sp := fun vs H Q _ => ∃ (v t : V) (ns : List Str) (d : PyData) (m : Nat), vs = [v, t, .int m] ∧ HdS K H v ns ∧ ns.length ≤ 1000 ∧ Dp K H t d ∧ okD d = true ∧ ∀ H', Same H H' → Q (.bl (nameFitD ns m d)) H'
def spOptsAreD (K : PySem.W.Frag) : Sp := fun vs H Q _ => ∃ (v : V) (d : PyData), vs = [v] ∧ Dp K H v d ∧ okD d = true ∧ ∀ H', Same H H' → Q (.bl (optsAreD d)) H'
def spFieldD (K : PySem.W.Frag) : Sp := fun vs H Q _ => ∃ (b t : V) (fs : List Fld) (d : PyData), vs = [b, t] ∧ DpS K H b (fs.map dF) ∧ FsB fs ∧ FsV fs ∧ (vals fs).length ≤ 1000 ∧ Dp K H t d ∧ okD d = true ∧ ∀ H', Same H H' → Q (.bl (fieldD fs d)) H'
theorem str_no {K : PySem.W.Frag} {d : PyData} (n : tyN d ≠ "str") : PySem.W.kitOne K (.type (tyN d)) (.type "str") = some false := by
  cases d with
  | none => exact (show PySem.W.kitOne K (.type "NoneType") (.type "str") = some false from kit_ty (by decide +kernel))
  | bool _ => exact (show PySem.W.kitOne K (.type "bool") (.type "str") = some false from kit_ty (by decide +kernel))
  | int _ => exact (show PySem.W.kitOne K (.type "int") (.type "str") = some false from kit_ty (by decide +kernel))
  | tuple _ => exact (show PySem.W.kitOne K (.type "tuple") (.type "str") = some false from kit_ty (by decide +kernel))
  | list _ => exact (show PySem.W.kitOne K (.type "list") (.type "str") = some false from kit_ty (by decide +kernel))
  | str _ => exact absurd rfl n
  | dict _ => exact (show PySem.W.kitOne K (.type "dict") (.type "str") = some false from kit_ty (by decide +kernel))
theorem tuple_no {K : PySem.W.Frag} {d : PyData} (n : tyN d ≠ "tuple") : PySem.W.kitOne K (.type (tyN d)) (.type "tuple") = some false := by
  cases d with
  | none => exact (show PySem.W.kitOne K (.type "NoneType") (.type "tuple") = some false from kit_ty (by decide +kernel))
  | bool _ => exact (show PySem.W.kitOne K (.type "bool") (.type "tuple") = some false from kit_ty (by decide +kernel))
  | int _ => exact (show PySem.W.kitOne K (.type "int") (.type "tuple") = some false from kit_ty (by decide +kernel))
  | str _ => exact (show PySem.W.kitOne K (.type "str") (.type "tuple") = some false from kit_ty (by decide +kernel))
  | list _ => exact (show PySem.W.kitOne K (.type "list") (.type "tuple") = some false from kit_ty (by decide +kernel))
  | tuple _ => exact absurd rfl n
  | dict _ => exact (show PySem.W.kitOne K (.type "dict") (.type "tuple") = some false from kit_ty (by decide +kernel))
section
variable {P : Program} {w : World} {K : PySem.W.Frag} {mg : Str → Option Value} {base : Heap}
theorem ok_wordD (T : Top K mg) : FnOk P w K mg base CX0 1 T.a_is_word T.fd_is_word ["value", "characters"] (spWordD K) := by
  refine T.d_is_word.F.ok sc_is_word (fun vs H Q E h => ?_) (fun cdv A outer s H vs Q E hr h => ?_)
  · obtain ⟨v, d, z, rfl, _⟩ := h
    rfl
  obtain ⟨v0, d, z, rfl, hd, ho, q⟩ := h
  refine ⟨_, (pss_cons (ps_if (pt_not (pt_val (pe_callB (call_isi_K (K := K) (by rfl)) (by rfl) T.b_isinstance (by decide +kernel) (pa_cons (pv 0) (pa_cons (pe_tyN "str" (by rfl) T.b_str (by decide +kernel)) pa_nil))))) (pss_one (ps_ret pe_bl)) pss_nil)
    (pss_one (ps_ret (pe_and (pe_chain op_le op_le pe_int (pe_callB call_len_str (by rfl) T.b_len PySem.boot_len (pa_cons (pv 0) pa_nil)) (pe_gI rfl T.g_LONGEST)) (pe_one (pe_callB (cr_all_K (K := K) (by rfl) rfl) (by rfl) T.b_all (by decide +kernel) (pa_cons (pe_lc (own := [("character", 2)]) rfl sc_is_word.nd (pi_str (pv 0)) (blkOk_by (own := [("character", 2)]) (N := ["value", "characters", "character"]) (sc := defScope s_is_word) (by decide +kernel)) (fun _ _ _ _ _ => by exact (pg_name (i := 2) sc_is_word.nd rfl (Or.inl rfl))) (fun _ _ _ _ _ => by exact pts_nil) (fun _ _ _ _ _ => by exact (pe_cmpR op_in_sign (pv 2) (pv 1) (by rfl)))) pa_nil))))))), ?_⟩
  by_cases n : tyN d = "str"
  case neg =>
    refine ⟨_, rfl, _, _, _, _, false, rfl, .ty _, tyD hd, str_no n, _, rfl, iteT ?_⟩
    have e : nmD z d = false := by cases d <;> first | rfl | exact absurd rfl n
    exact e ▸ q _ (Same.refl _)
  obtain ⟨v, rfl⟩ : ∃ v, d = .str v := by cases d <;> first | exact ⟨_, rfl⟩ | (simp [tyN] at n)
  obtain rfl := dp_str hd
  have hl := okD_str_le ho
  have q : ∀ H', Same H H' → Q (.bl (wordB v z)) H' := q
  refine ⟨_, rfl, _, _, _, _, true, rfl, .ty _, .base (.str v), kit_ty (by decide +kernel), _, rfl, ?_⟩
  refine iteF ?_
  refine ⟨_, rfl, v, rfl, le_line hl, _, _, rfl, rfl, _, rfl, ?_⟩
  have no : ¬ (1 ≤ v.length ∧ v.length ≤ 8) → Q (.bl false) H := fun z => by
    have k := q H (Same.refl _)
    unfold wordB at k
    rw [decide_eq_false z] at k
    exact k
  refine ite3 (fun h1 => ?_) (fun h1 => ⟨false, rfl, iteF (no (by omega))⟩)
  refine ⟨_, _, rfl, rfl, _, rfl, ite3 (fun h2 => ?_) (fun h2 => no (by omega))⟩
  refine ⟨_, rfl, v, rfl, fun D nD => ?_⟩
  refine lc_it walk_str (fun i H' => Same H H' ∧ H' D = some (.lst ((((TL.tl v).map fun c => decide (c ∈ TL.tl z)).take i).map V.bl))) ⟨same_new nD, upd_same⟩ (fun _ _ _ _ => True.intro) ?_ ?_
  · rintro i y H' H'' hi ⟨s1, hDl⟩ ⟨rfl, c, ec, rfl⟩
    have ec' : (TL.tl v)[i]? = some c := by rw [← ec]; exact Array.getElem?_toList
    refine ⟨rfl, _, rfl, _, rfl, c, z, rfl, rfl, _, hDl, ?_, same_mut s1 nD, ?_⟩
    · rw [List.length_map, List.length_take]
      have : i < v.length := hi
      exact lt_line (by omega)
    · rw [upd_same, List.take_add_one, List.getElem?_map, ec', List.map_append]
      rfl
  · rintro H' ⟨s1, hDl⟩
    rw [List.take_of_length_le (by rw [List.length_map, ← TL.len_tl]; exact Nat.le_refl _)] at hDl
    refine ⟨D, _, rfl, SqL.of hDl, ?_⟩
    have k := q _ s1
    unfold wordB at k
    rw [decide_eq_true (show 1 ≤ v.length ∧ v.length ≤ 8 by omega)] at k
    rw [List.all_map]
    exact k
theorem ok_nameD (T : Top K mg) : FnOk P w K mg base CX0 2 T.a_is_name T.fd_is_name ["value"] (spNmD K letters) := by
  have G_is_word := ok_wordD (P := P) (w := w) (base := base) T
  refine T.d_is_name.F.ok sc_is_name (fun vs H Q E h => ?_) (fun cdv A outer s H vs Q E hr h => ?_)
  · obtain ⟨v, d, rfl, _⟩ := h
    rfl
  obtain ⟨v, d, rfl, hd, ho, q⟩ := h
  refine ⟨_, (pss_one (ps_ret (pe_call G_is_word (hr.mono (by decide)) (by rfl) T.d_is_word.g T.d_is_word.kp T.d_is_word.b .nil pass0 (pa_cons (pv 0) (pa_cons (pe_gS rfl T.g_LETTERS) pa_nil))))), ?_⟩
  exact ⟨_, rfl, v, d, letters, rfl, hd, ho, q⟩
theorem ok_optionD (T : Top K mg) : FnOk P w K mg base CX0 2 T.a_is_option T.fd_is_option ["value"] (spNmD K lettersD) := by
  have G_is_word := ok_wordD (P := P) (w := w) (base := base) T
  refine T.d_is_option.F.ok sc_is_option (fun vs H Q E h => ?_) (fun cdv A outer s H vs Q E hr h => ?_)
  · obtain ⟨v, d, rfl, _⟩ := h
    rfl
  obtain ⟨v, d, rfl, hd, ho, q⟩ := h
  refine ⟨_, (pss_one (ps_ret (pe_call G_is_word (hr.mono (by decide)) (by rfl) T.d_is_word.g T.d_is_word.kp T.d_is_word.b .nil pass0 (pa_cons (pv 0) (pa_cons (pe_gS rfl T.g_LETTERS_AND_DIGITS) pa_nil))))), ?_⟩
  exact ⟨_, rfl, v, d, lettersD, rfl, hd, ho, q⟩
theorem ok_tupD (T : Top K mg) : FnOk P w K mg base CX0 1 T.a_is_tuple T.fd_is_tuple ["value", "least", "most"] (spTupD K) := by
  refine T.d_is_tuple.F.ok sc_is_tuple (fun vs H Q E h => ?_) (fun cdv A outer s H vs Q E hr h => ?_)
  · obtain ⟨v, d, l, m, rfl, _⟩ := h
    rfl
  obtain ⟨v, d, l, m, rfl, hd, q⟩ := h
  refine ⟨_, (pss_one (ps_ret (pe_and (pe_callB (call_isi_K (K := K) (by rfl)) (by rfl) T.b_isinstance (by decide +kernel) (pa_cons (pv 0) (pa_cons (pe_tyN "tuple" (by rfl) T.b_tuple (by decide +kernel)) pa_nil))) (pe_one (pe_chain op_le op_le (pv 1) (pe_callB (call_len_seq_K (K := K) (by rfl)) (by rfl) T.b_len PySem.boot_len (pa_cons (pv 0) pa_nil)) (pv 2)))))), ?_⟩
  by_cases n : tyN d = "tuple"
  case neg =>
    have e : tupI l m d = false := by cases d <;> first | rfl | exact absurd rfl n
    exact ⟨_, rfl, _, _, _, _, false, rfl, .ty _, tyD hd, tuple_no n, _, rfl, iteF (e ▸ q)⟩
  obtain ⟨ds, rfl⟩ : ∃ ds, d = .tuple ds := by cases d <;> first | exact ⟨_, rfl⟩ | (simp [tyN] at n)
  obtain ⟨a, xs, rfl, hx, h2⟩ := dp_tup hd
  have q : Q (.bl (decide (l ≤ (ds.length : Int)) && decide ((ds.length : Int) ≤ m))) H := q
  rw [← DpAll.length h2] at q
  refine ⟨_, rfl, _, _, _, _, true, rfl, .ty _, tyT hx, kit_ty (by decide +kernel), _, rfl, iteT ?_⟩
  refine ⟨_, rfl, _, rfl, a, xs, rfl, .inr hx, _, _, rfl, rfl, _, rfl, ite3 (fun h1 => ?_) (fun h1 => ?_)⟩
  · rw [decide_eq_true h1] at q
    exact ⟨_, rfl, _, _, rfl, rfl, q⟩
  · rw [decide_eq_false h1] at q
    exact q
theorem ok_optsofD (T : Top K mg) : FnOk P w K mg base CX0 1 T.a_options_of T.fd_options_of ["fields", "name"] (spOptsOfD K) := by
  refine T.d_options_of.F.ok sc_options_of (fun vs H Q E h => ?_) (fun cdv A outer s H vs Q E hr h => ?_)
  · obtain ⟨v, t, fs, d, rfl, _⟩ := h
    rfl
  obtain ⟨v, x, fs, d0, rfl, ⟨a, xs, rfl, hS, hD⟩, hx, q⟩ := h
  refine ⟨_, (pss_cons (ps_for PassesOwn.never rfl (pi_seq_K (K := K) (by rfl) (pv 0)) (pg_tup_K (K := K) (by rfl) (n := 2) (by rfl) (pgs_cons (pg_name (i := 2) sc_options_of.nd rfl (Or.inl rfl)) (pgs_cons (pg_name (i := 3) sc_options_of.nd rfl (Or.inl rfl)) pgs_nil)))
      (pss_one (ps_if (pt_cmpR (op_eqP (K := K) (by rfl) hr.units) (pv 2) (pv 1) (nomark _)) (pss_one (ps_ret (pv 3))) pss_nil)))
    (pss_one (ps_ret (pe_tup pa_nil)))), ?_⟩
  have lx : xs.length = fs.length := by rw [DpAll.length hD, List.length_map]
  refine iSeqV rfl hS fun J G wk hG => for_it wk (fun i σ H' => ∃ k o, σ = [some (.ref a), some x, k, o] ∧ H' = H ∧ ∀ (j : Nat) (f : Fld), j < i → fs[j]? = some f → PyData.eqv (.str f.1) d0 = false)
    ⟨none, none, rfl, rfl, fun j f h => absurd h (Nat.not_lt_zero j)⟩ (fun i σ H' _ ⟨_, _, _, e, _⟩ => by rw [e]; exact hG _ (Same.refl _)) ?_ ?_
  · rintro i y σ H' H'' hi ⟨k, o, rfl, rfl, hno⟩ ⟨rfl, ey⟩
    obtain ⟨d, e1, e2⟩ := DpAll.get hD ey
    rw [List.getElem?_map] at e1
    cases ef : fs[i]? with
    | none =>
      rw [ef] at e1
      cases e1
    | some f =>
      rw [ef] at e1
      cases e1
      obtain ⟨t, o, rfl, k1, k2⟩ := dp_dF e2
      refine ⟨t, _, rfl, k1, rfl, _, _, rfl, _, _, rfl, rfl, ?_⟩
      refine ⟨_, rfl, _, rfl, .str f.1, d0, .str _, hx, Nat.le_trans (Nat.min_le_left _ _) (Nat.zero_le _), _, rfl, iteB (fun z => ?_) (fun z => ?_)⟩
      · refine ⟨_, rfl, q o _ (Same.refl _) ?_⟩
        rw [optsD_at ef z hno]
        exact k2
      · refine ⟨_, _, rfl, rfl, fun j g hj hg => ?_⟩
        by_cases hji : j = i
        · rw [hji, ef] at hg
          cases hg
          exact z
        · exact hno j g (by omega) hg
  · rintro σ H' ⟨k, o, rfl, rfl, hno⟩
    have e : optsD fs d0 = [] := optsD_none fun j g hg => hno j g (by rw [lx]; exact (List.getElem?_eq_some_iff.mp hg).1) hg
    refine ⟨Nat.zero_le _, fun t nt => q t _ (same_new nt) ?_⟩
    rw [e]
    exact SqT.of upd_same
theorem ok_istestD (T : Top K mg) : FnOk P w K mg base CX0 2 T.a_is_test T.fd_is_test ["fields", "value"] (spChkD K testD) := by
  have G_is_tuple := ok_tupD (P := P) (w := w) (base := base) T
  have G_options_of := ok_optsofD (P := P) (w := w) (base := base) T
  refine T.d_is_test.F.ok sc_is_test (fun vs H Q E h => ?_) (fun cdv A outer s H vs Q E hr h => ?_)
  · obtain ⟨v, t, fs, d, rfl, _⟩ := h
    rfl
  obtain ⟨v, t, fs, d, rfl, hv, fb, ht, ho, q⟩ := h
  refine ⟨_, (pss_one (ps_ret (pe_and (pe_call G_is_tuple (hr.mono (by decide)) (by rfl) T.d_is_tuple.g T.d_is_tuple.kp T.d_is_tuple.b .nil pass0 (pa_cons (pv 1) (pa_cons pe_int (pa_cons pe_int pa_nil)))) (pe_and (pe_cmpR (op_inS (K := K) (by rfl) hr.units) (pe_ix (ix_tup_K (K := K) (by rfl)) (pv 1) pe_int (fun _ _ => rfl)) (pe_gR rfl T.g_SIGNS) (by rfl)) (pe_one (pe_cmpR (op_inS (K := K) (by rfl) hr.units) (pe_ix (ix_tup_K (K := K) (by rfl)) (pv 1) pe_int (fun _ _ => rfl)) (pe_call G_options_of (hr.mono (by decide)) (by rfl) T.d_options_of.g T.d_options_of.kp T.d_options_of.b .nil pass0 (pa_cons (pv 0) (pa_cons (pe_ix (ix_tup_K (K := K) (by rfl)) (pv 1) pe_int (fun _ _ => rfl)) pa_nil))) (by rfl))))))), ?_⟩
  have fin : ∀ b H', testD fs d = b → Same H H' → Q (.bl b) H' := fun b H' e s => e ▸ q H' s
  refine ⟨_, rfl, t, d, 3, 3, rfl, ht, _, rfl, iteB (fun z => ?_) (fun z => fin _ _ (testD_no z) (Same.refl _))⟩
  obtain ⟨d1, d2, d3, rfl⟩ := tup_three z
  obtain ⟨a, xs, rfl, h1, h2⟩ := dp_tup ht
  obtain ⟨x1, r1, rfl, e1, h2⟩ := dpa_cons h2
  obtain ⟨x2, r2, rfl, e2, h2⟩ := dpa_cons h2
  obtain ⟨x3, r3, rfl, e3, h2⟩ := dpa_cons h2
  obtain rfl := dpa_nil h2
  refine ⟨_, rfl, a, _, (1 : Int), x2, rfl, rfl, h1, at_nn (by decide) rfl, d2, T.a_SIGNS, signs, e2, rfl, .inr (T.k_SIGNS H), _, rfl, iteB (fun z2 => ?_) (fun z2 => fin _ _ (by show (membD signs d2 && _) = false; rw [z2]; rfl) (Same.refl _))⟩
  refine ⟨_, rfl, a, _, (2 : Int), x3, rfl, rfl, h1, at_nn (by decide) rfl, _, rfl, _, rfl, a, _, (0 : Int), x1, rfl, rfl, h1, at_nn (by decide) rfl, ?_⟩
  refine ⟨v, x1, fs, d1, rfl, hv, e1, fun o H1 s1 ho => ⟨d3, o, _, Dp.mono s1 e3, rfl, .inr ho, ?_⟩⟩
  exact fin _ _ (by show (membD signs d2 && _) = _; rw [z2]; rfl) s1
theorem ok_isstepD (T : Top K mg) : FnOk P w K mg base CX0 2 T.a_is_step T.fd_is_step ["fields", "value"] (spChkD K stepD) := by
  have G_is_tuple := ok_tupD (P := P) (w := w) (base := base) T
  have G_options_of := ok_optsofD (P := P) (w := w) (base := base) T
  have G_names_of := ok_namesof (P := P) (w := w) (base := base) T
  refine T.d_is_step.F.ok sc_is_step (fun vs H Q E h => ?_) (fun cdv A outer s H vs Q E hr h => ?_)
  · obtain ⟨v, t, fs, d, rfl, _⟩ := h
    rfl
  obtain ⟨v, t, fs, d, rfl, hv, fb, ht, ho, q⟩ := h
  refine ⟨_, (pss_cons (ps_if (pt_not (pt_val (pe_call G_is_tuple (hr.mono (by decide)) (by rfl) T.d_is_tuple.g T.d_is_tuple.kp T.d_is_tuple.b .nil pass0 (pa_cons (pv 1) (pa_cons pe_int (pa_cons pe_int pa_nil)))))) (pss_one (ps_ret pe_bl)) pss_nil)
    (pss_one (ps_ret (pe_and (pe_cmpR (op_inS (K := K) (by rfl) hr.units) (pe_ix (ix_tup_K (K := K) (by rfl)) (pv 1) pe_int (fun _ _ => rfl)) (pe_tup (pa_cons (pe_gS rfl T.g_NEXT) (pa_starK (K := K) (by rfl) (pe_call G_options_of (hr.mono (by decide)) (by rfl) T.d_options_of.g T.d_options_of.kp T.d_options_of.b .nil pass0 (pa_cons (pv 0) (pa_cons (pe_ix (ix_tup_K (K := K) (by rfl)) (pv 1) pe_int (fun _ _ => rfl)) pa_nil))) pa_nil))) (by rfl)) (pe_one (pe_cmpR (op_inS (K := K) (by rfl) hr.units) (pe_ix (ix_tup_K (K := K) (by rfl)) (pv 1) pe_int (fun _ _ => rfl)) (pe_call G_names_of (hr.mono (by decide)) (by rfl) T.d_names_of.g T.d_names_of.kp T.d_names_of.b .nil pass0 (pa_cons (pv 0) pa_nil)) (by rfl))))))), ?_⟩
  have fin : ∀ b H', stepD fs d = b → Same H H' → Q (.bl b) H' := fun b H' e s => e ▸ q H' s
  refine ⟨_, rfl, t, d, 2, 2, rfl, ht, _, rfl, iteB (fun z => fin _ _ (stepD_no (nb1 z)) (Same.refl _)) (fun z => ?_)⟩
  obtain ⟨d1, d2, rfl⟩ := tup_two (nb0 z)
  obtain ⟨a, xs, rfl, h1, h2⟩ := dp_tup ht
  obtain ⟨x1, r1, rfl, e1, h2⟩ := dpa_cons h2
  obtain ⟨x2, r2, rfl, e2, h2⟩ := dpa_cons h2
  obtain rfl := dpa_nil h2
  refine ⟨_, rfl, a, _, (1 : Int), x2, rfl, rfl, h1, at_nn (by decide) rfl, ?_⟩
  refine ⟨_, rfl, _, rfl, a, _, (0 : Int), x1, rfl, rfl, h1, at_nn (by decide) rfl, v, x1, fs, d1, rfl, hv, e1, fun o H0 s0 ho2 => ⟨o, _, rfl, .inl ho2, ?_⟩⟩
  have lo : (optsD fs d1).length ≤ 1000 := by
    unfold optsD
    split
    · rename_i f hf
      exact fb.os f (List.mem_of_find?_eq_some hf)
    · exact Nat.zero_le _
  have le : V.str "+" :: ((optsD fs d1).map V.str ++ []) = (("+" : Str) :: optsD fs d1).map V.str := by rw [List.append_nil]; rfl
  refine ⟨(by rw [le, List.length_map]; show (optsD fs d1).length + 1 ≤ sizeLine; exact le_line (by omega)), fun p np => ?_⟩
  have s1 := s0.trans (same_new (o := .tup (V.str "+" :: ((optsD fs d1).map V.str ++ []))) np)
  have hp : upd H0 p (.tup (V.str "+" :: ((optsD fs d1).map V.str ++ []))) p = some (.tup ((("+" : Str) :: optsD fs d1).map V.str)) := by rw [upd_same, le]
  refine ⟨d2, p, _, Dp.mono s1 e2, rfl, .inr (SqT.of hp), _, rfl, iteB (fun z2 => ?_) (fun z2 => fin _ _ (by show (membD ("+" :: optsD fs d1) d2 && _) = false; rw [z2]; rfl) s1)⟩
  have hns := HdS.of hv (fun d hd => by
    obtain ⟨f, _, rfl⟩ := List.mem_map.mp hd
    exact named_dF f)
  rw [List.map_map] at hns
  refine ⟨_, rfl, a, _, (0 : Int), x1, rfl, rfl, Same.tup s1 h1, at_nn (by decide) rfl, ?_⟩
  refine ⟨_, rfl, v, fs.map (·.1), rfl, hns.mono s1, by rw [List.length_map]; exact fb.len, fun p2 H2 _ s2 hp2 => ?_⟩
  refine ⟨d1, p2, _, Dp.mono (s1.trans s2) e1, rfl, .inl (SqL.of hp2), ?_⟩
  exact fin _ _ (by show (membD ("+" :: optsD fs d1) d2 && _) = _; rw [z2]; rfl) (s1.trans s2)
theorem ok_iscaseD (T : Top K mg) : FnOk P w K mg base CX0 3 T.a_is_case T.fd_is_case ["fields", "value"] (spChkD K caseD) := by
  have G_is_tuple := ok_tupD (P := P) (w := w) (base := base) T
  have G_is_test := ok_istestD (P := P) (w := w) (base := base) T
  have G_is_step := ok_isstepD (P := P) (w := w) (base := base) T
  refine T.d_is_case.F.ok sc_is_case (fun vs H Q E h => ?_) (fun cdv A outer s H vs Q E hr h => ?_)
  · obtain ⟨v, t, fs, d, rfl, _⟩ := h
    rfl
  obtain ⟨v, t, fs, d, rfl, hv, fb, ht, ho, q⟩ := h
  refine ⟨_, (pss_cons (ps_if (pt_not (pt_val (pe_call G_is_tuple (hr.mono (by decide)) (by rfl) T.d_is_tuple.g T.d_is_tuple.kp T.d_is_tuple.b .nil pass0 (pa_cons (pv 1) (pa_cons pe_int (pa_cons pe_int pa_nil)))))) (pss_one (ps_ret pe_bl)) pss_nil)
    (pss_cons (ps_asg (pv 1) (pg_tup_K (K := K) (by rfl) (n := 2) (by rfl) (pgs_cons (pg_name (i := 2) sc_is_case.nd rfl (Or.inl rfl)) (pgs_cons (pg_name (i := 3) sc_is_case.nd rfl (Or.inl rfl)) pgs_nil))))
    (pss_cons (ps_if (PW.pt (pw_or (pt_not (pt_val (pe_call G_is_tuple (hr.mono (by decide)) (by rfl) T.d_is_tuple.g T.d_is_tuple.kp T.d_is_tuple.b .nil pass0 (pa_cons (pv 2) (pa_cons pe_int (pa_cons (pe_gI rfl T.g_MOST_ITEMS) pa_nil)))))) (pw_or1 (pt_not (pt_val (pe_callB (cr_all_K (K := K) (by rfl) rfl) (by rfl) T.b_all (by decide +kernel) (pa_cons (pe_lc (own := [("test", 4)]) rfl sc_is_case.nd (pi_tup_K (K := K) (by rfl) (pv 2)) (blkOk_by (own := [("test", 4)]) (N := ["fields", "value", "tests", "steps", "test", "step"]) (sc := defScope s_is_case) (by decide +kernel)) (fun _ _ _ _ _ => by exact (pg_name (i := 4) sc_is_case.nd rfl (Or.inl rfl))) (fun _ _ _ _ _ => by exact pts_nil) (fun _ _ _ _ _ => by exact (pe_call G_is_test (hr.mono (by decide)) (by rfl) T.d_is_test.g T.d_is_test.kp T.d_is_test.b .nil pass0 (pa_cons (pv 0) (pa_cons (pv 4) pa_nil))))) pa_nil))))))) (pss_one (ps_ret pe_bl)) pss_nil)
    (pss_one (ps_ret (L2.pe_or (pe_cmpR op_isN (pv 3) pe_non (nomark _)) (pe_one (pe_and (pe_call G_is_tuple (hr.mono (by decide)) (by rfl) T.d_is_tuple.g T.d_is_tuple.kp T.d_is_tuple.b .nil pass0 (pa_cons (pv 3) (pa_cons pe_int (pa_cons (pe_gI rfl T.g_MOST_ITEMS) pa_nil)))) (pe_one (pe_callB (cr_all_K (K := K) (by rfl) rfl) (by rfl) T.b_all (by decide +kernel) (pa_cons (pe_lc (own := [("step", 5)]) rfl sc_is_case.nd (pi_tup_K (K := K) (by rfl) (pv 3)) (blkOk_by (own := [("step", 5)]) (N := ["fields", "value", "tests", "steps", "test", "step"]) (sc := defScope s_is_case) (by decide +kernel)) (fun _ _ _ _ _ => by exact (pg_name (i := 5) sc_is_case.nd rfl (Or.inl rfl))) (fun _ _ _ _ _ => by exact pts_nil) (fun _ _ _ _ _ => by exact (pe_call G_is_step (hr.mono (by decide)) (by rfl) T.d_is_step.g T.d_is_step.kp T.d_is_step.b .nil pass0 (pa_cons (pv 0) (pa_cons (pv 5) pa_nil))))) pa_nil))))))))))), ?_⟩
  have fin : ∀ b H', caseD fs d = b → Same H H' → Q (.bl b) H' := fun b H' e s => e ▸ q H' s
  refine ⟨_, rfl, t, d, 2, 2, rfl, ht, _, rfl, iteB (fun z => fin _ _ (caseD_no (nb1 z)) (Same.refl _)) (fun z => ?_)⟩
  obtain ⟨d1, d2, rfl⟩ := tup_two (nb0 z)
  obtain ⟨a, xs, rfl, h1, h2⟩ := dp_tup ht
  obtain ⟨x1, r1, rfl, e1, h2⟩ := dpa_cons h2
  obtain ⟨x2, r2, rfl, e2, h2⟩ := dpa_cons h2
  obtain rfl := dpa_nil h2
  have o1 : okD d1 = true := okDs_mem (ds := [d1, d2]) ho (List.mem_cons_self ..)
  have o2 : okD d2 = true := okDs_mem (ds := [d1, d2]) ho (List.mem_cons_of_mem _ (List.mem_cons_self ..))
  refine ⟨_, rfl, a, _, rfl, h1, rfl, _, _, rfl, _, _, rfl, rfl, ?_⟩
  refine ⟨_, rfl, x1, d1, 0, 6, rfl, e1, _, rfl, iteB (fun z1 => ?_) (fun z1 => ?_)⟩
  · refine fin _ _ ?_ (Same.refl _)
    show (testsD fs d1 && _) = false
    rw [testsD_no (nb1 z1)]
    rfl
  obtain ⟨ts, rfl, _, l6⟩ := tupI_of (nb0 z1)
  obtain ⟨tt, us, rfl, ht1, ht2⟩ := dp_tup e1
  have lt : us.length = ts.length := DpAll.length ht2
  refine ⟨_, rfl, tt, rfl, ⟨_, ht1⟩, fun D nD => ?_⟩
  refine lc_bools (getB (testD fs) ts) walk_tup nD (by omega) (fun H' s => Same.tup s ht1) (fun i x H' R R' ex s1 k => ?_) (fun H1 s1 hD => ?_)
  · obtain ⟨d, g1, g2⟩ := DpAll.get ht2 ex
    rw [getB_at g1] at k
    exact ⟨rfl, _, rfl, _, rfl, v, x, fs, d, rfl, hv.mono s1, fb, Dp.mono s1 g2, okDs_mem (ds := ts) o1 (List.mem_of_getElem? g1), k⟩
  refine ⟨D, _, rfl, SqL.of hD, ?_⟩
  rw [lt, all_getB]
  have dl : decide (ts.length ≤ 6) = true := decide_eq_true (by omega)
  refine ⟨_, rfl, iteB (fun z2 => fin _ _ ?_ s1) (fun z2 => ?_)⟩
  · show ((decide (ts.length ≤ 6) && ts.all (testD fs)) && _) = false
    rw [nb1 z2, Bool.and_false]
    rfl
  have eT : testsD fs (.tuple ts) = true := by
    show (decide (ts.length ≤ 6) && ts.all (testD fs)) = true
    rw [nb0 z2, dl]
    rfl
  by_cases hn : d2 = .none
  · subst hn
    obtain rfl := dp_non e2
    refine ⟨_, rfl, rfl, _, rfl, iteY rfl (fin _ _ ?_ s1)⟩
    show (testsD fs (.tuple ts) && true) = true
    rw [eT]
    rfl
  · have xn : x2 ≠ .non := fun z => by
      subst z
      cases e2
      exact hn rfl
    refine ⟨_, rfl, rfl, _, rfl, iteN xn ?_⟩
    refine ⟨_, rfl, x2, d2, 0, 6, rfl, Dp.mono s1 e2, _, rfl, iteB (fun z3 => ?_) (fun z3 => fin _ _ ?_ s1)⟩
    · obtain ⟨ss, rfl, _, l62⟩ := tupI_of z3
      obtain ⟨t2, ys, rfl, g1, g2⟩ := dp_tup e2
      have lu : ys.length = ss.length := DpAll.length g2
      refine ⟨_, rfl, t2, rfl, ⟨_, Same.tup s1 g1⟩, fun D2 nD2 => ?_⟩
      refine lc_bools (getB (stepD fs) ss) walk_tup nD2 (by omega) (fun H' s => Same.tup (s1.trans s) g1) (fun i x H' R R' ex s2 k => ?_) (fun H2 s2 hD2 => ?_)
      · obtain ⟨d, f1, f2⟩ := DpAll.get g2 ex
        rw [getB_at f1] at k
        exact ⟨rfl, _, rfl, _, rfl, v, x, fs, d, rfl, hv.mono (s1.trans s2), fb, Dp.mono (s1.trans s2) f2, okDs_mem (ds := ss) o2 (List.mem_of_getElem? f1), k⟩
      refine ⟨D2, _, rfl, SqL.of hD2, ?_⟩
      rw [lu, all_getB]
      refine fin _ _ ?_ (s1.trans s2)
      show (testsD fs (.tuple ts) && (decide (ss.length ≤ 6) && ss.all (stepD fs))) = _
      rw [eT, decide_eq_true (show ss.length ≤ 6 by omega)]
      rfl
    · show (testsD fs (.tuple ts) && stepsD fs d2) = _
      rw [stepsD_no hn z3, Bool.and_false]
theorem ok_isprogD (T : Top K mg) : FnOk P w K mg base CX0 4 T.a_is_program T.fd_is_program ["fields", "value"] (spChkD K progD) := by
  have G_is_tuple := ok_tupD (P := P) (w := w) (base := base) T
  have G_is_case := ok_iscaseD (P := P) (w := w) (base := base) T
  refine T.d_is_program.F.ok sc_is_program (fun vs H Q E h => ?_) (fun cdv A outer s H vs Q E hr h => ?_)
  · obtain ⟨v, t, fs, c, rfl, _⟩ := h
    rfl
  obtain ⟨v, t, fs, d, rfl, hv, fb, ht, ho, q⟩ := h
  refine ⟨_, (pss_one (ps_ret (pe_and (pe_call G_is_tuple (hr.mono (by decide)) (by rfl) T.d_is_tuple.g T.d_is_tuple.kp T.d_is_tuple.b .nil pass0 (pa_cons (pv 1) (pa_cons pe_int (pa_cons (pe_gI rfl T.g_MOST_CASES) pa_nil)))) (pe_one (pe_callB (cr_all_K (K := K) (by rfl) rfl) (by rfl) T.b_all (by decide +kernel) (pa_cons (pe_lc (own := [("case", 2)]) rfl sc_is_program.nd (pi_tup_K (K := K) (by rfl) (pv 1)) (blkOk_by (own := [("case", 2)]) (N := ["fields", "value", "case"]) (sc := defScope s_is_program) (by decide +kernel)) (fun _ _ _ _ _ => by exact (pg_name (i := 2) sc_is_program.nd rfl (Or.inl rfl))) (fun _ _ _ _ _ => by exact pts_nil) (fun _ _ _ _ _ => by exact (pe_call G_is_case (hr.mono (by decide)) (by rfl) T.d_is_case.g T.d_is_case.kp T.d_is_case.b .nil pass0 (pa_cons (pv 0) (pa_cons (pv 2) pa_nil))))) pa_nil)))))), ?_⟩
  have fin : ∀ b H', progD fs d = b → Same H H' → Q (.bl b) H' := fun b H' e s => e ▸ q H' s
  refine ⟨_, rfl, t, d, 1, 8, rfl, ht, _, rfl, iteB (fun z => ?_) (fun z => fin _ _ (progD_no z) (Same.refl _))⟩
  obtain ⟨ds, rfl, _, l8⟩ := tupI_of z
  obtain ⟨a, xs, rfl, h1, h2⟩ := dp_tup ht
  have lx : xs.length = ds.length := DpAll.length h2
  refine ⟨_, rfl, a, rfl, ⟨_, h1⟩, fun D nD => ?_⟩
  refine lc_bools (getB (caseD fs) ds) walk_tup nD (by omega) (fun H' s => Same.tup s h1) (fun i x H' R R' ex s1 k => ?_) (fun H1 s1 hD => ?_)
  · obtain ⟨d, g1, g2⟩ := DpAll.get h2 ex
    rw [getB_at g1] at k
    exact ⟨rfl, _, rfl, _, rfl, v, x, fs, d, rfl, hv.mono s1, fb, Dp.mono s1 g2, okDs_mem (ds := ds) ho (List.mem_of_getElem? g1), k⟩
  refine ⟨D, _, rfl, SqL.of hD, ?_⟩
  rw [lx, all_getB]
  refine fin _ _ ?_ s1
  show (tupI 1 8 (.tuple ds) && ds.all (caseD fs)) = _
  rw [z]
  rfl
theorem ok_isvalueD (T : Top K mg) : FnOk P w K mg base CX0 2 T.a_is_value T.fd_is_value ["fields", "value"] (spChkD K valD) := by
  have G_is_tuple := ok_tupD (P := P) (w := w) (base := base) T
  refine T.d_is_value.F.ok sc_is_value (fun vs H Q E h => ?_) (fun cdv A outer s H vs Q E hr h => ?_)
  · obtain ⟨v, t, fs, d, rfl, _⟩ := h
    rfl
  obtain ⟨v, t, fs, d, rfl, hv, fb, ht, ho, q⟩ := h
  have l2 := fb.len
  refine ⟨_, (pss_cons (ps_if (pt_not (pt_val (pe_call G_is_tuple (hr.mono (by decide)) (by rfl) T.d_is_tuple.g T.d_is_tuple.kp T.d_is_tuple.b .nil pass0 (pa_cons (pv 1) (pa_cons (pe_callB (call_len_seq_K (K := K) (by rfl)) (by rfl) T.b_len PySem.boot_len (pa_cons (pv 0) pa_nil)) (pa_cons (pe_callB (call_len_seq_K (K := K) (by rfl)) (by rfl) T.b_len PySem.boot_len (pa_cons (pv 0) pa_nil)) pa_nil)))))) (pss_one (ps_ret pe_bl)) pss_nil)
    (pss_one (ps_ret (pe_callB (cr_all_K (K := K) (by rfl) rfl) (by rfl) T.b_all (by decide +kernel) (pa_cons (pe_lc (own := [("option", 2), ("_", 3), ("options", 4)]) rfl sc_is_value.nd (pi_zipM (K := K) (by rfl) (by rfl) T.b_zip (pa_cons (pv 1) (pa_cons (pv 0) pa_nil))) (blkOk_by (own := [("option", 2), ("_", 3), ("options", 4)]) (N := ["fields", "value", "option", "_", "options"]) (sc := defScope s_is_value) (by decide +kernel)) (fun _ _ _ _ _ => by exact (pg_tup_K (K := K) (by rfl) (n := 2) (by rfl) (pgs_cons (pg_name (i := 2) sc_is_value.nd rfl (Or.inl rfl)) (pgs_cons (pg_tup_K (K := K) (by rfl) (n := 2) (by rfl) (pgs_cons (pg_name (i := 3) sc_is_value.nd rfl (Or.inl rfl)) (pgs_cons (pg_name (i := 4) sc_is_value.nd rfl (Or.inl rfl)) pgs_nil))) pgs_nil)))) (fun _ _ _ _ _ => by exact pts_nil) (fun _ _ _ _ _ => by exact (pe_cmpR (op_inS (K := K) (by rfl) hr.units) (pv 2) (pv 4) (by rfl)))) pa_nil))))), ?_⟩
  have fin : ∀ b H', valD fs d = b → Same H H' → Q (.bl b) H' := fun b H' e s => e ▸ q H' s
  obtain ⟨av, vs', rfl, hS, hD⟩ := id hv
  have lv : vs'.length = fs.length := by rw [DpAll.length hD, List.length_map]
  refine ⟨_, rfl, _, rfl, av, vs', rfl, hS, _, rfl, av, vs', rfl, hS, t, d, (vs'.length : Int), (vs'.length : Int), rfl, ht, _, rfl, iteB (fun z => fin _ _ (valD_no (by rw [← lv]; exact nb1 z)) (Same.refl _)) (fun z => ?_)⟩
  obtain ⟨ds, rfl, k1, k2⟩ := tupI_of (nb0 z)
  obtain ⟨a, xs, rfl, h1, h2⟩ := dp_tup ht
  have lx : xs.length = ds.length := DpAll.length h2
  refine ⟨_, rfl, _, rfl, a, av, _, vs', rfl, h1, hS, fun J wk D nD => ?_⟩
  have lm : min xs.length vs'.length = fs.length := by omega
  rw [lm] at wk
  refine lc_boolsP (b := valI fs ds) wk nD (by omega) (fun H' s => s) (fun i x y T0 H' R R' ex ey s1 nT k => ?_) (fun H1 s1 hD1 => ?_)
  · obtain ⟨dy, g1, g2⟩ := DpAll.get hD ey
    obtain ⟨dx, f1, f2⟩ := DpAll.get h2 ex
    rw [List.getElem?_map] at g1
    cases ef : fs[i]? with
    | none => rw [ef] at g1; cases g1
    | some f =>
      rw [ef] at g1
      cases g1
      have s2 := s1.trans (same_new (o := .tup [x, y]) nT)
      obtain ⟨t2, o2, rfl, k1, k2⟩ := dp_dF (Dp.mono s2 g2)
      refine ⟨T0, _, rfl, SqT.of upd_same, rfl, _, _, rfl, _, _, rfl, t2, _, rfl, k1, rfl, _, _, rfl, _, _, rfl, rfl, rfl, rfl, ?_⟩
      refine ⟨_, rfl, _, rfl, dx, o2, _, Dp.mono s2 f2, rfl, .inr k2, ?_⟩
      have k := k _ (Same.refl _)
      unfold valI at k
      simp only [ef, f1] at k
      exact k
  refine ⟨D, _, rfl, SqL.of hD1, ?_⟩
  refine fin _ _ ?_ s1
  show (decide (ds.length = fs.length) && _) = _
  rw [decide_eq_true (show ds.length = fs.length by omega)]
  rfl
theorem ok_isholdingD (T : Top K mg) : FnOk P w K mg base CX0 3 T.a_is_holding T.fd_is_holding ["fields", "value"] (spChkD K holdD) := by
  have G_is_value := ok_isvalueD (P := P) (w := w) (base := base) T
  refine T.d_is_holding.F.ok sc_is_holding (fun vs H Q E h => ?_) (fun cdv A outer s H vs Q E hr h => ?_)
  · obtain ⟨v, t, fs, d, rfl, _⟩ := h
    rfl
  obtain ⟨v, t, fs, d, rfl, hv, fb, ht, ho, q⟩ := h
  refine ⟨_, (pss_one (ps_ret (L2.pe_or (pe_cmpR op_isN (pv 1) pe_non (nomark _)) (pe_one (pe_call G_is_value (hr.mono (by decide)) (by rfl) T.d_is_value.g T.d_is_value.kp T.d_is_value.b .nil pass0 (pa_cons (pv 0) (pa_cons (pv 1) pa_nil))))))), ?_⟩
  by_cases hn : d = .none
  · subst hn
    obtain rfl := dp_non ht
    exact ⟨_, rfl, rfl, _, rfl, iteY rfl (q _ (Same.refl _))⟩
  · have ne : t ≠ .non := fun z => by
      subst z
      cases ht
      exact hn rfl
    have e : holdD fs d = valD fs d := by cases d <;> first | rfl | exact absurd rfl hn
    rw [e] at q
    exact ⟨_, rfl, rfl, _, rfl, iteN ne ⟨_, rfl, _, rfl, v, t, fs, d, rfl, hv, fb, ht, ho, q⟩⟩
theorem ok_iskeyD (T : Top K mg) : FnOk P w K mg base CX0 2 T.a_is_key T.fd_is_key ["fields", "value"] (spChkD K keyD) := by
  have G_is_tuple := ok_tupD (P := P) (w := w) (base := base) T
  have G_names_of := ok_namesof (P := P) (w := w) (base := base) T
  refine T.d_is_key.F.ok sc_is_key (fun vs H Q E h => ?_) (fun cdv A outer s H vs Q E hr h => ?_)
  · obtain ⟨v, t, fs, d, rfl, _⟩ := h
    rfl
  obtain ⟨v, t, fs, d, rfl, hv, fb, ht, ho, q⟩ := h
  refine ⟨_, (pss_one (ps_ret (pe_and (pe_call G_is_tuple (hr.mono (by decide)) (by rfl) T.d_is_tuple.g T.d_is_tuple.kp T.d_is_tuple.b .nil pass0 (pa_cons (pv 1) (pa_cons pe_int (pa_cons pe_int pa_nil)))) (pe_and (pe_cmpR (op_inS (K := K) (by rfl) hr.units) (pe_ix (ix_tup_K (K := K) (by rfl)) (pv 1) pe_int (fun _ _ => rfl)) (pe_call G_names_of (hr.mono (by decide)) (by rfl) T.d_names_of.g T.d_names_of.kp T.d_names_of.b .nil pass0 (pa_cons (pv 0) pa_nil)) (by rfl)) (pe_one (pe_cmpR (op_inS (K := K) (by rfl) hr.units) (pe_ix (ix_tup_K (K := K) (by rfl)) (pv 1) pe_int (fun _ _ => rfl)) (pe_gR rfl T.g_DIRECTIONS) (by rfl))))))), ?_⟩
  have fin : ∀ b H', keyD fs d = b → Same H H' → Q (.bl b) H' := fun b H' e s => e ▸ q H' s
  refine ⟨_, rfl, t, d, 2, 2, rfl, ht, _, rfl, iteB (fun z => ?_) (fun z => fin _ _ (keyD_no z) (Same.refl _))⟩
  obtain ⟨d1, d2, rfl⟩ := tup_two z
  obtain ⟨a, xs, rfl, h1, h2⟩ := dp_tup ht
  obtain ⟨x1, r1, rfl, e1, h2⟩ := dpa_cons h2
  obtain ⟨x2, r2, rfl, e2, h2⟩ := dpa_cons h2
  obtain rfl := dpa_nil h2
  have hns := HdS.of hv (fun d hd => by
    obtain ⟨f, _, rfl⟩ := List.mem_map.mp hd
    exact named_dF f)
  rw [List.map_map] at hns
  refine ⟨_, rfl, a, _, (0 : Int), x1, rfl, rfl, h1, at_nn (by decide) rfl, ?_⟩
  refine ⟨_, rfl, v, fs.map (·.1), rfl, hns, by rw [List.length_map]; exact fb.len, fun p2 H2 _ s2 hp2 => ?_⟩
  refine ⟨d1, p2, _, Dp.mono s2 e1, rfl, .inl (SqL.of hp2), _, rfl, iteB (fun z2 => ?_) (fun z2 => fin _ _ (by show (membD (fs.map (·.1)) d1 && _) = false; rw [z2]; rfl) s2)⟩
  refine ⟨_, rfl, a, _, (1 : Int), x2, rfl, rfl, Same.tup s2 h1, at_nn (by decide) rfl, d2, T.a_DIRECTIONS, ["+", "-"], Dp.mono s2 e2, rfl, .inr (T.k_DIRECTIONS _), ?_⟩
  exact fin _ _ (by show (membD (fs.map (·.1)) d1 && _) = _; rw [z2]; rfl) s2
theorem ok_namefitD (T : Top K mg) : FnOk P w K mg base CX0 3 T.a_name_fits T.fd_name_fits ["before", "name", "most"] (spNameFitD K) := by
  have G_is_name := ok_nameD (P := P) (w := w) (base := base) T
  have G_names_of := ok_namesof (P := P) (w := w) (base := base) T
  refine T.d_name_fits.F.ok sc_name_fits (fun vs H Q E h => ?_) (fun cdv A outer s H vs Q E hr h => ?_)
  · obtain ⟨v, t, ns, d, m, rfl, _⟩ := h
    rfl
  obtain ⟨v, t, ns, d, m, rfl, hv, hl, ht, ho, q⟩ := h
  refine ⟨_, (pss_one (ps_ret (pe_and (pe_cmpR op_lt (pe_callB (call_len_seq_K (K := K) (by rfl)) (by rfl) T.b_len PySem.boot_len (pa_cons (pv 0) pa_nil)) (pv 2) (nomark _)) (pe_and (pe_call G_is_name (hr.mono (by decide)) (by rfl) T.d_is_name.g T.d_is_name.kp T.d_is_name.b .nil pass0 (pa_cons (pv 1) pa_nil)) (pe_one (pe_cmpR (op_notIn_seq_K (K := K) (by rfl)) (pv 1) (pe_call G_names_of (hr.mono (by decide)) (by rfl) T.d_names_of.g T.d_names_of.kp T.d_names_of.b .nil pass0 (pa_cons (pv 0) pa_nil)) (by rfl))))))), ?_⟩
  have fin : ∀ b H', nameFitD ns m d = b → Same H H' → Q (.bl b) H' := fun b H' e s => e ▸ q H' s
  obtain ⟨a, xs, rfl, hx, hp⟩ := id hv
  have lx : xs.length = ns.length := hp.length
  refine ⟨_, rfl, a, xs, rfl, hx, _, rfl, _, _, rfl, rfl, _, rfl, ite3 (fun z => ?_) (fun z => fin _ _ ?_ (Same.refl _))⟩
  · refine ⟨_, rfl, t, d, rfl, ht, ho, fun H1 s1 => ?_⟩
    refine ⟨_, rfl, iteB (fun z2 => ?_) (fun z2 => fin _ _ ?_ s1)⟩
    · obtain ⟨n, rfl, hn⟩ := nmD_str z2
      obtain rfl := dp_str ht
      refine ⟨_, rfl, _, rfl, _, ns, rfl, hv.mono s1, hl, fun p H2 _ s2 hp2 => ?_⟩
      refine ⟨p, _, rfl, .inl (SqL.of hp2), rfl, flat_strs _, ?_⟩
      show Q (.bl (!inV (.str n) (ns.map V.str))) H2
      rw [in_strs]
      refine fin _ _ ?_ (s1.trans s2)
      show (decide (ns.length < m) && nmD letters (.str n) && _) = _
      rw [z2, decide_eq_true (show ns.length < m by omega)]
      rfl
    · show (decide (ns.length < m) && nmD letters d && _) = _
      rw [z2, Bool.and_false]
      rfl
  · show (decide (ns.length < m) && _ && _) = _
    rw [decide_eq_false (show ¬ ns.length < m by omega)]
    rfl
end
end Bh

set_option Elab.async false
set_option linter.all false
set_option maxRecDepth 100000
namespace Bh
open PySem PySem.Spec PyProof.Rows L2
/-! ### ends of the law of programs -/
theorem at_last {α : Type} {xs : List α} {v : α} (h : xs.getLast? = some v) : atI xs (-1) = some v := by
  cases xs with
  | nil => cases h
  | cons x r =>
    have e : (x :: r).getLast? = (x :: r)[(x :: r).length - 1]? := List.getLast?_eq_getElem?
    unfold atI ixN
    rw [if_neg (by decide), if_pos (by rw [List.length_cons]; omega)]
    show (x :: r)[(-1 + ((x :: r).length : Int)).toNat]? = some v
    rw [show (-1 + ((x :: r).length : Int)).toNat = (x :: r).length - 1 by rw [List.length_cons]; omega, ← e]
    exact h
theorem vals_first : ∀ (fs : List Fld) (acc : List (List Str)) (h : List Str), acc[0]? = some h → (∀ f ∈ fs, f.2 ≠ []) → ∃ t : List Str, (fs.foldl ext1 acc)[0]? = some (h ++ t) ∧ ∀ f r, fs = f :: r → t[0]? = f.2[0]?
  | [], acc, h, h0, _ => ⟨[], by rw [List.append_nil]; exact h0, fun f r e => by cases e⟩
  | f :: r, acc, h, h0, hn => by
    cases ho : f.2 with
    | nil => exact absurd ho (hn f (List.mem_cons_self ..))
    | cons o os =>
      cases acc with
      | nil => cases h0
      | cons a as =>
        have eh : a = h := Option.some.inj h0
        subst eh
        have e1 : (ext1 (a :: as) f)[0]? = some (a ++ [o]) := by
          unfold ext1
          rw [List.flatMap_cons, ho]
          rfl
        obtain ⟨t, e2, _⟩ := vals_first r (ext1 (a :: as) f) (a ++ [o]) e1 (fun g hg => hn g (List.mem_cons_of_mem _ hg))
        refine ⟨o :: t, ?_, fun g r' e => ?_⟩
        · show (r.foldl ext1 (ext1 (a :: as) f))[0]? = _
          rw [e2, List.append_assoc]
          rfl
        · cases e
          rw [ho]
          rfl
theorem vals_zero {f : Fld} {r : List Fld} (hn : ∀ g ∈ f :: r, g.2 ≠ []) : ∃ v : List Str, (vals (f :: r))[0]? = some v ∧ v[0]? = f.2[0]? := by
  obtain ⟨t, e1, e2⟩ := vals_first (f :: r) [[]] [] rfl hn
  exact ⟨t, e1, e2 f r rfl⟩
theorem plus_steps {f : Fld} {r : List Fld} (nd : f.2.Nodup) : ∀ (m k : Nat) (v : List Str) (o : Str), v[0]? = some o → f.2[k]? = some o → (stepped (f :: r) (List.replicate m ((f.1, "+") : Stp)) v)[0]? = f.2[min (k + m) (f.2.length - 1)]?
  | 0, k, v, o, hv, hk => by
    have hl := (List.getElem?_eq_some_iff.mp hk).1
    show v[0]? = _
    rw [hv, Nat.add_zero, show min k (f.2.length - 1) = k by omega, hk]
  | m + 1, k, v, o, hv, hk => by
    have hl := (List.getElem?_eq_some_iff.mp hk).1
    have hp : posOf (f :: r) f.1 = 0 := by
      show ix (f.1 :: r.map (·.1)) f.1 = 0
      unfold ix
      rw [if_pos rfl]
    have ho : optsOf (f :: r) f.1 = f.2 := by
      unfold optsOf
      rw [hp]
      rfl
    have hlv : 0 < v.length := (List.getElem?_eq_some_iff.mp hv).1
    have hk2 : f.2[min (k + 1) (f.2.length - 1)]? = some (nextO f.2 o) := by
      have q := (next_mem (List.mem_of_getElem? hk)).1
      rw [ix_at nd hk] at q
      exact q
    have hv2 : (stepO (f :: r) v ((f.1, "+") : Stp))[0]? = some (nextO f.2 o) := by
      unfold stepO
      show (v.set (posOf (f :: r) f.1) _)[0]? = _
      rw [hp, List.getElem?_set_self hlv, if_pos rfl, ho, List.getD_eq_getElem?_getD, hv]
      rfl
    rw [List.replicate_succ]
    show (stepped (f :: r) (List.replicate m ((f.1, "+") : Stp)) (stepO (f :: r) v ((f.1, "+") : Stp)))[0]? = _
    rw [plus_steps nd m _ _ _ hv2 hk2]
    congr 1
    omega
def perm3 {α : Type} : List α → List α
  | [a, b, c] => [a, c, b]
  | _ => []
theorem perm3_rel {vs : List V} {us : List Value} (h : Vals vs us) : Vals (perm3 vs) (perm3 us) := by
  cases h with
  | nil => exact .nil
  | cons a h =>
    cases h with
    | nil => exact .nil
    | cons b h =>
      cases h with
      | nil => exact .nil
      | cons c h =>
        cases h with
        | nil => exact .cons a (.cons c (.cons b .nil))
        | cons d h => exact .nil
theorem Sh.strs (n : Nat) (zs : List Str) (h : zs.length ≤ 100000) : Sh (n + 1) (.tuple (zs.map PyData.str)) :=
  .tup (by rw [List.length_map]; exact h) fun d hd => by
    obtain ⟨z, _, rfl⟩ := List.mem_map.mp hd
    exact .str
end Bh

set_option Elab.async false
set_option linter.all false
set_option maxRecDepth 100000
set_option maxHeartbeats 1000000
namespace Bh
open PySem PySem.Spec PyProof.Rows L2
theorem wordsOf_nodup4 {z : Str} {k : Nat} {s : Int} {n : Nat} (h : k ≤ z.length) (hn : n ≤ 4) : (wordsOf z k s n).Nodup := by
  unfold wordsOf
  refine List.pairwise_map.mpr ((List.pairwise_lt_range (n := n)).imp_of_mem fun {a b} ha hb hab e => ?_)
  have h2 := List.mem_range.mp hb
  have q := wordK_inj h e
  omega
theorem tails_noz : ∀ z ∈ tails, z.length = 7 → ∃ c ∈ z.cps.toList, c ≠ 122 := by decide +kernel
theorem wordsOf_noz {z : Str} (hz : z ∈ tails) {k : Nat} {s : Int} {n : Nat} (h : k ≤ z.length) : ∀ w ∈ wordsOf z k s n, w ≠ "zzzzzzzz" := fun w hw e => by
  obtain ⟨i, _, rfl⟩ := List.mem_map.mp hw
  have l1 := wordK_length z k (97 + ((s + 5 * (i : Int)) % 26).toNat) h
  rw [e] at l1
  have l2 : ("zzzzzzzz" : Str).length = 8 := by decide +kernel
  rw [l2] at l1
  obtain ⟨c, hc, nc⟩ := tails_noz z hz (by omega)
  have e2 := wordK_cps z k (97 + ((s + 5 * (i : Int)) % 26).toNat) h
  rw [e] at e2
  have key : ∀ c ∈ ("zzzzzzzz" : Str).cps.toList, c = 122 := by decide +kernel
  refine nc (key c ?_)
  rw [e2]
  rw [← List.take_append_drop k z.cps.toList] at hc
  rcases List.mem_append.mp hc with q | q
  · exact List.mem_append_left _ q
  · exact List.mem_append_right _ (List.mem_cons_of_mem _ q)
def spWords5 : Sp := fun vs H Q _ => ∃ (b l : Addr) (G : Hp) (n : Int), vs = [.ref b, .int n] ∧ 0 ≤ n ∧ n ≤ 4 ∧ Wd b l G H ∧
  ∀ (G' H' : Hp) (p : Addr) (ws : List Str), Same G G' → Wd b l G' H' → G' p = some (.lst (ws.map V.str)) → ws.length = n.toNat → ws.Nodup → (∀ w ∈ ws, IsNm w ∧ w ≠ "zzzzzzzz") → Q (.ref p) H'
/-- fields of at most 24 values -/
structure FsOk5 (fs : List Fld) : Prop where
  ok : FsOk fs
  sz : (vals fs).length ≤ 24
theorem vals_snoc (fs : List Fld) (f : Fld) : (vals (fs ++ [f])).length = (vals fs).length * f.2.length := by
  unfold vals
  rw [List.foldl_append]
  show (ext1 _ f).length = _
  unfold ext1
  rw [flat_len]
theorem room_lt {left r : Int} (h : 2 ≤ left) (hr : r < (if (if left - 1 > 1 then left - 1 else 1) < 5 then (if left - 1 > 1 then left - 1 else 1) else 5)) : 2 + r ≤ left := by
  split at hr <;> split at hr <;> omega
theorem room_next {a m left : Int} (a0 : 0 ≤ a) (h : a * left ≤ 24) (h1 : 1 ≤ m) (h2 : m ≤ left) : a * m * (left / m) ≤ 24 ∧ 1 ≤ left / m := by
  refine ⟨Int.le_trans ?_ h, Int.le_ediv_of_mul_le (by omega) (by omega)⟩
  rw [Int.mul_assoc]
  refine Int.mul_le_mul_of_nonneg_left ?_ a0
  rw [Int.mul_comm]
  exact Int.ediv_mul_le left (by omega)
def spFields5 (K : PySem.W.Frag) : Sp := fun vs H Q _ => ∃ (b l : Addr) (G : Hp) (room : Int), vs = [.ref b, .int room] ∧ 2 ≤ room ∧ room ≤ 24 ∧ Wd b l G H ∧
  ∀ (G' H' : Hp) (p : Addr) (xs : List V) (fs : List Fld), Same G G' → Wd b l G' H' → G' p = some (.lst xs) → Paired (FdAt K G') xs fs → FsOk5 fs → Q (.ref p) H'
section
variable {P : Program} {w : World} {K : PySem.W.Frag} {mg : Str → Option Value} {base : Heap}
theorem ok_any (T : Top K mg) : FnOk P w K mg base CX0 2 T.a_l_any T.fd_l_any ["_law_bag_here", "_law_row"] (spAny K) := by
  have G_l_draw := ok_draw (P := P) (w := w) (base := base) T
  refine T.d_l_any.F.ok sc_l_any (fun vs H Q E h => ?_) (fun cdv A outer s H vs Q E hr h => ?_)
  · obtain ⟨b, l, a, G, xs, rfl, _⟩ := h
    rfl
  obtain ⟨b, l, a, G, xs, rfl, hS, ne, hl, wd, q⟩ := h
  refine ⟨_, (pss_one (ps_ret (pe_ix (ix_seq_K (K := K) (by rfl)) (pv 1) (pe_call G_l_draw (hr.mono (by decide)) (by rfl) T.d_l_draw.g T.d_l_draw.kp T.d_l_draw.b .nil pass0 (pa_cons (pv 0) (pa_cons (pe_callB (call_len_seq_K (K := K) (by rfl)) (by rfl) T.b_len PySem.boot_len (pa_cons (pv 1) pa_nil)) pa_nil))) (fun _ _ => rfl)))), ?_⟩
  have hp : 0 < xs.length := List.length_pos_iff.mpr ne
  refine ⟨_, rfl, _, rfl, _, rfl, a, xs, rfl, seq_mono wd.sm hS, b, l, G, _, rfl, by omega, by omega, wd, fun r H1 r0 r1 w1 => ?_⟩
  obtain ⟨v, e, hm⟩ := at_lt r0 r1
  exact rIx_go (seq_mono w1.sm hS) e (q v H1 hm w1)
theorem ok_mixed (T : Top K mg) : FnOk P w K mg base CX0 2 T.a_l_mixed T.fd_l_mixed ["_law_bag_here", "_law_row"] (spMixed K) := by
  have G_l_draw := ok_draw (P := P) (w := w) (base := base) T
  refine T.d_l_mixed.F.ok sc_l_mixed (fun vs H Q E h => ?_) (fun cdv A outer s H vs Q E hr h => ?_)
  · obtain ⟨b, l, a, G, xs, rfl, _⟩ := h
    rfl
  obtain ⟨b, l, a, G, xs, rfl, hS, hl, wd, q⟩ := h
  refine ⟨_, (pss_cons (ps_set (i := 2) sc_l_mixed.nd rfl (Or.inl rfl) (pe_lst pa_nil))
    (pss_cons (ps_for PassesOwn.never rfl (pi_list_K (K := K) (by rfl) (pv 1)) (pg_name (i := 3) sc_l_mixed.nd rfl (Or.inl rfl))
      (pss_one (ps_expr (pe_bm_K (K := K) (by rfl) PySem.F.plainAttrs_list PySem.F.slot_list_insert PySem.F.type_list_insert mt_insert (pv 2) (pa_cons (pe_call G_l_draw (hr.mono (by decide)) (by rfl) T.d_l_draw.g T.d_l_draw.kp T.d_l_draw.b .nil pass0 (pa_cons (pv 0) (pa_cons (pe_op op_add (pe_callB (call_len_seq_K (K := K) (by rfl)) (by rfl) T.b_len PySem.boot_len (pa_cons (pv 2) pa_nil)) pe_int) pa_nil))) (pa_cons (pv 3) pa_nil))))))
    (pss_one (ps_ret (pv 2))))), ?_⟩
  refine ⟨Nat.zero_le _, fun p np => ?_⟩
  have gp : G p = none := wd.free np
  refine ⟨_, rfl, a, rfl, ⟨_, (wd.sm.trans (same_new np)).seq hS⟩, for_it walk_list (fun i σ H' => ∃ v3 G' ys, σ = [some (.ref b), some (.ref a), some (.ref p), v3] ∧ Same G G' ∧ Wd b l G' H' ∧ G' p = some (.lst ys) ∧ ys.Perm (xs.take i))
    ⟨none, _, [], rfl, same_new gp, wd.new np, upd_same, .nil⟩ (fun i σ H' _ ⟨_, _, _, _, e, w', _⟩ => (e.trans w'.sm).seq hS) ?_ ?_⟩
  · rintro i x σ H' H'' hi ⟨v3, G', ys, rfl, sg, w1, hp, pm⟩ ⟨rfl, ex⟩
    have ly : ys.length = i := by
      rw [pm.length_eq, List.length_take]
      omega
    refine ⟨_, rfl, .inl ⟨rfl, _, SqL.of (w1.sm _ _ hp)⟩, _, rfl, _, rfl, p, ys, rfl, .inl (SqL.of (w1.sm _ _ hp)), _, _, rfl, rfl, b, l, G', _, rfl, by omega, by omega, w1, fun r H1 r0 r1 w2 => ?_⟩
    refine ⟨_, rfl, p, ys, r, x, rfl, rfl, w2.sm _ _ hp, lt_line (by omega), r0, by omega, ?_⟩
    refine ⟨_, _, ys.take r.toNat ++ [x] ++ ys.drop r.toNat, rfl, same_mut sg gp, w2.mut hp, upd_same, ?_⟩
    have e : xs.take (i + 1) = xs.take i ++ [x] := by rw [List.take_add_one, ex]; rfl
    rw [e]
    have k : (ys.take r.toNat ++ [x] ++ ys.drop r.toNat).Perm (ys.take r.toNat ++ ys.drop r.toNat ++ [x]) := by
      rw [List.append_assoc, List.append_assoc]
      exact List.Perm.append_left _ List.perm_append_comm
    rw [List.take_append_drop] at k
    exact k.trans (pm.append_right [x])
  · rintro σ H' ⟨v3, G', ys, rfl, sg, w1, hp, pm⟩
    rw [List.take_length] at pm
    exact ⟨_, rfl, q G' H' p ys sg w1 hp pm⟩
theorem ok_words (T : Top K mg) : FnOk P w K mg base CX0 3 T.a_l_words T.fd_l_words ["_law_bag_here", "_law_many"] spWords5 := by
  have G_l_draw := ok_draw (P := P) (w := w) (base := base) T
  have G_l_any := ok_any (P := P) (w := w) (base := base) T
  refine T.d_l_words.F.ok sc_l_words (fun vs H Q E h => ?_) (fun cdv A outer s H vs Q E hr h => ?_)
  · obtain ⟨b, l, G, n, rfl, _⟩ := h
    rfl
  obtain ⟨b, l, G, n, rfl, n0, n3, wd, q⟩ := h
  refine ⟨_, (pss_cons (ps_set (i := 2) sc_l_words.nd rfl (Or.inr rfl) (pe_call G_l_any (hr.mono (by decide)) (by rfl) T.d_l_any.g T.d_l_any.kp T.d_l_any.b .nil pass0 (pa_cons (pv 0) (pa_cons (pe_lst (pa_cons pe_str (pa_cons pe_str (pa_cons pe_str (pa_cons pe_str (pa_cons pe_str pa_nil)))))) pa_nil))))
    (pss_cons (ps_asg (pe_tup (pa_cons (pe_call G_l_draw (hr.mono (by decide)) (by rfl) T.d_l_draw.g T.d_l_draw.kp T.d_l_draw.b .nil pass0 (pa_cons (pv 0) (pa_cons (pe_op op_add (pe_callB call_len_str (by rfl) T.b_len PySem.boot_len (pa_cons (pv 2) pa_nil)) pe_int) pa_nil))) (pa_cons (pe_call G_l_draw (hr.mono (by decide)) (by rfl) T.d_l_draw.g T.d_l_draw.kp T.d_l_draw.b .nil pass0 (pa_cons (pv 0) (pa_cons pe_int pa_nil))) pa_nil))) (pg_tup_K (K := K) (by rfl) (n := 2) (by rfl) (pgs_cons (pg_name (i := 3) sc_l_words.nd rfl (Or.inr rfl)) (pgs_cons (pg_name (i := 4) sc_l_words.nd rfl (Or.inr rfl)) pgs_nil))))
    (pss_cons (ps_set (i := 5) sc_l_words.nd rfl (Or.inr rfl) pe_str)
    (pss_one (ps_ret (pe_lc (own := [("_law_k", 6)]) rfl sc_l_words.nd (pi_range1 rfl T.b_range (pa_cons (pv 1) pa_nil)) (blkOk_by (own := [("_law_k", 6)]) (N := ["_law_bag_here", "_law_many", "_law_tail", "_law_at", "_law_start", "_law_letters", "_law_k"]) (sc := defScope s_l_words) (by decide +kernel)) (fun _ _ _ _ _ => by exact (pg_name (i := 6) sc_l_words.nd rfl (Or.inl rfl))) (fun _ _ _ _ _ => by exact pts_nil) (fun _ _ _ _ _ => by exact (pe_op op_add_str (pe_op op_add_str (pe_slice sl_str (pv 2) po_none (po_some (pv 3))) (pe_ix ix_str (pv 5) (pe_op op_mod (pe_callTy call_int1 (by rfl) T.b_int (by decide +kernel) (pa_cons (pe_op op_add (pv 4) (pe_op op_mul pe_int (pv 6))) pa_nil)) pe_int) (fun _ _ => rfl))) (pe_slice sl_str (pv 2) (po_some (pv 3)) po_none))))))))), ?_⟩
  refine ⟨_, rfl, (by show 5 ≤ sizeLine; decide), fun p np => ?_⟩
  refine ⟨b, l, p, upd G p (.lst (tails.map V.str)), tails.map V.str, rfl, .inl (SqL.of upd_same), (fun z => by cases z), by decide, wd.new np, fun x H1 hx w1 => ?_⟩
  have s1 : Same G (upd G p (.lst (tails.map V.str))) := wd.sameG np
  obtain ⟨z, hz, rfl⟩ := List.mem_map.mp hx
  obtain ⟨z1, z2⟩ := tails_ok z hz
  refine ⟨_, rfl, _, rfl, z, rfl, le_line (by omega), _, _, rfl, rfl, b, l, _, _, rfl, by omega, by omega, w1, fun k H2 k0 k1 w2 => ?_⟩
  refine ⟨_, rfl, b, l, _, 26, rfl, by decide, by decide, w2, fun st H3 t0 t1 w3 => ?_⟩
  refine ⟨(by show 2 ≤ sizeLine; decide), fun t nt => ?_⟩
  have w4 := w3.new (o := .tup [.int k, .int st]) nt
  have s2 := s1.trans (w3.sameG (o := .tup [.int k, .int st]) nt)
  refine ⟨t, _, rfl, .inl (.inl upd_same), rfl, _, _, rfl, _, _, rfl, rfl, ?_⟩
  obtain ⟨kn, rfl⟩ : ∃ m : Nat, k = (m : Int) := ⟨k.toNat, by omega⟩
  have hk : kn ≤ z.length := by omega
  refine ⟨_, rfl, n, rfl, by omega, by omega, fun D nD => ?_⟩
  have gD := w4.free nD
  refine lc_it walk_range (fun i H' => ∃ G', Same G G' ∧ Wd b l G' H' ∧ G' D = some (.lst ((wordsOf z kn st i).map V.str))) ⟨_, s2.trans (w4.sameG nD), w4.new nD, upd_same⟩ (fun _ _ _ _ => True.intro) ?_ ?_
  · rintro i v H' H'' hi ⟨G', sg, w5, hD⟩ ⟨rfl, rfl⟩
    refine ⟨rfl, ?_⟩
    have a0 : (0 : Int) + (i : Int) = (i : Int) := by omega
    have ln1 : (cutS z none (some (kn : Int))).length ≤ z.length := cutS_length z _ _
    have ln2 : (cutS z (some (kn : Int)) none).length ≤ z.length := cutS_length z _ _
    have m0 := Int.emod_nonneg (st + 5 * ((0 : Int) + (i : Int))) (show (26 : Int) ≠ 0 by decide)
    have m1 := Int.emod_lt_of_pos (st + 5 * ((0 : Int) + (i : Int))) (show (0 : Int) < 26 by decide)
    refine ⟨_, rfl, _, rfl, _, rfl, z, rfl, le_line (by omega), _, rfl, _, rfl, _, rfl, _, _, rfl, rfl, .inl ⟨by decide, by decide⟩, _, _, rfl, rfl, .inl ⟨_, rfl, _, _, rfl, rfl, (show (0 : Int) < 26 by decide), letters, _, _, rfl, rfl, le_line (by decide +kernel), letters_at m0 m1, ?_⟩⟩
    refine ⟨_, _, rfl, rfl, ?_, _, rfl, _, rfl, _, rfl, z, rfl, le_line (by omega), _, _, rfl, rfl, ?_, _, w5.sm _ _ hD, ?_, ?_⟩
    · exact le_line (by show _ + 1 ≤ _; omega)
    · refine le_line ?_
      have e : (cutS z none (some (kn : Int)) ++ (⟨#[97 + ((st + 5 * ((0 : Int) + (i : Int))) % 26).toNat]⟩ : Str)).length = (cutS z none (some (kn : Int))).length + 1 := by
        show ((cutS z none (some (kn : Int))).cps ++ #[_]).size = _
        rw [Array.size_append]
        rfl
      rw [e]
      omega
    · rw [List.length_map, wordsOf_len]
      exact lt_line (by omega)
    · refine ⟨_, same_mut sg (s2.free gD), w5.mut hD, ?_⟩
      rw [upd_same]
      have e : wordsOf z kn st (i + 1) = wordsOf z kn st i ++ [wordK z kn (97 + ((st + 5 * (i : Int)) % 26).toNat)] := by
        unfold wordsOf
        rw [List.range_succ, List.map_append]
        rfl
      rw [e, List.map_append, a0]
      rfl
  · rintro H' ⟨G', sg, w5, hD⟩
    exact q G' H' D _ sg w5 hD wordsOf_len (wordsOf_nodup4 hk (by omega)) fun w hw => ⟨wordsOf_nm hz hk w hw, wordsOf_noz hz hk w hw⟩
theorem ok_options (T : Top K mg) : FnOk P w K mg base CX0 3 T.a_l_options T.fd_l_options ["_law_bag_here", "_law_many"] (spOptions K) := by
  have G_l_mixed := ok_mixed (P := P) (w := w) (base := base) T
  refine T.d_l_options.F.ok sc_l_options (fun vs H Q E h => ?_) (fun cdv A outer s H vs Q E hr h => ?_)
  · obtain ⟨b, l, G, n, rfl, _⟩ := h
    rfl
  obtain ⟨b, l, G, n, rfl, n2, n6, wd, q⟩ := h
  refine ⟨_, (pss_cons (ps_set (i := 2) sc_l_options.nd rfl (Or.inl rfl) (pe_lst (pa_cons pe_str (pa_cons pe_str (pa_cons pe_str (pa_cons pe_str (pa_cons pe_str (pa_cons pe_str (pa_cons pe_str (pa_cons pe_str (pa_cons pe_str (pa_cons pe_str pa_nil))))))))))))
    (pss_one (ps_ret (pe_callTy (call_tuple_of_P (K := K) (by rfl)) (by rfl) T.b_tuple (by decide +kernel) (pa_cons (pe_slice (sl_list_K (K := K) (by rfl)) (pe_call G_l_mixed (hr.mono (by decide)) (by rfl) T.d_l_mixed.g T.d_l_mixed.kp T.d_l_mixed.b .nil pass0 (pa_cons (pv 0) (pa_cons (pv 2) pa_nil))) po_none (po_some (pv 1))) pa_nil))))), ?_⟩
  refine ⟨(by show 10 ≤ sizeLine; decide), fun p np => ?_⟩
  refine ⟨_, rfl, _, rfl, b, l, p, upd G p (.lst (pool.map V.str)), pool.map V.str, rfl, SqL.of upd_same, by decide, wd.new np, fun G1 H1 p1 ys s1 w1 h1 pm => ?_⟩
  have s0 := (wd.sameG (o := .lst (pool.map V.str)) np).trans s1
  obtain ⟨zs, pz, rfl⟩ := perm_strs pm
  refine ⟨_, rfl, _, rfl, _, _, rfl, SqL.of (w1.sm _ _ h1), fun c nc => ?_⟩
  rw [cutV_take _ (by omega), ← List.map_take]
  have w2 := w1.new (o := .lst ((zs.take n.toNat).map V.str)) nc
  refine ⟨c, _, rfl, .inl ⟨SqL.of upd_same, fun t o nt ho => ?_⟩⟩
  have w3 := w2.new (o := .frz o (.tup ((zs.take n.toNat).map V.str))) nt
  have lz : zs.length = 10 := pz.length_eq
  refine q _ _ t (zs.take n.toNat) ((s0.trans (w1.sameG nc)).trans (w2.sameG nt)) w3 (SqP.new ho) (by rw [List.length_take]; omega) ((pz.nodup_iff.mpr pool_nodup).sublist (List.take_sublist _ _)) fun o' h' => pz.mem_iff.mp (List.mem_of_mem_take h')
theorem ok_fields (T : Top K mg) : FnOk P w K mg base CX0 4 T.a_l_fields T.fd_l_fields ["_law_bag_here", "_law_room"] (spFields5 K) := by
  have G_l_draw := ok_draw (P := P) (w := w) (base := base) T
  have G_l_words := ok_words (P := P) (w := w) (base := base) T
  have G_l_options := ok_options (P := P) (w := w) (base := base) T
  refine T.d_l_fields.F.ok sc_l_fields (fun vs H Q E h => ?_) (fun cdv A outer s H vs Q E hr h => ?_)
  · obtain ⟨b, l, G, room, rfl, _⟩ := h
    rfl
  obtain ⟨b, l, G, room, rfl, rm0, rm1, wd, q⟩ := h
  refine ⟨_, (pss_cons (ps_par3 (i := 2) (j := 3) (l := 4) (by rfl) sc_l_fields.nd rfl rfl rfl (by decide) (by decide) (by decide) rfl rfl rfl (pa_cons (pe_call G_l_words (hr.mono (by decide)) (by rfl) T.d_l_words.g T.d_l_words.kp T.d_l_words.b .nil pass0 (pa_cons (pv 0) (pa_cons pe_int pa_nil))) (pa_cons (pe_lst pa_nil) (pa_cons (pv 1) pa_nil))) (by rfl))
    (pss_cons (ps_for PassesOwn.never rfl (pi_range1 rfl T.b_range (pa_cons (pe_op op_add pe_int (pe_call G_l_draw (hr.mono (by decide)) (by rfl) T.d_l_draw.g T.d_l_draw.kp T.d_l_draw.b .nil pass0 (pa_cons (pv 0) (pa_cons pe_int pa_nil)))) pa_nil)) (pg_name (i := 5) sc_l_fields.nd rfl (Or.inl rfl))
      (pss_one (ps_if (PW.pt (pw_or (pt_cmpR op_ge (pv 4) pe_int (nomark _)) (pw_or1 (pt_cmpR (op_eqP (K := K) (by rfl) hr.units) (pv 3) (pe_lst pa_nil) (nomark _))))) (pss_cons (ps_set (i := 6) sc_l_fields.nd rfl (Or.inl rfl) (pe_op op_add pe_int (pe_call G_l_draw (hr.mono (by decide)) (by rfl) T.d_l_draw.g T.d_l_draw.kp T.d_l_draw.b .nil pass0 (pa_cons (pv 0) (pa_cons (pe_callB (call_min2 rfl) (by rfl) T.b_min (by decide +kernel) (pa_cons pe_int (pa_cons (pe_callB (call_max2 rfl) (by rfl) T.b_max (by decide +kernel) (pa_cons pe_int (pa_cons (pe_op op_sub (pv 4) pe_int) pa_nil))) pa_nil))) pa_nil)))))
        (pss_cons (ps_expr (pe_bm_K (K := K) (by rfl) PySem.F.plainAttrs_list PySem.F.slot_list_append PySem.F.type_list_append mt_append (pv 3) (pa_cons (pe_tup (pa_cons (pe_ix (ix_list_K (K := K) (by rfl)) (pv 2) (pv 5) (fun _ _ => rfl)) (pa_cons (pe_call G_l_options (hr.mono (by decide)) (by rfl) T.d_l_options.g T.d_l_options.kp T.d_l_options.b .nil pass0 (pa_cons (pv 0) (pa_cons (pv 6) pa_nil))) pa_nil))) pa_nil)))
        (pss_one (ps_set (i := 4) sc_l_fields.nd rfl (Or.inl rfl) (pe_op op_fdiv (pv 4) (pv 6)))))) pss_nil)))
    (pss_one (ps_ret (pv 3))))), ?_⟩
  refine ⟨_, rfl, b, l, G, 3, rfl, by decide, by decide, wd, fun G1 H1 p ws s1 w1 h1 lw ndw nmw => ?_⟩
  refine ⟨Nat.zero_le _, fun pf nf => ?_⟩
  have g1f : G pf = none := s1.free (w1.free nf)
  have w2 := w1.new (o := .lst []) nf
  have s2 := s1.trans (w1.sameG (o := .lst []) nf)
  have h1' : (upd G1 pf (.lst [])) p = some (.lst (ws.map V.str)) := by
    rw [upd_ne (ne_of_none h1 (w1.free nf))]
    exact h1
  have hpf : p ≠ pf := ne_of_none h1 (w1.free nf)
  refine ⟨_, rfl, _, _, _, rfl, ?_⟩
  refine ⟨_, rfl, b, l, _, 3, rfl, by decide, by decide, w2, fun r H4 r0 r1 w4 => ?_⟩
  refine ⟨_, _, rfl, rfl, _, rfl, by omega, by omega, ?_⟩
  refine for_it walk_range (fun i σ H' => ∃ x5 x6 G' xs fs left, σ = [some (.ref b), some (.int room), some (.ref p), some (.ref pf), some (.int left), x5, x6] ∧ Same G G' ∧ Wd b l G' H' ∧ G' pf = some (.lst xs) ∧ Paired (FdAt K G') xs fs ∧
      G' p = some (.lst (ws.map V.str)) ∧ fs.length ≤ i ∧ (0 < i → fs ≠ []) ∧ (fs ≠ [] ∨ 2 ≤ left) ∧ (∀ f ∈ fs, ∃ j, j < i ∧ ws[j]? = some f.1) ∧ (fs.map (·.1)).Nodup ∧ (∀ f ∈ fs, f.2.Nodup ∧ 2 ≤ f.2.length ∧ f.2.length ≤ 6 ∧ ∀ o ∈ f.2, o ∈ pool) ∧ ((vals fs).length : Int) * left ≤ 24 ∧ 1 ≤ left)
    ⟨none, none, _, [], [], room, rfl, s2, w4, upd_same, .nil, h1', Nat.le_refl _, fun z => absurd z (Nat.lt_irrefl _), .inr rm0, (fun f hf => by cases hf), .nil, (fun f hf => by cases hf), (by show ((1 : Nat) : Int) * room ≤ 24; omega), by omega⟩ (fun _ _ _ _ _ => True.intro) ?_ ?_
  · rintro i v σ H' H'' hi ⟨x5, x6, G', xs, fs, left, rfl, sg, w5, hx, hp, hw, hl, hne, hor, hj, nd, hos, hz, hz1⟩ ⟨rfl, rfl⟩
    have hi3 : i < 3 := by omega
    have lxs := fds_len hp
    have hwi : ws[i]? = some ws[i] := List.getElem?_eq_getElem (by rw [lw]; exact hi3)
    have body : 2 ≤ left → True := fun _ => True.intro
    refine ⟨_, rfl, _, _, rfl, rfl, _, rfl, ite3 (fun h2 => ?_) (fun h2 => ?_)⟩
    · refine ⟨_, rfl, _, rfl, _, _, rfl, rfl, _, _, rfl, _, _, rfl, b, l, G', _, rfl, (min_max_bound _).1, by have := (min_max_bound (left - 1)).2; omega, w5, fun r5 H5 r50 r51 w6 => ?_⟩
      have r6 := (min_max_bound (left - 1)).2
      have r7 := room_lt h2 r51
      obtain ⟨z1, z2⟩ := room_next (Int.natCast_nonneg _) hz (show 1 ≤ 2 + r5 by omega) r7
      refine ⟨_, _, rfl, rfl, ?_⟩
      refine ⟨_, rfl, .inl ⟨rfl, _, SqL.of (w6.sm _ _ hx)⟩, _, rfl, _, rfl, p, _, _, .str ws[i], rfl, rfl, SqL.of (w6.sm _ _ hw), at_nn (by omega) (by rw [show ((0 : Int) + (i : Int)).toNat = i by omega, List.getElem?_map, hwi]; rfl), ?_⟩
      refine ⟨_, rfl, _, rfl, b, l, G', 2 + r5, rfl, by omega, by omega, w6, fun G7 H7 po os s7 w7 hP7 lo ndo hpo => ?_⟩
      refine ⟨(by show 2 ≤ sizeLine; decide), fun t7 nt7 => ?_⟩
      have w8 := w7.new (o := .tup [.str ws[i], .ref po]) nt7
      have s8 := s7.trans (w7.sameG (o := .tup [.str ws[i], .ref po]) nt7)
      have hx8 := s8 _ _ hx
      refine ⟨pf, xs, _, rfl, rfl, w8.sm _ _ hx8, lt_line (by omega), ?_⟩
      refine ⟨_, rfl, _, rfl, _, _, rfl, rfl, ⟨by omega, by omega⟩, ?_⟩
      have hfd : FdAt K (upd (upd G7 t7 (.tup [.str ws[i], .ref po])) pf (.lst (xs ++ [.ref t7]))) (.ref t7) (ws[i], os) := by
        have nf7 : t7 ≠ pf := fun z => by
          have k := s7 _ _ hx
          rw [← z, w7.free nt7] at k
          cases k
        refine ⟨t7, po, rfl, .inl (.inl ?_), ?_⟩
        · rw [upd_ne nf7]
          exact upd_same
        · have k := hP7.mono (w7.sameG (o := .tup [.str ws[i], .ref po]) nt7)
          rcases k with ⟨o, k, ko⟩ | k
          · refine .inl ⟨o, ?_, ko⟩
            rw [upd_ne (ne_of k hx8 (by intro z; cases z))]
            exact k
          · exact .inr k
      have hp8 : Paired (FdAt K (upd (upd G7 t7 (.tup [.str ws[i], .ref po])) pf (.lst (xs ++ [.ref t7])))) xs fs := by
        have key : ∀ {ys : List V} {gs : List Fld}, Paired (FdAt K G') ys gs → Paired (FdAt K (upd (upd G7 t7 (.tup [.str ws[i], .ref po])) pf (.lst (xs ++ [.ref t7])))) ys gs := by
          intro ys gs k
          induction k with
          | nil => exact .nil
          | cons h _ ih =>
            refine .cons ?_ ih
            obtain ⟨a', o', e', k1, k2⟩ := h.mono s8
            refine ⟨a', o', e', ?_, ?_⟩
            · rcases k1 with (k1 | ⟨u, k1⟩) | k1
              · exact .inl (.inl (by rw [upd_ne (ne_of k1 hx8 (by intro z; cases z))]; exact k1))
              · exact .inl (.inr ⟨u, by rw [upd_ne (ne_of k1 hx8 (by intro z; cases z))]; exact k1⟩)
              · exact .inr k1
            · rcases k2 with ⟨u, k2, ku⟩ | k2
              · exact .inl ⟨u, by rw [upd_ne (ne_of k2 hx8 (by intro z; cases z))]; exact k2, ku⟩
              · exact .inr k2
        exact key hp
      refine ⟨_, _, _, _, fs ++ [(ws[i], os)], _, rfl, same_mut (sg.trans s8) g1f, w8.mut hx8, upd_same, fds_snoc hp8 hfd, ?_, ?_, fun _ z => by simp at z, .inl (by simp), ?_, ?_, ?_⟩
      · rw [upd_ne hpf]
        exact s8 _ _ hw
      · rw [List.length_append]
        exact Nat.succ_le_succ hl
      · intro f hf
        rcases List.mem_append.mp hf with hf | hf
        · obtain ⟨j, h1, h2⟩ := hj f hf
          exact ⟨j, by omega, h2⟩
        · cases List.mem_singleton.mp hf
          exact ⟨i, by omega, hwi⟩
      · rw [List.map_append]
        refine List.nodup_append.mpr ⟨nd, by simp, fun x hx1 y hy e => ?_⟩
        obtain ⟨f, hf, rfl⟩ := List.mem_map.mp hx1
        have ey : y = ws[i] := by simpa using hy
        obtain ⟨j, h1, h2⟩ := hj f hf
        rw [e, ey] at h2
        have := nd_ix ndw h2 hwi
        omega
      · refine ⟨fun f hf => ?_, ?_⟩
        rotate_left
        · rw [vals_snoc, Int.natCast_mul, show ((ws[i], os) : Fld).2.length = (2 + r5).toNat from lo, Int.toNat_of_nonneg (by omega)]
          exact ⟨z1, z2⟩
        rcases List.mem_append.mp hf with hf | hf
        · exact hos f hf
        · cases List.mem_singleton.mp hf
          exact ⟨ndo, by rw [lo]; omega, by rw [lo]; omega, hpo⟩
    · have hnn : fs ≠ [] := hor.resolve_right h2
      refine ⟨_, rfl, Nat.zero_le _, fun e ne => ?_⟩
      have w6 := w5.new (o := .lst []) ne
      have s6 := w5.sameG (o := .lst []) ne
      refine ⟨.list (fs.map dF), .list [], .lst (SqL.of (w6.sm _ _ (s6 _ _ hx))) (DpAll.mono (s6.trans w6.sm) (fds_dp hp)), .lst (SqL.of upd_same) .nil, ?_, _, rfl, ?_⟩
      · exact Nat.le_trans (Nat.min_le_right _ _) (by decide)
      have ev : PyData.eqv (.list (fs.map dF)) (.list []) = false := by
        cases fs with
        | nil => exact absurd rfl hnn
        | cons f r => rfl
      rw [ev]
      exact ⟨_, _, _, _, fs, left, rfl, sg.trans s6, w6, s6 _ _ hx, fds_mono s6 hp, s6 _ _ hw, by omega, fun _ => hnn, .inl hnn, (fun f hf => by obtain ⟨j, h1, h2⟩ := hj f hf; exact ⟨j, by omega, h2⟩), nd, hos, hz, hz1⟩
  · rintro σ H' ⟨x5, x6, G', xs, fs, left, rfl, sg, w5, hx, hp, hw, hl, hne, hor, hj, nd, hos, hz, hz1⟩
    refine ⟨_, rfl, q G' H' pf xs fs sg w5 hx hp ⟨⟨?_, by omega, nd, fun f hf => ?_, hos⟩, ?_⟩⟩
    · exact List.length_pos_iff.mpr (hne (by omega))
    · obtain ⟨j, h1, h2⟩ := hj f hf
      exact (nmw _ (List.mem_of_getElem? h2)).1
    · have z := Int.mul_le_mul_of_nonneg_left hz1 (Int.natCast_nonneg (vals fs).length)
      omega
end
end Bh

set_option Elab.async false
set_option linter.all false
set_option maxRecDepth 100000
set_option maxHeartbeats 3200000
namespace Bh
open PySem PySem.Spec PyProof.Rows L2
/-! ### len(set(xs)) of any texts -/
/-- how many different ones are among the first -/
def dcnt (ys : List Str) : Nat → Nat
  | 0 => 0
  | j + 1 => if (ys.take j).any (· == ys.getD j Str.empty) then dcnt ys j else dcnt ys j + 1
theorem dcnt_le (ys : List Str) : ∀ j, dcnt ys j ≤ j
  | 0 => Nat.le_refl _
  | j + 1 => by
    have := dcnt_le ys j
    unfold dcnt
    split <;> omega
theorem dcnt_step {ys : List Str} {j : Nat} (lj : j < ys.length) : (if ((ys.take j).any (· == ys[j])) = true then dcnt ys j else dcnt ys j + 1) = dcnt ys (j + 1) := by
  have e : ys.getD j Str.empty = ys[j] := by rw [List.getD_eq_getElem?_getD, List.getElem?_eq_getElem lj]; rfl
  show _ = if ((ys.take j).any (· == ys.getD j Str.empty)) = true then dcnt ys j else dcnt ys j + 1
  rw [e]
theorem dcnt_nd (ys : List Str) : ∀ j, j ≤ ys.length → (dcnt ys j = j ↔ (ys.take j).Nodup)
  | 0, _ => by simp [dcnt]
  | j + 1, h => by
    have ih := dcnt_nd ys j (by omega)
    have le := dcnt_le ys j
    have lj : j < ys.length := h
    have e : ys.getD j Str.empty = ys[j] := by rw [List.getD_eq_getElem?_getD, List.getElem?_eq_getElem lj]; rfl
    have t : ys.take (j + 1) = ys.take j ++ [ys[j]] := by rw [List.take_add_one, List.getElem?_eq_getElem lj]; rfl
    rw [t, List.nodup_append]
    unfold dcnt
    rw [e]
    by_cases m : (ys.take j).any (· == ys[j]) = true
    · rw [if_pos m]
      constructor
      · intro z
        omega
      · rintro ⟨_, _, z⟩
        obtain ⟨x, hx, ex⟩ := List.any_eq_true.mp m
        exact absurd (eq_of_beq ex) (z x hx _ (List.mem_singleton.mpr rfl))
    · rw [if_neg m]
      constructor
      · intro z
        refine ⟨ih.mp (by omega), by simp, fun x hx y hy e => ?_⟩
        rw [List.mem_singleton.mp hy] at e
        exact m (List.any_eq_true.mpr ⟨x, hx, by rw [e]; exact beq_self_eq_true _⟩)
      · rintro ⟨z, _, _⟩
        rw [ih.mpr z]
theorem dcnt_all (ys : List Str) : decide (dcnt ys ys.length = ys.length) = decide ys.Nodup := by
  have := dcnt_nd ys ys.length (Nat.le_refl _)
  rw [List.take_length] at this
  exact decide_eq_decide.mpr this
abbrev TakeSetN (P : Program) (w : World) (h : Heap) (D : Addr) (ys : List Str) (j : Nat) : Prop := h.SetOf (strKind P w) D (fun c => (ys.take j).any (· == c)) (dcnt ys j)
theorem TakeSetN.at {P : Program} {w : World} {h h2 : Heap} {D : Addr} {ys : List Str} {j : Nat} (z : TakeSetN P w h D ys j) (k : ∀ o, h.get? D = some o → h2.get? D = some o) : TakeSetN P w h2 D ys j := by
  obtain ⟨o, es, ep, tb, e, more⟩ := z
  exact ⟨o, es, ep, tb, k o e, more⟩
section
variable {P : Program} {w : World} {A : Around} {C : Result → Shared → Prop} {it : Addr} {fp wr : List Addr} {G : Array GenState → Array GenState → Prop} {n : Nat} {Pv : Nat → Value → Prop} {St : Nat → Shared → Prop}
theorem fillLoopN (W : WalksS P w A.in1 it fp wr G n Pv St) (D : Addr) (far : D ∉ fp) (ys : List Str) (hn : ys.length = n) (room : n + 1 < scanBound)
    (hv : ∀ j v, Pv j v → ∃ t, v = .str (ys.getD j Str.empty) t) (left : Nat) :
    ∀ (j : Nat) (s : Shared), n - j = left → j ≤ n → St j s → TakeSetN P w s.heap D ys j →
      (∀ s2, Moved (D :: wr) G s s2 → TakeSetN P w s2.heap D ys n → C (.ok (.ret .none)) s2) →
      codeAny (model P w) A (.builtin "set.update.loop" ⟨[.ref D, .ref it], []⟩) C s := by
  have far2 : D ∉ wr := fun z => far (W.sub _ z)
  induction left with
  | zero =>
    intro j s ej le st z fin
    obtain rfl : j = n := by omega
    refine codeAny_builtin PyProof.Rows.F.entry_set_update_loop ((Around.under_plainId PyProof.Rows.F.plain_set_update_loop _).symm ▸ ?_)
    refine wpAny_bind (m := pyNext (.ref it)) (W.done s _ _ st fun s2 mv => wpAny_pure (fin s2 (mv.mono fun b hb => .tail _ hb) ?_))
    exact z.at fun o e => mv.heap D o far2 e
  | succ left ih =>
    intro j s ej le st z fin
    have lt : j < n := by omega
    have lj : j < ys.length := by omega
    refine codeAny_builtin PyProof.Rows.F.entry_set_update_loop ((Around.under_plainId PyProof.Rows.F.plain_set_update_loop _).symm ▸ ?_)
    refine wpAny_bind (m := pyNext (.ref it)) (W.item j s _ _ lt st fun v s2 pv st2 mv => ?_)
    obtain ⟨t, ev⟩ := hv j v pv
    rw [List.getD_eq_getElem?_getD, List.getElem?_eq_getElem lj] at ev
    change v = .str ys[j] t at ev
    subst ev
    have z2 : TakeSetN P w s2.heap D ys j := z.at fun o e => mv.heap D o far2 e
    refine wpAny_bind (m := holding [Value.str ys[j] t] (setAdd D (.str ys[j] t))) (wpAny_holding ?_)
    unfold setAdd
    refine wpAny_holding (wpAny_bind ((strKind P w).pyHash (k := ys[j]) (strKind_is _ _ _ _) ?_))
    refine wpAny_setAddHashed_of (knd := strKind P w) (s := { s2 with toks := s2.toks + 1 }) (strKind_is _ _ _ _) rfl z2 (by have := dcnt_le ys j; omega) fun h3 sb z3 => ?_
    have z4 : TakeSetN P w h3 D ys (j + 1) := SetOf_congr z3 (takeGrow lj) (dcnt_step lj)
    have off : ∀ {b : Addr} {o : Obj}, b ≠ D → s2.heap.get? b = some o → h3.get? b = some o := fun nb e => (sb.2 _ nb).trans e
    refine wpAny_pure ⟨plainId_quiet PyProof.Rows.F.plain_set_update_loop _, ih (j + 1) _ (by omega) lt (W.frame _ s2 _ _ st2 (Nat.le_succ _) fun b hb o e => off (fun q => far (q ▸ hb)) e) z4 fun s4 mv2 z5 => ?_⟩
    exact fin s4 (Moved.trans W.gtrans ((mv.mono fun b hb => .tail _ hb).then_heap (Nat.le_succ _) fun b o nb e => off (fun q => nb (q ▸ .head _)) e) mv2) z5
end
section
variable {P : Program} {w : World} {A : Around} {E : Value → Shared → Prop} {s : Shared}
/-- what stands behind set(x): the set of the texts at the new address -/
def FilledN (P : Program) (w : World) (s : Shared) (ys : List Str) (s3 : Shared) : Prop :=
  ∃ h3 t3, s3 = { s with heap := h3, toks := t3 } ∧ TakeSetN P w h3 s.heap.objs.size ys ys.length ∧ ∀ b o, b < s.heap.objs.size → s.heap.get? b = some o → h3.get? b = some o
theorem fill_endN {s2 : Shared} {D : Addr} {led : Bool} {ob : Obj} {ys : List Str} (mv : Moved [D, (s.heap.push (set0 led)).objs.size] (fun a b => b = a) { s with heap := (s.heap.push (set0 led)).push ob } s2) (eD : D = s.heap.objs.size) (z : TakeSetN P w s2.heap D ys ys.length) : FilledN P w s ys s2 := by
  subst eD
  refine ⟨s2.heap, s2.toks, ?_, z, fun b o lt e => mv.heap b o ?_ (Heap.get?_push_of_some _ (Heap.get?_push_of_some _ e))⟩
  · obtain ⟨h, g, d, t, os⟩ := s2
    have e1 : g = s.gens := mv.gens
    have e2 : d = s.drawn := mv.drawn
    have e3 : os = s.os := mv.os
    rw [e1, e2, e3]
  · rw [Heap.size_push]
    intro q
    rcases List.mem_cons.mp q with q | q
    · exact Nat.ne_of_lt lt q
    · exact Nat.ne_of_lt (Nat.lt_succ_of_lt lt) (List.mem_singleton.mp q)
theorem fill_listN {l : Addr} {us : List Value} {ys : List Str} (hh : A.handled = none) (hl : s.heap.IsList l us.toArray) (rv : Vals (ys.map V.str) us) (few : ys.length + 1 < scanBound) (led : Bool) :
    wpAny (model P w) A.in1.in1 (Builtin.«set.__init__» ⟨[.ref s.heap.objs.size, .ref l], []⟩)
      (fun fin s2 => match fin with | .done f => wants (fun r s3 => r = .none ∧ FilledN P w s ys s3) E (.ok f) s2 | .again c => c.quiet = true ∧ codeAny (model P w) A.in1 c (wants (fun r s3 => r = .none ∧ FilledN P w s ys s3) E) s2)
      (fun e s2 => wants (fun r s3 => r = .none ∧ FilledN P w s ys s3) E (.error e) s2) { s with heap := s.heap.push (set0 led) } := by
  have ll : l < s.heap.objs.size := by
    obtain ⟨o, e, _⟩ := id hl
    exact Heap.lt_size e
  obtain ⟨⟨oc, od, odt, osl⟩, oe, ec, on, ed⟩ := id hl
  simp only at ec ed
  subst ec ed
  have at0 : (s.heap.push (set0 led)).get? s.heap.objs.size = some (set0 led) := Heap.get?_push_size _ rfl
  have oe2 : (s.heap.push (set0 led)).get? l = some { cls := .type "list", dict := od, data := .seq us.toArray on, slots := osl } := Heap.get?_push_of_some _ oe
  have no1 := PySem.F.sub_list_set
  have no2 := PySem.F.sub_list_frozenset
  have no3 : (Value.type "list" == Value.type "dict") = false := by decide
  have hl2 : (s.heap.push (set0 led)).IsList l us.toArray := ⟨_, oe2, rfl, on, rfl⟩
  unfold Builtin.«set.__init__» noKeywords Builtin.Frozenset.updateFrom
  generalize ePI : pyIter = PI
  wp_walk
  subst ePI
  refine wpAny_pyIter_list hl2 (wpAny_bind (wpAny_runValue ?_))
  have hh3 : A.in1.in1.in1.handled = none := by simp [hh]
  have ne1 : l ≠ (s.heap.push (set0 led)).objs.size := by rw [Heap.size_push]; exact Nat.ne_of_lt (Nat.lt_succ_of_lt ll)
  have len : us.toArray.size = ys.length := by rw [List.size_toArray, ← rv.length, List.length_map]
  refine fillLoopN ((Walks.list hh3 _ l ne1 us.toArray).toS) s.heap.objs.size ?far ys len.symm (by rw [len]; exact few) (fun j v e => texts_at rv j v (by simpa using e)) us.toArray.size 0 _ rfl (Nat.zero_le _)
    ⟨⟨_, Heap.get?_push_size _ rfl, rfl, rfl⟩, hl2.push _⟩ ?beg fun s2 mv z => ?fin
  case far =>
    rw [Heap.size_push]
    intro q
    rcases List.mem_cons.mp q with q | q
    · exact Nat.ne_of_lt (Nat.lt_succ_self _) q
    · exact Nat.ne_of_gt ll (List.mem_singleton.mp q)
  case beg => exact SetOf_congr ((setObjOf_fresh (knd := strKind P w) led).setOf (Heap.get?_push_of_some _ at0) (by unfold scanBound; omega)) (fun _ => rfl) rfl
  case fin =>
    rw [len] at z
    exact wpAny_pure (wpAny_pure ⟨rfl, fill_endN mv rfl z⟩)
theorem fill_tupleN {l : Addr} {us : List Value} {ys : List Str} (hh : A.handled = none) (hl : s.heap.IsTuple l us.toArray) (rv : Vals (ys.map V.str) us) (few : ys.length + 1 < scanBound) (led : Bool) :
    wpAny (model P w) A.in1.in1 (Builtin.«set.__init__» ⟨[.ref s.heap.objs.size, .ref l], []⟩)
      (fun fin s2 => match fin with | .done f => wants (fun r s3 => r = .none ∧ FilledN P w s ys s3) E (.ok f) s2 | .again c => c.quiet = true ∧ codeAny (model P w) A.in1 c (wants (fun r s3 => r = .none ∧ FilledN P w s ys s3) E) s2)
      (fun e s2 => wants (fun r s3 => r = .none ∧ FilledN P w s ys s3) E (.error e) s2) { s with heap := s.heap.push (set0 led) } := by
  have ll : l < s.heap.objs.size := by
    obtain ⟨o, e, _⟩ := id hl
    exact Heap.lt_size e
  obtain ⟨⟨oc, od, odt, osl⟩, oe, ec, on, ed⟩ := id hl
  simp only at ec ed
  subst ec ed
  have at0 : (s.heap.push (set0 led)).get? s.heap.objs.size = some (set0 led) := Heap.get?_push_size _ rfl
  have oe2 : (s.heap.push (set0 led)).get? l = some { cls := .type "tuple", dict := od, data := .seq us.toArray on, slots := osl } := Heap.get?_push_of_some _ oe
  have no1 := PySem.F.sub_tuple_set
  have no2 := PySem.F.sub_tuple_frozenset
  have no3 : (Value.type "tuple" == Value.type "dict") = false := by decide
  have hl2 : (s.heap.push (set0 led)).IsTuple l us.toArray := ⟨_, oe2, rfl, on, rfl⟩
  unfold Builtin.«set.__init__» noKeywords Builtin.Frozenset.updateFrom
  generalize ePI : pyIter = PI
  wp_walk
  subst ePI
  refine wpAny_pyIter_tuple hl2 (wpAny_bind (wpAny_runValue ?_))
  have hh3 : A.in1.in1.in1.handled = none := by simp [hh]
  have ne1 : l ≠ (s.heap.push (set0 led)).objs.size := by rw [Heap.size_push]; exact Nat.ne_of_lt (Nat.lt_succ_of_lt ll)
  have len : us.toArray.size = ys.length := by rw [List.size_toArray, ← rv.length, List.length_map]
  refine fillLoopN ((Walks.tuple hh3 _ l ne1 us.toArray).toS) s.heap.objs.size ?far ys len.symm (by rw [len]; exact few) (fun j v e => texts_at rv j v (by simpa using e)) us.toArray.size 0 _ rfl (Nat.zero_le _)
    ⟨⟨_, Heap.get?_push_size _ rfl, rfl, rfl⟩, hl2.push _⟩ ?beg fun s2 mv z => ?fin
  case far =>
    rw [Heap.size_push]
    intro q
    rcases List.mem_cons.mp q with q | q
    · exact Nat.ne_of_lt (Nat.lt_succ_self _) q
    · exact Nat.ne_of_gt ll (List.mem_singleton.mp q)
  case beg => exact SetOf_congr ((setObjOf_fresh (knd := strKind P w) led).setOf (Heap.get?_push_of_some _ at0) (by unfold scanBound; omega)) (fun _ => rfl) rfl
  case fin =>
    rw [len] at z
    exact wpAny_pure (wpAny_pure ⟨rfl, fill_endN mv rfl z⟩)
end
def tLenSetN (K : PySem.W.Frag) (ta : TE) : TE := fun σ H Q => ta σ H fun x H1 => ∃ (l : Addr) (xs : List Str), x = .ref l ∧ (SqL K H1 l (xs.map V.str) ∨ SqT K H1 l (xs.map V.str)) ∧ xs.length ≤ 1000 ∧ Q (.int (dcnt xs xs.length)) H1
theorem pe_lenSetN {X : Cx} {K : PySem.W.Frag} (hK : X.K = K) {a : Expr} {ta : TE} {p p2 q pos : Pos} (hc : X.calm = true) (hg : Gl X "len") (hm : X.mg "len" = none) (hg2 : Gl X "set") (hm2 : X.mg "set" = none) (ha : PE X a ta)
    (na : starEach [a] X.env = (false, eval a X.env) :: starEach [] X.env := by rfl) : PE X (.Call (.Name "len" p) [.Call (.Name "set" p2) [a] [] q] [] pos) (tLenSetN K ta) := by
  subst hK
  refine ⟨fun pins s σ H Q I h => Call_ (ld_blt I hg hm boot_len (callWith_builtin1 (args_cons ?_ rfl) rfl rfl))⟩
  refine Call_ (ld_blt I hg2 hm2 boot_set (callWith_type1 (args_cons (thn (ha.run pins s σ H _ I h) fun v s1 ⟨x, H1, I1, r1, q1⟩ => args_nil ?_) na) na rfl))
  obtain ⟨l, xs, rfl, hq, few, q1⟩ := q1
  cases r1
  have hcalm := I1.ok.hd hc
  have room : xs.length + 1 < scanBound := by unfold scanBound; omega
  have after : ∀ s3, FilledN X.prog X.w s1 xs s3 → wpAny (model X.prog X.w) X.A (spliced (backTo pos (starEach [] X.env))) (fun vs s₂ => wpAny (model X.prog X.w) X.A (call (.builtin "len") (Value.ref s1.heap.objs.size :: vs)) (EP X pins σ Q) X.xe s₂) X.xe s3 := by
    intro s3 ⟨h3, t3, e3, z, kp⟩
    subst e3
    refine args_nil ?_
    obtain ⟨o, es, ep, t, ho, hex, hd, _, _, _, hf, hn⟩ := z
    have I2 : Inv X pins σ H1 { s1 with heap := h3, toks := t3 } := I1.kept fun b o e => kp b o (Heap.lt_size e) e
    exact call_len_set ho hex hd hf (by rw [hn]; have := dcnt_le xs xs.length; omega) ⟨.int (dcnt xs xs.length), H1, I2.tok _, ⟨_, by rw [hn]⟩, q1⟩
  rcases hq with hq | hq
  · obtain ⟨its, r, pl, hz⟩ := I1.list hq
    exact set_made (fill_listN hcalm pl.isList r room) after
  · obtain ⟨its, r, pl, hz⟩ := I1.tuple hq
    exact set_made (fill_tupleN hcalm pl r room) after
end Bh

set_option Elab.async false
set_option linter.all false
set_option maxRecDepth 100000
set_option maxHeartbeats 1000000
set_option autoImplicit false
namespace Bh
open PySem PySem.Spec PyProof.Rows L2 LamX NdefX
theorem strs_of : ∀ {ds : List PyData}, (∀ d ∈ ds, ∃ z, d = .str z) → ds = (ds.map strOf).map PyData.str
  | [], _ => rfl
  | d :: ds, h => by
    obtain ⟨z, e⟩ := h d (List.mem_cons_self ..)
    rw [List.map_cons, List.map_cons, ← strs_of (ds := ds) fun y hy => h y (List.mem_cons_of_mem _ hy), e]
    rfl
theorem optsAreD_of {d2 : PyData} (z2 : optsAreD d2 = true) : ∃ os, d2 = .tuple os ∧ os.length ≤ 6 ∧ (os.map strOf).Nodup ∧ os = (os.map strOf).map PyData.str := by
  unfold optsAreD at z2
  split at z2
  · rename_i os
    rw [Bool.and_eq_true, Bool.and_eq_true, decide_eq_true_iff] at z2
    obtain ⟨⟨a1, a2⟩, a3⟩ := z2
    obtain ⟨os', e, _, l⟩ := tupI_of a1
    cases e
    refine ⟨os, rfl, by omega, a3, strs_of fun d hd => ?_⟩
    obtain ⟨y, e, _⟩ := nmD_str (List.all_eq_true.mp a2 d hd)
    exact ⟨y, e⟩
  · cases z2
theorem int_dec (m n : Nat) : decide (V.int (m : Int) = V.int (n : Int)) = decide (m = n) := by
  refine decide_eq_decide.mpr ⟨fun h => ?_, fun h => by rw [h]⟩
  injection h with h
  omega
section
variable {P : Program} {w : World} {K : PySem.W.Frag} {mg : Str → Option Value} {base : Heap}
theorem ok_areoptsD (T : Top K mg) : FnOk P w K mg base CX0 3 T.a_are_options T.fd_are_options ["value"] (spOptsAreD K) := by
  have G_is_tuple := ok_tupD (P := P) (w := w) (base := base) T
  have G_is_option := ok_optionD (P := P) (w := w) (base := base) T
  refine T.d_are_options.F.ok sc_are_options (fun vs H Q E h => ?_) (fun cdv A outer s H vs Q E hr h => ?_)
  · obtain ⟨v, d, rfl, _⟩ := h
    rfl
  obtain ⟨v, d, rfl, ht, ho, q⟩ := h
  refine ⟨_, (pss_cons (ps_if (pt_not (pt_val (pe_call G_is_tuple (hr.mono (by decide)) (by rfl) T.d_is_tuple.g T.d_is_tuple.kp T.d_is_tuple.b .nil pass0 (pa_cons (pv 0) (pa_cons (pe_gI rfl T.g_LEAST_OPTIONS) (pa_cons (pe_gI rfl T.g_MOST_OPTIONS) pa_nil)))))) (pss_one (ps_ret pe_bl)) pss_nil)
    (pss_one (ps_ret (pe_and (pe_callB (cr_all_K (K := K) (by rfl) rfl) (by rfl) T.b_all (by decide +kernel) (pa_cons (pe_lc (own := [("option", 1)]) rfl sc_are_options.nd (pi_tup_K (K := K) (by rfl) (pv 0)) (blkOk_by (own := [("option", 1)]) (N := ["value", "option"]) (sc := defScope s_are_options) (by decide +kernel)) (fun _ _ _ _ _ => by exact (pg_name (i := 1) sc_are_options.nd rfl (Or.inl rfl))) (fun _ _ _ _ _ => by exact pts_nil) (fun _ _ _ _ _ => by exact (pe_call G_is_option (hr.mono (by decide)) (by rfl) T.d_is_option.g T.d_is_option.kp T.d_is_option.b .nil pass0 (pa_cons (pv 1) pa_nil)))) pa_nil)) (pe_one (pe_cmpR op_eq (pe_lenSetN (K := K) (by rfl) rfl (by rfl) T.b_len (by rfl) T.b_set (pv 0)) (pe_callB (call_len_seq_K (K := K) (by rfl)) (by rfl) T.b_len PySem.boot_len (pa_cons (pv 0) pa_nil)) (nomark _))))))), ?_⟩
  have fin : ∀ b H', optsAreD d = b → Same H H' → Q (.bl b) H' := fun b H' e s => e ▸ q H' s
  refine ⟨_, rfl, v, d, 2, 6, rfl, ht, _, rfl, iteB (fun z => fin _ _ (optsAreD_no (nb1 z)) (Same.refl _)) (fun z => ?_)⟩
  obtain ⟨ds, rfl, _, l6⟩ := tupI_of (nb0 z)
  obtain ⟨a, xs, rfl, h1, h2⟩ := dp_tup ht
  have lx : xs.length = ds.length := DpAll.length h2
  refine ⟨_, rfl, a, rfl, ⟨_, h1⟩, fun D nD => ?_⟩
  refine lc_bools (getB (nmD lettersD) ds) walk_tup nD (by omega) (fun H' s => Same.tup s h1) (fun i x H' R R' ex s1 k => ?_) (fun H1 s1 hD => ?_)
  · obtain ⟨d, g1, g2⟩ := DpAll.get h2 ex
    rw [getB_at g1] at k
    exact ⟨rfl, _, rfl, x, d, rfl, Dp.mono s1 g2, okDs_mem (ds := ds) ho (List.mem_of_getElem? g1), k⟩
  refine ⟨D, _, rfl, SqL.of hD, ?_⟩
  rw [lx, all_getB]
  refine ⟨_, rfl, iteB (fun z2 => ?_) (fun z2 => fin _ _ ?_ s1)⟩
  · have es : ds = (ds.map strOf).map PyData.str := strs_of fun d hd => by
      obtain ⟨y, e, _⟩ := nmD_str (List.all_eq_true.mp z2 d hd)
      exact ⟨y, e⟩
    have ex : xs = (ds.map strOf).map V.str := dp_strs (by rw [← es]; exact h2)
    have hS : SqL K H1 a ((ds.map strOf).map V.str) ∨ SqT K H1 a ((ds.map strOf).map V.str) := .inr (by rw [← ex]; exact Same.tup s1 h1)
    refine ⟨_, rfl, a, ds.map strOf, rfl, hS, by rw [List.length_map]; omega, _, rfl, a, _, rfl, hS, rfl, ?_⟩
    show Q (.bl (decide (V.int (dcnt (ds.map strOf) (ds.map strOf).length : Int) = V.int (((ds.map strOf).map V.str).length : Int)))) H1
    rw [List.length_map (f := V.str), int_dec, dcnt_all]
    refine fin _ _ ?_ s1
    show (tupI 2 6 (.tuple ds) && ds.all (nmD lettersD) && _) = _
    rw [z2, nb0 z]
    rfl
  · show (tupI 2 6 (.tuple ds) && ds.all (nmD lettersD) && _) = false
    rw [z2, Bool.and_false]
    rfl
theorem ok_arekeysD (T : Top K mg) : FnOk P w K mg base CX0 3 T.a_are_keys T.fd_are_keys ["fields", "value"] (spChkD K keysD) := by
  have G_is_tuple := ok_tupD (P := P) (w := w) (base := base) T
  have G_is_key := ok_iskeyD (P := P) (w := w) (base := base) T
  have G_names_of := ok_namesof (P := P) (w := w) (base := base) T
  refine T.d_are_keys.F.ok sc_are_keys (fun vs H Q E h => ?_) (fun cdv A outer s H vs Q E hr h => ?_)
  · obtain ⟨v, t, fs, d, rfl, _⟩ := h
    rfl
  obtain ⟨v, t, fs, d, rfl, hv, fb, ht, ho, q⟩ := h
  have l2 := fb.len
  refine ⟨_, (pss_cons (ps_if (PW.pt (pw_or (pt_not (pt_val (pe_call G_is_tuple (hr.mono (by decide)) (by rfl) T.d_is_tuple.g T.d_is_tuple.kp T.d_is_tuple.b .nil pass0 (pa_cons (pv 1) (pa_cons pe_int (pa_cons (pe_callB (call_len_seq_K (K := K) (by rfl)) (by rfl) T.b_len PySem.boot_len (pa_cons (pv 0) pa_nil)) pa_nil)))))) (pw_or1 (pt_not (pt_val (pe_callB (cr_all_K (K := K) (by rfl) rfl) (by rfl) T.b_all (by decide +kernel) (pa_cons (pe_lc (own := [("key", 2)]) rfl sc_are_keys.nd (pi_tup_K (K := K) (by rfl) (pv 1)) (blkOk_by (own := [("key", 2)]) (N := ["fields", "value", "key"]) (sc := defScope s_are_keys) (by decide +kernel)) (fun _ _ _ _ _ => by exact (pg_name (i := 2) sc_are_keys.nd rfl (Or.inl rfl))) (fun _ _ _ _ _ => by exact pts_nil) (fun _ _ _ _ _ => by exact (pe_call G_is_key (hr.mono (by decide)) (by rfl) T.d_is_key.g T.d_is_key.kp T.d_is_key.b .nil pass0 (pa_cons (pv 0) (pa_cons (pv 2) pa_nil))))) pa_nil))))))) (pss_one (ps_ret pe_bl)) pss_nil)
    (pss_one (ps_ret (pe_cmpR op_eq (pe_lenSetN (K := K) (by rfl) rfl (by rfl) T.b_len (by rfl) T.b_set (pe_call G_names_of (hr.mono (by decide)) (by rfl) T.d_names_of.g T.d_names_of.kp T.d_names_of.b .nil pass0 (pa_cons (pv 1) pa_nil))) (pe_callB (call_len_seq_K (K := K) (by rfl)) (by rfl) T.b_len PySem.boot_len (pa_cons (pv 1) pa_nil)) (nomark _))))), ?_⟩
  have fin : ∀ b H', keysD fs d = b → Same H H' → Q (.bl b) H' := fun b H' e s => e ▸ q H' s
  obtain ⟨av, vs', rfl, hS, hD⟩ := id hv
  have lv : vs'.length = fs.length := by rw [DpAll.length hD, List.length_map]
  refine ⟨_, rfl, _, rfl, av, vs', rfl, hS, t, d, 0, (vs'.length : Int), rfl, ht, _, rfl, iteB (fun z => fin _ _ (keysD_no (by rw [← lv]; exact nb1 z)) (Same.refl _)) (fun z => ?_)⟩
  obtain ⟨ds, rfl, _, k2⟩ := tupI_of (nb0 z)
  obtain ⟨a, xs, rfl, h1, h2⟩ := dp_tup ht
  have lx : xs.length = ds.length := DpAll.length h2
  have dl : decide (ds.length ≤ fs.length) = true := decide_eq_true (by omega)
  refine ⟨_, rfl, a, rfl, ⟨_, h1⟩, fun D nD => ?_⟩
  refine lc_bools (getB (keyD fs) ds) walk_tup nD (by omega) (fun H' s => Same.tup s h1) (fun i x H' R R' ex s1 k => ?_) (fun H1 s1 hD1 => ?_)
  · obtain ⟨d, g1, g2⟩ := DpAll.get h2 ex
    rw [getB_at g1] at k
    exact ⟨rfl, _, rfl, _, rfl, .ref av, x, fs, d, rfl, hv.mono s1, fb, Dp.mono s1 g2, okDs_mem (ds := ds) ho (List.mem_of_getElem? g1), k⟩
  refine ⟨D, _, rfl, SqL.of hD1, ?_⟩
  rw [lx, all_getB]
  refine ⟨_, rfl, iteB (fun z2 => fin _ _ ?_ s1) (fun z2 => ?_)⟩
  · show (decide (ds.length ≤ fs.length) && ds.all (keyD fs) && _) = false
    rw [nb1 z2, Bool.and_false]
    rfl
  have nm : ∀ d ∈ ds, Named d := fun d hd => by
    have k := List.all_eq_true.mp (nb0 z2) d hd
    unfold keyD at k
    split at k
    · rename_i f s
      rw [Bool.and_eq_true] at k
      obtain ⟨n, e, _⟩ := membD_str k.1
      exact ⟨n, [s], by rw [e]⟩
    · cases k
  have hns : HdS K H1 (.ref a) (ds.map hdN) := HdS.of (DpS.ofT (Dp.mono s1 ht)) nm
  refine ⟨_, rfl, .ref a, ds.map hdN, rfl, hns, by rw [List.length_map]; omega, fun p H2 _ s2 hp2 => ?_⟩
  refine ⟨p, ds.map hdN, rfl, .inl (SqL.of hp2), by rw [List.length_map]; omega, _, rfl, a, xs, rfl, .inr (Same.tup (s1.trans s2) h1), rfl, ?_⟩
  show Q (.bl (decide (V.int (dcnt (ds.map hdN) (ds.map hdN).length : Int) = V.int (xs.length : Int)))) H2
  rw [lx, show ds.length = (ds.map hdN).length by rw [List.length_map], int_dec, dcnt_all]
  refine fin _ _ ?_ (s1.trans s2)
  show (decide (ds.length ≤ fs.length) && ds.all (keyD fs) && _) = _
  rw [nb0 z2, dl]
  rfl
theorem ok_tiefitsD (T : Top K mg) : FnOk P w K mg base CX0 5 T.a_tie_fits T.fd_tie_fits ["fields", "before", "tie"] (spChkN K tieD) := by
  have G_is_tuple := ok_tupD (P := P) (w := w) (base := base) T
  have G_is_program := ok_isprogD (P := P) (w := w) (base := base) T
  have G_name_fits := ok_namefitD (P := P) (w := w) (base := base) T
  refine T.d_tie_fits.F.ok sc_tie_fits (fun vs H Q E h => ?_) (fun cdv A outer s H vs Q E hr h => ?_)
  · obtain ⟨v, b, t, fs, ns, d, rfl, _⟩ := h
    rfl
  obtain ⟨v, b, t, fs, ns, d, rfl, hv, fb, hb, hl, ht, ho, q⟩ := h
  refine ⟨_, (pss_one (ps_ret (pe_and (pe_call G_is_tuple (hr.mono (by decide)) (by rfl) T.d_is_tuple.g T.d_is_tuple.kp T.d_is_tuple.b .nil pass0 (pa_cons (pv 2) (pa_cons pe_int (pa_cons pe_int pa_nil)))) (pe_and (pe_call G_name_fits (hr.mono (by decide)) (by rfl) T.d_name_fits.g T.d_name_fits.kp T.d_name_fits.b .nil pass0 (pa_cons (pv 1) (pa_cons (pe_ix (ix_tup_K (K := K) (by rfl)) (pv 2) pe_int (fun _ _ => rfl)) (pa_cons (pe_gI rfl T.g_MOST_TIES) pa_nil)))) (pe_one (pe_call G_is_program (hr.mono (by decide)) (by rfl) T.d_is_program.g T.d_is_program.kp T.d_is_program.b .nil pass0 (pa_cons (pv 0) (pa_cons (pe_ix (ix_tup_K (K := K) (by rfl)) (pv 2) pe_int (fun _ _ => rfl)) pa_nil)))))))), ?_⟩
  have fin : ∀ b H', tieD fs ns d = b → Same H H' → Q (.bl b) H' := fun b H' e s => e ▸ q H' s
  refine ⟨_, rfl, t, d, 2, 2, rfl, ht, _, rfl, iteB (fun z => ?_) (fun z => fin _ _ (tieD_no z) (Same.refl _))⟩
  obtain ⟨d1, d2, rfl⟩ := tup_two z
  obtain ⟨a, xs, rfl, h1, h2⟩ := dp_tup ht
  obtain ⟨x1, r1, rfl, e1, h2⟩ := dpa_cons h2
  obtain ⟨x2, r2, rfl, e2, h2⟩ := dpa_cons h2
  obtain rfl := dpa_nil h2
  have o1 : okD d1 = true := okDs_mem (ds := [d1, d2]) ho (List.mem_cons_self ..)
  have o2 : okD d2 = true := okDs_mem (ds := [d1, d2]) ho (List.mem_cons_of_mem _ (List.mem_cons_self ..))
  refine ⟨_, rfl, _, rfl, a, _, (0 : Int), x1, rfl, rfl, h1, at_nn (by decide) rfl, b, x1, ns, d1, 4, rfl, hb, hl, e1, o1, fun H1 s1 => ⟨_, rfl, iteB (fun z2 => ?_) (fun z2 => fin _ _ (by show (nameFitD ns 4 d1 && _) = false; rw [z2]; rfl) s1)⟩⟩
  exact ⟨_, rfl, _, rfl, a, _, (1 : Int), x2, rfl, rfl, Same.tup s1 h1, at_nn (by decide) rfl, v, x2, fs, d2, rfl, hv.mono s1, fb, Dp.mono s1 e2, o2, fun H2 s2 => fin _ _ (by show (nameFitD ns 4 d1 && _) = _; rw [z2]; rfl) (s1.trans s2)⟩
theorem ok_kindfitsD (T : Top K mg) : FnOk P w K mg base CX0 5 T.a_kind_fits T.fd_kind_fits ["fields", "before", "kind"] (spChkN K kindD) := by
  have G_is_tuple := ok_tupD (P := P) (w := w) (base := base) T
  have G_is_program := ok_isprogD (P := P) (w := w) (base := base) T
  have G_name_fits := ok_namefitD (P := P) (w := w) (base := base) T
  have G_are_keys := ok_arekeysD (P := P) (w := w) (base := base) T
  have G_is_holding := ok_isholdingD (P := P) (w := w) (base := base) T
  refine T.d_kind_fits.F.ok sc_kind_fits (fun vs H Q E h => ?_) (fun cdv A outer s H vs Q E hr h => ?_)
  · obtain ⟨v, b, t, fs, ns, c, rfl, _⟩ := h
    rfl
  obtain ⟨v, b, t, fs, ns, d, rfl, hv, fb, hb, hl, ht, ho, q⟩ := h
  refine ⟨_, (pss_cons (ps_if (pt_not (pt_val (pe_call G_is_tuple (hr.mono (by decide)) (by rfl) T.d_is_tuple.g T.d_is_tuple.kp T.d_is_tuple.b .nil pass0 (pa_cons (pv 2) (pa_cons pe_int (pa_cons pe_int pa_nil)))))) (pss_one (ps_ret pe_bl)) pss_nil)
    (pss_cons (ps_asg (pv 2) (pg_tup_K (K := K) (by rfl) (n := 4) (by rfl) (pgs_cons (pg_name (i := 3) sc_kind_fits.nd rfl (Or.inl rfl)) (pgs_cons (pg_name (i := 4) sc_kind_fits.nd rfl (Or.inl rfl)) (pgs_cons (pg_name (i := 5) sc_kind_fits.nd rfl (Or.inl rfl)) (pgs_cons (pg_name (i := 6) sc_kind_fits.nd rfl (Or.inl rfl)) pgs_nil))))))
    (pss_cons (ps_if (PW.pt (pw_or (pt_not (pt_val (pe_call G_name_fits (hr.mono (by decide)) (by rfl) T.d_name_fits.g T.d_name_fits.kp T.d_name_fits.b .nil pass0 (pa_cons (pv 1) (pa_cons (pv 3) (pa_cons (pe_gI rfl T.g_MOST_KINDS) pa_nil)))))) (pw_or1 (pt_not (pt_val (pe_call G_are_keys (hr.mono (by decide)) (by rfl) T.d_are_keys.g T.d_are_keys.kp T.d_are_keys.b .nil pass0 (pa_cons (pv 0) (pa_cons (pv 4) pa_nil)))))))) (pss_one (ps_ret pe_bl)) pss_nil)
    (pss_one (ps_ret (pe_and (L2.pe_or (pe_cmpR op_isN (pv 5) pe_non (nomark _)) (pe_one (pe_call G_is_program (hr.mono (by decide)) (by rfl) T.d_is_program.g T.d_is_program.kp T.d_is_program.b .nil pass0 (pa_cons (pv 0) (pa_cons (pv 5) pa_nil))))) (pe_one (pe_call G_is_holding (hr.mono (by decide)) (by rfl) T.d_is_holding.g T.d_is_holding.kp T.d_is_holding.b .nil pass0 (pa_cons (pv 0) (pa_cons (pv 6) pa_nil)))))))))), ?_⟩
  have fin : ∀ b H', kindD fs ns d = b → Same H H' → Q (.bl b) H' := fun b H' e s => e ▸ q H' s
  refine ⟨_, rfl, t, d, 4, 4, rfl, ht, _, rfl, iteB (fun z => fin _ _ (kindD_no (nb1 z)) (Same.refl _)) (fun z => ?_)⟩
  obtain ⟨d1, d2, d3, d4, rfl⟩ := tup_four (nb0 z)
  obtain ⟨a, xs, rfl, h1, h2⟩ := dp_tup ht
  obtain ⟨x1, r1, rfl, e1, h2⟩ := dpa_cons h2
  obtain ⟨x2, r2, rfl, e2, h2⟩ := dpa_cons h2
  obtain ⟨x3, r3, rfl, e3, h2⟩ := dpa_cons h2
  obtain ⟨x4, r4, rfl, e4, h2⟩ := dpa_cons h2
  obtain rfl := dpa_nil h2
  have om : ∀ d ∈ [d1, d2, d3, d4], okD d = true := fun d hd => okDs_mem (ds := [d1, d2, d3, d4]) ho hd
  have o1 := om d1 (by simp)
  have o2 := om d2 (by simp)
  have o3 := om d3 (by simp)
  have o4 := om d4 (by simp)
  refine ⟨_, rfl, a, _, rfl, h1, rfl, _, _, rfl, _, _, rfl, _, _, rfl, _, _, rfl, rfl, ?_⟩
  refine ⟨_, rfl, _, rfl, b, x1, ns, d1, 3, rfl, hb, hl, e1, o1, fun H1 s1 => ⟨_, rfl, iteB (fun z1 => ?_) (fun z1 => ?_)⟩⟩
  · refine fin _ _ ?_ s1
    show (nameFitD ns 3 d1 && _ && _ && _) = false
    rw [nb1 z1]
    rfl
  refine ⟨_, rfl, _, rfl, v, x2, fs, d2, rfl, hv.mono s1, fb, Dp.mono s1 e2, o2, fun H2 s2 => ⟨_, rfl, iteB (fun z2 => fin _ _ ?_ (s1.trans s2)) (fun z2 => ?_)⟩⟩
  · show (nameFitD ns 3 d1 && keysD fs d2 && _ && _) = false
    rw [nb1 z2, Bool.and_false]
    rfl
  have s12 := s1.trans s2
  have z1 := nb0 z1
  have z2 := nb0 z2
  have fin2 : ∀ H3, Same H2 H3 → (nonD d3 || progD fs d3) = true → tCall (spChkD K holdD) [] E0 (tCons (tVar 0) (tCons (tVar 6) tNil)) [some v, some b, some (.ref a), some x1, some x2, some x3, some x4] H3 Q := fun H3 s3 e3 =>
    ⟨_, rfl, _, rfl, v, x4, fs, d4, rfl, hv.mono (s12.trans s3), fb, Dp.mono (s12.trans s3) e4, o4, fun H4 s4 => fin _ _ (by show (nameFitD ns 3 d1 && keysD fs d2 && (nonD d3 || progD fs d3) && holdD fs d4) = _; rw [z1, z2, e3]; rfl) (s12.trans (s3.trans s4))⟩
  by_cases hn : d3 = .none
  · subst hn
    obtain rfl := dp_non e3
    exact ⟨_, rfl, rfl, _, rfl, iteY rfl ⟨_, rfl, iteT (fin2 _ (Same.refl _) rfl)⟩⟩
  · have ne : x3 ≠ .non := fun z => by
      subst z
      cases e3
      exact hn rfl
    have e : (nonD d3 || progD fs d3) = progD fs d3 := by cases d3 <;> first | rfl | exact absurd rfl hn
    refine ⟨_, rfl, rfl, _, rfl, iteN ne ⟨_, rfl, _, rfl, v, x3, fs, d3, rfl, hv.mono s12, fb, Dp.mono s12 e3, o3, fun H3 s3 => ⟨_, rfl, iteB (fun z3 => fin2 _ s3 (e.trans z3)) (fun z3 => fin _ _ ?_ (s12.trans s3))⟩⟩⟩
    show (nameFitD ns 3 d1 && keysD fs d2 && (nonD d3 || progD fs d3) && _) = _
    rw [e, z3, Bool.and_false]
    rfl
theorem ok_fieldfitsD (T : Top K mg) : FnOk P w K mg base CX0 4 T.a_field_fits T.fd_field_fits ["before", "field"] (spFieldD K) := by
  have G_is_tuple := ok_tupD (P := P) (w := w) (base := base) T
  have G_name_fits := ok_namefitD (P := P) (w := w) (base := base) T
  have G_are_options := ok_areoptsD (P := P) (w := w) (base := base) T
  have G_values_of := ok_valuesof (P := P) (w := w) (base := base) T
  refine T.d_field_fits.F.ok sc_field_fits (fun vs H Q E h => ?_) (fun cdv A outer s H vs Q E hr h => ?_)
  · obtain ⟨b, t, fs, f, rfl, _⟩ := h
    rfl
  obtain ⟨b, t, fs, d, rfl, hb, fb, fv, lv, ht, ho, q⟩ := h
  refine ⟨_, (pss_cons (ps_if (PW.pt (pw_or (pt_not (pt_val (pe_call G_is_tuple (hr.mono (by decide)) (by rfl) T.d_is_tuple.g T.d_is_tuple.kp T.d_is_tuple.b .nil pass0 (pa_cons (pv 1) (pa_cons pe_int (pa_cons pe_int pa_nil)))))) (pw_or (pt_not (pt_val (pe_call G_name_fits (hr.mono (by decide)) (by rfl) T.d_name_fits.g T.d_name_fits.kp T.d_name_fits.b .nil pass0 (pa_cons (pv 0) (pa_cons (pe_ix (ix_tup_K (K := K) (by rfl)) (pv 1) pe_int (fun _ _ => rfl)) (pa_cons (pe_gI rfl T.g_MOST_FIELDS) pa_nil)))))) (pw_or1 (pt_not (pt_val (pe_call G_are_options (hr.mono (by decide)) (by rfl) T.d_are_options.g T.d_are_options.kp T.d_are_options.b .nil pass0 (pa_cons (pe_ix (ix_tup_K (K := K) (by rfl)) (pv 1) pe_int (fun _ _ => rfl)) pa_nil)))))))) (pss_one (ps_ret pe_bl)) pss_nil)
    (pss_one (ps_ret (pe_cmpR op_le (pe_callB (call_len_seq_K (K := K) (by rfl)) (by rfl) T.b_len PySem.boot_len (pa_cons (pe_call G_values_of (hr.mono (by decide)) (by rfl) T.d_values_of.g T.d_values_of.kp T.d_values_of.b .nil pass0 (pa_cons (pe_lst (pa_starK (K := K) (by rfl) (pv 0) (pa_cons (pv 1) pa_nil))) pa_nil)) pa_nil)) (pe_gI rfl T.g_MOST_VALUES) (nomark _))))), ?_⟩
  have fin : ∀ b H', fieldD fs d = b → Same H H' → Q (.bl b) H' := fun b H' e s => e ▸ q H' s
  have lf : (fs.map (·.1)).length = fs.length := List.length_map _
  have few := fb.len
  refine ⟨_, rfl, t, d, 2, 2, rfl, ht, _, rfl, iteB (fun z => fin _ _ (fieldD_no (nb1 z)) (Same.refl _)) (fun z => ?_)⟩
  obtain ⟨d1, d2, rfl⟩ := tup_two (nb0 z)
  obtain ⟨a, xs, rfl, h1, h2⟩ := dp_tup ht
  obtain ⟨x1, r1, rfl, e1, h2⟩ := dpa_cons h2
  obtain ⟨x2, r2, rfl, e2, h2⟩ := dpa_cons h2
  obtain rfl := dpa_nil h2
  have o1 : okD d1 = true := okDs_mem (ds := [d1, d2]) ho (List.mem_cons_self ..)
  have o2 : okD d2 = true := okDs_mem (ds := [d1, d2]) ho (List.mem_cons_of_mem _ (List.mem_cons_self ..))
  refine ⟨_, rfl, _, rfl, a, _, (0 : Int), x1, rfl, rfl, h1, at_nn (by decide) rfl, b, x1, fs.map (·.1), d1, 3, rfl, names_hd hb, by omega, e1, o1, fun H1 s1 => ⟨_, rfl, iteB (fun z1 => ?_) (fun z1 => ?_)⟩⟩
  · refine fin _ _ ?_ s1
    show (nameFitD (fs.map (·.1)) 3 d1 && _ && _) = false
    rw [nb1 z1]
    rfl
  have z1 := nb0 z1
  refine ⟨_, rfl, a, _, (1 : Int), x2, rfl, rfl, Same.tup s1 h1, at_nn (by decide) rfl, x2, d2, rfl, Dp.mono s1 e2, o2, fun H2 s2 => ⟨_, rfl, iteB (fun z2 => ?_) (fun z2 => ?_)⟩⟩
  · refine fin _ _ ?_ (s1.trans s2)
    show (nameFitD (fs.map (·.1)) 3 d1 && optsAreD d2 && _) = false
    rw [nb1 z2, Bool.and_false]
    rfl
  have z2 := nb0 z2
  have s12 := s1.trans s2
  have k1 : (decide ((fs.map (·.1)).length < 3) && nmD letters d1 && !membD (fs.map (·.1)) d1) = true := z1
  rw [Bool.and_eq_true, Bool.and_eq_true, decide_eq_true_iff] at k1
  obtain ⟨⟨l3, kn⟩, km⟩ := k1
  obtain ⟨n, rfl, _⟩ := nmD_str kn
  have nn : n ∉ fs.map (·.1) := of_decide_eq_false (nb1 km)
  obtain ⟨os, rfl, l6, hs, es⟩ : ∃ os, d2 = .tuple os ∧ os.length ≤ 6 ∧ (os.map strOf).Nodup ∧ os = (os.map strOf).map PyData.str := optsAreD_of z2
  obtain ⟨ab, bs, rfl, hS, hD⟩ := hb.mono s12
  have lb : bs.length = fs.length := by rw [DpAll.length hD, List.length_map]
  refine ⟨_, rfl, ab, bs, rfl, hS.symm, _, rfl, (by rw [List.length_append, lb]; show _ + 1 ≤ sizeLine; exact le_line (by omega)), fun p np => ?_⟩
  have s3 := same_new (o := .lst (bs ++ [.ref a])) np
  have lo : (os.map strOf).length ≤ 6 := by rw [List.length_map]; exact l6
  have sz : (vals (fs ++ [(n, os.map strOf)])).length ≤ 6000 := by
    rw [vals_snoc]
    exact Nat.le_trans (Nat.mul_le_mul lv lo) (by decide)
  refine ⟨.ref p, fs ++ [(n, os.map strOf)], rfl, ⟨p, _, rfl, .inl (SqL.of upd_same), ?_⟩, ⟨?_, ?_, ?_⟩, fun i => ?_, fun p2 ys H4 _ s4 hp2 hys => ?_⟩
  · rw [List.map_append]
    refine dpa_snoc (DpAll.mono s3 hD) ?_
    have : dF (n, os.map strOf) = .tuple [.str n, .tuple os] := by
      show PyData.tuple [.str n, .tuple ((os.map strOf).map PyData.str)] = _
      rw [← es]
    rw [this]
    exact Dp.mono (s12.trans s3) ht
  · rw [List.map_append, List.nodup_append]
    refine ⟨fb.nd, by simp, fun x hx y hy e => ?_⟩
    rw [List.mem_singleton.mp hy] at e
    have e : x = n := e
    exact nn (e ▸ hx)
  · rw [List.length_append]
    show _ + 1 ≤ 1000
    omega
  · intro f hf
    rcases List.mem_append.mp hf with hf | hf
    · exact fb.os f hf
    · rw [List.mem_singleton.mp hf]
      show (os.map strOf).length ≤ 1000
      omega
  · by_cases hi : i ≤ fs.length
    · rw [List.take_append_of_le_length hi]
      exact fv i
    · rw [List.take_of_length_le (by rw [List.length_append]; show _ + 1 ≤ _; omega)]
      omega
  have ly : ys.length = (vals (fs ++ [(n, os.map strOf)])).length := by rw [DpAll.length hys, List.length_map]
  refine ⟨p2, ys, rfl, .inl (SqL.of hp2), _, _, rfl, rfl, ?_⟩
  show Q (.bl (decide ((ys.length : Int) ≤ 24))) H4
  refine fin _ _ ?_ (s12.trans (s3.trans s4))
  show (nameFitD (fs.map (·.1)) 3 (.str n) && optsAreD (.tuple os) && decide ((vals (fs ++ [(n, os.map strOf)])).length ≤ 24)) = _
  rw [z1, z2, ly]
  show decide _ = decide _
  exact decide_eq_decide.mpr (by omega)
end
end Bh

set_option Elab.async false
set_option linter.all false
set_option maxRecDepth 100000
set_option maxHeartbeats 1000000
set_option autoImplicit false
namespace Bh
open PySem PySem.Spec PyProof.Rows L2 LamX NdefX
/-! ### what fits is told to fit -/
/-- no text is long -/
def FsS (fs : List Fld) : Prop := ∀ f ∈ fs, f.1.length ≤ 100000 ∧ ∀ o ∈ f.2, o.length ≤ 100000
def GoodFs (fs : List Fld) : Prop := ∀ (j : Nat) (f : Fld), fs[j]? = some f → OkFld (fs.take j) f
theorem GoodFs.s {fs : List Fld} (h : GoodFs fs) : FsS fs := fun f hf => by
  obtain ⟨j, hj⟩ := List.mem_iff_getElem?.mp hf
  have k := h j f hj
  exact ⟨Nat.le_trans k.nm.hi (by decide), fun o ho => Nat.le_trans (k.op o ho).2 (by decide)⟩
theorem GoodFs.take {fs : List Fld} (h : GoodFs fs) (j : Nat) : FsB (fs.take j) ∧ FsV (fs.take j) ∧ (vals (fs.take j)).length ≤ 1000 := by
  induction j with
  | zero =>
    rw [List.take_zero]
    exact ⟨⟨List.nodup_nil, Nat.zero_le _, fun f hf => nomatch hf⟩, fun i => by rw [List.take_nil]; decide, by decide⟩
  | succ j ih =>
    cases e : fs[j]? with
    | none =>
      have l := List.getElem?_eq_none_iff.mp e
      rw [List.take_of_length_le (by omega)]
      rw [List.take_of_length_le l] at ih
      exact ih
    | some f =>
      have k := h j f e
      have t : fs.take (j + 1) = fs.take j ++ [f] := by rw [List.take_add_one, e]; rfl
      rw [t]
      exact ⟨k.fb, k.fv, Nat.le_trans k.sz (by decide)⟩
theorem GoodFs.all {fs : List Fld} (h : GoodFs fs) : FsB fs ∧ FsV fs ∧ (vals fs).length ≤ 1000 := by
  have k := h.take fs.length
  rw [List.take_length] at k
  exact k
theorem membD_of {zs : List Str} {z : Str} (h : z ∈ zs) : membD zs (.str z) = true := decide_eq_true h
theorem nameFitD_ok {ns : List Str} {m : Nat} {n : Str} (l : ns.length < m) (h : IsNm n) (no : n ∉ ns) : nameFitD ns m (.str n) = true := by
  show (decide (ns.length < m) && wordB n letters && !decide (n ∈ ns)) = true
  rw [decide_eq_true l, h.word, decide_eq_false no]
  rfl
theorem strOf_strs (os : List Str) : (os.map PyData.str).map strOf = os := by
  rw [List.map_map]
  exact List.map_id' os
theorem optsAreD_ok {os : List Str} (lo : 2 ≤ os.length) (hi : os.length ≤ 6) (nd : os.Nodup) (op : ∀ o ∈ os, IsOp o) : optsAreD (.tuple (os.map PyData.str)) = true := by
  show (tupI 2 6 (.tuple (os.map PyData.str)) && (os.map PyData.str).all (nmD lettersD) && decide (((os.map PyData.str).map strOf).Nodup)) = true
  rw [strOf_strs, decide_eq_true nd, Bool.and_true, Bool.and_eq_true]
  constructor
  · show (decide (_ ≤ _) && decide (_ ≤ _)) = true
    rw [List.length_map, decide_eq_true (by omega), decide_eq_true (by omega)]
    rfl
  · rw [List.all_eq_true]
    intro d hd
    obtain ⟨o, ho, rfl⟩ := List.mem_map.mp hd
    exact (op o ho).1
theorem fieldD_ok {fs : List Fld} {f : Fld} (h : OkFld fs f) : fieldD fs (dF f) = true := by
  show (nameFitD (fs.map (·.1)) 3 (.str f.1) && optsAreD (.tuple (f.2.map PyData.str)) && decide ((vals (fs ++ [(f.1, (f.2.map PyData.str).map strOf)])).length ≤ 24)) = true
  rw [nameFitD_ok (by rw [List.length_map]; exact h.few) h.nm h.no, optsAreD_ok h.lo h.hi h.nd h.op, strOf_strs, decide_eq_true h.sz]
  rfl
theorem optsD_of {fs : List Fld} (nd : (fs.map (·.1)).Nodup) {x : Str} (h : x ∈ fs.map (·.1)) : optsD fs (.str x) = optsOf fs x := by
  obtain ⟨f, g1, g2, g3⟩ := pos_at h
  rw [← g3]
  refine optsD_at g1 (by rw [eqv_strs, g2]; exact decide_eq_true rfl) fun j g hj hg => ?_
  rw [eqv_strs]
  refine decide_eq_false fun e => ?_
  have a1 : (fs.map (·.1))[j]? = some x := by rw [List.getElem?_map, hg, ← e]; rfl
  have a2 : (fs.map (·.1))[posOf fs x]? = some x := by rw [List.getElem?_map, g1, ← g2]; rfl
  have := (List.getElem?_inj (List.getElem?_eq_some_iff.mp a1).1 nd).mp (a1.trans a2.symm)
  omega
theorem testD_ok {fs : List Fld} (nd : (fs.map (·.1)).Nodup) {t : Tst} (h : FitT fs t) (s : t.2.1 ∈ signs) : testD fs (dT t) = true := by
  show (membD signs (.str t.2.1) && membD (optsD fs (.str t.1)) (.str t.2.2)) = true
  rw [membD_of s, optsD_of nd h.1, membD_of h.2]
  rfl
theorem stepD_ok {fs : List Fld} (nd : (fs.map (·.1)).Nodup) {t : Stp} (h : FitS fs t) : stepD fs (dS t) = true := by
  show (membD ("+" :: optsD fs (.str t.1)) (.str t.2) && membD (fs.map (·.1)) (.str t.1)) = true
  rw [optsD_of nd h.1, membD_of h.1, membD_of]
  · rfl
  · by_cases z : t.2 = "+"
    · rw [z]
      exact List.mem_cons_self ..
    · exact List.mem_cons_of_mem _ (h.2 z)
theorem all_map {α : Type} {f : α → PyData} {p : PyData → Bool} {l : List α} (h : ∀ x ∈ l, p (f x) = true) : (l.map f).all p = true := by
  rw [List.all_eq_true]
  intro d hd
  obtain ⟨x, hx, rfl⟩ := List.mem_map.mp hd
  exact h x hx
theorem caseD_ok {fs : List Fld} (nd : (fs.map (·.1)).Nodup) {c : Cas} (h : OkCas fs c) : caseD fs (dC c) = true := by
  have e1 : testsD fs (.tuple (c.1.map dT)) = true := by
    show (decide (_ ≤ _) && _) = true
    rw [List.length_map, decide_eq_true h.nt, all_map fun t ht => testD_ok nd (h.fit.t t ht) (h.sg t ht)]
    rfl
  have e2 : stepsD fs (dO c.2) = true := by
    cases hc : c.2 with
    | none => rfl
    | some ss =>
      show (decide (_ ≤ _) && _) = true
      rw [List.length_map, decide_eq_true (h.ns ss hc), all_map fun t ht => stepD_ok nd (h.fit.s ss hc t ht)]
      rfl
  show (testsD fs (.tuple (c.1.map dT)) && stepsD fs (dO c.2)) = true
  rw [e1, e2]
  rfl
theorem progD_ok {fs : List Fld} (nd : (fs.map (·.1)).Nodup) {p : List Cas} (h : OkPrg fs p) : progD fs (dP p) = true := by
  show (tupI 1 8 (.tuple (p.map dC)) && (p.map dC).all (caseD fs)) = true
  rw [all_map fun c hc => caseD_ok nd (h.all c hc), Bool.and_true]
  show (decide (_ ≤ _) && decide (_ ≤ _)) = true
  have := h.lo
  have := h.hi
  rw [List.length_map, decide_eq_true (by omega), decide_eq_true (by omega)]
  rfl
theorem tieD_ok {fs : List Fld} {ns : List Str} (nd : (fs.map (·.1)).Nodup) {t : Tie} (l : ns.length < 4) (no : t.1 ∉ ns) (h : IsNm t.1) (p : OkPrg fs t.2) : tieD fs ns (dTie t) = true := by
  show (nameFitD ns 4 (.str t.1) && progD fs (dP t.2)) = true
  rw [nameFitD_ok l h no, progD_ok nd p]
  rfl
theorem valD_ok {fs : List Fld} {v : List Str} (h : FitV fs v) : valD fs (dV v) = true := by
  show (decide ((v.map PyData.str).length = fs.length) && ((List.range fs.length).map (valI fs (v.map PyData.str))).all id) = true
  rw [List.length_map, decide_eq_true h.1, Bool.true_and, List.all_map, List.all_eq_true]
  intro i _
  show valI fs (v.map PyData.str) i = true
  unfold valI
  split
  · rename_i f o e1 e2
    rw [List.getElem?_map] at e2
    cases e3 : v[i]? with
    | none =>
      rw [e3] at e2
      cases e2
    | some w =>
      rw [e3] at e2
      cases e2
      exact membD_of (h.2 i f w e1 e3)
  · rfl
theorem hdN_keys (ks : List (Str × Str)) : (ks.map dKey).map hdN = ks.map (·.1) := by
  rw [List.map_map]
  rfl
theorem keysD_ok {fs : List Fld} {ks : List (Str × Str)} (h : OkKeys fs ks) : keysD fs (.tuple (ks.map dKey)) = true := by
  show (decide (_ ≤ _) && (ks.map dKey).all (keyD fs) && decide (((ks.map dKey).map hdN).Nodup)) = true
  rw [List.length_map, decide_eq_true h.hi, hdN_keys, decide_eq_true h.nd, all_map fun k hk => ?_]
  · rfl
  · show (membD (fs.map (·.1)) (.str k.1) && membD ["+", "-"] (.str k.2)) = true
    rw [membD_of (h.all k hk).1, membD_of]
    · rfl
    · rcases (h.all k hk).2 with z | z <;> rw [z] <;> simp
theorem kindD_ok {fs : List Fld} {ns : List Str} (nd : (fs.map (·.1)).Nodup) {k : Knd} (l : ns.length < 3) (no : k.name ∉ ns) (h : OkKnd fs k) : kindD fs ns (dKnd k) = true := by
  show (nameFitD ns 3 (.str k.name) && keysD fs (.tuple (k.keys.map dKey)) && (nonD (dOP k.taking) || progD fs (dOP k.taking)) && holdD fs (dH k.birth)) = true
  have e1 : (nonD (dOP k.taking) || progD fs (dOP k.taking)) = true := by
    cases e : k.taking with
    | none => rfl
    | some p => exact progD_ok nd (h.tk p e)
  have e2 : holdD fs (dH k.birth) = true := by
    cases e : k.birth with
    | none => rfl
    | some v => exact valD_ok (h.bt v e)
  rw [nameFitD_ok l h.nm no, keysD_ok h.ks, e1, e2]
  rfl
/-! ### none of their texts is long -/
theorem okD_strs {os : List Str} (h : ∀ o ∈ os, o.length ≤ 100000) : okD (.tuple (os.map PyData.str)) = true := okDs_map fun o ho => okD_str (h o ho)
theorem okD_dF {f : Fld} (h : f.1.length ≤ 100000 ∧ ∀ o ∈ f.2, o.length ≤ 100000) : okD (dF f) = true := by
  show (okD (.str f.1) && (okD (.tuple (f.2.map PyData.str)) && true)) = true
  rw [okD_str h.1, okD_strs h.2]
  rfl
theorem FsS.name {fs : List Fld} (h : FsS fs) {x : Str} (m : x ∈ fs.map (·.1)) : x.length ≤ 100000 := by
  obtain ⟨f, hf, rfl⟩ := List.mem_map.mp m
  exact (h f hf).1
theorem FsS.opt {fs : List Fld} (h : FsS fs) {x o : Str} (m : x ∈ fs.map (·.1)) (ho : o ∈ optsOf fs x) : o.length ≤ 100000 := by
  obtain ⟨f, g1, g2, g3⟩ := pos_at m
  rw [← g3] at ho
  exact (h f (List.mem_of_getElem? g1)).2 o ho
theorem sg_le {z : Str} (h : z ∈ signs) : z.length ≤ 100000 := by
  have : ∀ z ∈ signs, z.length ≤ 100000 := by decide +kernel
  exact this z h
theorem okD_dC {fs : List Fld} (s : FsS fs) {c : Cas} (h : OkCas fs c) : okD (dC c) = true := by
  have e1 : okD (.tuple (c.1.map dT)) = true := okDs_map fun t ht => by
    have k := h.fit.t t ht
    show (okD (.str t.1) && (okD (.str t.2.1) && (okD (.str t.2.2) && true))) = true
    rw [okD_str (s.name k.1), okD_str (sg_le (h.sg t ht)), okD_str (s.opt k.1 k.2)]
    rfl
  have e2 : okD (dO c.2) = true := by
    cases hc : c.2 with
    | none => rfl
    | some ss =>
      refine okDs_map fun t ht => ?_
      have k := h.fit.s ss hc t ht
      show (okD (.str t.1) && (okD (.str t.2) && true)) = true
      have : t.2.length ≤ 100000 := by
        by_cases z : t.2 = "+"
        · rw [z]
          decide
        · exact s.opt k.1 (k.2 z)
      rw [okD_str (s.name k.1), okD_str this]
      rfl
  show (okD (.tuple (c.1.map dT)) && (okD (dO c.2) && true)) = true
  rw [e1, e2]
  rfl
theorem okD_dP {fs : List Fld} (s : FsS fs) {p : List Cas} (h : OkPrg fs p) : okD (dP p) = true := okDs_map fun c hc => okD_dC s (h.all c hc)
theorem okD_dTie {fs : List Fld} (s : FsS fs) {t : Tie} (n : IsNm t.1) (h : OkPrg fs t.2) : okD (dTie t) = true := by
  show (okD (.str t.1) && (okD (dP t.2) && true)) = true
  rw [okD_str (Nat.le_trans n.hi (by decide)), okD_dP s h]
  rfl
theorem okD_dKnd {fs : List Fld} (s : FsS fs) {k : Knd} (h : OkKnd fs k) : okD (dKnd k) = true := by
  have e1 : okD (.tuple (k.keys.map dKey)) = true := okDs_map fun x hx => by
    have z := h.ks.all x hx
    show (okD (.str x.1) && (okD (.str x.2) && true)) = true
    have : x.2.length ≤ 100000 := by rcases z.2 with e | e <;> rw [e] <;> decide
    rw [okD_str (s.name z.1), okD_str this]
    rfl
  have e2 : okD (dOP k.taking) = true := by
    cases e : k.taking with
    | none => rfl
    | some p => exact okD_dP s (h.tk p e)
  have e3 : okD (dH k.birth) = true := by
    cases e : k.birth with
    | none => rfl
    | some v =>
      refine okD_strs fun o ho => ?_
      have z := h.bt v e
      obtain ⟨i, hi⟩ := List.mem_iff_getElem?.mp ho
      have li : i < fs.length := by
        rw [← z.1]
        exact (List.getElem?_eq_some_iff.mp hi).1
      exact (s _ (List.getElem_mem li)).2 o (z.2 i _ o (List.getElem?_eq_getElem li) hi)
  show (okD (.str k.name) && (okD (.tuple (k.keys.map dKey)) && (okD (dOP k.taking) && (okD (dH k.birth) && true)))) = true
  rw [okD_str (Nat.le_trans h.nm.hi (by decide)), e1, e2, e3]
  rfl
end Bh

set_option Elab.async false
set_option linter.all false
set_option maxRecDepth 100000
set_option maxHeartbeats 1000000
namespace Bh
open PySem PySem.Spec PyProof.Rows L2
section
variable {P : Program} {w : World} {K : PySem.W.Frag} {mg : Str → Option Value} {base : Heap}
theorem copy_step (T : Top K mg) (n : Nat) (G_copy_of : FnOk P w K mg base CX0 n T.a_copy_of T.fd_copy_of ["value"] (spCp K n)) : FnOk P w K mg base CX0 (n + 1) T.a_copy_of T.fd_copy_of ["value"] (spCp K (n + 1)) := by
  refine T.d_copy_of.F.ok sc_copy_of (fun vs H Q E h => ?_) (fun cdv A outer s H vs Q E hr h => ?_)
  · obtain ⟨v, d, rfl, _⟩ := h
    rfl
  obtain ⟨v, d, rfl, hd, hs, q⟩ := h
  refine ⟨_, (pss_cons (ps_if (pt_val (pe_callB (call_isi_K (K := K) (by rfl)) (by rfl) T.b_isinstance (by decide +kernel) (pa_cons (pv 0) (pa_cons (pe_tyN "list" (by rfl) T.b_list (by decide +kernel)) pa_nil)))) (pss_one (ps_ret (pe_lc (own := [("item", 1)]) rfl sc_copy_of.nd (pi_seq_K (K := K) (by rfl) (pv 0)) (blkOk_by (own := [("item", 1)]) (N := ["value", "item", "key", "worth"]) (sc := defScope s_copy_of) (by decide +kernel)) (fun _ _ _ _ _ => by exact (pg_name (i := 1) sc_copy_of.nd rfl (Or.inl rfl))) (fun _ _ _ _ _ => by exact pts_nil) (fun _ _ _ _ _ => by exact (pe_call G_copy_of hr (by rfl) T.d_copy_of.g T.d_copy_of.kp T.d_copy_of.b .nil pass0 (pa_cons (pv 1) pa_nil)))))) pss_nil)
    (pss_cons (ps_if (pt_val (pe_callB (call_isi_K (K := K) (by rfl)) (by rfl) T.b_isinstance (by decide +kernel) (pa_cons (pv 0) (pa_cons (pe_tyN "tuple" (by rfl) T.b_tuple (by decide +kernel)) pa_nil)))) (pss_one (ps_ret (pe_callTy (call_tuple_of_P (K := K) (by rfl)) (by rfl) T.b_tuple (by decide +kernel) (pa_cons (pe_lc (own := [("item", 1)]) rfl sc_copy_of.nd (pi_seq_K (K := K) (by rfl) (pv 0)) (blkOk_by (own := [("item", 1)]) (N := ["value", "item", "key", "worth"]) (sc := defScope s_copy_of) (by decide +kernel)) (fun _ _ _ _ _ => by exact (pg_name (i := 1) sc_copy_of.nd rfl (Or.inl rfl))) (fun _ _ _ _ _ => by exact pts_nil) (fun _ _ _ _ _ => by exact (pe_call G_copy_of hr (by rfl) T.d_copy_of.g T.d_copy_of.kp T.d_copy_of.b .nil pass0 (pa_cons (pv 1) pa_nil)))) pa_nil)))) pss_nil)
    (pss_cons (ps_if (pt_val (pe_callB (call_isi_K (K := K) (by rfl)) (by rfl) T.b_isinstance (by decide +kernel) (pa_cons (pv 0) (pa_cons (pe_tyN "dict" (by rfl) T.b_dict (by decide +kernel)) pa_nil)))) (pss_one ps_never) pss_nil)
    (pss_one (ps_ret (pv 0)))))), ?_⟩
  cases hd with
  | non => exact ⟨_, rfl, _, _, _, _, false, rfl, .ty _, .base .non, kit_ty (by decide +kernel), _, rfl, iteF ⟨_, rfl, _, _, _, _, false, rfl, .ty _, .base .non, kit_ty (by decide +kernel), _, rfl, iteF ⟨_, rfl, _, _, _, _, false, rfl, .ty _, .base .non, kit_ty (by decide +kernel), _, rfl, iteF ⟨_, rfl, q _ _ (Same.refl _) .non⟩⟩⟩⟩
  | bl b => exact ⟨_, rfl, _, _, _, _, false, rfl, .ty _, .base (.bl b), kit_ty (by decide +kernel), _, rfl, iteF ⟨_, rfl, _, _, _, _, false, rfl, .ty _, .base (.bl b), kit_ty (by decide +kernel), _, rfl, iteF ⟨_, rfl, _, _, _, _, false, rfl, .ty _, .base (.bl b), kit_ty (by decide +kernel), _, rfl, iteF ⟨_, rfl, q _ _ (Same.refl _) (.bl b)⟩⟩⟩⟩
  | int i => exact ⟨_, rfl, _, _, _, _, false, rfl, .ty _, .base (.int i), kit_ty (by decide +kernel), _, rfl, iteF ⟨_, rfl, _, _, _, _, false, rfl, .ty _, .base (.int i), kit_ty (by decide +kernel), _, rfl, iteF ⟨_, rfl, _, _, _, _, false, rfl, .ty _, .base (.int i), kit_ty (by decide +kernel), _, rfl, iteF ⟨_, rfl, q _ _ (Same.refl _) (.int i)⟩⟩⟩⟩
  | str z => exact ⟨_, rfl, _, _, _, _, false, rfl, .ty _, .base (.str z), kit_ty (by decide +kernel), _, rfl, iteF ⟨_, rfl, _, _, _, _, false, rfl, .ty _, .base (.str z), kit_ty (by decide +kernel), _, rfl, iteF ⟨_, rfl, _, _, _, _, false, rfl, .ty _, .base (.str z), kit_ty (by decide +kernel), _, rfl, iteF ⟨_, rfl, q _ _ (Same.refl _) (.str z)⟩⟩⟩⟩
  | @lst a xs ds h1 h2 =>
    cases hs with
    | @lst m _ hl hall =>
    have lx := DpAll.length h2
    refine ⟨_, rfl, _, _, _, _, true, rfl, .ty _, tyL h1, kit_ty (by decide +kernel), _, rfl, iteT (.inl ⟨_, rfl, a, rfl, ⟨_, h1⟩, fun D nD => ?_⟩)⟩
    refine lc_it walk_list (fun i H' => ∃ ys, Same H H' ∧ H' D = some (.lst ys) ∧ DpAll K (hid D (newOf H H')) ys (ds.take i)) ⟨[], same_new nD, upd_same, .nil⟩ (fun i H' _ ⟨_, e, _⟩ => e.seq h1) ?_ ?_
    · rintro i y H' H'' hi ⟨ys, s1, hD, hY⟩ ⟨rfl, ey⟩
      obtain ⟨d, e1, e2⟩ := DpAll.get h2 ey
      refine ⟨rfl, _, rfl, y, d, rfl, Dp.mono s1 e2, hall d (List.mem_of_getElem? e1), fun H3 r s3 hr3 => ⟨ys, s3 _ _ hD, ?_, ys ++ [r], same_mut (s1.trans s3) nD, upd_same, ?_⟩⟩
      · rw [DpAll.length hY, List.length_take]
        exact lt_line (by omega)
      · rw [List.take_add_one, e1]
        exact DpAll.append (DpAll.mono (hid_newOf s3) hY) (.cons (Dp.mono (newOf_hid s1 hD) hr3) .nil)
    · rintro H' ⟨ys, s1, hD, hY⟩
      rw [lx, List.take_length] at hY
      exact q _ _ s1 (.lst (SqL.of ((newOf_at nD).trans hD)) (DpAll.mono hid_le hY))
  | @tup a xs ds h1 h2 =>
    cases hs with
    | @tup m _ hl hall =>
    have lx := DpAll.length h2
    refine ⟨_, rfl, _, _, _, _, false, rfl, .ty _, tyT h1, kit_ty (by decide +kernel), _, rfl, iteF ?_⟩
    refine ⟨_, rfl, _, _, _, _, true, rfl, .ty _, tyT h1, kit_ty (by decide +kernel), _, rfl, iteT ?_⟩
    refine .inr ⟨_, rfl, a, rfl, ⟨_, h1⟩, fun D nD => ?_⟩
    refine lc_it walk_tup (fun i H' => ∃ ys, Same H H' ∧ H' D = some (.lst ys) ∧ DpAll K (hid D (newOf H H')) ys (ds.take i)) ⟨[], same_new nD, upd_same, .nil⟩ (fun i H' _ ⟨_, e, _⟩ => Same.tup e h1) ?_ ?_
    · rintro i y H' H'' hi ⟨ys, s1, hD, hY⟩ ⟨rfl, ey⟩
      obtain ⟨d, e1, e2⟩ := DpAll.get h2 ey
      refine ⟨rfl, _, rfl, y, d, rfl, Dp.mono s1 e2, hall d (List.mem_of_getElem? e1), fun H3 r s3 hr3 => ⟨ys, s3 _ _ hD, ?_, ys ++ [r], same_mut (s1.trans s3) nD, upd_same, ?_⟩⟩
      · rw [DpAll.length hY, List.length_take]
        exact lt_line (by omega)
      · rw [List.take_add_one, e1]
        exact DpAll.append (DpAll.mono (hid_newOf s3) hY) (.cons (Dp.mono (newOf_hid s1 hD) hr3) .nil)
    · rintro H' ⟨ys, s1, hD, hY⟩
      rw [lx, List.take_length] at hY
      refine ⟨D, ys, rfl, .inl ⟨SqL.of hD, fun p o np hd => ?_⟩⟩
      have s2 := same_new (o := .frz o (.tup ys)) np
      have hp : newOf H (upd H' p (.frz o (.tup ys))) p = some (.frz o (.tup ys)) := by
        rw [newOf_at (s1.free np)]
        exact upd_same
      exact q _ _ (s1.trans s2) (.tup (.inl (.inr ⟨o, hp⟩)) (DpAll.mono (newOf_mono s2) (DpAll.mono hid_le hY)))
theorem ok_copy (T : Top K mg) : ∀ n : Nat, FnOk P w K mg base CX0 n T.a_copy_of T.fd_copy_of ["value"] (spCp K n)
  | 0 => ⟨fun _ _ _ _ h => h.elim, fun _ _ _ _ _ _ _ _ _ _ _ _ _ h => h.elim⟩
  | n + 1 => copy_step T n (ok_copy T n)
theorem in_InvalidField (T : Top K mg) (n : Nat) : FnOk P w K mg base CX0 (n + 2) T.r_InvalidField.f T.r_InvalidField.fd ["self", "position"] (spIe K T.r_InvalidField.c "InvalidField" "position" n) := by
  have G_copy_of := ok_copy (P := P) (w := w) (base := base) T (n + 1)
  refine T.r_InvalidField.F.ok sc_InvalidField__init (fun vs H Q E h => ?_) (fun cdv A outer s H vs Q E hr h => ?_)
  · obtain ⟨a, v, d, rfl, _⟩ := h
    rfl
  obtain ⟨a, v, d, rfl, ea, hd, n, q⟩ := h
  refine ⟨_, (pss_cons (ps_setG (pv 0) (pe_call G_copy_of hr (by rfl) T.d_copy_of.g T.d_copy_of.kp T.d_copy_of.b .nil pass0 (pa_cons (pv 1) pa_nil)))
    (pss_one (ps_setG (pv 0) pe_str))), ?_⟩
  refine ⟨_, rfl, v, d, rfl, hd, n, fun H3 r s3 hr3 => ⟨_, rfl, a, T.r_InvalidField.c, rfl, T.r_InvalidField.e, T.r_InvalidField.n _ (by decide), .inl ⟨s3 _ _ ea, fun dx nd ne => ?_⟩⟩⟩
  refine ⟨_, rfl, a, T.r_InvalidField.c, rfl, T.r_InvalidField.e, T.r_InvalidField.n _ (by decide), .inr ⟨dx, _, upd_same, (upd_ne ne).trans upd_same, (by show 1 ≤ 900; decide), ?_⟩⟩
  refine q dx r _ (s3.free nd) ne ?_ upd_same (ie_same s3 nd) (Dp.mono (ie_new ea s3 nd) hr3)
  rw [upd_ne ne.symm]
  exact upd_same
theorem in_InvalidTie (T : Top K mg) (n : Nat) : FnOk P w K mg base CX0 (n + 2) T.r_InvalidTie.f T.r_InvalidTie.fd ["self", "position"] (spIe K T.r_InvalidTie.c "InvalidTie" "position" n) := by
  have G_copy_of := ok_copy (P := P) (w := w) (base := base) T (n + 1)
  refine T.r_InvalidTie.F.ok sc_InvalidTie__init (fun vs H Q E h => ?_) (fun cdv A outer s H vs Q E hr h => ?_)
  · obtain ⟨a, v, d, rfl, _⟩ := h
    rfl
  obtain ⟨a, v, d, rfl, ea, hd, n, q⟩ := h
  refine ⟨_, (pss_cons (ps_setG (pv 0) (pe_call G_copy_of hr (by rfl) T.d_copy_of.g T.d_copy_of.kp T.d_copy_of.b .nil pass0 (pa_cons (pv 1) pa_nil)))
    (pss_one (ps_setG (pv 0) pe_str))), ?_⟩
  refine ⟨_, rfl, v, d, rfl, hd, n, fun H3 r s3 hr3 => ⟨_, rfl, a, T.r_InvalidTie.c, rfl, T.r_InvalidTie.e, T.r_InvalidTie.n _ (by decide), .inl ⟨s3 _ _ ea, fun dx nd ne => ?_⟩⟩⟩
  refine ⟨_, rfl, a, T.r_InvalidTie.c, rfl, T.r_InvalidTie.e, T.r_InvalidTie.n _ (by decide), .inr ⟨dx, _, upd_same, (upd_ne ne).trans upd_same, (by show 1 ≤ 900; decide), ?_⟩⟩
  refine q dx r _ (s3.free nd) ne ?_ upd_same (ie_same s3 nd) (Dp.mono (ie_new ea s3 nd) hr3)
  rw [upd_ne ne.symm]
  exact upd_same
theorem in_InvalidKind (T : Top K mg) (n : Nat) : FnOk P w K mg base CX0 (n + 2) T.r_InvalidKind.f T.r_InvalidKind.fd ["self", "position"] (spIe K T.r_InvalidKind.c "InvalidKind" "position" n) := by
  have G_copy_of := ok_copy (P := P) (w := w) (base := base) T (n + 1)
  refine T.r_InvalidKind.F.ok sc_InvalidKind__init (fun vs H Q E h => ?_) (fun cdv A outer s H vs Q E hr h => ?_)
  · obtain ⟨a, v, d, rfl, _⟩ := h
    rfl
  obtain ⟨a, v, d, rfl, ea, hd, n, q⟩ := h
  refine ⟨_, (pss_cons (ps_setG (pv 0) (pe_call G_copy_of hr (by rfl) T.d_copy_of.g T.d_copy_of.kp T.d_copy_of.b .nil pass0 (pa_cons (pv 1) pa_nil)))
    (pss_one (ps_setG (pv 0) pe_str))), ?_⟩
  refine ⟨_, rfl, v, d, rfl, hd, n, fun H3 r s3 hr3 => ⟨_, rfl, a, T.r_InvalidKind.c, rfl, T.r_InvalidKind.e, T.r_InvalidKind.n _ (by decide), .inl ⟨s3 _ _ ea, fun dx nd ne => ?_⟩⟩⟩
  refine ⟨_, rfl, a, T.r_InvalidKind.c, rfl, T.r_InvalidKind.e, T.r_InvalidKind.n _ (by decide), .inr ⟨dx, _, upd_same, (upd_ne ne).trans upd_same, (by show 1 ≤ 900; decide), ?_⟩⟩
  refine q dx r _ (s3.free nd) ne ?_ upd_same (ie_same s3 nd) (Dp.mono (ie_new ea s3 nd) hr3)
  rw [upd_ne ne.symm]
  exact upd_same
end
end Bh

set_option Elab.async false
set_option linter.all false
set_option maxRecDepth 100000
set_option maxHeartbeats 2000000
namespace Bh
open PySem PySem.Spec PyProof.Rows L2
/-! ### a list comprehension whose item knows the def's own state at the block's beginning -/
section
variable {X : Cx}
/-- what one turn is to do (the parts of tLc, under names) -/
def StepW (J : It) (g : TG) (tt : TT) (te : TE) (ws : L2.St) (vs : List Nat) (D : Addr) (i : Nat) (Nx : Hp → Prop) (h0 : Hp) : Prop :=
  ∀ x h1, J.yld i h0 x h1 → g x ws h1 fun σ2 h2 => wipe σ2 vs = ws ∧ tt σ2 h2 fun b h3 =>
    if b = true then te σ2 h3 fun y h4 => ∃ acc, h4 D = some (.lst acc) ∧ acc.length < sizeLine ∧ Nx (upd h4 D (.lst (acc ++ [y]))) else Nx h3
theorem pe_lcx {elt tg iter : Expr} {ifs : List Expr} {scope : Scope} {own : List (Str × Nat)} {pos : Pos} {wi : TI} {g : TG} {tt : TT} {te : L2.St → TE} (calm : X.calm = true) (nd : X.N.Nodup) (hi : PI X tg iter wi) (blk : BlkOk X.N X.env.scope scope own)
    (hg : ∀ s H C cl fp, PG (X.blk s H scope (compEnvC scope cl C X.env) fp) tg g) (ht : ∀ s H C cl fp, PTs (X.blk s H scope (compEnvC scope cl C X.env) fp) ifs tt)
    (he : ∀ σ s H C cl fp, (∃ pins, Inv X pins σ H s ∧ ∀ b ∈ fp, FpOk X pins H b) → PE (X.blk s H scope (compEnvC scope cl C X.env) fp) elt (te σ)) (hs : ∀ x, foldedSetIterable iter X.env x = pure x := by intro _; rfl) :
    PE X (.ListComp elt [⟨tg, iter, ifs, 0⟩] scope pos) (fun σ H Q => tLc wi g tt (te σ) (own.map (·.2)) σ H Q) := by
  constructor
  intro pins s σ H Q I h
  rw [eval_ListComp]
  have caught : ∀ y ∈ scope.names, y.2 = .free → ∃ c, X.env.cells.lookup y.1 = some c := fun y hy e => (blk.free y hy e).elim (fun k => I.ok.has _ (.inl k)) fun k => I.ok.has _ (.inr k)
  apply wpAny_comprehension_free (use := none) rfl hs (closure_ok caught) blk.kind (fun y hy e => (blk.uniq y hy).trans (congrArg some e))
  refine thn (hi.run pins s σ H _ I h) fun w1 t1 k1 => thn k1 fun w2 t2 k2 => ?_
  obtain ⟨it, fp, tn, J, Ha, rfl, Ia, T, sta, fa, q⟩ := k2
  refine wpAny_newObj_type (newEnv_comp ?_) (Nat.zero_le _)
  -- the list to be, at D
  obtain ⟨D, hD⟩ : ∃ D, D = t2.heap.objs.size := ⟨_, rfl⟩
  have freeD : Ha D = none := Ia.hok.fresh (Nat.le_of_eq hD.symm)
  obtain ⟨W, ⟨m0, w0⟩, turn⟩ := q D freeD
  rw [← hD]
  obtain ⟨t3, h3⟩ : ∃ t3 : Shared, t3 = { t2 with heap := t2.heap.push { cls := .type "list", data := .seq ([] : List Value).toArray } } := ⟨_, rfl⟩
  obtain ⟨Hb, hb⟩ : ∃ Hb, Hb = upd Ha D (.lst []) := ⟨_, rfl⟩
  have keep3 : ∀ b o, t2.heap.get? b = some o → t3.heap.get? b = some o := fun b o e => by subst h3; exact Heap.get?_push_of_some _ e
  have Ib : Inv X pins σ Hb t3 := by
    subst h3 hb
    exact Ia.laid (t' := t2.toks) (fun b o e => Heap.get?_push_of_some _ e) (Nat.le_of_eq hD.symm) ⟨Nat.zero_le _, [], 0, .nil, by rw [hD]; exact Heap.get?_push_size _ rfl⟩
  have low : ∀ b ∈ fp, b < t2.heap.objs.size := fun b m => (T.obj _ _ sta b m).elim fun o e => Heap.lt_size e.1
  have size3 : t3.heap.objs.size = t2.heap.objs.size + 1 := by subst h3; exact Heap.size_push _ _
  have fb : ∀ b ∈ fp, FpOk X pins Hb b ∧ b < t3.heap.objs.size := fun b m => by
    have l := low b m
    refine ⟨⟨?_, (fa b m).2⟩, Nat.lt_of_lt_of_le l (by rw [size3]; exact Nat.le_succ _)⟩
    subst hb
    rw [upd_ne (by rw [hD]; exact Nat.ne_of_lt l)]
    exact (fa b m).1
  have Ic := block_start Ib blk nd fb
  have nofp : ∀ b ∈ fp, Hb b = none := fun b m => (fb b m).1.1
  rw [show ({ t2 with heap := t2.heap.push { cls := .type "list", data := .seq ([] : List Value).toArray } } : Shared) = t3 from h3.symm]
  obtain ⟨cells, hcells⟩ : ∃ l, l = cellsFrom (t3.heap.objs.size + 1) scope.names (cloFrom X.env.cells scope.names []) := ⟨_, rfl⟩
  rw [← hcells] at Ic ⊢
  have runG := hg t3 Hb t3.heap.objs.size cells fp
  have runT := ht t3 Hb t3.heap.objs.size cells fp
  have runE := he σ t3 Hb t3.heap.objs.size cells fp ⟨pins, Ib, fun b m => (fb b m).1⟩
  obtain ⟨ce, hce⟩ : ∃ ce, ce = compEnvC scope cells t3.heap.objs.size X.env := ⟨_, rfl⟩
  have ceL : ce.locals = t3.heap.objs.size := by subst hce; rfl
  show codeAny _ _ (.compStart (.ListComp elt [⟨tg, iter, ifs, 0⟩] scope pos) 0 (.ref it) (.ref D) (compEnvC scope cells t3.heap.objs.size X.env)) (compPost (model X.prog X.w) X.A X.xe none (EP X pins σ Q) (.ref D) t3.heap.objs.size) { t3 with heap := pushCells (t3.heap.push { cls := .type "dict", data := .dict #[] }) scope.names }
  rw [← hce] at Ic runG runT runE ⊢
  rw [← hb] at w0
  obtain ⟨t4, h4⟩ : ∃ t4 : Shared, t4 = { t3 with heap := pushCells (t3.heap.push { cls := .type "dict", data := .dict #[] }) scope.names } := ⟨_, rfl⟩
  rw [← h4] at Ic ⊢
  have st3 : tn 0 t3.heap := T.keep _ _ _ sta fun b _ o e => keep3 b o e
  have st4 : tn 0 t4.heap := T.keep _ _ _ st3 fun b _ o e => by subst h4; exact pushCells_keeps _ _ _ _ (Heap.get?_push_of_some _ e)
  have own' : ∀ {σ' : L2.St} {H' : Hp} {s' : Shared}, Inv (X.blk t3 Hb scope ce fp) [] σ' H' s' → (∀ b ∈ fp, H' b = none) → ∀ b ∈ fp, FpOk (X.blk t3 Hb scope ce fp) [] H' b := fun J' n b m =>
    ⟨n b m, (J'.ok.exf b m).1, J'.ok.exfs b m, .inl m, fun x c e => (J'.ok.exf b m).2 x c e, fun p hp => by cases (show p ∈ ([] : List (Addr × Obj)) from hp)⟩
  have loop : codeAny (model X.prog X.w) X.A (.compLoop (.ListComp elt [⟨tg, iter, ifs, 0⟩] scope pos) 0 (.ref it) (.ref D) ce) (compPost (model X.prog X.w) X.A X.xe none (EP X pins σ Q) (.ref D) t3.heap.objs.size) t4 := by
    apply compLoop_any (fun n s' => ∃ i H', Inv (X.blk t3 Hb scope ce fp) [] (wipe σ (own.map (·.2))) H' s' ∧ tn i s'.heap ∧ (∀ b ∈ fp, H' b = none) ∧ W i n H') ?_ m0 ⟨0, Hb, Ic, st4, nofp, w0⟩
    intro n s5 ⟨i, H5, I5, st5, n5, w5⟩
    rcases turn i n H5 w5 with ⟨stop, fin⟩ | ⟨go, Nx, more, step⟩
    · refine thnF (T.done (X.blk t3 Hb scope ce fp) rfl rfl rfl calm i [] s5 _ H5 (fun _ _ => False) I5 (own' I5 n5) st5 stop) fun r s6 k6 => ?_
      obtain ⟨rfl, I6⟩ := k6
      have back : Inv X pins σ H5 s6 := Ib.call' (ch := fp) I6.os I6.base I6.hok I6.bare fun b m => ⟨(fb b m).1.2.2.2.1, (fb b m).1.2.1, (fb b m).1.2.2.2.2.1, (fb b m).1.2.2.2.2.2⟩
      have gone : H5 t3.heap.objs.size = none := ceL ▸ (show H5 ce.locals = none from I6.free)
      obtain ⟨m, ns, _⟩ := I6.loc
      have ns : s6.heap.Ns t3.heap.objs.size m := ceL ▸ (show s6.heap.Ns ce.locals m from ns)
      obtain ⟨f0, f1, f2, f3, f4, f5⟩ := Ib.fpOk (H' := H5) (Nat.le_refl _) gone
      exact ⟨m, ns, fun h'' sb => ⟨.ref D, H5, back.turned (t' := s6.toks) (fun b o hb e => (sb.2 b hb).trans e) f0 f1 f3 f4 f5, rfl, fin⟩⟩
    · refine thnF (T.item (X.blk t3 Hb scope ce fp) rfl rfl rfl calm i [] s5 _ H5 (fun _ _ => False) I5 (own' I5 n5) st5 go) fun r s6 k6 => ?_
      obtain ⟨u, rfl, k6⟩ := k6
      refine thnF k6 fun _ s7 k7 => ?_
      obtain ⟨x, H7, I7, r7, y7, st7, n7⟩ := k7
      have held := T.obj _ _ st7
      have turnEnd : ∀ {σ8 : L2.St} {H' : Hp} {s' : Shared}, wipe σ8 (own.map (·.2)) = wipe σ (own.map (·.2)) → Inv (X.blk t3 Hb scope ce fp) ([] ++ pinsAt fp s7.heap) σ8 H' s' → Nx H' →
          ∃ m, m < n ∧ ∃ i H', Inv (X.blk t3 Hb scope ce fp) [] (wipe σ (own.map (·.2))) H' s' ∧ tn i s'.heap ∧ (∀ b ∈ fp, H' b = none) ∧ W i m H' := by
        intro σ8 H' s' e8 J' nx
        obtain ⟨m', lt, w'⟩ := more H' nx
        have still : ∀ b ∈ fp, ∀ o, s7.heap.get? b = some o → s'.heap.get? b = some o ∧ H' b = none := fun b hb o e => by
          obtain ⟨z1, z2, _⟩ := J'.pin (b, o) (List.mem_append_right _ (List.mem_append_right _ (mem_pinsAt hb e)))
          exact ⟨z1, z2⟩
        have J2 : Inv (X.blk t3 Hb scope ce fp) [] σ8 H' s' := J'.unpinned (pins := [])
        refine ⟨m', lt, i + 1, H', J2.weak (by rw [← e8, wipe_length]) (fun j v e => (wipe_some (vs := own.map (·.2)) (by rw [e8]; exact e)).1), T.keep _ _ _ st7 fun b hb o e => (still b hb o e).1, fun b hb => ?_, w'⟩
        obtain ⟨o, e, _⟩ := held b hb
        exact (still b hb o e).2
      refine thnF (runG.run _ s7 _ H7 x u _ (I7.pinned (own' I7 n7) held) r7 (step x H7 y7)) fun _ s8 k8 => ?_
      obtain ⟨σ8, H8, I8, e8, q8⟩ := k8
      refine thnF (runT.run _ s8 σ8 H8 _ I8 q8) fun b s9 k9 => ?_
      obtain ⟨H9, I9, q9⟩ := k9
      by_cases kept : b = true
      · rw [if_pos kept] at q9 ⊢
        refine thnF (runE.run _ s9 σ8 H9 _ I9 q9) fun z s10 k10 => ?_
        obtain ⟨y, H10, I10, r10, acc, at10, few, nx⟩ := k10
        exact app_ok (X := X.blk t3 Hb scope ce fp) I10 at10 few r10 fun s11 I11 => turnEnd e8 I11 nx
      · rw [if_neg kept] at q9 ⊢
        exact turnEnd e8 I9 q9
  exact codeAny_compStart_list loop (T.self _ 0 _ _ _ st4 loop)
end
end Bh

set_option Elab.async false
set_option linter.all false
set_option maxRecDepth 100000
set_option maxHeartbeats 2000000
namespace Bh
open PySem PySem.Spec PyProof.Rows L2 LamX NdefX
/-! ### lambdas that are kept as values (with one default or none), and called later by a def they are handed to -/
/-- the words of a lambda -/
structure LW where
  params : Arguments
  body : Expr
  scope : Scope
/-- at f: a lambda of these words, its cells, its defaults, its code object at c -/
def LmO (q : Str) (L : LW) (cl : List (Str × Addr)) (dV : Value) (c f : Addr) : HO := .ext fun h => ∃ doc pm ctv : Value, h.get? f = some (PySem.W.kdv_obj "<lambda>" q L.params (.expr L.body) L.scope cl dV doc pm c ctv)
theorem lmO_ok {P : Program} {w : World} {H : Hp} {h : Heap} {q : Str} {L : LW} {cl : List (Str × Addr)} {dV doc pm ctv : Value} {c f : Addr} (e : h.get? f = some (PySem.W.kdv_obj "<lambda>" q L.params (.expr L.body) L.scope cl dV doc pm c ctv)) : ObjOk P w H h f (LmO q L cl dV c f) :=
  ⟨⟨doc, pm, ctv, e⟩, ⟨_, e⟩, fun _ _ ⟨d, p, t, e⟩ st => ⟨d, p, t, st _ e⟩⟩
theorem lmO_at {P : Program} {w : World} {H : Hp} {h : Heap} {q : Str} {L : LW} {cl : List (Str × Addr)} {dV : Value} {c f : Addr} (ok : HOk P w H h) (e : H f = some (LmO q L cl dV c f)) : ∃ doc pm ctv : Value, h.get? f = some (PySem.W.kdv_obj "<lambda>" q L.params (.expr L.body) L.scope cl dV doc pm c ctv) := (ok f _ e).1
theorem lmO_ne {q : Str} {L : LW} {cl : List (Str × Addr)} {dV : Value} {c f : Addr} (ps : Array Value) : LmO q L cl dV c f ≠ .tbl ps := fun z => by
  unfold LmO at z
  cases z
/-- the value v is such a lambda; d: its default -/
def IsLm (cs : List (Str × Addr)) (q : Str) (L : LW) (d : Option Int) (H : Hp) (v : V) : Prop := ∃ (f c : Addr) (dV : Value), v = .ref f ∧ H f = some (LmO q L (cloFrom cs L.scope.names []) dV c f) ∧ H c = some (CodeO c q) ∧
  ((d = none ∧ dV = .none) ∨ ∃ (n : Int) (t : Addr), d = some n ∧ dV = .ref t ∧ H t = some (.tup [.int n]))
theorem IsLm.ext {cs : List (Str × Addr)} {q : Str} {L : LW} {d : Option Int} {H H' : Hp} {v : V} (h : IsLm cs q L d H v) (e : ExtN H H') : IsLm cs q L d H' v := by
  obtain ⟨f, c, dV, e1, e2, e3, e4⟩ := h
  refine ⟨f, c, dV, e1, e _ _ e2 lmO_ne, e _ _ e3 codeO_ne, ?_⟩
  rcases e4 with z | ⟨n, t, z1, z2, z3⟩
  · exact .inl z
  · exact .inr ⟨n, t, z1, z2, e _ _ z3 (fun _ z => nomatch z)⟩
section
variable {X : Cx} {pins : List (Addr × Obj)} {σ : L2.St} {H : Hp} {s : Shared}
/-- the last part of the making: the code object is new or found in the table, the function is new -/
theorem lm_tail {T : List (Addr × Str)} {c P : Addr} {L : LW} {pos : Pos} {dV : Value} {E : Value → Shared → Prop} {Q : Value → Shared → Prop} (I : Inv X pins σ H s) (TB : TabB X.base X.mg c P) (hcode : X.env.code = .ref c)
    (hm : (P, X.env.qual ++ "<lambda>") ∈ T) (hu : ∀ p ∈ T, p.1 = P → p.2 = X.env.qual ++ "<lambda>") (hT : Tabs T H) (hfree : ∀ y ∈ L.scope.names, y.2 = .free → ∃ c, X.env.cells.lookup y.1 = some c)
    (h : ∀ (f c' : Addr) (H1 : Hp) (s' : Shared), Inv X pins σ (upd H1 f (LmO (X.env.qual ++ "<lambda>") L (cloFrom X.env.cells L.scope.names []) dV c' f)) s' → ExtN H H1 → Tabs T H1 → H1 f = none → H1 c' = some (CodeO c' (X.env.qual ++ "<lambda>")) → Q (.ref f) s') :
    wpAny (model X.prog X.w) X.A (makeTail "<lambda>" (X.env.qual ++ "<lambda>") L.params (.expr L.body) L.scope X.env dV .none none pos pos.line) Q E s := by
  obtain ⟨ps, hP, ht, ha⟩ := hT _ hm
  have bP : s.heap.BuiltinsAt X.mg P := TB.bm.keeps I.bk
  have hP' : s.heap.get? P = some { cls := .none, data := .fields ps } := I.hok P _ hP
  cases hc : codeAmong pos ps.toList with
  | none =>
    refine PySem.W.kdv_makeTail (mg := X.mg) (c := c) (P := P) (ps := ps) (closure_ok hfree) I.ok.glob (I.mod.glob.keeps I.bk) hcode (TB.code.keeps I.bk) hP' ht hc TB.gP bP fun c' ctv doc h' tk hx hge hlt hrec htb => ?_
    obtain ⟨c2, oc, vs, t, e2, hoc, hd, hv⟩ := hrec
    cases e2
    have nC : H c' = none := I.hok.fresh hge
    have I1 := inv_table (t' := tk) (more := #[rawInt pos.line, rawInt pos.col, .ref c']) (h' := h') I hP hx htb hge ⟨oc, vs, t, hoc, hd, hv⟩
    have hE : ExtN H (upd (upd H P (.tbl (ps ++ #[rawInt pos.line, rawInt pos.col, .ref c']))) c' (CodeO c' (X.env.qual ++ "<lambda>"))) := fun b o e n => by
      have b1 : b ≠ c' := ne_of_none e nC
      have b2 : b ≠ P := fun z => by
        rw [z, hP] at e
        exact n ps (Option.some.inj e).symm
      rw [upd_ne b1, upd_ne b2]
      exact e
    have eL : (ps ++ #[rawInt pos.line, rawInt pos.col, .ref c']).toList = ps.toList ++ [rawInt pos.line, rawInt pos.col, .ref c'] := by simp
    have fr : upd (upd H P (.tbl (ps ++ #[rawInt pos.line, rawInt pos.col, .ref c']))) c' (CodeO c' (X.env.qual ++ "<lambda>")) h'.objs.size = none := I1.hok.fresh (Nat.le_refl _)
    refine h h'.objs.size c' _ _ (I1.laid (t' := tk) (h' := h'.push (PySem.W.kdv_obj "<lambda>" (X.env.qual ++ "<lambda>") L.params (.expr L.body) L.scope (cloFrom X.env.cells L.scope.names []) dV doc ((X.mg "__name__").getD .none) c' ctv)) (fun b o e => Heap.get?_push_of_some _ e) (Nat.le_refl _) (lmO_ok (Heap.get?_push_size _ rfl))) hE (fun p hp => ?_) fr upd_same
    by_cases hb : p.1 = P
    · rw [hu p hp hb, hb]
      refine ⟨_, (upd_ne (ne_of_none hP nC)).trans upd_same, eL ▸ PySem.TriplesOk_snoc _ _ _ _ ht, fun p' cv hcv => ?_⟩
      rw [eL] at hcv
      rcases among_app _ ht hcv with z | z
      · obtain ⟨c0, e1, e2⟩ := ha p' cv z
        exact ⟨c0, e1, hE _ _ e2 codeO_ne⟩
      · exact ⟨c', z, upd_same⟩
    · obtain ⟨ps', a1, a2, a3⟩ := hT p hp
      refine ⟨ps', (upd_ne (ne_of_none a1 nC)).trans ((upd_ne hb).trans a1), a2, fun p' cv hcv => ?_⟩
      obtain ⟨c0, e1, e2⟩ := a3 p' cv hcv
      exact ⟨c0, e1, hE _ _ e2 codeO_ne⟩
  | some cv =>
    obtain ⟨c', rfl, hco⟩ := ha pos cv hc
    refine PySem.W.kdv_makeTailHit (mg := X.mg) (c := c) (P := P) (ps := ps) (closure_ok hfree) I.ok.glob (I.mod.glob.keeps I.bk) hcode (TB.code.keeps I.bk) hP' ht hc bP fun ctv doc h' tk hx hsz => ?_
    have I1 : Inv X pins σ H { s with heap := h', toks := tk } := I.kept hx
    refine h h'.objs.size c' H _ (I1.laid (t' := tk) (h' := h'.push _) (fun b o e => Heap.get?_push_of_some _ e) (Nat.le_refl _) (lmO_ok (Heap.get?_push_size _ rfl))) (ExtN.refl H) hT (I.hok.fresh hsz) hco
/-- the reading of a lambda as a value -/
def tStl (T : List (Addr × Str)) (cs : List (Str × Addr)) (q : Str) (L : LW) (d : Option Int) : TE := fun _ H Q => Tabs T H ∧ ∀ (H2 : Hp) (v : V), ExtN H H2 → Tabs T H2 → IsLm cs q L d H2 v → Q v H2
theorem extn_new {H H1 : Hp} {f : Addr} {o : HO} (e : ExtN H H1) (n : H1 f = none) : ExtN H (upd H1 f o) := fun b u h z => by
  rw [upd_ne (ne_of_none (e b u h z) n)]
  exact e b u h z
theorem tabs_new {T : List (Addr × Str)} {H1 : Hp} {f : Addr} {o : HO} (t : Tabs T H1) (n : H1 f = none) : Tabs T (upd H1 f o) := t.ext fun b u h => (upd_ne (ne_of_none h n)).trans h
theorem pe_stl0 {T : List (Addr × Str)} {c P : Addr} {params : Arguments} {body : Expr} {scope : Scope} {pos : Pos} (TB : TabB X.base X.mg c P) (hcode : X.env.code = .ref c)
    (hm : (P, X.env.qual ++ "<lambda>") ∈ T) (hu : ∀ p ∈ T, p.1 = P → p.2 = X.env.qual ++ "<lambda>") (hdef : defaultsOf params X.env = ([], [])) (hfree : ∀ y ∈ scope.names, y.2 = .free → X.env.scope.names.lookup y.1 = some .cell ∨ X.env.scope.names.lookup y.1 = some .free) :
    PE X (.Lambda params body scope pos) (tStl T X.env.cells (X.env.qual ++ "<lambda>") ⟨params, body, scope⟩ none) := by
  refine ⟨fun pins s σ H Q I h => PySem.W.kla_eval hdef ?_⟩
  rw [makeFunction_eq]
  simp only [List.zip_nil_right, List.filterMap_nil, List.isEmpty_nil, if_true, pure_bind]
  refine lm_tail (L := ⟨params, body, scope⟩) I TB hcode hm hu h.1 (fun y hy e => (hfree y hy e).elim (fun z => I.ok.has _ (.inl z)) fun z => I.ok.has _ (.inr z)) fun f c' H1 s' J e1 t1 n1 k1 => ?_
  exact ⟨.ref f, _, J, rfl, h.2 _ _ (extn_new e1 n1) (tabs_new t1 n1) ⟨f, c', .none, rfl, upd_same, (upd_ne (ne_of_none k1 n1)).trans k1, .inl ⟨rfl, rfl⟩⟩⟩
theorem pe_stl1 {T : List (Addr × Str)} {c P : Addr} {params : Arguments} {body : Expr} {scope : Scope} {pos p1 : Pos} {n : Int} {j : Nat} (TB : TabB X.base X.mg c P) (hcode : X.env.code = .ref c)
    (hm : (P, X.env.qual ++ "<lambda>") ∈ T) (hu : ∀ p ∈ T, p.1 = P → p.2 = X.env.qual ++ "<lambda>") (hd : params.defaults = [.Constant (.int n) j p1]) (hk : params.kw_defaults = []) (hfree : ∀ y ∈ scope.names, y.2 = .free → X.env.scope.names.lookup y.1 = some .cell ∨ X.env.scope.names.lookup y.1 = some .free) :
    PE X (.Lambda params body scope pos) (tStl T X.env.cells (X.env.qual ++ "<lambda>") ⟨params, body, scope⟩ (some n)) := by
  refine ⟨fun pins s σ H Q I h => PySem.W.kdv_lam (by rw [hd]; rfl) hk ?_⟩
  rw [hd]
  refine PySem.W.kdv_all1 (thn ((pe_int (X := X)).run pins s σ H (fun v H1 => v = .int n ∧ H1 = H) I ⟨rfl, rfl⟩) fun u s1 ⟨v, H1, I1, r1, ev, eH⟩ => PySem.W.kdv_all0 ?_)
  subst ev eH
  rw [makeFunction_eq]
  simp only [List.zip_nil_right, List.filterMap_nil, List.isEmpty_nil, List.isEmpty_cons, Bool.false_eq_true, if_false, if_true, pure_bind]
  refine wpAny_bind (wpAny_newTextTuple ?_)
  have I2 := I1.laid (t' := s1.toks) (o := .tup [.int n]) (h' := s1.heap.push { cls := .type "tuple", data := .seq [u].toArray }) (fun b o e => Heap.get?_push_of_some _ e) (Nat.le_refl _) ⟨by show 1 ≤ sizeLine; decide, [u], .cons r1 .nil, IsTup.new s1.heap _⟩
  have nT : H1 s1.heap.objs.size = none := I1.hok.fresh (Nat.le_refl _)
  have e0 : ExtN H1 (upd H1 s1.heap.objs.size (.tup [.int n])) := extn_new (ExtN.refl _) nT
  refine lm_tail (L := ⟨params, body, scope⟩) I2 TB hcode hm hu (tabs_new h.1 nT) (fun y hy e => (hfree y hy e).elim (fun z => I.ok.has _ (.inl z)) fun z => I.ok.has _ (.inr z)) fun f c' H2 s' J e1 t1 n1 k1 => ?_
  have kT := e1 _ _ upd_same (fun _ z => nomatch z)
  exact ⟨.ref f, _, J, rfl, h.2 _ _ (extn_new (e0.trans e1) n1) (tabs_new t1 n1) ⟨f, c', _, rfl, upd_same, (upd_ne (ne_of_none k1 n1)).trans k1, .inr ⟨n, _, rfl, rfl, (upd_ne (ne_of_none kT n1)).trans kT⟩⟩⟩
end
end Bh

set_option Elab.async false
set_option linter.all false
set_option maxRecDepth 100000
set_option maxHeartbeats 2000000
namespace Bh
open PySem PySem.Spec PyProof.Rows L2 LamX NdefX
/-! ### such a lambda called -/
/-- its words, as those of a nested def -/
abbrev lwF (q : Str) (L : LW) (cl : List (Str × Addr)) (c : Addr) : NF := ⟨"<lambda>", q, L.params, [], L.scope, cl, c⟩
section
variable {CX : CXT} {P : Program} {w : World} {K : PySem.W.Frag} {mg : Str → Option Value} {base : Heap} {N ps fr : List Str} {f c' : Addr} {k : Nat} {q : Str} {L : LW} {cl : List (Str × Addr)}
theorem lw_run {A : Around} {outer : List Env} {s : Shared} {H : Hp} {us : List Value} {vs : List V} {ws : List (Option V)} {Q : VK} {E : XK} {dV doc pm ctv : Value} {tb : TE} (S : NScope N ps fr L.scope)
    (hb : BindsTo s (PySem.W.kdv_fn "<lambda>" q L.params (.expr L.body) L.scope cl dV doc pm (.ref c') ctv) ⟨[], []⟩ (ps.zip us)) (hr : Room (k + 1) A) (e0 : Env0 P w K mg base A outer s H) (lim : s.heap.NoLimit)
    (of : s.heap.get? f = some (PySem.W.kdv_obj "<lambda>" q L.params (.expr L.body) L.scope cl dV doc pm c' ctv)) (hc : s.heap.CodeRec (.ref c') q) (C : CellsAt cl fr ws s.heap H) (r : Vals vs us) (hl : vs.length = ps.length)
    (hbody : Room k (A.deeper (envF (lwF q L cl c') f s.heap.objs.size)) → PE (ncx CX P w K mg base N (lwF q L cl c') f A outer s H E) L.body tb) (h : tb (startF N vs ws) H Q) :
    codeAny (model P w) A (.call (.ref f) ⟨[], []⟩) (CR CX outer P w H s Q E) s := by
  refine PySem.W.kla_callFunE hr.depth of rfl S.co S.gen rfl hc (hb _ _ _ _ ?_)
  refine wpAny_newFunctionEnv S.nocell (fun ⟨n, _⟩ hy => S.par n (List.of_mem_zip hy).1) (fun h₁ hns hsb => ⟨lim.fresh _ hsb, ?_⟩) S.kind
  show codeAny _ _ (.expr L.body (envF (lwF q L cl c') f s.heap.objs.size)) _ _
  have old : ∀ b o, s.heap.get? b = some o → h₁.get? b = some o := fun b o e => hsb.extBut b o (Nat.ne_of_lt (Heap.lt_size e)) (Heap.get?_push_of_some _ e)
  have I : Inv (ncx CX P w K mg base N (lwF q L cl c') f A outer s H E) [] (startF N vs ws) H { s with heap := h₁, toks := s.toks + (ps.zip us).length } := inv_startN (F := lwF q L cl c') S hr.hd e0 hl r C hns old
  refine PySem.W.kla_codeExpr (wpAny_mono ((hbody (hr.deeper _)).run [] _ (startF N vs ws) H Q I h) (fun v s' hq => ?_) fun _ _ hq => hq)
  obtain ⟨w', H', J, rv, q'⟩ := hq
  exact ⟨w', H', J.os, J.bare, J.base, J.hok, rv, q'⟩
end
/-- one of the lambdas that a def (its names XN, its scope sc) keeps: its words and what its body makes -/
structure LK (P : Program) (w : World) (K : PySem.W.Frag) (mg : Str → Option Value) (base : Heap) (XN : List Str) (sc : Scope) (k : Nat) where
  L : LW
  d : Option Int
  N : List Str
  ps : List Str
  fr : List Str
  vs : List V
  js : List Nat
  tb : XK → TE
  S : NScope N ps fr L.scope
  b0 : d = none → ps = [] ∧ vs = [] ∧ ∀ (q : Str) (cl : List (Str × Addr)) (doc pm cd ct : Value), bindArgs (PySem.W.kdv_fn "<lambda>" q L.params (.expr L.body) L.scope cl .none doc pm cd ct) ⟨[], []⟩ = pure []
  b1 : ∀ n : Int, d = some n → ∃ p, ps = [p] ∧ vs = [.int n] ∧ ∀ (q : Str) (cl : List (Str × Addr)) (t : Addr) (doc pm cd ct : Value), ∃ kk : Option (Array Value) → Sem (List (Str × Value)),
    bindArgs (PySem.W.kdv_fn "<lambda>" q L.params (.expr L.body) L.scope cl (.ref t) doc pm cd ct) ⟨[], []⟩ = seqItems? (.ref t) >>= kk ∧ ∀ u : Value, kk (some #[u]) = pure [(p, u)]
  free : ∀ y ∈ L.scope.names, y.2 = .free → sc.names.lookup y.1 = some .cell ∨ sc.names.lookup y.1 = some .free
  frs : ∀ y ∈ fr, (y, NameKind.free) ∈ L.scope.names
  at_ : js.map (fun j => XN[j]?) = fr.map some
  body : ∀ (A : Around) (outer : List Env) (s : Shared) (H : Hp) (E : XK) (F : NF) (f : Addr), F.scope = L.scope → Room k (A.deeper (envF F f s.heap.objs.size)) → PE (ncx (L2.CX P w) P w K mg base N F f A outer s H E) L.body (tb E)
theorem CellsAt.unx {cl : List (Str × Addr)} {fr : List Str} {ws : List (Option V)} {st ex : List Addr} {H HZ : Hp} {h h1 : Heap} (C : CellsAt cl fr ws h H) (un : Un st ex H HZ h h1) (no : ∀ y c, cl.lookup y = some c → c ∉ ex) : CellsAt cl fr ws h1 HZ := by
  have kp : ∀ y c, cl.lookup y = some c → ∀ v, h.IsCell c v → h1.IsCell c v := fun y c e v ⟨o, ho, hd⟩ => by
    obtain ⟨sl, q⟩ := un.any ho (C.all y c e).1 (no y c e)
    exact ⟨_, q, hd⟩
  refine ⟨C.len, fun y c e => ?_, C.inj, fun i y e => ?_⟩
  · obtain ⟨n, v, z⟩ := C.all y c e
    exact ⟨by obtain ⟨o, ho, _⟩ := z; exact un.free c o ho n (no y c e), v, kp y c e v z⟩
  · obtain ⟨c, hc, hv⟩ := C.has i y e
    refine ⟨c, hc, fun v ev => ?_⟩
    obtain ⟨u, r, z⟩ := hv v ev
    exact ⟨u, r, kp y c hc _ z⟩
section
variable {P : Program} {w : World} {K : PySem.W.Frag} {mg : Str → Option Value} {base : Heap} {XN : List Str} {sc : Scope} {k : Nat}
/-- x(), in the def that got the lambda: entered at s with the cells as they are told there -/
theorem lk_act {cs : List (Str × Addr)} {q : Str} {A0 : Around} {st : List Env} {s : Shared} {H : Hp} {Eg : XK} {CXg : CXT} {Ng : List Str} {qg : Str} {sg : Scope} {g f : Addr} {cdg : Value} {i : Nat} {a : Str} {pn : List (Addr × Obj)} {xe : Value → Shared → Prop} {W : WX} {E : XK} {ws : List (Option V)} {p1 p2 : Pos}
    (κ : LK P w K mg base XN sc k) (C : CellsAt (cloFrom cs κ.L.scope.names []) κ.fr ws s.heap H)
    (tk : Takes ((cxOf CXg P w K mg base Ng qg sg g cdg A0 st s H Eg).tr pn xe) W) (hW : ∀ cls d σ' H', E cls d H' → W cls d σ' H') (hr : Room (k + 1) (A0.deeper (envOfC qg sg s.heap.objs.size g cdg)))
    (hN : Ng[i]? = some a) (hv : Vis sg a) (hd : (a == ("__debug__" : Str)) = false := by decide) (hcd : (a == ("__classdict__" : Str)) = false := by decide) :
    PE ((cxOf CXg P w K mg base Ng qg sg g cdg A0 st s H Eg).tr pn xe) (.Call (.Name a p1) [] [] p2)
      (fun σZ HZ Q => σZ[i]? = some (some (.ref f)) ∧ IsLm cs q κ.L κ.d HZ (.ref f) ∧ κ.tb E (startF κ.N κ.vs ws) HZ Q) := by
  refine ⟨fun pinsZ sZ σZ HZ Q IZ h => ?_⟩
  obtain ⟨hs, hl, ht⟩ := h
  refine wpAny_Call_Name_kw (thn ((pe_var (pos := p1) (i := i) hN hv hd hcd).run pinsZ sZ σZ HZ (fun v H1 => v = .ref f ∧ H1 = HZ) IZ ⟨.ref f, hs, rfl, rfl⟩) fun u s1 ⟨v, H1, I1, r1, ev, eH⟩ => ?_)
  subst ev eH
  obtain rfl : u = Value.ref f := r1
  obtain ⟨f', c', dV, e1, e2, e3, e4⟩ := hl
  cases e1
  obtain ⟨doc, pm, ctv, of⟩ := lmO_at I1.hok e2
  refine PySem.W.callWith_F0 ⟨_, _, _, _, of⟩ ?_
  have un : Un (frs st) [] H H1 s.heap s1.heap := I1.base
  obtain ⟨⟨oc, vs, t, hoc, hdc, hvc⟩, _, _⟩ := I1.hok c' _ e3
  have C1 := CellsAt.un C un
  have run : ∀ us, κ.vs.length = κ.ps.length → Vals κ.vs us → BindsTo s1 (PySem.W.kdv_fn "<lambda>" q κ.L.params (.expr κ.L.body) κ.L.scope (cloFrom cs κ.L.scope.names []) dV doc pm (.ref c') ctv) ⟨[], []⟩ (κ.ps.zip us) →
      codeAny (model P w) (A0.deeper (envOfC qg sg s.heap.objs.size g cdg)) (.call (.ref f) ⟨[], []⟩) (CR (L2.CX P w) (envOfC qg sg s.heap.objs.size g cdg :: st) P w H1 s1 Q E) s1 := fun us hl r hb =>
    lw_run κ.S hb hr I1.env0 I1.nolimit of ⟨c', oc, vs, t, rfl, hoc, hdc, hvc⟩ C1 r hl (fun hr2 => κ.body _ _ _ _ _ _ _ rfl hr2) ht
  have rc : codeAny (model P w) (A0.deeper (envOfC qg sg s.heap.objs.size g cdg)) (.call (.ref f) ⟨[], []⟩) (CR (L2.CX P w) (envOfC qg sg s.heap.objs.size g cdg :: st) P w H1 s1 Q E) s1 := by
    rcases e4 with ⟨z1, z2⟩ | ⟨n, t, z1, z2, z3⟩
    · obtain ⟨y1, y2, y3⟩ := κ.b0 z1
      subst z2
      refine run [] (by rw [y1, y2]; rfl) (by rw [y2]; exact .nil) ?_
      rw [y1]
      exact .of_eq (y3 _ _ _ _ _ _)
    · obtain ⟨p, y1, y2, y3⟩ := κ.b1 n z1
      subst z2
      obtain ⟨kk, y4, y5⟩ := y3 q (cloFrom cs κ.L.scope.names []) t doc pm (.ref c') ctv
      obtain ⟨_, its, rv, o, ho, _, m, hs⟩ := I1.hok t _ z3
      obtain ⟨u, rfl, ru⟩ := vals1 rv
      refine run [u] (by rw [y1, y2]; rfl) (by rw [y2]; exact .cons ru .nil) ?_
      rw [y1]
      exact .of_defaults rfl ho hs y4 (y5 u)
  have hx : Passes (L2.CX P w) ((cxOf CXg P w K mg base Ng qg sg g cdg A0 st s H Eg).tr pn xe) E := passes_call tk hW
  refine wpAny_call (codeAny_mono rc fun r s' hq => ?_)
  cases r with
  | error e => exact hx pinsZ σZ H1 s1 e s' I1 hq
  | ok fl =>
    cases fl with
    | ret u => exact I1.after hq
    | next => exact False.elim hq
    | brk => exact False.elim hq
    | cont => exact False.elim hq
/-- a def that calls what it got: what it makes (TT) of the lambda's reading -/
def GivesL (P : Program) (w : World) (K : PySem.W.Frag) (mg : Str → Option Value) (base : Heap) (Ng : List Str) (x : Str) (sg : Scope) (g : Addr) (cdg : Value) (bg : List Stmt) (a : Str) (k : Nat) (TT : (XK → Hp → VK → Prop) → Hp → VK → Prop) : Prop :=
  ∀ (A0 : Around) (st : List Env) (f : Addr) (s : Shared) (H : Hp) (Q : VK) (tl : XK → Hp → VK → Prop), Room (k + 1) (A0.deeper (envOfC x sg s.heap.objs.size g cdg)) →
    (∀ (W : WX) (pn : List (Addr × Obj)) (xe : Value → Shared → Prop) (E : XK) (p1 p2 : Pos), Takes ((cxOf C8.CX0 P w K mg base Ng x sg g cdg A0 st s H C8.E0).tr pn xe) W → (∀ cls d σ' H', E cls d H' → W cls d σ' H') →
      PE ((cxOf C8.CX0 P w K mg base Ng x sg g cdg A0 st s H C8.E0).tr pn xe) (.Call (.Name a p1) [] [] p2) (fun σZ HZ Q => σZ[0]? = some (some (.ref f)) ∧ tl E HZ Q)) → TT tl H Q →
    ∃ t, PSs (cxOf C8.CX0 P w K mg base Ng x sg g cdg A0 st s H C8.E0).nox bg t ∧ t { nx := fun _ H' => Q .non H', rt := Q } (L2.start Ng [.ref f]) H
end
/-- g(x), x one of the kept lambdas, in a comprehension's block of the def that keeps them; σ: that def's slots -/
def tTryL {P : Program} {w : World} {K : PySem.W.Frag} {mg : Str → Option Value} {base : Heap} {XN : List Str} {sc : Scope} {k : Nat} (cs : List (Str × Addr)) (q : Str) (ks : List (LK P w K mg base XN sc k)) (i : Nat) (TT : (XK → Hp → VK → Prop) → Hp → VK → Prop) (σ : L2.St) : TE :=
  fun σ' H Q => ∃ (κ : LK P w K mg base XN sc k) (f : Addr), κ ∈ ks ∧ σ'[i]? = some (some (.ref f)) ∧ TT (fun E H' Q' => IsLm cs q κ.L κ.d H' (.ref f) ∧ κ.tb E (startF κ.N κ.vs (κ.js.map (slotAt σ))) H' Q') H Q
theorem pe_tryL {X : Cx} {s0 : Shared} {H0 : Hp} {σ : L2.St} {scope : Scope} {ce : Env} {fp : List Addr} {x a y : Str} {g : Addr} {i k : Nat} {pg : Arguments} {bg : List Stmt} {sg : Scope} {dV kV doc pm cdv ct oc : Value} {an od : Option Addr} {osl : Array (Option Value)} {Ng : List Str} {p p1 pos : Pos}
    {TT : (XK → Hp → VK → Prop) → Hp → VK → Prop} {ks : List (LK X.prog X.w X.K X.mg X.base X.N X.env.scope k)} (hI : ∃ pins, Inv X pins σ H0 s0 ∧ ∀ b ∈ fp, FpOk X pins H0 b)
    (hg : Gl (X.blk s0 H0 scope ce fp) x) (hm : X.mg x = some (.ref g)) (hk : PySem.W.keepIn X.K (.ref g) = true)
    (lk : X.K.lookup g = some ⟨oc, od, .func (PySem.W.fnOf x x pg bg sg dV kV doc pm an cdv ct), osl⟩) (hcg : PySem.W.codeIn X.K cdv x = true) (hb : L2.Binds X.K (PySem.W.fnOf x x pg bg sg dV kV doc pm an cdv ct) [a] []) (Sg : FnScope Ng [a] sg) (hNg : Ng[0]? = some a) (hva : Vis sg a)
    (hG : GivesL X.prog X.w X.K X.mg X.base Ng x sg g cdv bg a k TT) (hr : Room (k + 2) X.A) (hy : X.N[i]? = some y) (hvy : Vis ce.scope y)
    (hdb : (x == ("__debug__" : Str)) = false := by decide) (hd : (a == ("__debug__" : Str)) = false := by decide) (hcd : (a == ("__classdict__" : Str)) = false := by decide) (hdy : (y == ("__debug__" : Str)) = false := by decide) (hcy : (y == ("__classdict__" : Str)) = false := by decide) :
    PE (X.blk s0 H0 scope ce fp) (.Call (.Name x p) [.Name y p1] [] pos) (tTryL X.env.cells (X.env.qual ++ "<lambda>") ks i TT σ) := by
  refine ⟨fun pins s σ' H Q I h => ?_⟩
  obtain ⟨κ, f, hκ, hf, hT⟩ := h
  refine wpAny_Call_Name_kw (ld_glob I hg hm ?_ hdb)
  refine PySem.W.callWith_K (h₀ := X.base) I.ok.mod.kin hk ?_ (by rfl) (by rfl)
  show wpAny _ _ (spliced ((false, eval (.Name y p1) ce) :: backTo pos (starEach [] ce))) _ _ s
  refine Calls.spliced_cons (thn ((pe_var (X := X.blk s0 H0 scope ce fp) (pos := p1) (i := i) hy hvy hdy hcy).run pins s σ' H (fun v H1 => v = .ref f ∧ H1 = H) I ⟨.ref f, hf, rfl, rfl⟩) fun u s1 ⟨v, H1, I1, r1, ev, eH⟩ => ?_)
  subst ev eH
  obtain rfl : u = Value.ref f := r1
  refine Calls.spliced_nil ⟨I1.kIn, ?_⟩
  obtain ⟨pins0, I0, fo⟩ := hI
  have C0 := cells_of I0 (Caps.made (fr := κ.fr) (js := κ.js) I0.ok κ.free κ.frs κ.at_)
  have caught : ∀ y ∈ κ.L.scope.names, y.2 = .free → ∃ c, X.env.cells.lookup y.1 = some c := fun y hy e => (κ.free y hy e).elim (fun z => I0.ok.has _ (.inl z)) fun z => I0.ok.has _ (.inr z)
  have C1 : CellsAt (cloFrom X.env.cells κ.L.scope.names []) κ.fr (κ.js.map (slotAt σ)) s1.heap H1 := CellsAt.unx C0 (st := frs X.stack) (ex := fp) I1.base fun z c e m => (fo c m).2.2.2.2.1 z c (clo_cm caught e) rfl
  have rc : codeAny (model X.prog X.w) X.A (.call (.ref g) ⟨[.ref f], []⟩) (CR C8.CX0 X.stack X.prog X.w H1 s1 Q C8.E0) s1 := by
    refine run_ofS (N := Ng) (ps := [a]) (us := [.ref f]) (vs := [.ref f]) lk hcg Sg hr I1.env0 (hb s1 [.ref f] I1.kIn rfl) (.cons rfl .nil) rfl fun hr' => ?_
    obtain ⟨t', ht', hq'⟩ := hG X.A X.stack f s1 H1 Q _ hr' (fun W pn xe E p1 p2 tk hW => lk_act (i := 0) κ C1 tk hW hr' hNg hva hd hcd) hT
    exact ⟨t', ht'.nox, hq'⟩
  refine wpAny_call (codeAny_mono rc fun r s2 hq => ?_)
  cases r with
  | error e => exact (show False from hq).elim
  | ok fl =>
    cases fl with
    | ret u => exact I1.after hq
    | next => exact False.elim hq
    | brk => exact False.elim hq
    | cont => exact False.elim hq
/-- [g(y) for y in iter], the items such lambdas -/
theorem pe_lcTry {X : Cx} {scope : Scope} {own : List (Str × Nat)} {iter : Expr} {wi : TI} {gt : TG} {x a y : Str} {g : Addr} {i k : Nat} {pg : Arguments} {bg : List Stmt} {sg : Scope} {dV kV doc pm cdv ct oc : Value} {an od : Option Addr} {osl : Array (Option Value)} {Ng : List Str} {p p1 p2 pos pos1 : Pos}
    {TT : (XK → Hp → VK → Prop) → Hp → VK → Prop} (ks : List (LK X.prog X.w X.K X.mg X.base X.N X.env.scope k)) (calm : X.calm = true) (nd : X.N.Nodup) (hi : PI X (.Name y p2) iter wi) (blk : BlkOk X.N X.env.scope scope own)
    (hgt : ∀ s H C cl fp, PG (X.blk s H scope (compEnvC scope cl C X.env) fp) (.Name y p2) gt) (hg : ∀ s H C cl fp, Gl (X.blk s H scope (compEnvC scope cl C X.env) fp) x) (hm : X.mg x = some (.ref g)) (hk : PySem.W.keepIn X.K (.ref g) = true)
    (lk : X.K.lookup g = some ⟨oc, od, .func (PySem.W.fnOf x x pg bg sg dV kV doc pm an cdv ct), osl⟩) (hcg : PySem.W.codeIn X.K cdv x = true) (hb : L2.Binds X.K (PySem.W.fnOf x x pg bg sg dV kV doc pm an cdv ct) [a] []) (Sg : FnScope Ng [a] sg) (hNg : Ng[0]? = some a) (hva : Vis sg a)
    (hG : GivesL X.prog X.w X.K X.mg X.base Ng x sg g cdv bg a k TT) (hr : Room (k + 2) X.A) (hy : X.N[i]? = some y) (hvy : ∀ cl C, Vis (compEnvC scope cl C X.env).scope y)
    (hdb : (x == ("__debug__" : Str)) = false := by decide) (hd : (a == ("__debug__" : Str)) = false := by decide) (hcd : (a == ("__classdict__" : Str)) = false := by decide) (hdy : (y == ("__debug__" : Str)) = false := by decide) (hcy : (y == ("__classdict__" : Str)) = false := by decide) (hs : ∀ x, foldedSetIterable iter X.env x = pure x := by intro _; rfl) :
    PE X (.ListComp (.Call (.Name x p) [.Name y p1] [] pos1) [⟨.Name y p2, iter, [], 0⟩] scope pos) (fun σ H Q => tLc wi gt tYes (tTryL X.env.cells (X.env.qual ++ "<lambda>") ks i TT σ) (own.map (·.2)) σ H Q) :=
  pe_lcx calm nd hi blk hgt (fun _ _ _ _ _ => pts_nil) (fun σ s H C cl fp hI => pe_tryL (scope := scope) hI (hg s H C cl fp) hm hk lk hcg hb Sg hNg hva hG hr hy (hvy cl C) hdb hd hcd hdy hcy) hs
end Bh

set_option Elab.async false
set_option linter.all false
set_option maxRecDepth 100000
set_option maxHeartbeats 1000000
namespace Bh
open PySem PySem.Spec PyProof.Rows L2
abbrev exPairs : List (Str × Str) := [("InvalidField", "position"), ("InvalidTie", "position"), ("InvalidKind", "position")]
section
variable {P : Program} {w : World} {K : PySem.W.Frag} {mg : Str → Option Value} {base : Heap}
theorem ok_given (T : Top K mg) : FnU P w K mg base 1 T.a_l_given T.fd_l_given ["_law_e"] (spGivenE K T.cBE T.cMS exPairs) := by
  refine fun_u T.d_l_given.F sc_l_given (fun vs H Q E h => ?_) (fun cdv A outer s H vs Q E h => ?_)
  · obtain ⟨a, C, dd, nm, f, v, rfl, _⟩ := h
    rfl
  obtain ⟨a, C, dd, nm, f, v, rfl, ea, ed, er, hp, q⟩ := h
  refine ⟨_, (pss_cons (ps_if (pt_cmpR (op_in_seq_K (K := K) (by rfl)) (pe_xz (pv 0)) (pe_tup (pa_cons pe_str (pa_cons pe_str (pa_cons pe_str pa_nil)))) (by rfl)) (pss_one (ps_ret (pe_xz (pv 0)))) pss_nil)
    (pss_cons (ps_if (pt_cmpR (op_in_seq_K (K := K) (by rfl)) (pe_xz (pv 0)) (pe_tup (pa_cons pe_str (pa_cons pe_str (pa_cons pe_str pa_nil)))) (by rfl)) (pss_one (ps_ret (pe_xz (pv 0)))) pss_nil)
    (pss_cons (ps_if (pt_cmpR (op_in_seq_K (K := K) (by rfl)) (pe_xz (pv 0)) (pe_tup (pa_cons pe_str (pa_cons pe_str (pa_cons pe_str (pa_cons pe_str (pa_cons pe_str pa_nil)))))) (by rfl)) (pss_one (ps_ret (pe_xz (pv 0)))) pss_nil)
    (pss_cons (ps_if (pt_cmpR (op_in_seq_K (K := K) (by rfl)) (pe_xz (pv 0)) (pe_tup (pa_cons pe_str (pa_cons pe_str pa_nil))) (by rfl)) (pss_one (ps_ret (pe_xz (pv 0)))) pss_nil)
    (pss_cons (ps_if (pt_cmpR (op_in_seq_K (K := K) (by rfl)) (pe_xz (pv 0)) (pe_tup (pa_cons pe_str (pa_cons pe_str pa_nil))) (by rfl)) (pss_one (ps_ret (pe_xz (pv 0)))) pss_nil)
    (pss_cons (ps_if (pt_cmpR op_eq (pe_xz (pv 0)) pe_str (nomark _)) (pss_one (ps_ret (pe_xz (pv 0)))) pss_nil)
    (pss_cons (ps_if (pt_cmpR op_eq (pe_xz (pv 0)) pe_str (nomark _)) (pss_one (ps_ret (pe_xz (pv 0)))) pss_nil)
    (pss_one (ps_ret (pe_ifExp (pt_cmpR (op_in_seq_K (K := K) (by rfl)) (pe_xz (pv 0)) (pe_tup (pa_cons pe_str (pa_cons pe_str (pa_cons pe_str pa_nil)))) (by rfl)) pe_non (pe_xz (pv 0)))))))))))), ?_⟩
  simp only [List.mem_cons, List.not_mem_nil, or_false, Prod.mk.injEq] at hp
  rcases hp with ⟨rfl, rfl⟩ | ⟨rfl, rfl⟩ | ⟨rfl, rfl⟩
  · refine ⟨_, rfl, a, C, dd, _, _, rfl, (Same.refl _) _ _ ea, er.x, er.n1, (Same.refl _) _ _ ed, rfl, (by show 3 ≤ sizeLine; decide), fun t1 n1 => ?_⟩
    have s1 := (Same.refl _).trans (same_new (o := .tup [.str "InvalidField", .str "InvalidTie", .str "InvalidKind"]) n1)
    refine ⟨t1, _, rfl, .inr (SqT.of upd_same), rfl, rfl, _, rfl, iteB (fun _ => ?_) (fun z => absurd z (by decide +kernel))⟩
    exact ⟨_, rfl, a, C, dd, _, v, rfl, s1 _ _ ea, er.x, er.n2, s1 _ _ ed, rfl, q _ s1⟩
  · refine ⟨_, rfl, a, C, dd, _, _, rfl, (Same.refl _) _ _ ea, er.x, er.n1, (Same.refl _) _ _ ed, rfl, (by show 3 ≤ sizeLine; decide), fun t1 n1 => ?_⟩
    have s1 := (Same.refl _).trans (same_new (o := .tup [.str "InvalidField", .str "InvalidTie", .str "InvalidKind"]) n1)
    refine ⟨t1, _, rfl, .inr (SqT.of upd_same), rfl, rfl, _, rfl, iteB (fun _ => ?_) (fun z => absurd z (by decide +kernel))⟩
    exact ⟨_, rfl, a, C, dd, _, v, rfl, s1 _ _ ea, er.x, er.n2, s1 _ _ ed, rfl, q _ s1⟩
  · refine ⟨_, rfl, a, C, dd, _, _, rfl, (Same.refl _) _ _ ea, er.x, er.n1, (Same.refl _) _ _ ed, rfl, (by show 3 ≤ sizeLine; decide), fun t1 n1 => ?_⟩
    have s1 := (Same.refl _).trans (same_new (o := .tup [.str "InvalidField", .str "InvalidTie", .str "InvalidKind"]) n1)
    refine ⟨t1, _, rfl, .inr (SqT.of upd_same), rfl, rfl, _, rfl, iteB (fun _ => ?_) (fun z => absurd z (by decide +kernel))⟩
    exact ⟨_, rfl, a, C, dd, _, v, rfl, s1 _ _ ea, er.x, er.n2, s1 _ _ ed, rfl, q _ s1⟩
theorem try_gives (T : Top K mg) {k : Nat} (cdv : Value) : GivesL P w K mg base ["_law_ask", "_law_found", "_law_e"] "_law_try" (defScope s_l_try) T.a_l_try cdv (defBody s_l_try) "_law_ask" k (TTryE K T.cBE T.cMS exPairs) := by
  intro A0 st f s H Q tl hr act h
  have G := ok_given (P := P) (w := w) (base := base) T
  obtain ⟨Ech, Q0, h1, h2, h3⟩ := h
  have hrm : ∀ (env : Env) (v : Option Value), env = envOfC "_law_try" (defScope s_l_try) s.heap.objs.size T.a_l_try cdv → L2H.RoomH 1 ((A0.deeper env).mark v) := fun env v e => by
    subst e
    have r := L2H.roomH_of hr
    exact ⟨by have := r.dp; show (A0.deeper (envOfC "_law_try" (defScope s_l_try) s.heap.objs.size T.a_l_try cdv)).depth + 3 * 1 + 5 < _; omega, by have := r.un; show (A0.deeper (envOfC "_law_try" (defScope s_l_try) s.heap.objs.size T.a_l_try cdv)).units + 16 * 1 + 200 < _; omega⟩
  refine ⟨_, pss_cons (ps_try_two (X := (cxOf C8.CX0 P w K mg base ["_law_ask", "_law_found", "_law_e"] "_law_try" (defScope s_l_try) T.a_l_try cdv A0 st s H C8.E0).nox) (i := 2) (tb := fun W D σ H => ∃ (Ec : XK) (Q1 : VK), (∀ cls d σ' H', Ec cls d H' → W cls d σ' H') ∧ σ[0]? = some (some (.ref f)) ∧ tl Ec H Q1 ∧
      ∀ v H2, Q1 v H2 → ∀ p, H2 p = none → D.nx (σ.set 1 (some (.ref p))) (upd H2 p (.tup [.str "value", v])))
      rfl rfl sc_l_try.nd rfl rfl (by rfl) T.gBE (by rfl) T.gMS (by decide) (by decide) (fun W pn xe tk _ => ⟨fun pins s' σ H' D I h' => ?_⟩)
      (fun a pn => pss_one (ps_set (i := 1) sc_l_try.nd rfl (Or.inl rfl) (by exact (pe_tup (X := ((cxOf C8.CX0 P w K mg base ["_law_ask", "_law_found", "_law_e"] "_law_try" (defScope s_l_try) T.a_l_try cdv A0 st s H C8.E0).nox).suite a pn) (pa_cons (pe_xz_K (X := ((cxOf C8.CX0 P w K mg base ["_law_ask", "_law_found", "_law_e"] "_law_try" (defScope s_l_try) T.a_l_try cdv A0 st s H C8.E0).nox).suite a pn) (K := K) rfl (pv 2)) (pa_cons (pe_callU (X := ((cxOf C8.CX0 P w K mg base ["_law_ask", "_law_found", "_law_e"] "_law_try" (defScope s_l_try) T.a_l_try cdv A0 st s H C8.E0).nox).suite a pn) G (hrm _ _ rfl) (by rfl) T.d_l_given.g T.d_l_given.kp T.d_l_given.b (pa_cons (pv 2) pa_nil)) pa_nil)))))))
    (pss_one (ps_ret (pv 1))), ?_⟩
  · obtain ⟨Ec, Q1, hW, k1, k3, k4⟩ := h'
    exact (pss_one (ps_set (i := 1) sc_l_try.nd rfl (Or.inl rfl) (pe_tup (pa_cons pe_str (pa_cons (pe_weak (act W pn xe Ec _ _ tk hW)) pa_nil))))).run pins s' σ H' D I
      ⟨Q1, ⟨k1, k3⟩, fun v H2 z => ⟨(by show 2 ≤ sizeLine; decide), fun p np => k4 v H2 z p np⟩⟩
  · refine ⟨Ech, Q0, fun cls d σ' H' he => ?_, rfl, h1, fun v H2 z p np => ⟨_, rfl, h3 v H2 z p np⟩⟩
    obtain ⟨C, dd, nm, f', v, rfl, rfl, ed, er, hp, k⟩ := h2 cls d H' he
    refine ⟨er.ex, fun a na hl => ?_⟩
    have nda : dd ≠ a := ne_of_none ed na
    match σ', hl with
    | [x, y, z], _ =>
      refine ⟨_, rfl, a, C, dd, _, _, rfl, upd_same, er.x, er.n1, (upd_ne nda).trans ed, rfl, _, rfl, a, C, dd, nm, f', v, rfl, upd_same, (upd_ne nda).trans ed, er, hp, fun H3 s3 => ⟨(by show 2 ≤ sizeLine; decide), fun p np => ?_⟩⟩
      exact ⟨_, rfl, k _ p ((same_new na).trans (s3.trans (same_new np))) upd_same⟩
end
end Bh

set_option Elab.async false
set_option linter.all false
set_option maxRecDepth 100000
set_option maxHeartbeats 1000000
namespace Bh
open PySem PySem.Spec PyProof.Rows L2 LamX NdefX
def outV : Option Nat → V
  | none => .non
  | some i => .int (i : Nat)
/-- what _first_wrong is given: nothing to walk, or items with their answers and the first that is wrong -/
def FwIn (K : PySem.W.Frag) (tl : List V → Hp → VK → Prop) (v1 : V) (H : Hp) (Q : VK) : Prop :=
  (∃ d, Dp K H v1 d ∧ tyN d ≠ "list" ∧ tyN d ≠ "tuple" ∧ ∀ H', Same H H' → Q (.int 0) H') ∨
  ∃ a xs, v1 = .ref a ∧ (SqL K H a xs ∨ SqT K H a xs) ∧ ((xs = [] ∧ ∀ H', Same H H' → Q (.int 0) H') ∨
    (1 ≤ xs.length ∧ xs.length ≤ 1000 ∧ ∃ (bs : Nat → Bool) (r : Option Nat), (∀ j, j < r.getD xs.length → bs j = true) ∧ (∀ i, r = some i → i < xs.length ∧ bs i = false) ∧
      (∀ (i : Nat) (x : V) (b : Addr) (H' : Hp) (R : VK), i ≤ r.getD xs.length → xs[i]? = some x → Same H H' → (SqL K H' b (xs.take i) ∨ SqT K H' b (xs.take i)) → (∀ H2, Same H' H2 → R (.bl (bs i)) H2) → tl [.ref b, x] H' R) ∧
      ∀ H', Same H H' → Q (outV r) H'))
theorem list_no {K : PySem.W.Frag} {d : PyData} (n : tyN d ≠ "list") : PySem.W.kitOne K (.type (tyN d)) (.type "list") = some false := by
  cases d with
  | none => exact (show PySem.W.kitOne K (.type "NoneType") (.type "list") = some false from kit_ty (by decide +kernel))
  | bool _ => exact (show PySem.W.kitOne K (.type "bool") (.type "list") = some false from kit_ty (by decide +kernel))
  | int _ => exact (show PySem.W.kitOne K (.type "int") (.type "list") = some false from kit_ty (by decide +kernel))
  | str _ => exact (show PySem.W.kitOne K (.type "str") (.type "list") = some false from kit_ty (by decide +kernel))
  | tuple _ => exact (show PySem.W.kitOne K (.type "tuple") (.type "list") = some false from kit_ty (by decide +kernel))
  | list _ => exact absurd rfl n
  | dict _ => exact (show PySem.W.kitOne K (.type "dict") (.type "list") = some false from kit_ty (by decide +kernel))
section
variable {P : Program} {w : World} {K : PySem.W.Frag} {mg : Str → Option Value} {base : Heap}
theorem fw_goB {CXg : CXT} {E : XK} {cdv : Value} {A : Around} {outer : List Env} {s : Shared} {H : Hp} {Q : VK} (T : Top K mg) {fv : V} {I0 : Hp → Prop} {tl : List V → Hp → VK → Prop}
    (act : ∀ (e : Expr) (es : List Expr) (t : TA) (p1 p2 : Pos), PA (cxOf CXg P w K mg base ["items", "fits", "position", "item"] "_first_wrong" (defScope s_first_wrong) T.a_first_wrong cdv A outer s H E).nox (e :: es) t →
      starEach (e :: es) (cxOf CXg P w K mg base ["items", "fits", "position", "item"] "_first_wrong" (defScope s_first_wrong) T.a_first_wrong cdv A outer s H E).nox.env = (false, eval e (cxOf CXg P w K mg base ["items", "fits", "position", "item"] "_first_wrong" (defScope s_first_wrong) T.a_first_wrong cdv A outer s H E).nox.env) :: starEach es (cxOf CXg P w K mg base ["items", "fits", "position", "item"] "_first_wrong" (defScope s_first_wrong) T.a_first_wrong cdv A outer s H E).nox.env →
      (backTo p2 (starEach es (cxOf CXg P w K mg base ["items", "fits", "position", "item"] "_first_wrong" (defScope s_first_wrong) T.a_first_wrong cdv A outer s H E).nox.env)).any (·.1) = false →
      PE (cxOf CXg P w K mg base ["items", "fits", "position", "item"] "_first_wrong" (defScope s_first_wrong) T.a_first_wrong cdv A outer s H E).nox (.Call (.Name "fits" p1) (e :: es) [] p2) (tFit fv I0 tl t))
    (hI : ∀ H1 H2, Same H1 H2 → I0 H1 → I0 H2) (h0 : I0 H) {v1 : V} (h : FwIn K tl v1 H Q) :
    ∃ t, PSs (cxOf CXg P w K mg base ["items", "fits", "position", "item"] "_first_wrong" (defScope s_first_wrong) T.a_first_wrong cdv A outer s H E).nox (defBody s_first_wrong) t ∧ t { nx := fun _ H' => Q .non H', rt := Q } (L2.start ["items", "fits", "position", "item"] [v1, fv]) H := by
  refine ⟨_, (pss_cons (ps_if (PW.pt (pw_or (pt_not (pt_val (pe_callB (call_isiT_K (K := K) (by rfl)) (by rfl) T.b_isinstance (by decide +kernel) (pa_cons (pv 0) (pa_cons (pe_tup (pa_cons (pe_tyN "list" (by rfl) T.b_list (by decide +kernel)) (pa_cons (pe_tyN "tuple" (by rfl) T.b_tuple (by decide +kernel)) pa_nil))) pa_nil))))) (pw_or1 (pt_cmpR op_eq (pe_callB (call_len_seq_K (K := K) (by rfl)) (by rfl) T.b_len PySem.boot_len (pa_cons (pv 0) pa_nil)) pe_int (nomark _))))) (pss_one (ps_ret pe_int)) pss_nil)
    (pss_cons (ps_for PassesOwn.never rfl (pi_enumS (K := K) (by rfl) (by rfl) T.b_enumerate (pa_cons (pv 0) pa_nil)) (pg_tup_K (K := K) (by rfl) (n := 2) (by rfl) (pgs_cons (pg_name (i := 2) sc_first_wrong.nd rfl (Or.inl rfl)) (pgs_cons (pg_name (i := 3) sc_first_wrong.nd rfl (Or.inl rfl)) pgs_nil)))
      (pss_one (ps_if (pt_not (pt_val (act _ _ _ _ _ (pa_cons (pe_slice (SlR.or (sl_list_K (K := K) (by rfl)) (sl_tupA_K (K := K) (by rfl))) (pv 0) po_none (po_some (pv 2))) (pa_cons (pv 3) pa_nil)) (by rfl) (by rfl)))) (pss_one (ps_ret (pv 2))) pss_nil)))
    (pss_one (ps_ret pe_non)))), ?_⟩
  refine ⟨_, rfl, (by show 2 ≤ sizeLine; decide), fun p np => ?_⟩
  dsimp only [tNil]
  have s0 := same_new (o := .tup [.ty "list", .ty "tuple"]) np
  rcases h with ⟨d, hd, n1, n2, q⟩ | ⟨a, xs, rfl, hx, h⟩
  · refine ⟨_, p, _, _, _, false, rfl, upd_same, .cons (.ty _) (.cons (.ty _) .nil), tyD (Dp.mono s0 hd), kitAny_cons (b := false) (list_no n1) (fun _ => kitAny_cons (b := false) (tuple_no n2) (fun _ => kitAny_nil) (fun z => nomatch z)) (fun z => nomatch z), ?_⟩
    exact ⟨_, rfl, iteT (q _ s0)⟩
  refine isi_lt hx np ?_
  have hx0 := seq_mono s0 hx
  refine ⟨_, rfl, iteF ?_⟩
  rcases h with ⟨rfl, q⟩ | ⟨ne, hl, bs, r, r1, r2, hs, q⟩
  · exact ⟨_, rfl, a, [], rfl, hx0, rfl, _, rfl, iteY rfl (q _ s0)⟩
  refine ⟨_, rfl, a, xs, rfl, hx0, rfl, _, rfl, iteN (fun z => by
    have z1 : ((xs.length : Nat) : Int) = 0 := by injection z
    omega) ?_⟩
  have lr : r.getD xs.length ≤ xs.length := by
    cases er : r with
    | none => exact Nat.le_refl _
    | some k => exact Nat.le_of_lt (r2 k er).1
  refine ⟨_, rfl, a, xs, rfl, hx0, fun J wk => for_it wk (fun i σ H' => ∃ x2 x3, σ = [some (.ref a), some fv, x2, x3] ∧ Same (upd H p (.tup [.ty "list", .ty "tuple"])) H' ∧ i ≤ r.getD xs.length) ⟨none, none, rfl, Same.refl _, Nat.zero_le _⟩ (fun i σ H' _ ⟨_, _, _, e, _⟩ => e) ?_ ?_⟩
  · rintro i y σ H' H'' hi ⟨x2, x3, rfl, s1, ir⟩ ⟨T0, xi, yi, rfl, nT, rfl, ei, ey⟩
    cases ei
    have s2 := s1.trans (same_new (o := .tup [.int (i : Nat), yi]) nT)
    refine ⟨T0, _, rfl, SqT.of upd_same, rfl, _, _, rfl, _, _, rfl, rfl, ?_⟩
    have hx2 := seq_mono s2 hx0
    refine ⟨rfl, hI _ _ (s0.trans s2) h0, ?_⟩
    have key : ∀ (b : Addr) (H3 : Hp), Same (upd H' T0 (.tup [.int (i : Nat), yi])) H3 → (SqL K H3 b (xs.take i) ∨ SqT K H3 b (xs.take i)) → ∀ R : VK, (∀ H2, Same H3 H2 → R (.bl (bs i)) H2) → tl [.ref b, yi] H3 R := fun b H3 s3 hb R k => hs i yi b H3 R ir ey (s0.trans (s2.trans s3)) hb k
    have fin : ∀ (b : Addr) (o : HO), upd H' T0 (.tup [.int (i : Nat), yi]) b = none → ∀ H4, Same (upd (upd H' T0 (.tup [.int (i : Nat), yi])) b o) H4 → Same (upd H p (.tup [.ty "list", .ty "tuple"])) H4 := fun b o nb H4 s4 => s2.trans ((same_new nb).trans s4)
    have nxt : bs i = true → i + 1 ≤ r.getD xs.length := fun z => by
      cases er : r with
      | none => exact hi
      | some k =>
        rw [er] at ir
        have ir : i ≤ k := ir
        have k2 := (r2 k er).2
        have : i ≠ k := fun e => by
          rw [e, k2] at z
          cases z
        show i + 1 ≤ k
        omega
    have out : bs i = false → r = some i := fun z => by
      have : ¬ i < r.getD xs.length := fun l => by
        rw [r1 i l] at z
        cases z
      cases er : r with
      | none =>
        rw [er] at this
        exact absurd hi this
      | some k =>
        rw [er] at this ir
        have a1 : ¬ i < k := this
        have a2 : i ≤ k := ir
        rw [show k = i by omega]
    refine ⟨_, rfl, _, rfl, (i : Int), rfl, ?_⟩
    rcases hx2 with hL | hT
    · refine .inl ⟨a, xs, rfl, hL, fun b nb => ⟨_, rfl, key b _ (same_new nb) (.inl (SqL.of ?_)) _ fun H4 s4 => ⟨_, rfl, iteB (fun z => ?_) (fun z => ?_)⟩⟩⟩
      · rw [upd_same, cutV_take xs (by omega)]
        rfl
      · exact ⟨_, rfl, by have := q _ (s0.trans (fin b _ nb _ s4)); rw [out (nb1 z)] at this; exact this⟩
      · exact ⟨_, _, rfl, fin b _ nb _ s4, nxt (nb0 z)⟩
    · refine .inr ⟨a, xs, rfl, hT, fun ⟨_, z⟩ => ?_, fun _ b nb => ⟨_, rfl, key b _ (same_new nb) (.inr (SqT.of ?_)) _ fun H4 s4 => ⟨_, rfl, iteB (fun z => ?_) (fun z => ?_)⟩⟩⟩
      · rw [show HT.sIx xs.length xs.length (some (i : Int)) = min i xs.length from HT.sIx_nat _ _ i] at z
        omega
      · rw [upd_same, cutV_take xs (by omega)]
        rfl
      · exact ⟨_, rfl, by have := q _ (s0.trans (fin b _ nb _ s4)); rw [out (nb1 z)] at this; exact this⟩
      · exact ⟨_, _, rfl, fin b _ nb _ s4, nxt (nb0 z)⟩
  · rintro σ H' ⟨x2, x3, rfl, s1, ir⟩
    have er : r = none := by
      cases er : r with
      | none => rfl
      | some k =>
        rw [er] at ir
        have a1 : xs.length ≤ k := ir
        have := (r2 k er).1
        omega
    have := q _ (s0.trans s1)
    rw [er] at this
    exact this
def TTfwB (K : PySem.W.Frag) (tl : List V → Hp → VK → Prop) (v1 : V) (H : Hp) (Q : VK) : Prop := FwIn K tl v1 H Q
theorem FwIn.imp {K : PySem.W.Frag} {tl tl2 : List V → Hp → VK → Prop} {v1 : V} {H : Hp} {Q : VK} (h : FwIn K tl v1 H Q) (k : ∀ (a b : V) (H' : Hp) (R : VK), Same H H' → tl [a, b] H' R → tl2 [a, b] H' R) : FwIn K tl2 v1 H Q := by
  rcases h with h | ⟨a, xs, e, hx, h⟩
  · exact .inl h
  · refine .inr ⟨a, xs, e, hx, ?_⟩
    rcases h with h | ⟨ne, hl, bs, r, r1, r2, hs, q⟩
    · exact .inl h
    · exact .inr ⟨ne, hl, bs, r, r1, r2, fun i x b H' R ir ex s1 hb z => k _ _ _ _ s1 (hs i x b H' R ir ex s1 hb z), q⟩
theorem fw_givesB {X : Cx} (T : Top X.K X.mg) (cdg : Value) (q : Str) : GivesTo2 X ["items", "fits", "position", "item"] "_first_wrong" (defScope s_first_wrong) T.a_first_wrong cdg (defBody s_first_wrong) "fits" q 2 (TTfwB X.K) := by
  intro f c' s H Q v1 N ws tb act hc h
  exact fw_goB T (fv := .ref f) (I0 := fun H => H c' = some (CodeO c' q)) (tl := fun vs H1 Q => H1 c' = some (CodeO c' q) ∧ vs.length = 2 ∧ tb (startF N vs ws) H1 Q) act (fun H1 H2 s h => s _ _ h) hc
    (h.imp fun a b H' R s1 z => ⟨s1 _ _ hc, rfl, z⟩)
def spFwB (K : PySem.W.Frag) (fv : Addr) : Sp := fun vs H Q _ => ∃ v1 : V, vs = [v1, .ref fv] ∧ FwIn K (fun vs H1 Q => spFieldD K (vs ++ []) H1 Q E0) v1 H Q
theorem ok_fwB (T : Top K mg) : FnOk P w K mg base CX0 5 T.a_first_wrong T.fd_first_wrong ["items", "fits"] (spFwB K T.a_field_fits) := by
  have G_field_fits := ok_fieldfitsD (P := P) (w := w) (base := base) T
  refine T.d_first_wrong.F.ok sc_first_wrong (fun vs H Q E h => ?_) (fun cdv A outer s H vs Q E hr h => ?_)
  · obtain ⟨v1, rfl, _⟩ := h
    rfl
  obtain ⟨v1, rfl, h⟩ := h
  exact fw_goB T (fv := .ref T.a_field_fits) (I0 := fun _ => True) (tl := fun vs H1 Q => spFieldD K (vs ++ []) H1 Q E0)
    (fun e es t p1 p2 ha he hp => pe_imp (pe_callL (i := 1) (dvs := []) (E := E0) G_field_fits (hr.mono (by decide)) (by rfl) (.inl (by rfl)) T.d_field_fits.kp T.d_field_fits.b .nil pass0 ha (he := he) (hpl := hp)) (fun σ H Q z => ⟨z.1, z.2.2⟩)) (fun _ _ _ _ => trivial) trivial h
end
end Bh

set_option Elab.async false
set_option linter.all false
set_option maxRecDepth 100000
set_option maxHeartbeats 1000000
set_option autoImplicit false
namespace Bh
open PySem PySem.Spec PyProof.Rows L2 LamX NdefX
/-! ### which item is the first that doesn't fit -/
inductive Out {α : Type} (enc : α → PyData) (good : List α → Prop) (ans : List α → PyData → Bool) : PyData → Option Nat → Prop
  | no (d : PyData) : tyN d ≠ "list" → tyN d ≠ "tuple" → Out enc good ans d (some 0)
  | nilL : Out enc good ans (.list []) (some 0)
  | nilT : Out enc good ans (.tuple []) (some 0)
  | wrong (ys : List α) (x : PyData) (rest : List PyData) (d : PyData) : (d = .list (ys.map enc ++ x :: rest) ∨ d = .tuple (ys.map enc ++ x :: rest)) → ys.length + 1 + rest.length ≤ 1000 → good ys → ans ys x = false → okD x = true → Out enc good ans d (some ys.length)
  | fine (ys : List α) (d : PyData) : (d = .list (ys.map enc) ∨ d = .tuple (ys.map enc)) → 1 ≤ ys.length → ys.length ≤ 1000 → good ys → Out enc good ans d none
theorem dp_seq {K : PySem.W.Frag} {H : Hp} {v : V} {d : PyData} {ds : List PyData} (h : Dp K H v d) (e : d = .list ds ∨ d = .tuple ds) : ∃ a xs, v = .ref a ∧ (SqL K H a xs ∨ SqT K H a xs) ∧ DpAll K H xs ds := by
  rcases e with rfl | rfl
  · obtain ⟨a, xs, e, h1, h2⟩ := dp_lst h
    exact ⟨a, xs, e, .inl h1, h2⟩
  · obtain ⟨a, xs, e, h1, h2⟩ := dp_tup h
    exact ⟨a, xs, e, .inr h1, h2⟩
theorem fwin_of {α : Type} {enc : α → PyData} {good : List α → Prop} {ans : List α → PyData → Bool} {K : PySem.W.Frag} {tl : List V → Hp → VK → Prop} {v1 : V} {H : Hp} {Q : VK} {d : PyData} {r : Option Nat}
    (gt : ∀ ys j, good ys → good (ys.take j)) (gok : ∀ ys j y, good ys → ys[j]? = some y → ans (ys.take j) (enc y) = true ∧ okD (enc y) = true)
    (hcall : ∀ (ys : List α) (d : PyData) (b : Addr) (t : V) (H' : Hp) (R : VK), good ys → ys.length ≤ 1000 → Same H H' → DpS K H' (.ref b) (ys.map enc) → Dp K H' t d → okD d = true → (∀ H2, Same H' H2 → R (.bl (ans ys d)) H2) → tl [.ref b, t] H' R)
    (o : Out enc good ans d r) (hd : Dp K H v1 d) (q : ∀ H', Same H H' → Q (outV r) H') : FwIn K tl v1 H Q := by
  cases o with
  | no _ n1 n2 => exact .inl ⟨d, hd, n1, n2, q⟩
  | nilL =>
    obtain ⟨a, xs, rfl, h1, h2⟩ := dp_lst hd
    exact .inr ⟨a, xs, rfl, .inl h1, .inl ⟨dpa_nil h2, q⟩⟩
  | nilT =>
    obtain ⟨a, xs, rfl, h1, h2⟩ := dp_tup hd
    exact .inr ⟨a, xs, rfl, .inr h1, .inl ⟨dpa_nil h2, q⟩⟩
  | fine ys _ e l1 l2 g =>
    obtain ⟨a, xs, rfl, h1, h2⟩ := dp_seq hd e
    have lx : xs.length = ys.length := by rw [DpAll.length h2, List.length_map]
    refine .inr ⟨a, xs, rfl, h1, .inr ⟨by omega, by omega, fun _ => true, none, fun _ _ => rfl, fun _ z => (nomatch z), fun i x b H' R _ ex s1 hb k => ?_, q⟩⟩
    obtain ⟨dx, g1, g2⟩ := DpAll.get h2 ex
    rw [List.getElem?_map] at g1
    cases ey : ys[i]? with
    | none => rw [ey] at g1; cases g1
    | some y =>
      rw [ey] at g1
      cases g1
      have z := gok ys i y g ey
      refine hcall (ys.take i) _ b x H' R (gt ys i g) (by rw [List.length_take]; omega) s1 ⟨b, _, rfl, hb, ?_⟩ (Dp.mono s1 g2) z.2 fun H2 s2 => ?_
      · rw [List.map_take]
        exact DpAll.take i (DpAll.mono s1 h2)
      · rw [z.1]
        exact k H2 s2
  | wrong ys x rest _ e l2 g bad ox =>
    obtain ⟨a, xs, rfl, h1, h2⟩ := dp_seq hd e
    have lx : xs.length = ys.length + 1 + rest.length := by
      rw [DpAll.length h2, List.length_append, List.length_map, List.length_cons]
      omega
    refine .inr ⟨a, xs, rfl, h1, .inr ⟨by omega, by omega, fun i => decide (i ≠ ys.length), some ys.length, fun j hj => decide_eq_true (Nat.ne_of_lt hj), fun i z => ?_, fun i x' b H' R ir ex s1 hb k => ?_, q⟩⟩
    · cases z
      exact ⟨by omega, decide_eq_false (fun z => z rfl)⟩
    have ir : i ≤ ys.length := ir
    obtain ⟨dx, g1, g2⟩ := DpAll.get h2 ex
    have tk : DpAll K H' (xs.take i) ((ys.take i).map enc) := by
      have t := DpAll.take i (DpAll.mono s1 h2)
      rw [List.take_append_of_le_length (by rw [List.length_map]; exact ir)] at t
      rw [List.map_take]
      exact t
    by_cases ei : i = ys.length
    · subst ei
      rw [List.getElem?_append_right (by rw [List.length_map]; exact Nat.le_refl _), List.length_map, Nat.sub_self] at g1
      cases g1
      rw [List.take_length] at tk
      refine hcall ys _ b x' H' R g (by omega) s1 ⟨b, _, rfl, hb, tk⟩ (Dp.mono s1 g2) ox fun H2 s2 => ?_
      rw [bad]
      have := k H2 s2
      have ee : decide (ys.length ≠ ys.length) = false := decide_eq_false (fun z => z rfl)
      dsimp only at this
      rw [ee] at this
      exact this
    · rw [List.getElem?_append_left (by rw [List.length_map]; omega), List.getElem?_map] at g1
      cases ey : ys[i]? with
      | none => rw [ey] at g1; cases g1
      | some y =>
        rw [ey] at g1
        cases g1
        have z := gok ys i y g ey
        refine hcall (ys.take i) _ b x' H' R (gt ys i g) (by rw [List.length_take]; omega) s1 ⟨b, _, rfl, hb, tk⟩ (Dp.mono s1 g2) z.2 fun H2 s2 => ?_
        rw [z.1]
        have := k H2 s2
        have ee : decide (i ≠ ys.length) = true := decide_eq_true ei
        dsimp only at this
        rw [ee] at this
        exact this
theorem goodFs_take (ys : List Fld) (j : Nat) (h : GoodFs ys) : GoodFs (ys.take j) := fun i f e => by
  have li : i < j := by
    have := (List.getElem?_eq_some_iff.mp e).1
    rw [List.length_take] at this
    omega
  rw [List.getElem?_take_of_lt li] at e
  rw [List.take_take, Nat.min_eq_left (Nat.le_of_lt li)]
  exact h i f e
theorem goodFs_ok (ys : List Fld) (j : Nat) (y : Fld) (h : GoodFs ys) (e : ys[j]? = some y) : fieldD (ys.take j) (dF y) = true ∧ okD (dF y) = true := ⟨fieldD_ok (h j y e), okD_dF (h.s y (List.mem_of_getElem? e))⟩
structure GoodTs (fs : List Fld) (ts : List Tie) : Prop where
  len : ts.length ≤ 4
  nd : (ts.map (·.1)).Nodup
  ok : ∀ t ∈ ts, IsNm t.1 ∧ OkPrg fs t.2
structure GoodKs (fs : List Fld) (ks : List Knd) : Prop where
  len : ks.length ≤ 3
  nd : (ks.map (·.name)).Nodup
  ok : ∀ k ∈ ks, OkKnd fs k
theorem goodTs_take {fs : List Fld} (ys : List Tie) (j : Nat) (h : GoodTs fs ys) : GoodTs fs (ys.take j) :=
  ⟨by rw [List.length_take]; have := h.len; omega, by rw [List.map_take]; exact h.nd.sublist (List.take_sublist _ _), fun t ht => h.ok t (List.mem_of_mem_take ht)⟩
theorem goodKs_take {fs : List Fld} (ys : List Knd) (j : Nat) (h : GoodKs fs ys) : GoodKs fs (ys.take j) :=
  ⟨by rw [List.length_take]; have := h.len; omega, by rw [List.map_take]; exact h.nd.sublist (List.take_sublist _ _), fun t ht => h.ok t (List.mem_of_mem_take ht)⟩
abbrev ansT (fs : List Fld) (ts : List Tie) (d : PyData) : Bool := tieD fs (ts.map (·.1)) d
abbrev ansK (fs : List Fld) (ks : List Knd) (d : PyData) : Bool := kindD fs (ks.map (·.name)) d
theorem goodTs_ok {fs : List Fld} (g : GoodFs fs) (ys : List Tie) (j : Nat) (y : Tie) (h : GoodTs fs ys) (e : ys[j]? = some y) : ansT fs (ys.take j) (dTie y) = true ∧ okD (dTie y) = true := by
  have l := (List.getElem?_eq_some_iff.mp e).1
  have := h.len
  have k := h.ok y (List.mem_of_getElem? e)
  exact ⟨tieD_ok g.all.1.nd (by rw [List.length_map, List.length_take]; omega) (nd_takeM (f := fun t : Tie => t.1) h.nd e) k.1 k.2, okD_dTie g.s k.1 k.2⟩
theorem goodKs_ok {fs : List Fld} (g : GoodFs fs) (ys : List Knd) (j : Nat) (y : Knd) (h : GoodKs fs ys) (e : ys[j]? = some y) : ansK fs (ys.take j) (dKnd y) = true ∧ okD (dKnd y) = true := by
  have l := (List.getElem?_eq_some_iff.mp e).1
  have := h.len
  have k := h.ok y (List.mem_of_getElem? e)
  exact ⟨kindD_ok g.all.1.nd (by rw [List.length_map, List.length_take]; omega) (nd_takeM (f := Knd.name) h.nd e) k, okD_dKnd g.s k⟩
/-- what a refusal of this place raises -/
def ErQ (x : Addr) (TL : List (Addr × Str)) (H : Hp) (E : XK) (C : Addr) (nm : Str) (i : Nat) : Prop := ∀ (dd : Addr) (H2 : Hp), Same (noT x H) H2 → Tabs TL H2 → H2 dd = some (.xd [("code", .str nm), ("position", .int (i : Nat))]) → E (.ref C) (some dd) H2
def spInitB (K : PySem.W.Frag) (TL : List (Addr × Str)) (C cF cT cK : Addr) : Sp := fun vs H Q E => ∃ (x dx : Addr) (v1 v2 v3 : V), vs = [.ref x, v1, v2, v3] ∧ H x = some (.ins C dx []) ∧ Tabs TL H ∧
  ((∃ (d : PyData) (i : Nat), Dp K H v1 d ∧ Out dF GoodFs fieldD d (some i) ∧ ErQ x TL H E cF "InvalidField" i) ∨
   ∃ fs : List Fld, DpS K H v1 (fs.map dF) ∧ GoodFs fs ∧ 1 ≤ fs.length ∧ fs.length ≤ 1000 ∧
    ((∃ (d : PyData) (i : Nat), Dp K H v2 d ∧ Out dTie (GoodTs fs) (ansT fs) d (some i) ∧ ErQ x TL H E cT "InvalidTie" i) ∨
     ∃ ts : List Tie, DpS K H v2 (ts.map dTie) ∧ GoodTs fs ts ∧ 1 ≤ ts.length ∧ ∃ (d : PyData) (i : Nat), Dp K H v3 d ∧ Out dKnd (GoodKs fs) (ansK fs) d (some i) ∧ ErQ x TL H E cK "InvalidKind" i))
theorem DpS.dp {K : PySem.W.Frag} {H : Hp} {v : V} {ds : List PyData} (h : DpS K H v ds) : ∃ d, (d = .list ds ∨ d = .tuple ds) ∧ Dp K H v d := by
  obtain ⟨a, xs, rfl, h1, h2⟩ := h
  rcases h1 with h1 | h1
  · exact ⟨_, .inl rfl, .lst h1 h2⟩
  · exact ⟨_, .inr rfl, .tup h1 h2⟩
section
variable {P : Program} {w : World} {K : PySem.W.Frag} {mg : Str → Option Value} {base : Heap}
theorem ok_rinitB {fI cI pI : Addr} {od an : Option Addr} {oc kV doc pm ct : Value} {osl : Array (Option Value)} {TL : List (Addr × Str)} (T : Top K mg) (R : RbC K mg) (TB : TabB base mg cI pI) (mT0 : (pI, rbQ) ∈ TL) (uT0 : ∀ p ∈ TL, p.1 = pI → p.2 = rbQ)
    (lk : K.lookup fI = some ⟨oc, od, .func (PySem.W.fnOf "__init__" "Rulebook.__init__" (defArgs s_Rulebook__init) (defBody s_Rulebook__init) (defScope s_Rulebook__init) .none kV doc pm an (.ref cI) ct), osl⟩) (hcd : PySem.W.codeIn K (.ref cI) "Rulebook.__init__" = true) :
    FnOk P w K mg base (L2.CX P w) 9 fI (PySem.W.fnOf "__init__" "Rulebook.__init__" (defArgs s_Rulebook__init) (defBody s_Rulebook__init) (defScope s_Rulebook__init) .none kV doc pm an (.ref cI) ct) ["self", "fields", "ties", "kinds"] (spInitB K TL R.C T.r_InvalidField.c T.r_InvalidTie.c T.r_InvalidKind.c) := by
  have G_first_wrong := ok_fwB (P := P) (w := w) (base := base) T
  have G_tie_fits := ok_tiefitsD (P := P) (w := w) (base := base) T
  have G_kind_fits := ok_kindfitsD (P := P) (w := w) (base := base) T
  have G_in_InvalidField := in_InvalidField (P := P) (w := w) (base := base) T 1
  have G_in_InvalidTie := in_InvalidTie (P := P) (w := w) (base := base) T 1
  have G_in_InvalidKind := in_InvalidKind (P := P) (w := w) (base := base) T 1
  obtain ⟨oc2, od2, kV2, doc2, pm2, an2, cdvF, ct2, osl2, eF, lkF, hcF⟩ := T.d_first_wrong.F.ex
  have bF := T.d_first_wrong.b
  rw [eF] at bF lkF
  refine fn_of lk hcd sc_Rulebook__init (fun vs H Q E h => ?_) (fun A outer s H vs Q E hr h => ?_)
  · obtain ⟨x, dx, v1, v2, v3, rfl, _⟩ := h
    rfl
  obtain ⟨x, dx, v1, v2, v3, rfl, hx, hT, h⟩ := h
  have mT : (pI, ("Rulebook.__init__.<locals>." : Str) ++ "<lambda>") ∈ TL := by
    rw [show (("Rulebook.__init__.<locals>." : Str) ++ "<lambda>") = rbQ by decide +kernel]
    exact mT0
  have uT : ∀ p ∈ TL, p.1 = pI → p.2 = ("Rulebook.__init__.<locals>." : Str) ++ "<lambda>" := fun p hp e => (uT0 p hp e).trans (show rbQ = ("Rulebook.__init__.<locals>." : Str) ++ "<lambda>" by decide +kernel)
  refine ⟨_, (pss_cons (ps_set (i := 4) sc_Rulebook__init.nd rfl (Or.inl rfl) (pe_call G_first_wrong (hr.mono (by decide)) (by rfl) T.d_first_wrong.g T.d_first_wrong.kp T.d_first_wrong.b .nil pass0 (pa_cons (pv 1) (pa_cons (pe_gR rfl T.d_field_fits.g) pa_nil))))
    (pss_cons (ps_if (pt_cmpR op_notN (pv 4) pe_non (nomark _)) (pss_one (ps_raise rfl (takes_of rfl rfl rfl rfl) (pmk_mkG T.r_InvalidField.e T.r_InvalidField.i T.r_InvalidField.t G_in_InvalidField (hr.mono (by decide)) T.r_InvalidField.b (by rfl) T.r_InvalidField.g (pa_cons (pv 4) pa_nil)))) pss_nil)
    (pss_cons (ps_set (i := 4) sc_Rulebook__init.nd rfl (Or.inl rfl) (pe_lamcall2 (T := TL) (TT := TTfwB K) (a1 := "items") (a := "fits") (Ng := ["items", "fits", "position", "item"]) (N := ["before", "tie", "fields"]) (ps := ["before", "tie"]) (fr := ["fields"]) (js := [1]) (k := 5) (tb := tCall (spChkN K tieD) [] E0 (tCons (tVar 2) (tCons (tVar 0) (tCons (tVar 1) tNil)))) (by rfl) T.d_first_wrong.g T.d_first_wrong.kp lkF hcF bF sc_first_wrong rfl (.inl (by rfl)) (pv 2) (fw_givesB (X := (cxOf (L2.CX P w) P w K mg base ["self", "fields", "ties", "kinds", "wrong"] "Rulebook.__init__" (defScope s_Rulebook__init) fI (.ref cI) A outer s H E)) T cdvF _) TB rfl mT uT (hr.mono (by decide)) rfl (nscope_by (by decide +kernel)) (ndef_free (sc := defScope s_Rulebook__init) (fr := ["fields"]) (by decide +kernel)) (ndef_fr (sc := defScope s_Rulebook__init) (by decide +kernel)) rfl (fun _ _ _ _ _ us hl => match us, hl with | [_, _], _ => rfl) (fun A outer s H F f hF hr2 => by
      obtain ⟨fn, fq, fp, fb, fsc, fcl, fc⟩ := F
      cases hF
      exact (pe_call G_tie_fits (hr2.mono (by decide)) (by rfl) T.d_tie_fits.g T.d_tie_fits.kp T.d_tie_fits.b .nil pass0 (pa_cons (pv 2) (pa_cons (pv 0) (pa_cons (pv 1) pa_nil)))))))
    (pss_cons (ps_if (pt_cmpR op_notN (pv 4) pe_non (nomark _)) (pss_one (ps_raise rfl (takes_of rfl rfl rfl rfl) (pmk_mkG T.r_InvalidTie.e T.r_InvalidTie.i T.r_InvalidTie.t G_in_InvalidTie (hr.mono (by decide)) T.r_InvalidTie.b (by rfl) T.r_InvalidTie.g (pa_cons (pv 4) pa_nil)))) pss_nil)
    (pss_cons (ps_set (i := 4) sc_Rulebook__init.nd rfl (Or.inl rfl) (pe_lamcall2 (T := TL) (TT := TTfwB K) (a1 := "items") (a := "fits") (Ng := ["items", "fits", "position", "item"]) (N := ["before", "kind", "fields"]) (ps := ["before", "kind"]) (fr := ["fields"]) (js := [1]) (k := 5) (tb := tCall (spChkN K kindD) [] E0 (tCons (tVar 2) (tCons (tVar 0) (tCons (tVar 1) tNil)))) (by rfl) T.d_first_wrong.g T.d_first_wrong.kp lkF hcF bF sc_first_wrong rfl (.inl (by rfl)) (pv 3) (fw_givesB (X := (cxOf (L2.CX P w) P w K mg base ["self", "fields", "ties", "kinds", "wrong"] "Rulebook.__init__" (defScope s_Rulebook__init) fI (.ref cI) A outer s H E)) T cdvF _) TB rfl mT uT (hr.mono (by decide)) rfl (nscope_by (by decide +kernel)) (ndef_free (sc := defScope s_Rulebook__init) (fr := ["fields"]) (by decide +kernel)) (ndef_fr (sc := defScope s_Rulebook__init) (by decide +kernel)) rfl (fun _ _ _ _ _ us hl => match us, hl with | [_, _], _ => rfl) (fun A outer s H F f hF hr2 => by
      obtain ⟨fn, fq, fp, fb, fsc, fcl, fc⟩ := F
      cases hF
      exact (pe_call G_kind_fits (hr2.mono (by decide)) (by rfl) T.d_kind_fits.g T.d_kind_fits.kp T.d_kind_fits.b .nil pass0 (pa_cons (pv 2) (pa_cons (pv 0) (pa_cons (pv 1) pa_nil)))))))
    (pss_cons (ps_if (pt_cmpR op_notN (pv 4) pe_non (nomark _)) (pss_one (ps_raise rfl (takes_of rfl rfl rfl rfl) (pmk_mkG T.r_InvalidKind.e T.r_InvalidKind.i T.r_InvalidKind.t G_in_InvalidKind (hr.mono (by decide)) T.r_InvalidKind.b (by rfl) T.r_InvalidKind.g (pa_cons (pv 4) pa_nil)))) pss_nil)
    (pss_cons (ps_fld (pv 0) (pe_callTy (call_list_of_K (K := K) (by rfl)) (by rfl) T.b_list (by decide +kernel) (pa_cons (pv 1) pa_nil)) (by rfl))
    (pss_cons (ps_fld (pv 0) (pe_callTy (call_list_of_K (K := K) (by rfl)) (by rfl) T.b_list (by decide +kernel) (pa_cons (pv 2) pa_nil)) (by rfl))
    (pss_one (ps_fld (pv 0) (pe_callTy (call_list_of_K (K := K) (by rfl)) (by rfl) T.b_list (by decide +kernel) (pa_cons (pv 3) pa_nil)) (by rfl))))))))))), ?_⟩
  have hX : InsX H x := ⟨_, _, _, hx⟩
  have nx := (noT_x : noT x H x = none)
  have rs : ∀ (C : Addr) (nm : Str) (i : Nat) (H1 : Hp) (a : Addr), Same (noT x H) H1 → Tabs TL H1 → H1 a = none → ErQ x TL H E C nm i →
      spIe K C nm "position" 1 (V.ref a :: ([V.int (i : Nat)] ++ [])) (upd H1 a (exo a C none)) (fun v H2 => v = .non ∧ ∃ (d : Addr) (fs : List (Str × V)), H2 a = some (exo a C (some d)) ∧ H2 d = some (exd d fs) ∧ H1 d = none ∧ E (.ref C) (some d) (upd (del H2 a) d (.xd fs))) (fun _ _ _ => False) := fun C nm i H1 a s1 t1 na k =>
    ie_raise (.int _) .int na fun dd r H2 nd s2 ed hr => k dd H2 (s1.trans s2) (t1.ext s2) (by cases hr; exact ed)
  have fcall : ∀ (H0 : Hp) (ys : List Fld) (d : PyData) (b : Addr) (t : V) (H' : Hp) (R : VK), GoodFs ys → ys.length ≤ 1000 → Same H0 H' → DpS K H' (.ref b) (ys.map dF) → Dp K H' t d → okD d = true → (∀ H2, Same H' H2 → R (.bl (fieldD ys d)) H2) → spFieldD K ([.ref b, t] ++ []) H' R E0 := fun H0 ys d b t H' R g _ _ hb ht ho k =>
    ⟨.ref b, t, ys, d, rfl, hb, g.all.1, g.all.2.1, g.all.2.2, ht, ho, k⟩
  rcases h with ⟨d, i, hd, ho, er⟩ | ⟨fs, hfs, gf, f1, f2, h⟩
  · refine ⟨_, rfl, v1, rfl, fwin_of goodFs_take goodFs_ok (fcall H) ho hd fun H1 s1 => ?_⟩
    refine ⟨_, rfl, rfl, _, rfl, iteB (fun _ => ?_) (fun z => by simp [outV] at z)⟩
    exact ⟨_, rfl, (by show 1 ≤ 1000; decide), fun a na => rs _ _ i H1 a (noT_le.trans s1) (hT.ext s1) na er⟩
  have hfs' : DpS K (noT x H) v1 (fs.map dF) := hfs.nT hX
  obtain ⟨d0, e0, hd0⟩ := hfs.dp
  refine ⟨_, rfl, v1, rfl, fwin_of (r := none) goodFs_take goodFs_ok (fcall H) (.fine fs d0 e0 f1 f2 gf) hd0 fun H1 s1 => ?_⟩
  refine ⟨_, rfl, rfl, _, rfl, iteB (fun z => by simp [outV] at z) (fun _ => ?_)⟩
  have g1 : Same (noT x H) H1 := noT_le.trans s1
  have T1 : Tabs TL H1 := hT.ext s1
  refine ⟨_, rfl, T1, fun H2 e2 T2 => ?_⟩
  have hx2 : H2 x = some (.ins R.C dx []) := e2 _ _ (s1 _ _ hx) fun _ z => nomatch z
  have g2 : Same (noT x H) H2 := fun a o h => e2 a o (g1 a o h) fun ps z => by
    rw [noT_tbl (by rw [noT_le a o h, z])] at h
    cases h
  have T2' : Tabs TL H2 := T2
  have tcall : ∀ (H0 : Hp), Same (noT x H) H0 → ∀ (ys : List Tie) (d : PyData) (b : Addr) (t : V) (H' : Hp) (R : VK), GoodTs fs ys → ys.length ≤ 1000 → Same H0 H' → DpS K H' (.ref b) (ys.map dTie) → Dp K H' t d → okD d = true → (∀ H2, Same H' H2 → R (.bl (ansT fs ys d)) H2) →
      spChkN K tieD ([v1, .ref b, t] ++ []) H' R E0 := fun H0 s0 ys d b t H' R g l s' hb ht ho k => by
    have hh : HdS K H' (.ref b) (ys.map (·.1)) := by
      have z := HdS.of hb (fun d hd => by
        obtain ⟨c2, _, rfl⟩ := List.mem_map.mp hd
        exact named_dTie c2)
      rw [List.map_map] at z
      exact z
    exact ⟨v1, .ref b, t, fs, ys.map (·.1), d, rfl, hfs'.mono (s0.trans s'), gf.all.1, hh, by rw [List.length_map]; exact l, ht, ho, k⟩
  rcases h with ⟨d, i, hd, ho, er⟩ | ⟨ts, hts, gt, t1, d, i, hd, ho, er⟩
  · refine fwin_of goodTs_take (goodTs_ok gf) (fun ys d b t H' R g l s' hb ht ho k => ⟨_, rfl, _, rfl, _, rfl, tcall H2 g2 ys d b t H' R g l s' hb ht ho k⟩) ho (Dp.mono g2 (Dp.nT hX hd)) fun H3 s3 => ?_
    refine ⟨_, rfl, rfl, _, rfl, iteB (fun _ => ?_) (fun z => by simp [outV] at z)⟩
    exact ⟨_, rfl, (by show 1 ≤ 1000; decide), fun a na => rs _ _ i H3 a (g2.trans s3) (T2'.ext s3) na er⟩
  obtain ⟨d0', e0', hd0'⟩ := (hts.nT hX).dp
  have l4 := gt.len
  refine fwin_of (r := none) goodTs_take (goodTs_ok gf) (fun ys d b t H' R g l s' hb ht ho k => ⟨_, rfl, _, rfl, _, rfl, tcall H2 g2 ys d b t H' R g l s' hb ht ho k⟩) (.fine ts d0' e0' t1 (by omega) gt) (Dp.mono g2 hd0') fun H3 s3 => ?_
  refine ⟨_, rfl, rfl, _, rfl, iteB (fun z => by simp [outV] at z) (fun _ => ?_)⟩
  have g3 := g2.trans s3
  have hx3 := s3 _ _ hx2
  refine ⟨_, rfl, T2'.ext s3, fun H4 e4 T4 => ?_⟩
  have g4 : Same (noT x H) H4 := fun a o h => e4 a o (g3 a o h) fun ps z => by
    rw [noT_tbl (by rw [noT_le a o h, z])] at h
    cases h
  have T4' : Tabs TL H4 := T4
  refine fwin_of goodKs_take (goodKs_ok gf) (fun ys d b t H' R g l s' hb ht ho k => ?_) ho (Dp.mono g4 (Dp.nT hX hd)) fun H5 s5 => ?_
  · have hh : HdS K H' (.ref b) (ys.map (·.name)) := by
      have z := HdS.of hb (fun d hd => by
        obtain ⟨c2, _, rfl⟩ := List.mem_map.mp hd
        exact named_dKnd c2)
      rw [List.map_map] at z
      exact z
    exact ⟨_, rfl, _, rfl, _, rfl, v1, .ref b, t, fs, ys.map (·.name), d, rfl, hfs'.mono (g4.trans s'), gf.all.1, hh, by rw [List.length_map]; exact l, ht, ho, k⟩
  refine ⟨_, rfl, rfl, _, rfl, iteB (fun _ => ?_) (fun z => by simp [outV] at z)⟩
  exact ⟨_, rfl, (by show 1 ≤ 1000; decide), fun a na => rs _ _ i H5 a (g4.trans s5) (T4'.ext s5) na er⟩
end
end Bh

set_option Elab.async false
set_option linter.all false
set_option maxRecDepth 100000
set_option maxHeartbeats 1000000
namespace Bh
open PySem PySem.Spec PyProof.Rows L2
section
variable {P : Program} {w : World} {K : PySem.W.Frag} {mg : Str → Option Value} {base : Heap}
theorem ok_case (T : Top K mg) : FnOk P w K mg base CX0 3 T.a_l_case T.fd_l_case ["_law_bag_here", "_law_fields_here"] (spCase K) := by
  have G_l_draw := ok_draw (P := P) (w := w) (base := base) T
  have G_l_any := ok_any (P := P) (w := w) (base := base) T
  refine T.d_l_case.F.ok sc_l_case (fun vs H Q E h => ?_) (fun cdv A outer s H vs Q E hr h => ?_)
  · obtain ⟨b, l, a, G, xs, fs, rfl, _⟩ := h
    rfl
  obtain ⟨b, l, a, G, xs, fs, rfl, hS, hF, ok, wd, q⟩ := h
  refine ⟨_, (pss_cons (ps_par (i := 2) (j := 3) (by rfl) sc_l_case.nd rfl rfl (by decide) rfl rfl (pa_cons (pe_lst pa_nil) (pa_cons (pe_lst pa_nil) pa_nil)) (by rfl))
    (pss_cons (ps_for PassesOwn.never rfl (pi_range1 rfl T.b_range (pa_cons (pe_call G_l_draw (hr.mono (by decide)) (by rfl) T.d_l_draw.g T.d_l_draw.kp T.d_l_draw.b .nil pass0 (pa_cons (pv 0) (pa_cons pe_int pa_nil))) pa_nil)) (pg_name (i := 4) sc_l_case.nd rfl (Or.inl rfl))
      (pss_cons (ps_asg (pe_call G_l_any (hr.mono (by decide)) (by rfl) T.d_l_any.g T.d_l_any.kp T.d_l_any.b .nil pass0 (pa_cons (pv 0) (pa_cons (pv 1) pa_nil))) (pg_tup_K (K := K) (by rfl) (n := 2) (by rfl) (pgs_cons (pg_name (i := 5) sc_l_case.nd rfl (Or.inl rfl)) (pgs_cons (pg_name (i := 6) sc_l_case.nd rfl (Or.inl rfl)) pgs_nil))))
      (pss_one (ps_expr (pe_bm_K (K := K) (by rfl) PySem.F.plainAttrs_list PySem.F.slot_list_append PySem.F.type_list_append mt_append (pv 2) (pa_cons (pe_tup (pa_cons (pv 5) (pa_cons (pe_call G_l_any (hr.mono (by decide)) (by rfl) T.d_l_any.g T.d_l_any.kp T.d_l_any.b .nil pass0 (pa_cons (pv 0) (pa_cons (pe_lst (pa_cons pe_str (pa_cons pe_str (pa_cons pe_str (pa_cons pe_str pa_nil))))) pa_nil))) (pa_cons (pe_call G_l_any (hr.mono (by decide)) (by rfl) T.d_l_any.g T.d_l_any.kp T.d_l_any.b .nil pass0 (pa_cons (pv 0) (pa_cons (pv 6) pa_nil))) pa_nil)))) pa_nil))))))
    (pss_cons (ps_for PassesOwn.never rfl (pi_range1 rfl T.b_range (pa_cons (pe_call G_l_draw (hr.mono (by decide)) (by rfl) T.d_l_draw.g T.d_l_draw.kp T.d_l_draw.b .nil pass0 (pa_cons (pv 0) (pa_cons pe_int pa_nil))) pa_nil)) (pg_name (i := 4) sc_l_case.nd rfl (Or.inl rfl))
      (pss_cons (ps_asg (pe_call G_l_any (hr.mono (by decide)) (by rfl) T.d_l_any.g T.d_l_any.kp T.d_l_any.b .nil pass0 (pa_cons (pv 0) (pa_cons (pv 1) pa_nil))) (pg_tup_K (K := K) (by rfl) (n := 2) (by rfl) (pgs_cons (pg_name (i := 5) sc_l_case.nd rfl (Or.inl rfl)) (pgs_cons (pg_name (i := 6) sc_l_case.nd rfl (Or.inl rfl)) pgs_nil))))
      (pss_one (ps_expr (pe_bm_K (K := K) (by rfl) PySem.F.plainAttrs_list PySem.F.slot_list_append PySem.F.type_list_append mt_append (pv 3) (pa_cons (pe_tup (pa_cons (pv 5) (pa_cons (pe_call G_l_any (hr.mono (by decide)) (by rfl) T.d_l_any.g T.d_l_any.kp T.d_l_any.b .nil pass0 (pa_cons (pv 0) (pa_cons (pe_op op_cat (pe_lst (pa_cons pe_str pa_nil)) (pe_callTy (call_list_of_K (K := K) (by rfl)) (by rfl) T.b_list (by decide +kernel) (pa_cons (pv 6) pa_nil))) pa_nil))) pa_nil))) pa_nil))))))
    (pss_one (ps_ret (pe_tup (pa_cons (pe_callTy (call_tuple_of_P (K := K) (by rfl)) (by rfl) T.b_tuple (by decide +kernel) (pa_cons (pv 2) pa_nil)) (pa_cons (pe_ifExp (pt_cmpR op_eq (pe_call G_l_draw (hr.mono (by decide)) (by rfl) T.d_l_draw.g T.d_l_draw.kp T.d_l_draw.b .nil pass0 (pa_cons (pv 0) (pa_cons pe_int pa_nil))) pe_int (nomark _)) pe_non (pe_callTy (call_tuple_of_P (K := K) (by rfl)) (by rfl) T.b_tuple (by decide +kernel) (pa_cons (pv 3) pa_nil))) pa_nil)))))))), ?_⟩
  have lxs := fds_len hF
  have xne : xs ≠ [] := fun z => by
    have := ok.ne
    rw [← lxs, z] at this
    cases this
  have xle : xs.length ≤ 100000 := by
    have := ok.le
    omega
  refine ⟨Nat.zero_le _, fun pt npt => ?_⟩
  have w1 := wd.new (o := .lst []) npt
  have gpt := wd.free npt
  refine ⟨Nat.zero_le _, fun ps nps => ?_⟩
  have w2 := w1.new (o := .lst []) nps
  have gps1 := w1.free nps
  have pts : pt ≠ ps := ne_of_none upd_same gps1
  have gps : G ps = none := by
    rw [upd_ne pts.symm] at gps1
    exact gps1
  have sG : ∀ {G' : Hp}, Same G G' → Same G (hid ps (hid pt G')) := fun e => hid_of (hid_of e gpt) gps
  refine ⟨_, _, rfl, ?_⟩
  refine ⟨_, rfl, b, l, _, 3, rfl, by decide, by decide, w2, fun r3 H3 r30 r31 w3 => ?_⟩
  refine ⟨_, rfl, by omega, by omega, ?_⟩
  refine for_it walk_range (fun i σ H' => ∃ x4 x5 x6 G' txs ts, σ = [some (.ref b), some (.ref a), some (.ref pt), some (.ref ps), x4, x5, x6] ∧ Same G (hid ps (hid pt G')) ∧ Wd b l G' H' ∧ G' pt = some (.lst txs) ∧ G' ps = some (.lst []) ∧
      DpAll K (hid ps (hid pt G')) txs (ts.map dT) ∧ ts.length = i ∧ ∀ t ∈ ts, FitT fs t ∧ t.2.1 ∈ signs)
    ⟨none, none, none, _, [], [], rfl, sG ((same_new gpt).trans (same_new gps1)), w3, (upd_ne pts).trans upd_same, upd_same, .nil, rfl, (fun t ht => by cases ht)⟩ (fun _ _ _ _ _ => True.intro) ?_ ?_
  · rintro i v σ H' H'' hi ⟨x4, x5, x6, G', txs, ts, rfl, sg, w4, hpt, hps, hD, lt, ht⟩ ⟨rfl, rfl⟩
    have sg' : Same G G' := sg.trans (hid_le.trans hid_le)
    refine ⟨_, rfl, _, rfl, b, l, a, G', xs, rfl, .inl (sg'.seq hS), xne, xle, w4, fun x H5 hx w5 => ?_⟩
    obtain ⟨f, hf, hfd⟩ := fds_mem hF hx
    obtain ⟨ta, oa, rfl, k1, k2⟩ := hfd
    have hfo := ok.os f hf
    have fit : ∀ o, o ∈ f.2 → f.1 ∈ fs.map (·.1) ∧ o ∈ optsOf fs f.1 := fun o ho => ⟨List.mem_map.mpr ⟨f, hf, rfl⟩, by rw [opts_of ok.nd hf]; exact ho⟩
    refine ⟨ta, _, rfl, Same.tup (sg'.trans w5.sm) k1, rfl, _, _, rfl, _, _, rfl, rfl, ?_⟩
    refine ⟨_, rfl, .inl ⟨rfl, _, SqL.of (w5.sm _ _ hpt)⟩, _, rfl, _, rfl, (by show 4 ≤ sizeLine; decide), fun p6 n6 => ?_⟩
    have w6 := w5.new (o := .lst (signs.map V.str)) n6
    have s6 := w5.sameG (o := .lst (signs.map V.str)) n6
    refine ⟨b, l, p6, _, signs.map V.str, rfl, .inl (SqL.of upd_same), (by simp [signs]), by decide, w6, fun y H7 hy w7 => ?_⟩
    obtain ⟨sg1, hsg, rfl⟩ := List.mem_map.mp hy
    have one : f.2 ≠ [] := fun z => by
      have := hfo.2.1
      rw [z] at this
      cases this
    have six : f.2.length ≤ 6 := hfo.2.2.1
    refine ⟨_, rfl, _, rfl, b, l, oa, _, f.2.map V.str, rfl, .inr (Same.tup (sg'.trans s6) k2.sqT), (by simpa using one), by rw [List.length_map]; omega, w7, fun y8 H8 hy8 w8 => ?_⟩
    obtain ⟨op, hop, rfl⟩ := List.mem_map.mp hy8
    refine ⟨(by show 3 ≤ sizeLine; decide), fun t nt => ?_⟩
    have w9 := w8.new (o := .tup [.str f.1, .str sg1, .str op]) nt
    have s9 := s6.trans (w8.sameG (o := .tup [.str f.1, .str sg1, .str op]) nt)
    have hpt9 := s9 _ _ hpt
    have hps9 := s9 _ _ hps
    have ltx : txs.length = i := by rw [DpAll.length hD, List.length_map, lt]
    refine ⟨pt, txs, _, rfl, rfl, w9.sm _ _ hpt9, lt_line (by omega), ?_⟩
    have ntp : t ≠ pt := fun z => by
      have k := s6 _ _ hpt
      rw [← z, w8.free nt] at k
      cases k
    have nts : t ≠ ps := fun z => by
      have k := s6 _ _ hps
      rw [← z, w8.free nt] at k
      cases k
    have sh : Same (hid ps (hid pt G')) (hid ps (hid pt (upd (upd (upd G' p6 (.lst (signs.map V.str))) t (.tup [.str f.1, .str sg1, .str op])) pt (.lst (txs ++ [.ref t]))))) := by
      rw [hid_upd]
      exact hid_same (hid_same s9)
    refine ⟨_, _, _, _, txs ++ [.ref t], ts ++ [(f.1, sg1, op)], rfl, sg.trans sh, w9.mut hpt9, upd_same, ?_, ?_, ?_, ?_⟩
    · rw [upd_ne pts.symm]
      exact hps9
    · rw [List.map_append]
      refine dpa_snoc (DpAll.mono sh hD) ?_
      refine .tup (xs := [.str f.1, .str sg1, .str op]) (.inl (.inl ?_)) (.cons (.str _) (.cons (.str _) (.cons (.str _) .nil)))
      rw [hid_ne nts, hid_ne ntp, upd_ne ntp, upd_same]
    · rw [List.length_append, lt]
      rfl
    · intro t' ht'
      rcases List.mem_append.mp ht' with h' | h'
      · exact ht t' h'
      · cases List.mem_singleton.mp h'
        exact ⟨fit op hop, hsg⟩
  · rintro σ H' ⟨x4, x5, x6, G', txs, ts, rfl, sg, w4, hpt, hps, hD, lt, ht⟩
    refine ⟨_, rfl, b, l, G', 3, rfl, by decide, by decide, w4, fun r5 H5 r50 r51 w5 => ?_⟩
    refine ⟨_, rfl, by omega, by omega, ?_⟩
    refine for_it walk_range (fun i σ H' => ∃ x4 x5 x6 G' sxs ss, σ = [some (.ref b), some (.ref a), some (.ref pt), some (.ref ps), x4, x5, x6] ∧ Same G (hid ps (hid pt G')) ∧ Wd b l G' H' ∧ G' pt = some (.lst txs) ∧ G' ps = some (.lst sxs) ∧
        DpAll K (hid ps (hid pt G')) txs (ts.map dT) ∧ DpAll K (hid ps (hid pt G')) sxs (ss.map dS) ∧ ss.length = i ∧ ∀ s ∈ ss, FitS fs s)
      ⟨x4, x5, x6, G', [], [], rfl, sg, w5, hpt, hps, hD, .nil, rfl, (fun t ht => by cases ht)⟩ (fun _ _ _ _ _ => True.intro) ?_ ?_
    · rintro i v σ H' H'' hi ⟨x4, x5, x6, G', sxs, ss, rfl, sg, w4, hpt, hps, hD, hE, ls, hs⟩ ⟨rfl, rfl⟩
      have sg' : Same G G' := sg.trans (hid_le.trans hid_le)
      refine ⟨_, rfl, _, rfl, b, l, a, G', xs, rfl, .inl (sg'.seq hS), xne, xle, w4, fun x H5 hx w5 => ?_⟩
      obtain ⟨f, hf, hfd⟩ := fds_mem hF hx
      obtain ⟨ta, oa, rfl, k1, k2⟩ := hfd
      have hfo := ok.os f hf
      have fit : ∀ o, o ∈ f.2 → f.1 ∈ fs.map (·.1) ∧ o ∈ optsOf fs f.1 := fun o ho => ⟨List.mem_map.mpr ⟨f, hf, rfl⟩, by rw [opts_of ok.nd hf]; exact ho⟩
      refine ⟨ta, _, rfl, Same.tup (sg'.trans w5.sm) k1, rfl, _, _, rfl, _, _, rfl, rfl, ?_⟩
      refine ⟨_, rfl, .inl ⟨rfl, _, SqL.of (w5.sm _ _ hps)⟩, _, rfl, _, rfl, (by show 1 ≤ sizeLine; decide), fun p6 n6 => ?_⟩
      have w6 := w5.new (o := .lst [.str "+"]) n6
      have s6 := w5.sameG (o := .lst [.str "+"]) n6
      refine ⟨_, rfl, oa, _, rfl, .inr (Same.tup (sg'.trans (s6.trans w6.sm)) k2.sqT), fun l7 n7 => ?_⟩
      have w7 := w6.new (o := .lst (f.2.map V.str)) n7
      have s7 := s6.trans (w6.sameG (o := .lst (f.2.map V.str)) n7)
      have six : f.2.length ≤ 6 := hfo.2.2.1
      refine ⟨p6, l7, [.str "+"], f.2.map V.str, rfl, rfl, (upd_ne (ne_of_none upd_same n7)).trans upd_same, upd_same, le_line (by rw [List.length_map]; show 1 + _ ≤ _; omega), fun c8 n8 => ?_⟩
      have w8 := w7.new (o := .lst ([.str "+"] ++ f.2.map V.str)) n8
      have s8 := s7.trans (w7.sameG (o := .lst ([.str "+"] ++ f.2.map V.str)) n8)
      refine ⟨b, l, c8, _, [.str "+"] ++ f.2.map V.str, rfl, .inl (SqL.of upd_same), (by simp), by rw [List.length_append, List.length_map]; show 1 + _ ≤ _; omega, w8, fun y H9 hy w9 => ?_⟩
      have hy' : ∃ o : Str, y = .str o ∧ (o ≠ "+" → o ∈ f.2) := by
        rcases List.mem_append.mp hy with h' | h'
        · exact ⟨"+", List.mem_singleton.mp h', fun z => absurd rfl z⟩
        · obtain ⟨o, ho, rfl⟩ := List.mem_map.mp h'
          exact ⟨o, rfl, fun _ => ho⟩
      obtain ⟨op, rfl, hop⟩ := hy'
      refine ⟨(by show 2 ≤ sizeLine; decide), fun t nt => ?_⟩
      have w10 := w9.new (o := .tup [.str f.1, .str op]) nt
      have s10 := s8.trans (w9.sameG (o := .tup [.str f.1, .str op]) nt)
      have hpt9 := s10 _ _ hpt
      have hps9 := s10 _ _ hps
      have ltx : sxs.length = i := by rw [DpAll.length hE, List.length_map, ls]
      refine ⟨ps, sxs, _, rfl, rfl, w10.sm _ _ hps9, lt_line (by omega), ?_⟩
      have ntp : t ≠ pt := fun z => by
        have k := s8 _ _ hpt
        rw [← z, w9.free nt] at k
        cases k
      have nts : t ≠ ps := fun z => by
        have k := s8 _ _ hps
        rw [← z, w9.free nt] at k
        cases k
      have sh : Same (hid ps (hid pt G')) (hid ps (hid pt (upd (upd (upd (upd (upd G' p6 (.lst [.str "+"])) l7 (.lst (f.2.map V.str))) c8 (.lst ([.str "+"] ++ f.2.map V.str))) t (.tup [.str f.1, .str op])) ps (.lst (sxs ++ [.ref t]))))) := by
        rw [hid_comm, hid_comm (p := ps) (q := pt), hid_upd]
        exact hid_same (hid_same s10)
      refine ⟨_, _, _, _, sxs ++ [.ref t], ss ++ [(f.1, op)], rfl, sg.trans sh, w10.mut hps9, ?_, upd_same, DpAll.mono sh hD, ?_, ?_, ?_⟩
      · rw [upd_ne pts]
        exact hpt9
      · rw [List.map_append]
        refine dpa_snoc (DpAll.mono sh hE) ?_
        refine .tup (xs := [.str f.1, .str op]) (.inl (.inl ?_)) (.cons (.str _) (.cons (.str _) .nil))
        rw [hid_ne nts, hid_ne ntp, upd_ne nts, upd_same]
      · rw [List.length_append, ls]
        rfl
      · intro s' hs'
        rcases List.mem_append.mp hs' with h' | h'
        · exact hs s' h'
        · cases List.mem_singleton.mp h'
          exact ⟨List.mem_map.mpr ⟨f, hf, rfl⟩, fun z => (fit op (hop z)).2⟩
    · rintro σ H' ⟨x4, x5, x6, G', sxs, ss, rfl, sg, w4, hpt, hps, hD, hE, ls, hs⟩
      have sg' : Same G G' := sg.trans (hid_le.trans hid_le)
      have hD' := DpAll.mono (hid_le.trans hid_le) hD
      have hE' := DpAll.mono (hid_le.trans hid_le) hE
      refine ⟨_, rfl, pt, txs, rfl, .inl ⟨SqL.of (w4.sm _ _ hpt), fun q1 o1 n1 d1 => ?_⟩⟩
      have w5 := w4.new (o := .frz o1 (.tup txs)) n1
      have s5 := w4.sameG (o := .frz o1 (.tup txs)) n1
      have tD : Dp K (upd G' q1 (.frz o1 (.tup txs))) (.ref q1) (.tuple (ts.map dT)) := .tup (SqP.new d1).sqT (DpAll.mono s5 hD')
      refine ⟨_, rfl, b, l, _, 5, rfl, by decide, by decide, w5, fun r6 H6 r60 r61 w6 => ⟨rfl, _, rfl, ite3 (fun e => ?_) (fun e => ?_)⟩⟩
      · refine ⟨(by show 2 ≤ sizeLine; decide), fun y ny => ?_⟩
        have w7 := w6.new (o := .tup [.ref q1, .non]) ny
        have s7 := w6.sameG (o := .tup [.ref q1, .non]) ny
        refine q _ _ _ (ts, none) (sg'.trans (s5.trans s7)) w7 (.tup (SqT.of upd_same) (.cons (Dp.mono s7 tD) (.cons .non .nil))) ⟨fun t h' => (ht t h').1, fun ss h' => (by cases h'), (by show ts.length ≤ 1000; omega), fun ss h' => (by cases h')⟩ (by show ts.length ≤ 2; omega) (fun ss h' => by cases h') fun t h' => (ht t h').2
      · refine ⟨_, rfl, ps, sxs, rfl, .inl ⟨SqL.of (w6.sm _ _ (s5 _ _ hps)), fun q2 o2 n2 d2 => ?_⟩⟩
        have w7 := w6.new (o := .frz o2 (.tup sxs)) n2
        have s7 := w6.sameG (o := .frz o2 (.tup sxs)) n2
        refine ⟨(by show 2 ≤ sizeLine; decide), fun y ny => ?_⟩
        have w8 := w7.new (o := .tup [.ref q1, .ref q2]) ny
        have s8 := w7.sameG (o := .tup [.ref q1, .ref q2]) ny
        refine q _ _ _ (ts, some ss) (sg'.trans (s5.trans (s7.trans s8))) w8 (.tup (SqT.of upd_same) (.cons (Dp.mono (s7.trans s8) tD) (.cons (Dp.mono s8 (.tup (SqP.new d2).sqT (DpAll.mono (s5.trans s7) hE'))) .nil))) ⟨fun t h' => (ht t h').1, fun ss' h' => (by cases h'; exact hs), (by show ts.length ≤ 1000; omega), fun ss' h' => (by cases h'; omega)⟩ (by show ts.length ≤ 2; omega) (fun ss' h' => by cases h'; omega) fun t h' => (ht t h').2
end
end Bh

set_option Elab.async false
set_option linter.all false
set_option maxRecDepth 100000
set_option maxHeartbeats 1000000
namespace Bh
open PySem PySem.Spec PyProof.Rows L2
section
variable {P : Program} {w : World} {K : PySem.W.Frag} {mg : Str → Option Value} {base : Heap}
theorem ok_program (T : Top K mg) : FnOk P w K mg base CX0 4 T.a_l_program T.fd_l_program ["_law_bag_here", "_law_fields_here", "_law_most"] (spProg K) := by
  have G_l_draw := ok_draw (P := P) (w := w) (base := base) T
  have G_l_case := ok_case (P := P) (w := w) (base := base) T
  refine T.d_l_program.F.ok sc_l_program (fun vs H Q E h => ?_) (fun cdv A outer s H vs Q E hr h => ?_)
  · obtain ⟨b, l, a, G, n, xs, fs, rfl, _⟩ := h
    rfl
  obtain ⟨b, l, a, G, n, xs, fs, rfl, hS, hF, ok, n0, n8, wd, q⟩ := h
  refine ⟨_, (pss_one (ps_ret (pe_callTy (call_tuple_of_P (K := K) (by rfl)) (by rfl) T.b_tuple (by decide +kernel) (pa_cons (pe_lc (own := [("_law_k", 3)]) rfl sc_l_program.nd (pi_range1 rfl T.b_range (pa_cons (pe_op op_add pe_int (pe_call G_l_draw (hr.mono (by decide)) (by rfl) T.d_l_draw.g T.d_l_draw.kp T.d_l_draw.b .nil pass0 (pa_cons (pv 0) (pa_cons (pv 2) pa_nil)))) pa_nil)) (blkOk_by (own := [("_law_k", 3)]) (N := ["_law_bag_here", "_law_fields_here", "_law_most", "_law_k"]) (sc := defScope s_l_program) (by decide +kernel)) (fun _ _ _ _ _ => by exact (pg_name (i := 3) sc_l_program.nd rfl (Or.inl rfl))) (fun _ _ _ _ _ => by exact pts_nil) (fun _ _ _ _ _ => by exact (pe_call G_l_case (hr.mono (by decide)) (by rfl) T.d_l_case.g T.d_l_case.kp T.d_l_case.b .nil pass0 (pa_cons (pv 0) (pa_cons (pv 1) pa_nil))))) pa_nil)))), ?_⟩
  refine ⟨_, rfl, _, rfl, b, l, G, n, rfl, n0, by omega, wd, fun r H1 r0 r1 w1 => ?_⟩
  refine ⟨_, _, rfl, rfl, _, rfl, by omega, by omega, fun D nD => ?_⟩
  have gD := w1.free nD
  refine lc_it walk_range (fun i H' => ∃ G' ys p, Same G G' ∧ Wd b l G' H' ∧ G' D = some (.lst ys) ∧ DpAll K G' ys (p.map dC) ∧ p.length = i ∧ ∀ c ∈ p, FitC fs c ∧ c.1.length ≤ 2 ∧ (∀ ss, c.2 = some ss → ss.length ≤ 2) ∧ ∀ t ∈ c.1, t.2.1 ∈ signs)
    ⟨_, [], [], w1.sameG nD, w1.new nD, upd_same, .nil, rfl, (fun c hc => by cases hc)⟩ (fun _ _ _ _ => True.intro) ?_ ?_
  · rintro i v H' H'' hi ⟨G', ys, p, sg, w2, hD, hp, lp, hc⟩ ⟨rfl, rfl⟩
    refine ⟨rfl, ?_⟩
    refine ⟨_, rfl, _, rfl, b, l, a, G', xs, fs, rfl, sg.seq hS, fds_mono sg hF, ok, w2, fun G3 H3 y c s3 w3 hy fc c2 c3 c4 => ?_⟩
    have hD3 := s3 _ _ hD
    refine ⟨ys, w3.sm _ _ hD3, lt_line (by rw [DpAll.length hp, List.length_map]; omega), ?_⟩
    have im : Imm G3 (upd G3 D (.lst (ys ++ [y]))) := imm_upd hD3
    refine ⟨_, ys ++ [y], p ++ [c], same_mut (sg.trans s3) gD, w3.mut hD3, upd_same, ?_, ?_, ?_⟩
    · rw [List.map_append]
      exact dpa_snoc (DpAll.imm im (noLs_map noL_dC p) (DpAll.mono s3 hp)) (Dp.imm im (noL_dC c) hy)
    · rw [List.length_append, lp]
      rfl
    · intro c' h'
      rcases List.mem_append.mp h' with h' | h'
      · exact hc c' h'
      · cases List.mem_singleton.mp h'
        exact ⟨fc, c2, c3, c4⟩
  · rintro H' ⟨G', ys, p, sg, w2, hD, hp, lp, hc⟩
    refine ⟨D, ys, rfl, .inl ⟨SqL.of (w2.sm _ _ hD), fun t o nt ho => ?_⟩⟩
    have w3 := w2.new (o := .frz o (.tup ys)) nt
    have s3 := w2.sameG (o := .frz o (.tup ys)) nt
    exact q _ _ _ p (sg.trans s3) w3 (.tup (SqP.new ho).sqT (DpAll.mono s3 hp)) hc (by omega) (by omega)
end
end Bh

set_option Elab.async false
set_option linter.all false
set_option maxRecDepth 100000
set_option maxHeartbeats 1000000
namespace Bh
open PySem PySem.Spec PyProof.Rows L2
theorem paired_perm {α β : Type} {R : α → β → Prop} {xs ys : List α} (p : ys.Perm xs) : ∀ {fs : List β}, Paired R xs fs → ∃ gs, gs.Perm fs ∧ Paired R ys gs := by
  induction p with
  | nil => intro fs h; cases h; exact ⟨[], .nil, .nil⟩
  | cons x _ ih =>
    intro fs h
    cases h with
    | cons h t =>
      obtain ⟨gs, g1, g2⟩ := ih t
      exact ⟨_ :: gs, g1.cons _, .cons h g2⟩
  | swap x y l =>
    intro fs h
    cases h with
    | cons h t =>
      cases t with
      | cons h2 t => exact ⟨_ :: _ :: _, .swap _ _ _, .cons h2 (.cons h t)⟩
  | trans _ _ ih1 ih2 =>
    intro fs h
    obtain ⟨gs, g1, g2⟩ := ih2 h
    obtain ⟨hs, h1, h2⟩ := ih1 g2
    exact ⟨hs, h1.trans g1, h2⟩
theorem paired_take {α β : Type} {R : α → β → Prop} : ∀ {xs : List α} {fs : List β} (n : Nat), Paired R xs fs → Paired R (xs.take n) (fs.take n)
  | _, _, 0, _ => by rw [List.take_zero, List.take_zero]; exact .nil
  | _, _, n + 1, .nil => .nil
  | _, _, n + 1, .cons h t => .cons h (paired_take n t)
theorem fit_snoc {fs : List Fld} {v : List Str} {i : Nat} {f : Fld} {o : Str} (h : FitV (fs.take i) v) (hf : fs[i]? = some f) (ho : o ∈ f.2) : FitV (fs.take (i + 1)) (v ++ [o]) := by
  have e : fs.take (i + 1) = fs.take i ++ [f] := by rw [List.take_add_one, hf]; rfl
  obtain ⟨l1, l2⟩ := h
  rw [e]
  refine ⟨by rw [List.length_append, List.length_append, l1]; rfl, fun j g p hg hp => ?_⟩
  by_cases hj : j < (fs.take i).length
  · rw [List.getElem?_append_left hj] at hg
    rw [List.getElem?_append_left (by omega)] at hp
    exact l2 j g p hg hp
  · rw [List.getElem?_append_right (by omega)] at hg
    rw [List.getElem?_append_right (by omega), l1] at hp
    have z : j - (fs.take i).length = 0 := by
      have := (List.getElem?_eq_some_iff.mp hg).1
      simp only [List.length_singleton] at this
      omega
    rw [z] at hg hp
    cases hg
    cases hp
    exact ho
theorem noL_dKey (k : Str × Str) : noL (dKey k) = true := rfl
def spValue5 (K : PySem.W.Frag) : Sp := fun vs H Q _ => ∃ (b l a : Addr) (G : Hp) (xs : List V) (fs : List Fld), vs = [.ref b, .ref a] ∧ SqL K G a xs ∧ Paired (FdAt K G) xs fs ∧ FsOk fs ∧ Wd b l G H ∧
  ∀ (G' H' : Hp) (y : V) (v : List Str), Same G G' → Wd b l G' H' → Dp K G' y (dV v) → FitV fs v → Q y H'
def spKeys5 (K : PySem.W.Frag) : Sp := fun vs H Q _ => ∃ (b l a : Addr) (G : Hp) (xs : List V) (fs : List Fld), vs = [.ref b, .ref a] ∧ SqL K G a xs ∧ Paired (FdAt K G) xs fs ∧ FsOk fs ∧ Wd b l G H ∧
  ∀ (G' H' : Hp) (y : V) (ks : List (Str × Str)), Same G G' → Wd b l G' H' → Dp K G' y (.tuple (ks.map dKey)) → OkKeys fs ks → Q y H'
def spKinds5 (K : PySem.W.Frag) : Sp := fun vs H Q _ => ∃ (b l a : Addr) (G : Hp) (xs : List V) (fs : List Fld) (most : Int), vs = [.ref b, .ref a, .int most] ∧ 1 ≤ most ∧ most ≤ 4 ∧ SqL K G a xs ∧ Paired (FdAt K G) xs fs ∧ FsOk fs ∧ Wd b l G H ∧
  ∀ (G' H' : Hp) (p : Addr) (ys : List V) (ks : List Knd), Same G G' → Wd b l G' H' → G' p = some (.lst ys) → DpAll K G' ys (ks.map dKnd) → 1 ≤ ks.length → ks.length ≤ 3 → (ks.map (·.name)).Nodup → (∀ k ∈ ks, OkKnd fs k) → Q (.ref p) H'
section
variable {P : Program} {w : World} {K : PySem.W.Frag} {mg : Str → Option Value} {base : Heap}
theorem ok_value5 (T : Top K mg) : FnOk P w K mg base CX0 3 T.a_l_value T.fd_l_value ["_law_bag_here", "_law_fields_here"] (spValue5 K) := by
  have G_l_any := ok_any (P := P) (w := w) (base := base) T
  refine T.d_l_value.F.ok sc_l_value (fun vs H Q E h => ?_) (fun cdv A outer s H vs Q E hr h => ?_)
  · obtain ⟨b, l, a, G, xs, fs, rfl, _⟩ := h
    rfl
  obtain ⟨b, l, a, G, xs, fs, rfl, hS, hF, ok, wd, q⟩ := h
  refine ⟨_, (pss_one (ps_ret (pe_callTy (call_tuple_of_P (K := K) (by rfl)) (by rfl) T.b_tuple (by decide +kernel) (pa_cons (pe_lc (own := [("_law_name", 2), ("_law_options_here", 3)]) rfl sc_l_value.nd (pi_list_K (K := K) (by rfl) (pv 1)) (blkOk_by (own := [("_law_name", 2), ("_law_options_here", 3)]) (N := ["_law_bag_here", "_law_fields_here", "_law_name", "_law_options_here"]) (sc := defScope s_l_value) (by decide +kernel)) (fun _ _ _ _ _ => by exact (pg_tup_K (K := K) (by rfl) (n := 2) (by rfl) (pgs_cons (pg_name (i := 2) sc_l_value.nd rfl (Or.inl rfl)) (pgs_cons (pg_name (i := 3) sc_l_value.nd rfl (Or.inl rfl)) pgs_nil)))) (fun _ _ _ _ _ => by exact pts_nil) (fun _ _ _ _ _ => by exact (pe_call G_l_any (hr.mono (by decide)) (by rfl) T.d_l_any.g T.d_l_any.kp T.d_l_any.b .nil pass0 (pa_cons (pv 0) (pa_cons (pv 3) pa_nil))))) pa_nil)))), ?_⟩
  have lxs := fds_len hF
  have le3 := ok.le
  refine ⟨_, rfl, a, rfl, ⟨_, wd.sm.seq hS⟩, fun D nD => ?_⟩
  have gD := wd.free nD
  refine lc_it walk_list (fun i H' => ∃ (G' : Hp) (v : List Str), Same G G' ∧ Wd b l G' H' ∧ G' D = some (.lst (v.map V.str)) ∧ v.length = i ∧ FitV (fs.take i) v)
    ⟨_, [], wd.sameG nD, wd.new nD, upd_same, rfl, rfl, fun i f o e => by simp at e⟩ (fun i H' _ ⟨G', _, sg, w1, _⟩ => (sg.trans w1.sm).seq hS) ?_ ?_
  · rintro i x H' H'' hi ⟨G', v, sg, w1, hD, lv, fv⟩ ⟨rfl, ex⟩
    have li : i < fs.length := by omega
    have hf : fs[i]? = some fs[i] := List.getElem?_eq_getElem li
    obtain ⟨x', ex', hfd⟩ := fds_get hF hf
    rw [ex] at ex'
    cases ex'
    have hos := ok.os _ (List.getElem_mem li)
    obtain ⟨t, o, rfl, k1, k2⟩ := hfd.mono sg
    refine ⟨t, _, rfl, Same.tup w1.sm k1, rfl, _, _, rfl, _, _, rfl, rfl, rfl, ?_⟩
    refine ⟨_, rfl, _, rfl, b, l, o, G', fs[i].2.map V.str, rfl, .inr k2.sqT, (fun z => ?_), ?_, w1, fun y H5 hy w5 => ?_⟩
    · have z1 := congrArg List.length z
      rw [List.length_map] at z1
      have := hos.2.1
      rw [z1] at this
      cases this
    · rw [List.length_map]
      omega
    · obtain ⟨op, hop, rfl⟩ := List.mem_map.mp hy
      refine ⟨v.map V.str, w5.sm _ _ hD, lt_line (by rw [List.length_map]; omega), _, v ++ [op], same_mut sg gD, w5.mut hD, ?_, ?_, fit_snoc fv hf hop⟩
      · rw [upd_same, List.map_append]
        rfl
      · rw [List.length_append, lv]
        rfl
  · rintro H' ⟨G', v, sg, w1, hD, lv, fv⟩
    rw [lxs, List.take_length] at fv
    refine ⟨D, v.map V.str, rfl, .inl ⟨SqL.of (w1.sm _ _ hD), fun t o nt ho => ?_⟩⟩
    have w3 := w1.new (o := .frz o (.tup (v.map V.str))) nt
    have s3 := w1.sameG (o := .frz o (.tup (v.map V.str))) nt
    exact q _ _ _ v (sg.trans s3) w3 (dV_dp (SqP.new ho).sqT) fv
theorem ok_keys5 (T : Top K mg) : FnOk P w K mg base CX0 3 T.a_l_keys T.fd_l_keys ["_law_bag_here", "_law_fields_here"] (spKeys5 K) := by
  have G_l_draw := ok_draw (P := P) (w := w) (base := base) T
  have G_l_any := ok_any (P := P) (w := w) (base := base) T
  have G_l_mixed := ok_mixed (P := P) (w := w) (base := base) T
  refine T.d_l_keys.F.ok sc_l_keys (fun vs H Q E h => ?_) (fun cdv A outer s H vs Q E hr h => ?_)
  · obtain ⟨b, l, a, G, xs, fs, rfl, _⟩ := h
    rfl
  obtain ⟨b, l, a, G, xs, fs, rfl, hS, hF, ok, wd, q⟩ := h
  refine ⟨_, (pss_cons (ps_set (i := 2) sc_l_keys.nd rfl (Or.inl rfl) (pe_slice (sl_list_K (K := K) (by rfl)) (pe_call G_l_mixed (hr.mono (by decide)) (by rfl) T.d_l_mixed.g T.d_l_mixed.kp T.d_l_mixed.b .nil pass0 (pa_cons (pv 0) (pa_cons (pv 1) pa_nil))) po_none (po_some (pe_call G_l_draw (hr.mono (by decide)) (by rfl) T.d_l_draw.g T.d_l_draw.kp T.d_l_draw.b .nil pass0 (pa_cons (pv 0) (pa_cons (pe_op op_add (pe_callB (call_len_seq_K (K := K) (by rfl)) (by rfl) T.b_len PySem.boot_len (pa_cons (pv 1) pa_nil)) pe_int) pa_nil))))))
    (pss_one (ps_ret (pe_callTy (call_tuple_of_P (K := K) (by rfl)) (by rfl) T.b_tuple (by decide +kernel) (pa_cons (pe_lc (own := [("_law_name", 3), ("_law_options_here", 4)]) rfl sc_l_keys.nd (pi_list_K (K := K) (by rfl) (pv 2)) (blkOk_by (own := [("_law_name", 3), ("_law_options_here", 4)]) (N := ["_law_bag_here", "_law_fields_here", "_law_chosen", "_law_name", "_law_options_here"]) (sc := defScope s_l_keys) (by decide +kernel)) (fun _ _ _ _ _ => by exact (pg_tup_K (K := K) (by rfl) (n := 2) (by rfl) (pgs_cons (pg_name (i := 3) sc_l_keys.nd rfl (Or.inl rfl)) (pgs_cons (pg_name (i := 4) sc_l_keys.nd rfl (Or.inl rfl)) pgs_nil)))) (fun _ _ _ _ _ => by exact pts_nil) (fun _ _ _ _ _ => by exact (pe_tup (pa_cons (pv 3) (pa_cons (pe_call G_l_any (hr.mono (by decide)) (by rfl) T.d_l_any.g T.d_l_any.kp T.d_l_any.b .nil pass0 (pa_cons (pv 0) (pa_cons (pe_lst (pa_cons pe_str (pa_cons pe_str pa_nil))) pa_nil))) pa_nil))))) pa_nil))))), ?_⟩
  have lxs := fds_len hF
  have le3 := ok.le
  refine ⟨_, rfl, _, rfl, b, l, a, G, xs, rfl, hS, by omega, wd, fun G1 H1 p ys s1 w1 hp pm => ?_⟩
  obtain ⟨gs, pg, hG⟩ := paired_perm pm hF
  have lg : gs.length = fs.length := pg.length_eq
  have lys : ys.length = xs.length := pm.length_eq
  refine ⟨_, rfl, _, rfl, a, xs, rfl, .inl ((s1.trans w1.sm).seq hS), _, _, rfl, rfl, b, l, G1, _, rfl, by omega, by omega, w1, fun r H2 r0 r1 w2 => ?_⟩
  refine ⟨_, rfl, p, ys, rfl, SqL.of (w2.sm _ _ hp), fun c nc => ?_⟩
  rw [cutV_take _ (by omega)]
  have w3 := w2.new (o := .lst (ys.take r.toNat)) nc
  have s3 := s1.trans (w2.sameG (o := .lst (ys.take r.toNat)) nc)
  have hP : Paired (FdAt K G) (ys.take r.toNat) (gs.take r.toNat) := paired_take _ hG
  generalize eU : ys.take r.toNat = us at w3 s3 hP
  generalize eV : gs.take r.toNat = vs at hP
  have lus := fds_len hP
  have lvs : vs.length ≤ fs.length := by rw [← eV, List.length_take]; omega
  have sub : ∀ f ∈ vs, f ∈ fs := fun f hf => pg.mem_iff.mp (List.mem_of_mem_take (eV ▸ hf))
  have nd : (vs.map (·.1)).Nodup := by
    rw [← eV, List.map_take]
    exact ((pg.map (·.1)).nodup_iff.mpr ok.nd).sublist (List.take_sublist _ _)
  have hc := upd_same (H := G1) (a := c) (o := .lst us)
  generalize eG : upd G1 c (.lst us) = G3 at w3 s3 hc
  generalize upd H2 c (.lst us) = H3 at w3
  refine ⟨_, rfl, c, rfl, ⟨_, SqL.of (w3.sm _ _ hc)⟩, fun D nD => ?_⟩
  have gD := w3.free nD
  refine lc_it walk_list (fun i H' => ∃ (G' : Hp) (ks : List (Str × Str)) (zs : List V), Same G3 G' ∧ Wd b l G' H' ∧ G' D = some (.lst zs) ∧ DpAll K G' zs (ks.map dKey) ∧ ks.map (·.1) = (vs.take i).map (·.1) ∧ ∀ k ∈ ks, k.2 = "+" ∨ k.2 = "-")
    ⟨_, [], [], w3.sameG nD, w3.new nD, upd_same, .nil, rfl, (fun k hk => by cases hk)⟩ (fun i H' _ ⟨G', _, _, sg, w4, _⟩ => SqL.of (w4.sm _ _ (sg _ _ hc))) ?_ ?_
  · rintro i x H' H'' hi ⟨G', ks, zs, sg, w4, hD, hK, ek, hk⟩ ⟨rfl, ex⟩
    have li : i < vs.length := by omega
    have hf : vs[i]? = some vs[i] := List.getElem?_eq_getElem li
    obtain ⟨x', ex', hfd⟩ := fds_get hP hf
    rw [ex] at ex'
    cases ex'
    obtain ⟨t, o, rfl, k1, k2⟩ := hfd.mono (s3.trans sg)
    have lk : ks.length = i := by
      have z := congrArg List.length ek
      rw [List.length_map, List.length_map, List.length_take] at z
      omega
    refine ⟨t, _, rfl, Same.tup w4.sm k1, rfl, _, _, rfl, _, _, rfl, rfl, rfl, ?_⟩
    refine ⟨_, rfl, _, rfl, (by show 2 ≤ sizeLine; decide), fun p6 n6 => ?_⟩
    have w6 := w4.new (o := .lst [.str "+", .str "-"]) n6
    have s6 := w4.sameG (o := .lst [.str "+", .str "-"]) n6
    refine ⟨b, l, p6, _, [.str "+", .str "-"], rfl, .inl (SqL.of upd_same), (fun z => by cases z), by decide, w6, fun y H7 hy w7 => ?_⟩
    obtain ⟨sg1, hsg, rfl⟩ : ∃ z : Str, (z = "+" ∨ z = "-") ∧ y = .str z := by
      rcases List.mem_cons.mp hy with e | e
      · exact ⟨_, .inl rfl, e⟩
      · exact ⟨_, .inr rfl, List.mem_singleton.mp e⟩
    refine ⟨(by show 2 ≤ sizeLine; decide), fun t8 n8 => ?_⟩
    have w8 := w7.new (o := .tup [.str vs[i].1, .str sg1]) n8
    have s8 := s6.trans (w7.sameG (o := .tup [.str vs[i].1, .str sg1]) n8)
    have hD8 := s8 _ _ hD
    refine ⟨zs, w8.sm _ _ hD8, lt_line (by rw [DpAll.length hK, List.length_map]; omega), ?_⟩
    have im : Imm (upd (upd G' p6 (.lst [.str "+", .str "-"])) t8 (.tup [.str vs[i].1, .str sg1])) (upd (upd (upd G' p6 (.lst [.str "+", .str "-"])) t8 (.tup [.str vs[i].1, .str sg1])) D (.lst (zs ++ [.ref t8]))) := imm_upd hD8
    refine ⟨_, ks ++ [(vs[i].1, sg1)], zs ++ [.ref t8], same_mut (sg.trans s8) gD, w8.mut hD8, upd_same, ?_, ?_, ?_⟩
    · rw [List.map_append]
      refine dpa_snoc (DpAll.imm im (noLs_map noL_dKey ks) (DpAll.mono s8 hK)) (Dp.imm im (noL_dKey _) (.tup (xs := [.str vs[i].1, .str sg1]) (.inl (.inl upd_same)) (.cons (.str _) (.cons (.str _) .nil))))
    · rw [List.map_append, ek, List.take_add_one, hf, List.map_append]
      rfl
    · intro k h'
      rcases List.mem_append.mp h' with h' | h'
      · exact hk k h'
      · cases List.mem_singleton.mp h'
        exact hsg
  · rintro H' ⟨G', ks, zs, sg, w4, hD, hK, ek, hk⟩
    rw [lus, List.take_length] at ek
    have lk : ks.length = vs.length := by
      have z := congrArg List.length ek
      rw [List.length_map, List.length_map] at z
      exact z
    refine ⟨D, zs, rfl, .inl ⟨SqL.of (w4.sm _ _ hD), fun t o nt ho => ?_⟩⟩
    have w5 := w4.new (o := .frz o (.tup zs)) nt
    have s5 := w4.sameG (o := .frz o (.tup zs)) nt
    refine q _ _ _ ks (s3.trans (sg.trans s5)) w5 (.tup (SqP.new ho).sqT (DpAll.mono s5 hK)) ⟨by omega, by rw [ek]; exact nd, fun k h' => ⟨?_, hk k h'⟩⟩
    have z : k.1 ∈ vs.map (·.1) := ek ▸ List.mem_map.mpr ⟨k, h', rfl⟩
    obtain ⟨f, hf, e⟩ := List.mem_map.mp z
    exact List.mem_map.mpr ⟨f, sub f hf, e⟩
end
end Bh

set_option Elab.async false
set_option linter.all false
set_option maxRecDepth 100000
set_option maxHeartbeats 1000000
namespace Bh
open PySem PySem.Spec PyProof.Rows L2
theorem min3_lo {m : Int} (h : 1 ≤ m) : 0 < (if 3 < m then 3 else m) := by split <;> omega
theorem min3_hi {m : Int} (h : m ≤ 4) : (if 3 < m then 3 else m) < 1073741824 := by split <;> omega
theorem min3_lt {m r : Int} (h : r < (if 3 < m then 3 else m)) : r < 3 := by split at h <;> omega
theorem meet3 {t1 t2 : TE} {σ : L2.St} {H : Hp} {k : VK} {b : Bool} (R : V → Hp → Prop) (h : ∀ k' : VK, (∀ y H', R y H' → k' y H') → if b = true then t1 σ H k' else t2 σ H k') (hk : ∀ y H', R y H' → k y H') : if b = true then t1 σ H k else t2 σ H k := h k hk
theorem noL_dH : ∀ o : Option (List Str), noL (dH o) = true
  | none => rfl
  | some v => noL_dV v
theorem noL_dOP : ∀ o : Option (List Cas), noL (dOP o) = true
  | none => rfl
  | some p => noLs_map noL_dC p
theorem noL_dKnd (k : Knd) : noL (dKnd k) = true := by
  show (true && (noLs (k.keys.map dKey) && (noL (dOP k.taking) && (noL (dH k.birth) && true)))) = true
  rw [noLs_map noL_dKey, noL_dOP, noL_dH]
  rfl
section
variable {P : Program} {w : World} {K : PySem.W.Frag} {mg : Str → Option Value} {base : Heap}
theorem ok_kinds5 (T : Top K mg) : FnOk P w K mg base CX0 5 T.a_l_kinds T.fd_l_kinds ["_law_bag_here", "_law_fields_here", "_law_most"] (spKinds5 K) := by
  have G_l_draw := ok_draw (P := P) (w := w) (base := base) T
  have G_l_words := ok_words (P := P) (w := w) (base := base) T
  have G_l_program := ok_program (P := P) (w := w) (base := base) T
  have G_l_value := ok_value5 (P := P) (w := w) (base := base) T
  have G_l_keys := ok_keys5 (P := P) (w := w) (base := base) T
  refine T.d_l_kinds.F.ok sc_l_kinds (fun vs H Q E h => ?_) (fun cdv A outer s H vs Q E hr h => ?_)
  · obtain ⟨b, l, a, G, xs, fs, most, rfl, _⟩ := h
    rfl
  obtain ⟨b, l, a, G, xs, fs, most, rfl, ms0, ms1, hS, hF, ok, wd, q⟩ := h
  refine ⟨_, (pss_cons (ps_par (i := 3) (j := 4) (by rfl) sc_l_kinds.nd rfl rfl (by decide) rfl rfl (pa_cons (pe_call G_l_words (hr.mono (by decide)) (by rfl) T.d_l_words.g T.d_l_words.kp T.d_l_words.b .nil pass0 (pa_cons (pv 0) (pa_cons pe_int pa_nil))) (pa_cons (pe_lst pa_nil) pa_nil)) (by rfl))
    (pss_cons (ps_for PassesOwn.never rfl (pi_range1 rfl T.b_range (pa_cons (pe_op op_add pe_int (pe_call G_l_draw (hr.mono (by decide)) (by rfl) T.d_l_draw.g T.d_l_draw.kp T.d_l_draw.b .nil pass0 (pa_cons (pv 0) (pa_cons (pe_callB (call_min2 rfl) (by rfl) T.b_min (by decide +kernel) (pa_cons (pv 2) (pa_cons pe_int pa_nil))) pa_nil)))) pa_nil)) (pg_name (i := 5) sc_l_kinds.nd rfl (Or.inl rfl))
      (pss_cons (ps_set (i := 6) sc_l_kinds.nd rfl (Or.inl rfl) (pe_ifExp (pt_cmpR op_eq (pe_call G_l_draw (hr.mono (by decide)) (by rfl) T.d_l_draw.g T.d_l_draw.kp T.d_l_draw.b .nil pass0 (pa_cons (pv 0) (pa_cons pe_int pa_nil))) pe_int (nomark _)) (pe_call G_l_program (hr.mono (by decide)) (by rfl) T.d_l_program.g T.d_l_program.kp T.d_l_program.b .nil pass0 (pa_cons (pv 0) (pa_cons (pv 1) (pa_cons pe_int pa_nil)))) pe_non))
      (pss_cons (ps_set (i := 7) sc_l_kinds.nd rfl (Or.inl rfl) (pe_ifExp (pt_cmpR op_eq (pe_call G_l_draw (hr.mono (by decide)) (by rfl) T.d_l_draw.g T.d_l_draw.kp T.d_l_draw.b .nil pass0 (pa_cons (pv 0) (pa_cons pe_int pa_nil))) pe_int (nomark _)) (pe_call G_l_value (hr.mono (by decide)) (by rfl) T.d_l_value.g T.d_l_value.kp T.d_l_value.b .nil pass0 (pa_cons (pv 0) (pa_cons (pv 1) pa_nil))) pe_non))
      (pss_one (ps_expr (pe_bm_K (K := K) (by rfl) PySem.F.plainAttrs_list PySem.F.slot_list_append PySem.F.type_list_append mt_append (pv 4) (pa_cons (pe_tup (pa_cons (pe_ix (ix_list_K (K := K) (by rfl)) (pv 3) (pv 5) (fun _ _ => rfl)) (pa_cons (pe_call G_l_keys (hr.mono (by decide)) (by rfl) T.d_l_keys.g T.d_l_keys.kp T.d_l_keys.b .nil pass0 (pa_cons (pv 0) (pa_cons (pv 1) pa_nil))) (pa_cons (pv 6) (pa_cons (pv 7) pa_nil))))) pa_nil)))))))
    (pss_one (ps_ret (pv 4))))), ?_⟩
  refine ⟨_, rfl, b, l, G, 3, rfl, by decide, by decide, wd, fun G1 H1 p ws s1 w1 h1 lw ndw nmw => ?_⟩
  refine ⟨Nat.zero_le _, fun pf nf => ?_⟩
  have g1f : G1 pf = none := w1.free nf
  have gf : G pf = none := s1.free g1f
  have w2 := w1.new (o := .lst []) nf
  have s2 := s1.trans (w1.sameG (o := .lst []) nf)
  have hpf : p ≠ pf := ne_of_none h1 g1f
  refine ⟨_, _, rfl, ?_⟩
  refine ⟨_, rfl, _, rfl, _, _, rfl, b, l, _, _, rfl, min3_lo ms0, min3_hi ms1, w2, fun r H4 r0 r1 w4 => ?_⟩
  have r3 := min3_lt r1
  refine ⟨_, _, rfl, rfl, _, rfl, by omega, by omega, ?_⟩
  have h1' : (upd G1 pf (.lst [])) p = some (.lst (ws.map V.str)) := (upd_ne hpf).trans h1
  refine for_it walk_range (fun i σ H' => ∃ x5 x6 x7 G' ys ks, σ = [some (.ref b), some (.ref a), some (.int most), some (.ref p), some (.ref pf), x5, x6, x7] ∧ Same G G' ∧ Wd b l G' H' ∧ G' pf = some (.lst ys) ∧ DpAll K G' ys (ks.map dKnd) ∧
      G' p = some (.lst (ws.map V.str)) ∧ ks.map (·.name) = ws.take i ∧ ∀ k ∈ ks, OkKnd fs k)
    ⟨none, none, none, _, [], [], rfl, s2, w4, upd_same, .nil, h1', rfl, (fun k hk => by cases hk)⟩ (fun _ _ _ _ _ => True.intro) ?_ ?_
  · rintro i v σ H' H'' hi ⟨x5, x6, x7, G', ys, ks, rfl, sg, w5, hx, hK, hw, ek, hk⟩ ⟨rfl, rfl⟩
    have sg' := sg
    have i3 : i < 3 := by omega
    refine ⟨_, rfl, b, l, _, 3, rfl, by decide, by decide, w5, fun r5 H5 r50 r51 w6 => ⟨rfl, _, rfl, ?_⟩⟩
    refine meet3 (fun y H6 => ∃ (G6 : Hp) (o : Option (List Cas)), Same G' G6 ∧ Wd b l G6 H6 ∧ Dp K G6 y (dOP o) ∧ ∀ p, o = some p → OkPrg fs p) (fun k' hk' => ?_) fun y6 H6 ⟨G6, o6, s6, w7, d6, t6⟩ => ?_
    · refine ite3 (fun e => ?_) (fun e => ?_)
      · refine ⟨_, rfl, _, rfl, b, l, a, G', 2, xs, fs, rfl, sg'.seq hS, fds_mono sg' hF, ok, by decide, by decide, w6, fun G7 H7 y7 pg s7 w7 d7 hc l1 l8 => ?_⟩
        exact hk' _ _ ⟨G7, some pg, s7, w7, d7, fun p e => by cases e; exact ⟨l1, l8, fun c h => ⟨(hc c h).1, by have := (hc c h).2.1; omega, fun ss e => by have := (hc c h).2.2.1 ss e; omega, (hc c h).2.2.2⟩⟩⟩
      · exact hk' _ _ ⟨G', none, Same.refl _, w6, .non, fun p e => by cases e⟩
    refine ⟨_, rfl, b, l, _, 2, rfl, by decide, by decide, w7, fun r7 H7 r70 r71 w8 => ⟨rfl, _, rfl, ?_⟩⟩
    refine meet3 (fun y H6 => ∃ (G8 : Hp) (o : Option (List Str)), Same G6 G8 ∧ Wd b l G8 H6 ∧ Dp K G8 y (dH o) ∧ ∀ v, o = some v → FitV fs v) (fun k' hk' => ?_) fun y8 H8 ⟨G8, o8, s8, w9, d8, t8⟩ => ?_
    · refine ite3 (fun e => ?_) (fun e => ?_)
      · have sg6 := sg.trans s6
        refine ⟨_, rfl, _, rfl, b, l, a, G6, xs, fs, rfl, sg6.seq hS, fds_mono sg6 hF, ok, w8, fun G7 H7 y7 v s7 w7 d7 hv => ?_⟩
        exact hk' _ _ ⟨G7, some v, s7, w7, d7, fun u e => by cases e; exact hv⟩
      · exact hk' _ _ ⟨G6, none, Same.refl _, w8, .non, fun p e => by cases e⟩
    have s68 := s6.trans s8
    have sg8 := sg.trans s68
    have hwi : ws[i]? = some ws[i] := List.getElem?_eq_getElem (by rw [lw]; exact i3)
    refine ⟨_, rfl, .inl ⟨rfl, _, SqL.of (w9.sm _ _ (s68 _ _ hx))⟩, _, rfl, _, rfl, p, _, _, .str ws[i], rfl, rfl, SqL.of (w9.sm _ _ (s68 _ _ hw)), at_nn (by omega) (by rw [show ((0 : Int) + (i : Int)).toNat = i by omega, List.getElem?_map, hwi]; rfl), ?_⟩
    refine ⟨_, rfl, _, rfl, b, l, a, G8, xs, fs, rfl, sg8.seq hS, fds_mono sg8 hF, ok, w9, fun G9 H9 y9 k9 s9 w10 d9 ok9 => ?_⟩
    refine ⟨_, rfl, _, rfl, (by show 4 ≤ sizeLine; decide), fun t nt => ?_⟩
    have w11 := w10.new (o := .tup [.str ws[i], y9, y6, y8]) nt
    have s11 := w10.sameG (o := .tup [.str ws[i], y9, y6, y8]) nt
    have sA := s68.trans (s9.trans s11)
    have hxA := sA _ _ hx
    have lks : ks.length = i := by
      have z := congrArg List.length ek
      rw [List.length_map, List.length_take, lw] at z
      omega
    refine ⟨pf, ys, _, rfl, rfl, w11.sm _ _ hxA, lt_line (by rw [DpAll.length hK, List.length_map]; omega), ?_⟩
    have im : Imm (upd G9 t (.tup [.str ws[i], y9, y6, y8])) (upd (upd G9 t (.tup [.str ws[i], y9, y6, y8])) pf (.lst (ys ++ [.ref t]))) := imm_upd hxA
    refine ⟨_, _, _, _, ys ++ [.ref t], ks ++ [⟨ws[i], k9, o6, o8⟩], rfl, same_mut (sg.trans sA) gf, w11.mut hxA, upd_same, ?_, ?_, ?_, ?_⟩
    · rw [List.map_append]
      refine dpa_snoc (DpAll.imm im (noLs_map noL_dKnd ks) (DpAll.mono sA hK)) (Dp.imm im (noL_dKnd _) ?_)
      exact .tup (SqT.of upd_same) (.cons (.str _) (.cons (Dp.mono s11 d9) (.cons (Dp.mono (s8.trans (s9.trans s11)) d6) (.cons (Dp.mono (s9.trans s11) d8) .nil))))
    · rw [upd_ne hpf]
      exact sA _ _ hw
    · rw [List.map_append, ek, List.take_add_one, hwi]
      rfl
    · intro k h'
      rcases List.mem_append.mp h' with h' | h'
      · exact hk k h'
      · cases List.mem_singleton.mp h'
        exact ⟨(nmw _ (List.mem_of_getElem? hwi)).1, ok9, t6, t8⟩
  · rintro σ H' ⟨x5, x6, x7, G', ys, ks, rfl, sg, w5, hx, hK, hw, ek, hk⟩
    have lk : ks.length = (1 + r).toNat := by
      have z := congrArg List.length ek
      rw [List.length_map, List.length_take, lw] at z
      omega
    refine ⟨_, rfl, q G' H' pf ys ks sg w5 hx hK (by omega) (by omega) ?_ hk⟩
    rw [ek]
    exact ndw.sublist (List.take_sublist _ _)
end
end Bh

set_option Elab.async false
set_option linter.all false
set_option maxRecDepth 100000
set_option maxHeartbeats 1000000
namespace Bh
open PySem PySem.Spec PyProof.Rows L2
theorem ext_ge : ∀ (fs : List Fld) (acc : List (List Str)), (∀ f ∈ fs, 1 ≤ f.2.length) → acc.length ≤ (fs.foldl ext1 acc).length
  | [], _, _ => Nat.le_refl _
  | f :: r, acc, h => by
    refine Nat.le_trans ?_ (ext_ge r (ext1 acc f) fun g hg => h g (List.mem_cons_of_mem _ hg))
    unfold ext1
    rw [flat_len]
    exact Nat.le_mul_of_pos_right _ (h f (List.mem_cons_self ..))
theorem vals_pre {fs : List Fld} (h : ∀ f ∈ fs, 1 ≤ f.2.length) (i : Nat) : (vals (fs.take i)).length ≤ (vals fs).length := by
  have e : vals fs = (fs.drop i).foldl ext1 (vals (fs.take i)) := by
    unfold vals
    rw [← List.foldl_append, List.take_append_drop]
  rw [e]
  exact ext_ge _ _ fun f hf => h f (List.mem_of_mem_drop hf)
theorem pool_op : ∀ o ∈ pool, IsOp o := by
  unfold IsOp
  decide +kernel
theorem FsOk5.pos {fs : List Fld} (h : FsOk5 fs) : ∀ f ∈ fs, 1 ≤ f.2.length := fun f hf => by
  have := (h.ok.os f hf).2.1
  omega
theorem FsOk5.fv {fs : List Fld} (h : FsOk5 fs) (i : Nat) : FsV (fs.take i) := fun j => by
  rw [List.take_take]
  have z := vals_pre h.pos (min j i)
  have := h.sz
  omega
theorem FsOk5.fb {fs : List Fld} (h : FsOk5 fs) (i : Nat) : FsB (fs.take i) := by
  refine ⟨?_, ?_, fun f hf => ?_⟩
  · rw [List.map_take]
    exact h.ok.nd.sublist (List.take_sublist _ _)
  · rw [List.length_take]
    have := h.ok.le
    omega
  · have := (h.ok.os f (List.mem_of_mem_take hf)).2.2.1
    omega
theorem FsOk5.fld {fs : List Fld} (h : FsOk5 fs) {i : Nat} {f : Fld} (hf : fs[i]? = some f) : OkFld (fs.take i) f := by
  have li := (List.getElem?_eq_some_iff.mp hf).1
  have hm := List.mem_of_getElem? hf
  have e : fs.take i ++ [f] = fs.take (i + 1) := by rw [List.take_add_one, hf]; rfl
  have os := h.ok.os f hm
  have le := h.ok.le
  refine ⟨?_, nd_takeM (f := fun f : Fld => f.1) h.ok.nd hf, h.ok.nm f hm, os.2.1, os.2.2.1, os.1, fun o ho => pool_op o (os.2.2.2 o ho), ?_, ?_, ?_⟩
  · rw [List.length_take]
    omega
  · rw [e]
    exact h.fb _
  · rw [e]
    exact h.fv _
  · rw [e]
    exact Nat.le_trans (vals_pre h.pos _) h.sz
theorem okbook_of {fs : List Fld} {ts : List Tie} {ks : List Knd} (h : FsOk5 fs) (t1 : 1 ≤ ts.length) (t2 : ts.length ≤ 4) (tnd : (ts.map (·.1)).Nodup) (tok : ∀ t ∈ ts, IsNm t.1 ∧ OkPrg fs t.2) (k1 : 1 ≤ ks.length) (k2 : ks.length ≤ 3) (knd : (ks.map (·.name)).Nodup) (kok : ∀ k ∈ ks, OkKnd fs k) : OkBook fs ts ks := by
  have z := h.fb fs.length
  have z2 := h.fv fs.length
  rw [List.take_length] at z z2
  exact ⟨h.ok.ne, h.ok.le, fun i f e => h.fld e, z, z2, t1, t2, tnd, tok, k1, k2, knd, kok⟩
theorem noL_dTie (t : Tie) : noL (dTie t) = true := by
  show (true && (noLs (t.2.map dC) && true)) = true
  rw [noLs_map noL_dC]
  rfl
def spBook5 (K : PySem.W.Frag) : Sp := fun vs H Q _ => ∃ (b l : Addr) (G : Hp) (room most : Int), vs = [.ref b, .int room, .int most] ∧ 2 ≤ room ∧ room ≤ 24 ∧ 1 ≤ most ∧ most ≤ 4 ∧ Wd b l G H ∧
  ∀ (G' H' : Hp) (t p1 p2 p3 : Addr) (y1 y2 y3 : List V) (fs : List Fld) (ts : List Tie) (ks : List Knd), Same G G' → Wd b l G' H' → G' t = some (.tup [.ref p1, .ref p2, .ref p3]) → G' p1 = some (.lst y1) → G' p2 = some (.lst y2) → G' p3 = some (.lst y3) →
    Paired (FdAt K G') y1 fs → DpAll K G' y2 (ts.map dTie) → DpAll K G' y3 (ks.map dKnd) → FsOk5 fs → OkBook fs ts ks → Q (.ref t) H'
section
variable {P : Program} {w : World} {K : PySem.W.Frag} {mg : Str → Option Value} {base : Heap}
theorem ok_book5 (T : Top K mg) : FnOk P w K mg base CX0 6 T.a_l_book T.fd_l_book ["_law_bag_here", "_law_room", "_law_most"] (spBook5 K) := by
  have G_l_draw := ok_draw (P := P) (w := w) (base := base) T
  have G_l_words := ok_words (P := P) (w := w) (base := base) T
  have G_l_fields := ok_fields (P := P) (w := w) (base := base) T
  have G_l_program := ok_program (P := P) (w := w) (base := base) T
  have G_l_kinds := ok_kinds5 (P := P) (w := w) (base := base) T
  refine T.d_l_book.F.ok sc_l_book (fun vs H Q E h => ?_) (fun cdv A outer s H vs Q E hr h => ?_)
  · obtain ⟨b, l, G, room, most, rfl, _⟩ := h
    rfl
  obtain ⟨b, l, G, room, most, rfl, rm0, rm1, ms0, ms1, wd, q⟩ := h
  refine ⟨_, (pss_cons (ps_set (i := 3) sc_l_book.nd rfl (Or.inr rfl) (pe_call G_l_fields (hr.mono (by decide)) (by rfl) T.d_l_fields.g T.d_l_fields.kp T.d_l_fields.b .nil pass0 (pa_cons (pv 0) (pa_cons (pv 1) pa_nil))))
    (pss_cons (ps_set (i := 4) sc_l_book.nd rfl (Or.inr rfl) (pe_call G_l_words (hr.mono (by decide)) (by rfl) T.d_l_words.g T.d_l_words.kp T.d_l_words.b .nil pass0 (pa_cons (pv 0) (pa_cons pe_int pa_nil))))
    (pss_cons (ps_setLc (i := 5) (own := [("_law_k", 6)]) rfl sc_l_book.nd rfl rfl (sw_true rfl rfl rfl (by decide +kernel)) (pi_range1 rfl T.b_range (pa_cons (pe_op op_add pe_int (pe_call G_l_draw (hr.mono (by decide)) (by rfl) T.d_l_draw.g T.d_l_draw.kp T.d_l_draw.b .nil pass0 (pa_cons (pv 0) (pa_cons (pv 2) pa_nil)))) pa_nil)) (blkOk_by (own := [("_law_k", 6)]) (N := ["_law_bag_here", "_law_room", "_law_most", "_law_fields_here", "_law_names", "_law_ties_z", "_law_k"]) (sc := defScope s_l_book) (by decide +kernel)) (fun _ _ _ _ _ => by exact (pg_name (i := 6) sc_l_book.nd rfl (Or.inl rfl))) (fun _ _ _ _ _ => by exact pts_nil) (fun _ _ _ _ _ => by exact (pe_tup (pa_cons (pe_ix (ix_list_K (K := K) (by rfl)) (pv 4) (pv 6) (fun _ _ => rfl)) (pa_cons (pe_call G_l_program (hr.mono (by decide)) (by rfl) T.d_l_program.g T.d_l_program.kp T.d_l_program.b .nil pass0 (pa_cons (pv 0) (pa_cons (pv 3) (pa_cons pe_int pa_nil)))) pa_nil)))))
    (pss_one (ps_ret (pe_tup (pa_cons (pv 3) (pa_cons (pv 5) (pa_cons (pe_call G_l_kinds (hr.mono (by decide)) (by rfl) T.d_l_kinds.g T.d_l_kinds.kp T.d_l_kinds.b .nil pass0 (pa_cons (pv 0) (pa_cons (pv 3) (pa_cons (pv 2) pa_nil)))) pa_nil))))))))), ?_⟩
  refine ⟨_, rfl, _, rfl, b, l, G, room, rfl, rm0, rm1, wd, fun G1 H1 p1 y1 fs s1 w1 h1 hF ok5 => ?_⟩
  refine ⟨_, rfl, b, l, G1, 4, rfl, by decide, by decide, w1, fun G2 H2 p ws s2 w2 h2 lw ndw nmw => ?_⟩
  refine ⟨_, rfl, _, rfl, b, l, G2, most, rfl, by omega, by omega, w2, fun r H3 r0 r1 w3 => ?_⟩
  refine ⟨_, _, rfl, rfl, _, rfl, by omega, by omega, fun D nD => ?_⟩
  have gD := w3.free nD
  refine lc_it walk_range (fun i H' => ∃ (G' : Hp) (ts : List Tie) (zs : List V), Same G2 G' ∧ Wd b l G' H' ∧ G' D = some (.lst zs) ∧ DpAll K G' zs (ts.map dTie) ∧ ts.map (·.1) = ws.take i ∧ ∀ t ∈ ts, (IsNm t.1 ∧ OkPrg fs t.2) ∧ t.1 ≠ "zzzzzzzz")
    ⟨_, [], [], w3.sameG nD, w3.new nD, upd_same, .nil, rfl, (fun k hk => by cases hk)⟩ (fun _ _ _ _ => True.intro) ?_ ?_
  · rintro i v H' H'' hi ⟨G', ts, zs, sg, w4, hD, hK, ek, hk⟩ ⟨rfl, rfl⟩
    refine ⟨rfl, ?_⟩
    have i3 : i < 4 := by omega
    have hwi : ws[i]? = some ws[i] := List.getElem?_eq_getElem (by rw [lw]; exact i3)
    have lts : ts.length = i := by
      have z := congrArg List.length ek
      rw [List.length_map, List.length_take, lw] at z
      omega
    refine ⟨_, rfl, _, rfl, p, _, _, .str ws[i], rfl, rfl, SqL.of (w4.sm _ _ (sg _ _ h2)), at_nn (by omega) (by rw [show ((0 : Int) + (i : Int)).toNat = i by omega, List.getElem?_map, hwi]; rfl), ?_⟩
    have sG := s2.trans sg
    refine ⟨_, rfl, _, rfl, b, l, p1, G', 3, y1, fs, rfl, SqL.of (sG _ _ h1), fds_mono sG hF, ok5.ok, by decide, by decide, w4, fun G5 H5 y pg s5 w5 d5 hc l1 l8 => ?_⟩
    refine ⟨(by show 2 ≤ sizeLine; decide), fun t nt => ?_⟩
    have w6 := w5.new (o := .tup [.str ws[i], y]) nt
    have s6 := w5.sameG (o := .tup [.str ws[i], y]) nt
    have sA := s5.trans s6
    have hDA := sA _ _ hD
    refine ⟨zs, w6.sm _ _ hDA, lt_line (by rw [DpAll.length hK, List.length_map]; omega), ?_⟩
    have im : Imm (upd G5 t (.tup [.str ws[i], y])) (upd (upd G5 t (.tup [.str ws[i], y])) D (.lst (zs ++ [.ref t]))) := imm_upd hDA
    refine ⟨_, ts ++ [(ws[i], pg)], zs ++ [.ref t], same_mut (sg.trans sA) gD, w6.mut hDA, upd_same, ?_, ?_, ?_⟩
    · rw [List.map_append]
      refine dpa_snoc (DpAll.imm im (noLs_map noL_dTie ts) (DpAll.mono sA hK)) (Dp.imm im (noL_dTie _) ?_)
      exact .tup (SqT.of upd_same) (.cons (.str _) (.cons (Dp.mono s6 d5) .nil))
    · rw [List.map_append, ek, List.take_add_one, hwi]
      rfl
    · intro k h'
      rcases List.mem_append.mp h' with h' | h'
      · exact hk k h'
      · cases List.mem_singleton.mp h'
        have z := nmw _ (List.mem_of_getElem? hwi)
        exact ⟨⟨z.1, l1, l8, fun c h => ⟨(hc c h).1, by have := (hc c h).2.1; omega, fun ss e => by have := (hc c h).2.2.1 ss e; omega, (hc c h).2.2.2⟩⟩, z.2⟩
  · rintro H' ⟨G', ts, zs, sg, w4, hD, hK, ek, hk⟩
    have sG := s2.trans sg
    have lts : ts.length = (1 + r).toNat := by
      have z := congrArg List.length ek
      rw [List.length_map, List.length_take, lw] at z
      omega
    refine ⟨_, rfl, _, rfl, _, rfl, _, rfl, _, rfl, b, l, p1, G', y1, fs, most, rfl, ms0, ms1, SqL.of (sG _ _ h1), fds_mono sG hF, ok5.ok, w4, fun G5 H5 p3 y3 ks s5 w5 h3 d3 k1 k2 knd kok => ?_⟩
    refine ⟨(by show 3 ≤ sizeLine; decide), fun t nt => ?_⟩
    have w6 := w5.new (o := .tup [.ref p1, .ref D, .ref p3]) nt
    have s6 := w5.sameG (o := .tup [.ref p1, .ref D, .ref p3]) nt
    have s56 := s5.trans s6
    refine q _ _ t p1 D p3 y1 zs y3 fs ts ks (s1.trans (sG.trans s56)) w6 upd_same (s56 _ _ (sG _ _ h1)) (s56 _ _ hD) (s6 _ _ h3) (fds_mono (sG.trans s56) hF) (DpAll.mono s56 hK) (DpAll.mono s6 d3) ok5 (okbook_of ok5 (by omega) (by omega) ?_ (fun t h => (hk t h).1) k1 k2 knd kok)
    rw [ek]
    exact ndw.sublist (List.take_sublist _ _)
end
end Bh

set_option Elab.async false
set_option linter.all false
set_option maxRecDepth 100000
set_option maxHeartbeats 2000000
namespace Bh
open PySem PySem.Spec PyProof.Rows L2
/-! ### own == and repr -/
/-- x == y by the class's own __eq__; y an instance of the class, or a tuple -/
def rEqIns (K : PySem.W.Frag) (C : Addr) (sp : Sp) : R2 := fun x y H Q => ∃ (a dx : Addr) (fs : List (Str × V)), x = .ref a ∧ H a = some (.ins C dx fs) ∧
  ((∃ (b dy : Addr) (gs : List (Str × V)), y = .ref b ∧ H b = some (.ins C dy gs)) ∨ ∃ (b : Addr) (zs : List V), y = .ref b ∧ SqT K H b zs) ∧ sp [x, y] H (fun v H' => (∃ r, v = .bl r) ∧ Q v H') C8.E0
section
variable {X : Cx} {C f : Addr} {fd : FuncData} {k : Nat} {sp : Sp} {p1 p2 : Str}
/-- the def f called with two values by the interpreter itself -/
theorem own_two (F : FnOk X.prog X.w X.K X.mg X.base C8.CX0 k f fd [p1, p2] sp) (hb : Binds X.K fd [p1, p2] []) {A : Around} (hr : Room k A) (fr : A.frames = X.A.frames) {pins : List (Addr × Obj)} {s : Shared} {σ : L2.St} {H : Hp} {x y : V} {u v : Value} {Q : VK} {E : Value → Shared → Prop}
    (I : Inv X pins σ H s) (rx : RelV x u) (ry : RelV y v) (h : sp [x, y] H Q C8.E0) : wpAny (model X.prog X.w) A (call (.ref f) [u, v]) (EP X pins σ Q) E s := by
  have en := I.env0
  have e0 : Env0 X.prog X.w X.K X.mg X.base A X.stack s H := ⟨by rw [fr]; exact en.frames, en.mod, en.bs, en.bsz, en.funs, en.frf, en.hok, en.bare⟩
  have bnd := hb s [u, v] I.kIn rfl
  rw [List.append_nil] at bnd
  refine wpAny_call (codeAny_mono (F.run A X.stack s H ⟨[u, v], []⟩ [u, v] [x, y] Q C8.E0 hr e0 bnd (.cons rx (.cons ry .nil)) h) fun r s2 z => ?_)
  cases r with
  | error e => exact (show False from z).elim
  | ok fl =>
    cases fl with
    | ret w => exact I.after z
    | next => exact z.elim
    | brk => exact z.elim
    | cont => exact z.elim
theorem op_eqIns (F : FnOk X.prog X.w X.K X.mg X.base C8.CX0 k f fd [p1, p2] sp) (hs : PySem.W.findIn X.K (.ref C) "__eq__" = some (some (.ref f))) (hf : PySem.W.isFn X.K (.ref f) = true) (hb : Binds X.K fd [p1, p2] []) (hr : Room k X.A)
    (ht : PySem.W.subIn X.K (.type "tuple") (.ref C) = some false) : OpR X (compareOp .Eq) (rEqIns X.K C sp) := by
  intro pins s σ H x y v u Q I rx ry h
  obtain ⟨a, dx, fs, rfl, ha, hy, hsp⟩ := h
  cases rx
  obtain ⟨mA, J, _⟩ := ins_get I.hok ha
  obtain ⟨od, J, _⟩ := J.look
  obtain ⟨m, hF⟩ := I.fr
  have body := own_two F hb hr rfl (E := X.xe) I (x := .ref a) (y := y) (u := .ref a) (v := u) rfl ry hsp
  show wpAny (model X.prog X.w) X.A (richCompare .Eq (.ref a) u) (EP X pins σ Q) X.xe s
  have go : ∀ tb, PySem.W.Looks (model X.prog X.w) s.heap (typeOf u) tb → PySem.W.notFirst X.K C tb = true → wpAny (model X.prog X.w) X.A (richCompare .Eq (.ref a) u) (EP X pins σ Q) X.xe s := fun tb h1 h2 => by
    refine PySem.W.cmp_K (op := .Eq) (tb := tb) hr.units0 hF I.ok.mod.kin J h1 h2 hs hf (wpAny_mono body (fun w s' z => ?_) fun _ _ e => e)
    obtain ⟨vr, H', I', rv, ⟨r, rfl⟩, q⟩ := z
    cases rv
    exact ⟨.bl r, H', I', rfl, q⟩
  rcases hy with ⟨b, dy, gs, rfl, hb'⟩ | ⟨b, zs, rfl, hz⟩
  · cases ry
    obtain ⟨mB, J', _⟩ := ins_get I.hok hb'
    obtain ⟨od', J', _⟩ := J'.look
    exact go _ J'.type (by simp [PySem.W.notFirst])
  · cases ry
    obtain ⟨its, _, pl, _⟩ := I.tuple hz
    obtain ⟨ob, ho, hc, _⟩ := id pl
    exact go (.type "tuple") (hc ▸ (PySem.W.Looks.ld ho).andThen .now) (by unfold PySem.W.notFirst; rw [ht]; rfl)
/-- repr(x) by the class's own __repr__ -/
def rReprIns (C : Addr) (sp : Sp) : List V → Hp → VK → Prop := fun xs H Q => ∃ (a dx : Addr) (fs : List (Str × V)), xs = [.ref a] ∧ H a = some (.ins C dx fs) ∧ sp xs H (fun v H' => (∃ r, v = .str r) ∧ Q v H') C8.E0
theorem own_one (F : FnOk X.prog X.w X.K X.mg X.base C8.CX0 k f fd [p1] sp) (hb : Binds X.K fd [p1] []) {A : Around} (hr : Room k A) (fr : A.frames = X.A.frames) {pins : List (Addr × Obj)} {s : Shared} {σ : L2.St} {H : Hp} {x : V} {u : Value} {Q : VK} {E : Value → Shared → Prop}
    (I : Inv X pins σ H s) (rx : RelV x u) (h : sp [x] H Q C8.E0) : wpAny (model X.prog X.w) A (call (.ref f) [u]) (EP X pins σ Q) E s := by
  have en := I.env0
  have e0 : Env0 X.prog X.w X.K X.mg X.base A X.stack s H := ⟨by rw [fr]; exact en.frames, en.mod, en.bs, en.bsz, en.funs, en.frf, en.hok, en.bare⟩
  have bnd := hb s [u] I.kIn rfl
  rw [List.append_nil] at bnd
  refine wpAny_call (codeAny_mono (F.run A X.stack s H ⟨[u], []⟩ [u] [x] Q C8.E0 hr e0 bnd (.cons rx .nil) h) fun r s2 z => ?_)
  cases r with
  | error e => exact (show False from z).elim
  | ok fl =>
    cases fl with
    | ret w => exact I.after z
    | next => exact z.elim
    | brk => exact z.elim
    | cont => exact z.elim
theorem call_reprIns (F : FnOk X.prog X.w X.K X.mg X.base C8.CX0 k f fd [p1] sp) (hs : PySem.W.findIn X.K (.ref C) "__repr__" = some (some (.ref f))) (hf : PySem.W.isFn X.K (.ref f) = true) (hb : Binds X.K fd [p1] []) (hr : Room (k + 1) X.A) : CallR X (.builtin "repr") (rReprIns C sp) := by
  intro pins s σ H xs us Q I r h
  obtain ⟨a, dx, fs, rfl, ha, hsp⟩ := h
  obtain ⟨u, rfl, rx⟩ := vals1 r
  cases rx
  obtain ⟨mA, J, _⟩ := ins_get I.hok ha
  obtain ⟨od, J, _⟩ := J.look
  obtain ⟨m, hF⟩ := I.fr
  have body := own_one F hb hr.in1 rfl (E := X.xe) I (x := .ref a) (u := .ref a) rfl hsp
  refine PySem.W.repr_K hr.in1.units0 hF I.ok.mod.kin J hs hf (wpAny_mono body (fun w s' z => ?_) fun _ _ e => e)
  obtain ⟨vr, H', I', rv, ⟨r, rfl⟩, q⟩ := z
  obtain ⟨t, rfl⟩ := rv
  exact ⟨.str r, H', I', ⟨t, rfl⟩, q⟩
/-- the class's own names: its __eq__, no __ne__ -/
def nsB (K : PySem.W.Frag) (N f : Addr) : Bool := match K.lookup N with
  | some ⟨_, _, .dict es _, _⟩ => (es.toList.all fun e => match e.key with
      | .str _ _ => true
      | _ => false) && (decide (nsFind es "__eq__" = some (.ref f)) && decide (nsFind es "__ne__" = none))
  | _ => false
/-- a class over object alone -/
structure NeC (K : PySem.W.Frag) (C f : Addr) : Prop where
  lk : ∃ nm q N bs hdct sn sub ab col dd k0 k1 k2 k3 k5 newId, K.lookup C = some (excClassObj nm q C N bs [.type "object"] hdct sn sub ab col dd k0 k1 k2 k3 k5 newId) ∧ nsB K N f = true
  fn : ∃ o : Obj, K.lookup f = some o ∧ o.cls = .type "function"
theorem NeC.own {K : PySem.W.Frag} {C f x : Addr} {h : Heap} {ox : Obj} (c : NeC K C f) (X : K.In h) (hx : h.get? x = some ox) (hc : ox.cls = .ref C) : h.OwnEqNoNe x C f "object" [.type "object"] := by
  obtain ⟨nm, q, N, bs, hdct, sn, sub, ab, col, dd, k0, k1, k2, k3, k5, newId, lk, hn⟩ := c.lk
  obtain ⟨of, lf, cf⟩ := c.fn
  unfold nsB at hn
  cases e : K.lookup N with
  | none => rw [e] at hn; cases hn
  | some o =>
    obtain ⟨oc, od, dt, osl⟩ := o
    rw [e] at hn
    cases dt with
    | dict es ep =>
      have hn : ((es.toList.all fun e => match e.key with
        | .str _ _ => true
        | _ => false) && (decide (nsFind es "__eq__" = some (.ref f)) && decide (nsFind es "__ne__" = none))) = true := hn
      rw [Bool.and_eq_true, Bool.and_eq_true, decide_eq_true_eq, decide_eq_true_eq] at hn
      obtain ⟨n1, n2, n3⟩ := hn
      have sk : StrKeys es := fun u hu => by
        have z := List.all_eq_true.mp n1 u (Array.mem_toList_iff.mpr hu)
        cases ek : u.key with
        | str a b => exact ⟨a, b, rfl⟩
        | _ => rw [ek] at z; cases z
      exact ⟨ox, of, nm, q, N, bs, hdct, sn, sub, ab, col, dd, k0, k1, k2, k3, k5, newId, nsFind es, _, hx, hc, X _ _ lk, ⟨_, es, ep, X _ _ e, rfl, sk, fun _ => rfl⟩, n2, X _ _ lf, cf, F.cmp_object.mro, F.cmp_object.eq.lookup, n3⟩
    | _ => cases hn
/-- x != y of two instances of a class with its own __eq__ -/
def rNeIns (C : Addr) (sp : Sp) : R2 := fun x y H Q => ∃ (a dx : Addr) (fs : List (Str × V)) (b dy : Addr) (gs : List (Str × V)), x = .ref a ∧ H a = some (.ins C dx fs) ∧ y = .ref b ∧ H b = some (.ins C dy gs) ∧ sp [x, y] H (fun v H' => ∃ r, v = .bl r ∧ Q (.bl (!r)) H') C8.E0
theorem op_neIns (F : FnOk X.prog X.w X.K X.mg X.base C8.CX0 k f fd [p1, p2] sp) (c : NeC X.K C f) (hb : Binds X.K fd [p1, p2] []) (hr : Room (k + 1) X.A) : OpR X (compareOp .NotEq) (rNeIns C sp) := by
  intro pins s σ H x y v u Q I rx ry h
  obtain ⟨a, dx, fs, b, dy, gs, rfl, ha, rfl, hb', hsp⟩ := h
  cases rx
  cases ry
  obtain ⟨mA, J, _⟩ := ins_get I.hok ha
  obtain ⟨od, J, _⟩ := J.look
  obtain ⟨mB, J', _⟩ := ins_get I.hok hb'
  obtain ⟨od', J', _⟩ := J'.look
  have body := own_two F hb hr.in1 rfl (E := X.xe) I (x := .ref a) (y := .ref b) (u := .ref a) (v := .ref b) rfl rfl hsp
  refine compareOp_ne_ownEq PySem.F.cmp_object (c.own I.kIn J.at_ J.cls) J'.at_ J'.cls (by have := hr.units; omega) (wpAny_mono body (fun w s' z => ?_) fun _ _ e => e)
  obtain ⟨vr, H', I', rv, r, rfl, q⟩ := z
  cases rv
  exact ⟨r, rfl, .bl (!r), H', I', rfl, q⟩
end
end Bh

set_option Elab.async false
set_option linter.all false
set_option maxRecDepth 100000
set_option maxHeartbeats 2000000
set_option autoImplicit false
namespace Bh
open PySem PySem.Spec PyProof.Rows L2
/-! ### dicts whose keys are tuples: del d[t], a comprehension -/
theorem paired_filter {α β : Type} {F : α → β → Prop} {p : α → Bool} {q : β → Bool} (e : ∀ a b, F a b → p a = q b) : ∀ {as : List α} {bs : List β}, Paired F as bs → Paired F (as.filter p) (bs.filter q)
  | _, _, .nil => .nil
  | _, _, .cons h t => by
    have ih := paired_filter e t
    simp only [List.filter_cons, e _ _ h]
    split
    · exact .cons h ih
    · exact ih
theorem KT_without {H : Hp} (k : List L2.Key) {kvs : List (List L2.Key × V)} {xs : List (List L2.Key × Addr × Value)} (r : KT H kvs xs) : KT H (dropK kvs k) (withoutH xs k) :=
  paired_filter (fun a b h => by rw [h.1]) r
section
variable {X : Cx} {pins : List (Addr × Obj)} {σ : L2.St} {H : Hp} {s : Shared} {E : Value → Shared → Prop} {a b D : Addr} {kvs : List (List L2.Key × V)} {k : List L2.Key} {v : V} {r : Value}
/-- another table of tuples at a -/
theorem dt_back {h' : Heap} {t' : Nat} {kvs' : List (List L2.Key × V)} {xs' : List (List L2.Key × Addr × Value)} (I : Inv X pins σ H s) (e : H a = some (.dT kvs)) (r : KT H kvs' xs') (few : kvs'.length ≤ sizeLine) (d : h'.DictOfH (tupleKind (mixKind X.prog X.w)) a xs') (sb : Heap.SameBut a s.heap h') :
    Inv X pins σ (upd H a (.dT kvs')) { s with heap := h', toks := t' } := by
  have nm := (dt_of I.hok e).2.1
  have ks : KT (upd H a (.dT kvs')) kvs' xs' := KT.keeps r fun c ys ec => (upd_ne (ne_of ec e (fun z => nomatch z))).trans ec
  obtain ⟨o, es, ep, g, x, da, en, _, nd⟩ := d
  exact d_write I (by rw [e]; exact True.intro) sb ⟨o, g⟩ ⟨few, nm, xs', ks, o, es, ep, g, x, da, en, nd⟩
theorem d_delT {A : Around} {Q : Unit → Shared → Prop} (hu : A.units + 1 < cLine) (I : Inv X pins σ H s) (e : H a = some (.dT kvs)) (eb : H b = some (.tup (k.map kV))) (l : (valV kvs k).isSome = true) (h : ∀ s', Inv X pins σ (upd H a (.dT (dropK kvs k))) s' → Q () s') :
    wpAny (model X.prog X.w) A (delItem (.ref a) (.ref b)) Q E s := by
  obtain ⟨few, nm, xs, r, d⟩ := dt_of I.hok e
  obtain ⟨p, hp⟩ : ∃ p, atKey xs k = some p := by
    have q := (r.val k).isSome_eq
    rw [Option.isSome_map, l] at q
    exact Option.isSome_iff_exists.mp q.symm
  exact wpAny_delItem_heap (hsz := Nat.le_trans (Nat.le_of_eq (Paired.length r).symm) few) (tupleKind_room_in1 hu) (key_of I.hok eb) nm d hp fun h' d' sb => h _ (dt_back I e (KT_without k r) (Nat.le_trans (dropK_le kvs k) few) d' sb)
theorem d_dictSetT {Q : Unit → Shared → Prop} (hu : X.A.units + 1 < cLine) (I : Inv X pins σ H s) (e : H D = some (.dT kvs)) (eb : H b = some (.tup (k.map kV))) (hl : kvs.length < sizeLine)
    (rv : RelV v r) (h : ∀ s', Inv X pins σ (upd H D (.dT (putK kvs k v))) s' → Q () s') : wpAny (model X.prog X.w) X.A (dictSet D (.ref b) r) Q E s := by
  obtain ⟨few, nm, xs, rel, d⟩ := dt_of I.hok e
  exact wpAny_dictSet_heap (hsz := Nat.le_trans (Nat.le_of_eq (Paired.length rel).symm) few) (show (tupleKind (mixKind X.prog X.w)).room X.A from Nat.lt_of_succ_lt hu) (key_of I.hok eb) d fun h' d' sb => h _ (dt_back I e (rel.put k eb rv) (Nat.le_trans (length_putK kvs k v) hl) d' sb)
end
/-- del d[y], y a tuple -/
def sDDelT (td ty : TE) : TS := fun D σ H => td σ H fun x H1 => ty σ H1 fun y H2 => ∃ (a b : Addr) (kvs : List (List L2.Key × V)) (k : List L2.Key), x = .ref a ∧ y = .ref b ∧ H2 a = some (.dT kvs) ∧ H2 b = some (.tup (k.map kV)) ∧ (valV kvs k).isSome = true ∧ D.nx σ (upd H2 a (.dT (dropK kvs k)))
section
variable {X : Cx} {o i : Expr} {pos tpos : Pos} {td ty : TE}
theorem ps_ddelT (hu : X.A.units + 1 < cLine) (ho : PE X o td) (hi : PE X i ty) : PS X (.Delete [.Subscript o i tpos] pos) (sDDelT td ty) := by
  refine ⟨fun pins s σ H D I h => ?_⟩
  refine wpAny_Delete (wpAny_deleteEach_cons (wpAny_delete_Subscript (thn (ho.run pins s σ H _ I h) fun u s1 ⟨x, H1, I1, rx, q1⟩ => thn (hi.run pins s1 σ H1 _ I1 q1) fun iv s2 ⟨y, H2, I2, ry, a, b, kvs, k, ex, ey, e, eb, l, q2⟩ => ?_)))
  subst ex ey
  obtain rfl : u = Value.ref a := rx
  obtain rfl : iv = Value.ref b := ry
  exact d_delT hu I2 e eb l fun s3 I3 => wpAny_deleteEach_nil ⟨σ, _, I3, q2⟩
end
/-! ### {t: v for target in iter if ..}, the keys tuples -/
def tDcT (wi : TI) (g : TG) (tt : TT) (tk tv : TE) (vs : List Nat) : TE := fun σ H Q => wi σ H fun J H1 => ∀ D, H1 D = none → ∃ W : Nat → Nat → Hp → Prop, (∃ m, W 0 m (upd H1 D (.dT []))) ∧ ∀ i m h0, W i m h0 →
  (J.stop i h0 ∧ Q (.ref D) h0) ∨ (J.go i h0 ∧ ∃ Nx : Hp → Prop, (∀ h1, Nx h1 → ∃ m', m' < m ∧ W (i + 1) m' h1) ∧ ∀ x h1, J.yld i h0 x h1 → g x (wipe σ vs) h1 fun σ2 h2 => wipe σ2 vs = wipe σ vs ∧ tt σ2 h2 fun b h3 =>
    if b = true then tk σ2 h3 fun y h4 => tv σ2 h4 fun z h5 => ∃ (kvs : List (List L2.Key × V)) (k : List L2.Key) (q : Addr), y = .ref q ∧ h5 q = some (.tup (k.map kV)) ∧ h5 D = some (.dT kvs) ∧ kvs.length < sizeLine ∧ Nx (upd h5 D (.dT (putK kvs k z))) else Nx h3)
section
variable {X : Cx}
theorem pe_dcT {kx vx tg iter : Expr} {ifs : List Expr} {scope : Scope} {own : List (Str × Nat)} {pos : Pos} {wi : TI} {g : TG} {tt : TT} {tk tv : TE} (hu : X.A.units + 1 < cLine) (calm : X.calm = true) (nd : X.N.Nodup) (hi : PI X tg iter wi) (blk : BlkOk X.N X.env.scope scope own)
    (hg : ∀ s H C cl fp, PG (X.blk s H scope (compEnvC scope cl C X.env) fp) tg g) (ht : ∀ s H C cl fp, PTs (X.blk s H scope (compEnvC scope cl C X.env) fp) ifs tt)
    (hk : ∀ s H C cl fp, PE (X.blk s H scope (compEnvC scope cl C X.env) fp) kx tk) (hv : ∀ s H C cl fp, PE (X.blk s H scope (compEnvC scope cl C X.env) fp) vx tv) (hs : ∀ x, foldedSetIterable iter X.env x = pure x := by intro _; rfl) :
    PE X (.DictComp kx vx [⟨tg, iter, ifs, 0⟩] scope pos) (tDcT wi g tt tk tv (own.map (·.2))) := by
  constructor
  intro pins s σ H Q I h
  rw [arm_eval_DictComp]
  have caught : ∀ y ∈ scope.names, y.2 = .free → ∃ c, X.env.cells.lookup y.1 = some c := fun y hy e => (blk.free y hy e).elim (fun k => I.ok.has _ (.inl k)) fun k => I.ok.has _ (.inr k)
  apply wpAny_comprehension_free (use := none) rfl hs (closure_ok caught) blk.kind (fun y hy e => (blk.uniq y hy).trans (congrArg some e))
  refine thn (hi.run pins s σ H _ I h) fun w1 t1 k1 => thn k1 fun w2 t2 k2 => ?_
  obtain ⟨it, fp, tn, J, Ha, rfl, Ia, T, sta, fa, q⟩ := k2
  refine wpAny_newObj_type (newEnv_comp ?_)
  obtain ⟨D, hD⟩ : ∃ D, D = t2.heap.objs.size := ⟨_, rfl⟩
  have freeD : Ha D = none := Ia.hok.fresh (Nat.le_of_eq hD.symm)
  obtain ⟨W, ⟨m0, w0⟩, turn⟩ := q D freeD
  rw [← hD]
  obtain ⟨t3, h3⟩ : ∃ t3 : Shared, t3 = { t2 with heap := t2.heap.push { cls := .type "dict", data := .dict #[] } } := ⟨_, rfl⟩
  obtain ⟨Hb, hb⟩ : ∃ Hb, Hb = upd Ha D (.dT []) := ⟨_, rfl⟩
  have keep3 : ∀ b o, t2.heap.get? b = some o → t3.heap.get? b = some o := fun b o e => by subst h3; exact Heap.get?_push_of_some _ e
  have Ib : Inv X pins σ Hb t3 := by
    subst h3 hb
    exact Ia.laid (t' := t2.toks) (fun b o e => Heap.get?_push_of_some _ e) (Nat.le_of_eq hD.symm) (by rw [hD]; exact dt_empty t2.heap Ia.big)
  have low : ∀ b ∈ fp, b < t2.heap.objs.size := fun b m => (T.obj _ _ sta b m).elim fun o e => Heap.lt_size e.1
  have size3 : t3.heap.objs.size = t2.heap.objs.size + 1 := by subst h3; exact Heap.size_push _ _
  have fb : ∀ b ∈ fp, FpOk X pins Hb b ∧ b < t3.heap.objs.size := fun b m => by
    have l := low b m
    refine ⟨⟨?_, (fa b m).2⟩, Nat.lt_of_lt_of_le l (by rw [size3]; exact Nat.le_succ _)⟩
    subst hb
    rw [upd_ne (by rw [hD]; exact Nat.ne_of_lt l)]
    exact (fa b m).1
  have Ic := block_start Ib blk nd fb
  have nofp : ∀ b ∈ fp, Hb b = none := fun b m => (fb b m).1.1
  rw [show ({ t2 with heap := t2.heap.push { cls := .type "dict", data := .dict #[] } } : Shared) = t3 from h3.symm]
  obtain ⟨cells, hcells⟩ : ∃ l, l = cellsFrom (t3.heap.objs.size + 1) scope.names (cloFrom X.env.cells scope.names []) := ⟨_, rfl⟩
  rw [← hcells] at Ic ⊢
  have runG := hg t3 Hb t3.heap.objs.size cells fp
  have runT := ht t3 Hb t3.heap.objs.size cells fp
  have runK := hk t3 Hb t3.heap.objs.size cells fp
  have runV := hv t3 Hb t3.heap.objs.size cells fp
  obtain ⟨ce, hce⟩ : ∃ ce, ce = compEnvC scope cells t3.heap.objs.size X.env := ⟨_, rfl⟩
  have ceL : ce.locals = t3.heap.objs.size := by subst hce; rfl
  show codeAny _ _ (.compStart (.DictComp kx vx [⟨tg, iter, ifs, 0⟩] scope pos) 0 (.ref it) (.ref D) (compEnvC scope cells t3.heap.objs.size X.env)) (compPost (model X.prog X.w) X.A X.xe none (EP X pins σ Q) (.ref D) t3.heap.objs.size) { t3 with heap := pushCells (t3.heap.push { cls := .type "dict", data := .dict #[] }) scope.names }
  rw [← hce] at Ic runG runT runK runV ⊢
  rw [← hb] at w0
  obtain ⟨t4, h4⟩ : ∃ t4 : Shared, t4 = { t3 with heap := pushCells (t3.heap.push { cls := .type "dict", data := .dict #[] }) scope.names } := ⟨_, rfl⟩
  rw [← h4] at Ic ⊢
  have st3 : tn 0 t3.heap := T.keep _ _ _ sta fun b _ o e => keep3 b o e
  have st4 : tn 0 t4.heap := T.keep _ _ _ st3 fun b _ o e => by subst h4; exact pushCells_keeps _ _ _ _ (Heap.get?_push_of_some _ e)
  have own' : ∀ {σ' : L2.St} {H' : Hp} {s' : Shared}, Inv (X.blk t3 Hb scope ce fp) [] σ' H' s' → (∀ b ∈ fp, H' b = none) → ∀ b ∈ fp, FpOk (X.blk t3 Hb scope ce fp) [] H' b := fun J' n b m =>
    ⟨n b m, (J'.ok.exf b m).1, J'.ok.exfs b m, .inl m, fun x c e => (J'.ok.exf b m).2 x c e, fun p hp => by cases (show p ∈ ([] : List (Addr × Obj)) from hp)⟩
  have loop : codeAny (model X.prog X.w) X.A (.compLoop (.DictComp kx vx [⟨tg, iter, ifs, 0⟩] scope pos) 0 (.ref it) (.ref D) ce) (compPost (model X.prog X.w) X.A X.xe none (EP X pins σ Q) (.ref D) t3.heap.objs.size) t4 := by
    apply compLoop_anyD (fun n s' => ∃ i H', Inv (X.blk t3 Hb scope ce fp) [] (wipe σ (own.map (·.2))) H' s' ∧ tn i s'.heap ∧ (∀ b ∈ fp, H' b = none) ∧ W i n H') ?_ m0 ⟨0, Hb, Ic, st4, nofp, w0⟩
    intro n s5 ⟨i, H5, I5, st5, n5, w5⟩
    rcases turn i n H5 w5 with ⟨stop, fin⟩ | ⟨go, Nx, more, step⟩
    · refine thnF (T.done (X.blk t3 Hb scope ce fp) rfl rfl rfl calm i [] s5 _ H5 (fun _ _ => False) I5 (own' I5 n5) st5 stop) fun r s6 k6 => ?_
      obtain ⟨rfl, I6⟩ := k6
      have back : Inv X pins σ H5 s6 := Ib.call' (ch := fp) I6.os I6.base I6.hok I6.bare fun b m => ⟨(fb b m).1.2.2.2.1, (fb b m).1.2.1, (fb b m).1.2.2.2.2.1, (fb b m).1.2.2.2.2.2⟩
      have gone : H5 t3.heap.objs.size = none := ceL ▸ (show H5 ce.locals = none from I6.free)
      obtain ⟨m, ns, _⟩ := I6.loc
      have ns : s6.heap.Ns t3.heap.objs.size m := ceL ▸ (show s6.heap.Ns ce.locals m from ns)
      obtain ⟨f0, f1, f2, f3, f4, f5⟩ := Ib.fpOk (H' := H5) (Nat.le_refl _) gone
      exact ⟨m, ns, fun h'' sb => ⟨.ref D, H5, back.turned (t' := s6.toks) (fun b o hb e => (sb.2 b hb).trans e) f0 f1 f3 f4 f5, rfl, fin⟩⟩
    · refine thnF (T.item (X.blk t3 Hb scope ce fp) rfl rfl rfl calm i [] s5 _ H5 (fun _ _ => False) I5 (own' I5 n5) st5 go) fun r s6 k6 => ?_
      obtain ⟨u, rfl, k6⟩ := k6
      refine thnF k6 fun _ s7 k7 => ?_
      obtain ⟨x, H7, I7, r7, y7, st7, n7⟩ := k7
      have held := T.obj _ _ st7
      have turnEnd : ∀ {σ8 : L2.St} {H' : Hp} {s' : Shared}, wipe σ8 (own.map (·.2)) = wipe σ (own.map (·.2)) → Inv (X.blk t3 Hb scope ce fp) ([] ++ pinsAt fp s7.heap) σ8 H' s' → Nx H' →
          ∃ m, m < n ∧ ∃ i H', Inv (X.blk t3 Hb scope ce fp) [] (wipe σ (own.map (·.2))) H' s' ∧ tn i s'.heap ∧ (∀ b ∈ fp, H' b = none) ∧ W i m H' := by
        intro σ8 H' s' e8 J' nx
        obtain ⟨m', lt, w'⟩ := more H' nx
        have still : ∀ b ∈ fp, ∀ o, s7.heap.get? b = some o → s'.heap.get? b = some o ∧ H' b = none := fun b hb o e => by
          obtain ⟨z1, z2, _⟩ := J'.pin (b, o) (List.mem_append_right _ (List.mem_append_right _ (mem_pinsAt hb e)))
          exact ⟨z1, z2⟩
        have J2 : Inv (X.blk t3 Hb scope ce fp) [] σ8 H' s' := J'.unpinned (pins := [])
        refine ⟨m', lt, i + 1, H', J2.weak (by rw [← e8, wipe_length]) (fun j v e => (wipe_some (vs := own.map (·.2)) (by rw [e8]; exact e)).1), T.keep _ _ _ st7 fun b hb o e => (still b hb o e).1, fun b hb => ?_, w'⟩
        obtain ⟨o, e, _⟩ := held b hb
        exact (still b hb o e).2
      refine thnF (runG.run _ s7 _ H7 x u _ (I7.pinned (own' I7 n7) held) r7 (step x H7 y7)) fun _ s8 k8 => ?_
      obtain ⟨σ8, H8, I8, e8, q8⟩ := k8
      refine thnF (runT.run _ s8 σ8 H8 _ I8 q8) fun b s9 k9 => ?_
      obtain ⟨H9, I9, q9⟩ := k9
      by_cases kept : b = true
      · rw [if_pos kept] at q9 ⊢
        refine thnF (runK.run _ s9 σ8 H9 _ I9 q9) fun z s10 k10 => ?_
        obtain ⟨y, H10, I10, r10, q10⟩ := k10
        refine thnF (runV.run _ s10 σ8 H10 _ I10 q10) fun z2 s11 k11 => ?_
        obtain ⟨y2, H11, I11, r11, kvs, k, qa, rfl, eq, eD, few, nx⟩ := k11
        cases r10
        exact d_dictSetT (X := X.blk t3 Hb scope ce fp) hu I11 eD eq few r11 fun s12 I12 => turnEnd e8 I12 nx
      · rw [if_neg kept] at q9 ⊢
        exact turnEnd e8 I9 q9
  exact codeAny_compStart_dict loop (T.self _ 0 _ _ _ st4 loop)
end
/-- it over a walk -/
theorem dcT_it {J : It} {n : Nat} {G : Hp → Prop} {Y : Nat → Hp → V → Hp → Prop} (w : Walk J n G Y) {g : TG} {tt : TT} {tk tv : TE} {vs : List Nat} {σ : L2.St} {H1 : Hp} {D : Addr} {Qd : Hp → Prop} (Pv : Nat → Hp → Prop) (h0 : Pv 0 (upd H1 D (.dT []))) (hG : ∀ i H, i ≤ n → Pv i H → G H)
    (hs : ∀ i x H H', i < n → Pv i H → Y i H x H' → g x (wipe σ vs) H' fun σ2 h2 => wipe σ2 vs = wipe σ vs ∧ tt σ2 h2 fun b h3 =>
      if b = true then tk σ2 h3 fun y h4 => tv σ2 h4 fun z h5 => ∃ (kvs : List (List L2.Key × V)) (k : List L2.Key) (q : Addr), y = .ref q ∧ h5 q = some (.tup (k.map kV)) ∧ h5 D = some (.dT kvs) ∧ kvs.length < sizeLine ∧ Pv (i + 1) (upd h5 D (.dT (putK kvs k z))) else Pv (i + 1) h3) (hd : ∀ H, Pv n H → Qd H) :
    ∃ W : Nat → Nat → Hp → Prop, (∃ m, W 0 m (upd H1 D (.dT []))) ∧ ∀ i m h0, W i m h0 →
      (J.stop i h0 ∧ Qd h0) ∨ (J.go i h0 ∧ ∃ Nx : Hp → Prop, (∀ h1, Nx h1 → ∃ m', m' < m ∧ W (i + 1) m' h1) ∧ ∀ x h1, J.yld i h0 x h1 → g x (wipe σ vs) h1 fun σ2 h2 => wipe σ2 vs = wipe σ vs ∧ tt σ2 h2 fun b h3 =>
        if b = true then tk σ2 h3 fun y h4 => tv σ2 h4 fun z h5 => ∃ (kvs : List (List L2.Key × V)) (k : List L2.Key) (q : Addr), y = .ref q ∧ h5 q = some (.tup (k.map kV)) ∧ h5 D = some (.dT kvs) ∧ kvs.length < sizeLine ∧ Nx (upd h5 D (.dT (putK kvs k z))) else Nx h3) := by
  refine ⟨fun i m h => i ≤ n ∧ m + i = n ∧ Pv i h, ⟨n, Nat.zero_le _, rfl, h0⟩, fun i m h z => ?_⟩
  obtain ⟨le, em, p⟩ := z
  have gd := hG i h le p
  rcases Nat.lt_or_ge i n with lt | ge
  · exact .inr ⟨w.goes i h lt gd, Pv (i + 1), fun h1 p1 => ⟨m - 1, by omega, lt, by omega, p1⟩, fun x h1 y => hs i x h h1 lt p (w.yields i h x h1 lt gd y)⟩
  · have e : i = n := Nat.le_antisymm le ge
    rw [e] at p ⊢
    exact .inl ⟨w.stops h gd, hd h p⟩
end Bh

set_option Elab.async false
set_option linter.all false
set_option maxRecDepth 100000
set_option maxHeartbeats 2000000
set_option autoImplicit false
namespace Bh
open PySem PySem.Spec PyProof.Rows L2
/-! ### a class's own in, len, [] and []= -/
section
variable {X : Cx} {C f : Addr} {fd : FuncData} {k : Nat} {sp : Sp} {ps : List Str} {CX : CXT} {EX : XK}
/-- the interpreter itself calls the def f -/
theorem own_call (F : FnOk X.prog X.w X.K X.mg X.base CX k f fd ps sp) (hb : Binds X.K fd ps []) (hx : Passes CX X EX) {A : Around} (hr : Room k A) (fr : A.frames = X.A.frames) {pins : List (Addr × Obj)} {s : Shared} {σ : L2.St} {H : Hp} {vs : List V} {us : List Value} {Q : VK}
    (I : Inv X pins σ H s) (r : Vals vs us) (h : sp vs H Q EX) : wpAny (model X.prog X.w) A (call (.ref f) us) (EP X pins σ Q) X.xe s := by
  have en := I.env0
  have e0 : Env0 X.prog X.w X.K X.mg X.base A X.stack s H := ⟨by rw [fr]; exact en.frames, en.mod, en.bs, en.bsz, en.funs, en.frf, en.hok, en.bare⟩
  have hl := F.len _ _ _ _ h
  have bnd := hb s us I.kIn (by rw [List.append_nil, ← r.length]; exact hl)
  rw [List.append_nil] at bnd
  refine wpAny_call (codeAny_mono (F.run A X.stack s H ⟨us, []⟩ us vs Q EX hr e0 bnd r h) fun r s2 z => ?_)
  match r, z with
  | .error e, z => exact hx pins σ H s e s2 I z
  | .ok (.ret w), z => exact I.after z
/-- y in x, y not in x: x an instance of the class at C -/
def rInIns (C : Addr) (sp : Sp) (EX : XK) (neg : Bool) : R2 := fun y x H Q => ∃ (a dx : Addr) (fs : List (Str × V)), x = .ref a ∧ H a = some (.ins C dx fs) ∧ sp [x, y] H (fun v H' => ∃ b, v = .bl b ∧ Q (.bl (b != neg)) H') EX
theorem op_inIns (F : FnOk X.prog X.w X.K X.mg X.base CX k f fd ps sp) (hs : PySem.W.findIn X.K (.ref C) "__contains__" = some (some (.ref f))) (hf : PySem.W.isFn X.K (.ref f) = true) (hb : Binds X.K fd ps []) (hx : Passes CX X EX) (hr : Room k X.A) :
    OpR X (compareOp .In) (rInIns C sp EX false) := by
  intro pins s σ H y x v u Q I ry rx h
  obtain ⟨a, dx, fs, rfl, ha, hsp⟩ := h
  cases rx
  obtain ⟨mA, J, _⟩ := ins_get I.hok ha
  obtain ⟨od, J, _⟩ := J.look
  obtain ⟨m, hF⟩ := I.fr
  refine PySem.W.in_K hF I.ok.mod.kin J hs hf (wpAny_mono (own_call F hb hx hr rfl I (vs := [.ref a, y]) (us := [.ref a, v]) (.cons rfl (.cons ry .nil)) hsp) (fun w s' z => ?_) fun _ _ e => e)
  obtain ⟨vr, H', I', rv, b, rfl, q⟩ := z
  cases rv
  refine wpAny_truthy_bool ?_
  rw [Bool.bne_false] at q
  exact ⟨.bl b, H', I', rfl, q⟩
theorem op_notInIns (F : FnOk X.prog X.w X.K X.mg X.base CX k f fd ps sp) (hs : PySem.W.findIn X.K (.ref C) "__contains__" = some (some (.ref f))) (hf : PySem.W.isFn X.K (.ref f) = true) (hb : Binds X.K fd ps []) (hx : Passes CX X EX) (hr : Room k X.A) :
    OpR X (compareOp .NotIn) (rInIns C sp EX true) := by
  intro pins s σ H y x v u Q I ry rx h
  obtain ⟨a, dx, fs, rfl, ha, hsp⟩ := h
  cases rx
  obtain ⟨mA, J, _⟩ := ins_get I.hok ha
  obtain ⟨od, J, _⟩ := J.look
  obtain ⟨m, hF⟩ := I.fr
  refine PySem.W.notIn_K hF I.ok.mod.kin J hs hf (wpAny_mono (own_call F hb hx hr rfl I (vs := [.ref a, y]) (us := [.ref a, v]) (.cons rfl (.cons ry .nil)) hsp) (fun w s' z => ?_) fun _ _ e => e)
  obtain ⟨vr, H', I', rv, b, rfl, q⟩ := z
  cases rv
  refine wpAny_truthy_bool ?_
  rw [Bool.bne_true] at q
  exact ⟨.bl (!b), H', I', rfl, q⟩
/-- len(x) -/
def rLenIns (C : Addr) (sp : Sp) (EX : XK) : List V → Hp → VK → Prop := fun xs H Q => ∃ (a dx : Addr) (fs : List (Str × V)), xs = [.ref a] ∧ H a = some (.ins C dx fs) ∧ sp xs H (fun v H' => ∃ n : Nat, v = .int n ∧ n ≤ sizeLine ∧ Q v H') EX
theorem call_lenIns (F : FnOk X.prog X.w X.K X.mg X.base CX k f fd ps sp) (hs : PySem.W.findIn X.K (.ref C) "__len__" = some (some (.ref f))) (hf : PySem.W.isFn X.K (.ref f) = true) (hb : Binds X.K fd ps []) (hx : Passes CX X EX) (hr : Room (k + 1) X.A) :
    CallR X (.builtin "len") (rLenIns C sp EX) := by
  intro pins s σ H xs us Q I r h
  obtain ⟨a, dx, fs, rfl, ha, hsp⟩ := h
  obtain ⟨u, rfl, rx⟩ := vals1 r
  cases rx
  obtain ⟨mA, J, _⟩ := ins_get I.hok ha
  obtain ⟨od, J, _⟩ := J.look
  obtain ⟨m, hF⟩ := I.fr
  refine PySem.W.len_K hF I.ok.mod.kin J hs hf (wpAny_mono (own_call F hb hx hr.in1 rfl I (vs := [.ref a]) (us := [.ref a]) (.cons rfl .nil) hsp) (fun w s' z => ?_) fun _ _ e => e)
  obtain ⟨vr, H', I', rv, n, rfl, le, q⟩ := z
  obtain ⟨t, rfl⟩ := rv
  exact ⟨⟨by omega, by have := line63; omega⟩, .int n, H', I'.tok _, ⟨_, rfl⟩, q⟩
/-- x[y] -/
def rIxIns (C : Addr) (sp : Sp) (EX : XK) : R2 := fun x y H Q => ∃ (a dx : Addr) (fs : List (Str × V)), x = .ref a ∧ H a = some (.ins C dx fs) ∧ sp [x, y] H Q EX
theorem ix_ins (F : FnOk X.prog X.w X.K X.mg X.base CX k f fd ps sp) (hs : PySem.W.findIn X.K (.ref C) "__getitem__" = some (some (.ref f))) (hf : PySem.W.isFn X.K (.ref f) = true) (hfn : PySem.W.fnIn X.K f = true) (hb : Binds X.K fd ps []) (hx : Passes CX X EX) (hr : Room (k + 1) X.A)
    {value slice : Expr} {pos : Pos} {ta tb : TE} (ha : PE X value ta) (hi : PE X slice tb) (hsl : ∀ (a : Addr) (i : Value), subscripted slice true (.ref a) i = runValue (.builtin "lifetime.subscript" ⟨[.ref a, i], []⟩)) : PE X (.Subscript value slice pos) (tOp (rIxIns C sp EX) ta tb) := by
  refine ⟨fun pins s σ H Q I h => Subscript_ (binT ha hi I h fun v u s2 x y H2 I2 rx ry q => ?_)⟩
  obtain ⟨a, dx, fs, rfl, hA, hsp⟩ := q
  cases rx
  obtain ⟨mA, J, _⟩ := ins_get I2.hok hA
  obtain ⟨od, J, _⟩ := J.look
  obtain ⟨m, hF⟩ := I2.fr
  exact PySem.W.sub_K hF I2.ok.mod.kin J hs hfn hf (own_call F hb hx hr.in1 rfl I2 (vs := [.ref a, y]) (us := [.ref a, u]) (.cons rfl (.cons ry .nil)) hsp) (hsl a u)
/-- x[y] = v -/
def rSetIns (C : Addr) (sp : Sp) (EX : XK) : V → V → V → Hp → (Hp → Prop) → Prop := fun x y v H Q => ∃ (a dx : Addr) (fs : List (Str × V)), x = .ref a ∧ H a = some (.ins C dx fs) ∧ sp [x, y, v] H (fun _ H' => Q H') EX
theorem set_ins (F : FnOk X.prog X.w X.K X.mg X.base CX k f fd ps sp) (hq : PySem.W.noSeq X.K C = true) (hs : PySem.W.findIn X.K (.ref C) "__setitem__" = some (some (.ref f))) (hf : PySem.W.isFn X.K (.ref f) = true) (hb : Binds X.K fd ps []) (hx : Passes CX X EX) (hr : Room k X.A) :
    PSet X (rSetIns C sp EX) := by
  intro pins s σ H o i v ov iv u Q I ro ri rv h
  obtain ⟨a, dx, fs, rfl, ha, hsp⟩ := h
  cases ro
  obtain ⟨mA, J, _⟩ := ins_get I.hok ha
  obtain ⟨od, J, _⟩ := J.look
  obtain ⟨m, hF⟩ := I.fr
  refine PySem.W.ksp_setItem hF I.ok.mod.kin J hq hs hf (wpAny_mono (own_call F hb hx hr rfl I (vs := [.ref a, i, v]) (us := [.ref a, iv, u]) (.cons rfl (.cons ri (.cons rv .nil))) hsp) (fun w s' z => ?_) fun _ _ e => e)
  obtain ⟨vr, H', I', _, q⟩ := z
  exact ⟨H', I', q⟩
end
theorem u1 {k : Nat} {A : Around} (r : Room k A) : A.units + 1 < cLine := by
  have := r.un
  omega
section
variable {X : Cx}
/-- y in d, y not in d -/
def rInD (neg : Bool) : R2 := fun y x H Q => ∃ (a : Addr) (o : Option V), x = .ref a ∧ DGet H a y o ∧ Q (.bl (o.isSome != neg)) H
theorem op_inD (hu : X.A.units + 1 < cLine) : OpR X (compareOp .In) (rInD false) := by
  intro pins s σ H y x v u Q I ry rx h
  obtain ⟨a, o, rfl, g, q⟩ := h
  cases rx
  rw [Bool.bne_false] at q
  exact d_in hu I g ry fun s2 I2 => ⟨.bl o.isSome, H, I2, rfl, q⟩
theorem op_notInD (hu : X.A.units + 1 < cLine) : OpR X (compareOp .NotIn) (rInD true) := by
  intro pins s σ H y x v u Q I ry rx h
  obtain ⟨a, o, rfl, g, q⟩ := h
  cases rx
  rw [Bool.bne_true] at q
  exact d_notIn hu I g ry fun s2 I2 => ⟨.bl (!o.isSome), H, I2, rfl, q⟩
end
end Bh

set_option Elab.async false
set_option linter.all false
set_option maxRecDepth 100000
set_option maxHeartbeats 2000000
set_option autoImplicit false
namespace Bh
open PySem PySem.Spec PyProof.Rows L2
/-! ### a class's own | and |=, its own == with any other thing -/
/-- x | y of two instances of the class: the answer is an object -/
def rOrIns (C : Addr) (sp : Sp) (EX : XK) : R2 := fun x y H Q => ∃ (a dx : Addr) (fs : List (Str × V)) (b dy : Addr) (gs : List (Str × V)), x = .ref a ∧ H a = some (.ins C dx fs) ∧ y = .ref b ∧ H b = some (.ins C dy gs) ∧ sp [x, y] H (fun v H' => (∃ r, v = .ref r) ∧ Q v H') EX
section
variable {X : Cx} {C f : Addr} {fd : FuncData} {k : Nat} {sp : Sp} {ps : List Str} {CX : CXT} {EX : XK}
theorem op_orIns (F : FnOk X.prog X.w X.K X.mg X.base CX k f fd ps sp) (hs : PySem.W.findIn X.K (.ref C) (PySem.dunder "or") = some (some (.ref f))) (hf : PySem.W.isFn X.K (.ref f) = true) (sf : PySem.W.selfFirst X.K C = true) (hb : Binds X.K fd ps []) (hx : Passes CX X EX) (hr : Room k X.A) :
    OpR X (binaryOp .BitOr) (rOrIns C sp EX) := by
  intro pins s σ H x y v u Q I rx ry h
  obtain ⟨a, dx, fs, b, dy, gs, rfl, ha, rfl, hB, hsp⟩ := h
  cases rx
  cases ry
  obtain ⟨mA, J, _⟩ := ins_get I.hok ha
  obtain ⟨od, J, _⟩ := J.look
  obtain ⟨mB, J', _⟩ := ins_get I.hok hB
  obtain ⟨od', J', _⟩ := J'.look
  obtain ⟨m, hF⟩ := I.fr
  refine PySem.W.binop_K (op := .BitOr) hF I.ok.mod.kin J J'.type sf hs hf (wpAny_mono (own_call F hb hx hr rfl I (vs := [.ref a, .ref b]) (us := [.ref a, .ref b]) (.cons rfl (.cons rfl .nil)) hsp) (fun w s' z => ?_) fun _ _ e => e)
  obtain ⟨vr, H', I', rv, ⟨r, rfl⟩, q⟩ := z
  cases rv
  exact ⟨.ref r, H', I', rfl, q⟩
theorem ip_orIns (F : FnOk X.prog X.w X.K X.mg X.base CX k f fd ps sp) (hs : PySem.W.findIn X.K (.ref C) (PySem.dunderI "or") = some (some (.ref f))) (hf : PySem.W.isFn X.K (.ref f) = true) (sf : PySem.W.selfFirst X.K C = true) (hb : Binds X.K fd ps []) (hx : Passes CX X EX) (hr : Room k X.A) :
    PIp X .BitOr (rOrIns C sp EX) := by
  intro pins s σ H x y v u Q I rx ry h
  obtain ⟨a, dx, fs, b, dy, gs, rfl, ha, rfl, hB, hsp⟩ := h
  cases rx
  cases ry
  obtain ⟨mA, J, _⟩ := ins_get I.hok ha
  obtain ⟨od, J, _⟩ := J.look
  obtain ⟨m, hF⟩ := I.fr
  refine PySem.W.ksp_inplace (op := .BitOr) hF I.ok.mod.kin J sf hs hf (wpAny_mono (own_call F hb hx hr rfl I (vs := [.ref a, .ref b]) (us := [.ref a, .ref b]) (.cons rfl (.cons rfl .nil)) hsp) (fun w s' z => ?_) fun _ _ e => e)
  obtain ⟨vr, H', I', rv, ⟨r, rfl⟩, q⟩ := z
  cases rv
  exact ⟨.ref r, H', I', rfl, q⟩
end
/-- x == y by the class's own __eq__; y an instance of the class, a tuple or a text -/
def rEqX (K : PySem.W.Frag) (C : Addr) (sp : Sp) : R2 := fun x y H Q => ∃ (a dx : Addr) (fs : List (Str × V)), x = .ref a ∧ H a = some (.ins C dx fs) ∧
  ((∃ (b dy : Addr) (gs : List (Str × V)), y = .ref b ∧ H b = some (.ins C dy gs)) ∨ (∃ (b : Addr) (zs : List V), y = .ref b ∧ SqT K H b zs) ∨ ∃ z, y = .str z) ∧ sp [x, y] H (fun v H' => (∃ r, v = .bl r) ∧ Q v H') C8.E0
section
variable {X : Cx} {C f : Addr} {fd : FuncData} {k : Nat} {sp : Sp} {p1 p2 : Str}
theorem op_eqX (F : FnOk X.prog X.w X.K X.mg X.base C8.CX0 k f fd [p1, p2] sp) (hs : PySem.W.findIn X.K (.ref C) "__eq__" = some (some (.ref f))) (hf : PySem.W.isFn X.K (.ref f) = true) (hb : Binds X.K fd [p1, p2] []) (hr : Room k X.A)
    (ht : PySem.W.subIn X.K (.type "tuple") (.ref C) = some false) (ht2 : PySem.W.subIn X.K (.type "str") (.ref C) = some false) : OpR X (compareOp .Eq) (rEqX X.K C sp) := by
  intro pins s σ H x y v u Q I rx ry h
  obtain ⟨a, dx, fs, rfl, ha, hy, hsp⟩ := h
  cases rx
  obtain ⟨mA, J, _⟩ := ins_get I.hok ha
  obtain ⟨od, J, _⟩ := J.look
  obtain ⟨m, hF⟩ := I.fr
  have body := own_two F hb hr rfl (E := X.xe) I (x := .ref a) (y := y) (u := .ref a) (v := u) rfl ry hsp
  show wpAny (model X.prog X.w) X.A (richCompare .Eq (.ref a) u) (EP X pins σ Q) X.xe s
  have go : ∀ tb, PySem.W.Looks (model X.prog X.w) s.heap (typeOf u) tb → PySem.W.notFirst X.K C tb = true → wpAny (model X.prog X.w) X.A (richCompare .Eq (.ref a) u) (EP X pins σ Q) X.xe s := fun tb h1 h2 => by
    refine PySem.W.cmp_K (op := .Eq) (tb := tb) hr.units0 hF I.ok.mod.kin J h1 h2 hs hf (wpAny_mono body (fun w s' z => ?_) fun _ _ e => e)
    obtain ⟨vr, H', I', rv, ⟨r, rfl⟩, q⟩ := z
    cases rv
    exact ⟨.bl r, H', I', rfl, q⟩
  rcases hy with ⟨b, dy, gs, rfl, hb'⟩ | ⟨b, zs, rfl, hz⟩ | ⟨z, rfl⟩
  · cases ry
    obtain ⟨mB, J', _⟩ := ins_get I.hok hb'
    obtain ⟨od', J', _⟩ := J'.look
    exact go _ J'.type (by simp [PySem.W.notFirst])
  · cases ry
    obtain ⟨its, _, pl, _⟩ := I.tuple hz
    obtain ⟨ob, ho, hc, _⟩ := id pl
    exact go (.type "tuple") (hc ▸ (PySem.W.Looks.ld ho).andThen .now) (by unfold PySem.W.notFirst; rw [ht]; rfl)
  · obtain ⟨t, rfl⟩ := ry
    exact go (.type "str") .now (by unfold PySem.W.notFirst; rw [ht2]; rfl)
end
/-- o.f, .. = .. : an attribute as a target -/
def gFld (K : PySem.W.Frag) (ta : TE) (f : Str) : TG := fun v σ H Q => ta σ H fun x H2 => ∃ (a C dx : Addr) (fs : List (Str × V)), x = .ref a ∧ H2 a = some (.ins C dx fs) ∧ Cls K C ∧ NoAttr K C f ∧ fs.length < 1000 ∧ Q σ (upd H2 a (.ins C dx (putF f v fs)))
theorem pg_fld_K {X : Cx} {K : PySem.W.Frag} (hK : X.K = K) {o : Expr} {f : Str} {pos : Pos} {ta : TE} (ha : PE X o ta) : PG X (.Attribute o f pos) (gFld K ta f) := by
  subst hK
  refine ⟨fun pins s σ H v u Q I r h => ?_⟩
  rw [assign_Attribute]
  refine wpAny_bind (wpAny_holding (thn (ha.run pins s σ H _ I h) fun ov s2 ⟨x, H2, I2, rx, a, C, dx, fs, ex, ea, c, n, l, q2⟩ => ?_))
  subst ex
  obtain rfl : ov = Value.ref a := rx
  refine wpAny_bind (wpAny_standAt (wpAny_bind (wpAny_holding (setattr_ok I2 ea c n l r fun s3 I3 => ?_))))
  exact wpAny_release ⟨σ, _, I3, q2⟩
/-- a statement that only leaves (a raise), while the dict at d is locked: it leaves unlocked -/
def tUnl (H0 : Hp) (t : TS) : TS := fun _ σ H => ∃ (d : Addr) (od : Obj) (u : HO), H d = some (.frz od u) ∧ (∀ o' u', H0 d ≠ some (.frz o' u')) ∧ t { nx := fun _ _ => False, rt := fun _ _ => False } σ (upd H d u)
theorem ps_unl {X : Cx} {st : Stmt} {t : TS} (h : PS X st t) : PS X st (tUnl X.H_0 t) := by
  refine ⟨fun pins s σ H D I hw => ?_⟩
  obtain ⟨d, od, u, hd, hn, hw⟩ := hw
  refine thn (h.run pins s σ _ _ (I.unlock hd hn) hw) fun f s1 q => ?_
  cases f with
  | next => obtain ⟨_, _, _, z⟩ := q; exact z.elim
  | brk => obtain ⟨_, _, _, z⟩ := q; exact z.elim
  | cont => obtain ⟨_, _, _, z⟩ := q; exact z.elim
  | ret v => obtain ⟨_, _, _, _, _, z⟩ := q; exact z.elim
/-! ### == of two dicts whose values are texts -/
theorem hits_strs {A : Around} {s : Shared} {ls : List (L2.Key × V)} {vb : List (L2.Key × Value)} (rb : KV ls vb) (sb : ∀ p ∈ ls, ∃ z, p.2 = V.str z) {ks : List (L2.Key × V)} {va : List (L2.Key × Value)} (ra : KV ks va) :
    (∀ p ∈ ks, ∃ z, p.2 = V.str z) → PySem.W.KeqHits A s vb va (ks.all fun p => decide (valV ls p.1 = some p.2)) := by
  unfold KV at ra
  induction ra with
  | nil => intro _; exact .nil
  | @cons p q ps qs h t ih =>
    intro hp
    obtain ⟨h1, h2⟩ := h
    obtain ⟨z, ez⟩ := hp p List.mem_cons_self
    obtain ⟨k, v⟩ := q
    have h1' : p.1 = k := h1
    have rr := rb.val p.1
    have ih' := ih fun p' hm => hp p' (List.mem_cons_of_mem _ hm)
    rw [List.all_cons]
    cases e : valV ls p.1 with
    | none =>
      rw [e] at rr
      have hy : valueAt vb k = none := by
        rw [← h1']
        cases ey : valueAt vb p.1 with
        | none => rfl
        | some y => rw [ey] at rr; exact rr.elim
      rw [decide_eq_false (fun z => nomatch z), Bool.false_and]
      exact .miss hy
    | some x =>
      rw [e] at rr
      obtain ⟨y, hy, ry⟩ := rr.some_of
      obtain ⟨zx, ex⟩ : ∃ zx, x = V.str zx := by
        unfold valV at e
        obtain ⟨p', hp', rfl⟩ := Option.map_eq_some_iff.mp e
        exact sb p' (List.mem_of_find?_eq_some hp')
      rw [h1'] at hy
      rw [ex] at ry
      rw [ez] at h2
      obtain ⟨t1, rfl⟩ := ry
      obtain ⟨t2, rfl⟩ : ∃ t2, v = Value.str z t2 := h2
      have eb : decide (some x = some p.2) = (z == zx) := by
        rw [ex, ez]
        by_cases c : z = zx
        · rw [c]; simp
        · rw [decide_eq_false (fun w => c (by injection w with w; injection w with w; exact w.symm))]
          exact (beq_eq_false_iff_ne.mpr c).symm
      rw [eb]
      exact .hit hy (SeqAt.EqAt.str_str z t2 zx t1) ih'
def rEqKS : R2 := fun x y H Q => ∃ (a b : Addr) (ks ls : List (L2.Key × V)), x = .ref a ∧ y = .ref b ∧ H a = some (.dK ks) ∧ H b = some (.dK ls) ∧ (∀ p ∈ ks, ∃ z, p.2 = V.str z) ∧ (∀ p ∈ ls, ∃ z, p.2 = V.str z) ∧
  Q (.bl (ks.length == ls.length && ks.all fun p => decide (valV ls p.1 = some p.2))) H
theorem op_eqKS {X : Cx} (hu : X.A.units < cLine) : OpR X (compareOp .Eq) rEqKS := by
  intro pins s σ H x y v u Q I rx ry h
  obtain ⟨a, b, ks, ls, rfl, rfl, ea, eb, sa, sb, q⟩ := h
  cases rx
  cases ry
  obtain ⟨_, ya, va, ra, da⟩ := (show ObjOk X.prog X.w H s.heap a (.dK ks) from I.hok a _ ea)
  obtain ⟨_, yb, vb, rb, db⟩ := (show ObjOk X.prog X.w H s.heap b (.dK ls) from I.hok b _ eb)
  exact PySem.W.keq_eq (knd := mixKind X.prog X.w) ya yb da db hu (fun _ => hits_strs rb sb ra sa) (fin_bl I q (by rw [Paired.length ra, Paired.length rb]))
/-- o.f, over a named K (within a comprehension's block) -/
theorem pe_fld_K {X : Cx} {K : PySem.W.Frag} (hK : X.K = K) {e : Expr} {f : Str} {pos : Pos} {ta : TE} (he : PE X e ta) (hb : attributeBase e f X.env (eval e X.env) = eval e X.env) : PE X (.Attribute e f pos) (tFld K ta f) := by
  subst hK
  exact pe_fld he hb
/-! ### steps of a reading -/
theorem gn_step {i : Nat} {v : V} {σ : L2.St} {H : Hp} {Q : L2.St → Hp → Prop} (h : Q (σ.set i (some v)) H) : gName i v σ H Q := h
theorem sq_asg {te : TE} {g : TG} {B : TS} {D : Ends} {σ : L2.St} {H : Hp} (h : te σ H fun x H1 => g x σ H1 (B D)) : tSeq (tAsg te g) B D σ H := h
theorem cons_step {ta : TE} {t : TA} {σ : L2.St} {H : Hp} {Q : List V → Hp → Prop} (h : ta σ H fun x H1 => t σ H1 fun xs H2 => Q (x :: xs) H2) : tCons ta t σ H Q := h
theorem lst_step {t : TA} {σ : L2.St} {H : Hp} {Q : VK} (h : t σ H fun xs H1 => xs.length ≤ sizeLine ∧ ∀ p, H1 p = none → Q (.ref p) (upd H1 p (.lst xs))) : tLst t σ H Q := h
theorem tup_step {t : TA} {σ : L2.St} {H : Hp} {Q : VK} (h : t σ H fun xs H1 => xs.length ≤ sizeLine ∧ ∀ p, H1 p = none → Q (.ref p) (upd H1 p (.tup xs))) : tTup t σ H Q := h
theorem pair_at {α β : Type} {F : α → β → Prop} : ∀ {xs : List α} {ys : List β}, Paired F xs ys → ∀ {i : Nat} {x : α}, xs[i]? = some x → ∃ y, ys[i]? = some y ∧ F x y
  | _, _, .nil, _, _, e => nomatch e
  | _, _, .cons h t, 0, _, e => ⟨_, rfl, by cases e; exact h⟩
  | _, _, .cons h t, i + 1, _, e => pair_at t e
end Bh

set_option Elab.async false
set_option linter.all false
set_option maxRecDepth 100000
set_option autoImplicit false
namespace Bh
open PySem PySem.Spec PyProof.Rows L2
/-! ### displays of data -/
/-- worlds in which new things may be made: what is known (G) of the heap (H) -/
structure Wo (W : Hp → Hp → Prop) : Prop where
  sm : ∀ {G H : Hp}, W G H → Same G H
  new : ∀ {G H : Hp} {p : Addr} {o : HO}, W G H → H p = none → W (upd G p o) (upd H p o)
theorem wo_eq : Wo (fun G H => G = H) := ⟨fun e => by rw [e]; exact Same.refl _, fun e _ => by rw [e]⟩
theorem wo_wd (b l : Addr) : Wo (Wd b l) := ⟨fun w => w.sm, fun w n => w.new n⟩
/-- a reading that gives this data -/
def AccW (K : PySem.W.Frag) (W : Hp → Hp → Prop) (t : TE) (σ : L2.St) (G : Hp) (d : PyData) : Prop :=
  ∀ (G' H' : Hp) (Q : VK), Same G G' → W G' H' → (∀ (v : V) (G2 H2 : Hp), Same G' G2 → W G2 H2 → Dp K G2 v d → Q v H2) → t σ H' Q
theorem AccW.mono {K : PySem.W.Frag} {W : Hp → Hp → Prop} {t : TE} {σ : L2.St} {G G1 : Hp} {d : PyData} (h : AccW K W t σ G d) (s : Same G G1) : AccW K W t σ G1 d := fun G' H' Q s' => h G' H' Q (s.trans s')
theorem acc_var {K : PySem.W.Frag} {W : Hp → Hp → Prop} {σ : L2.St} {G : Hp} {d : PyData} {i : Nat} {v : V} (e : σ[i]? = some (some v)) (h : Dp K G v d) : AccW K W (tVar i) σ G d := fun G' H' Q s w k => ⟨v, e, k v G' H' (Same.refl _) w (Dp.mono s h)⟩
def tD (K : PySem.W.Frag) (as : List (Nat × TE)) (D : (Nat → PyData) → PyData) : TE := fun σ H Q => ∃ (W : Hp → Hp → Prop) (_ : Wo W) (ρ : Nat → PyData) (G : Hp), W G H ∧ (∀ p ∈ as, AccW K W p.2 σ G (ρ p.1)) ∧ ∀ (v : V) (G' H' : Hp), Same G G' → W G' H' → Dp K G' v (D ρ) → Q v H'
def tDs (K : PySem.W.Frag) (as : List (Nat × TE)) (Ds : (Nat → PyData) → List PyData) : TA := fun σ H Q => ∃ (W : Hp → Hp → Prop) (_ : Wo W) (ρ : Nat → PyData) (G : Hp), W G H ∧ (∀ p ∈ as, AccW K W p.2 σ G (ρ p.1)) ∧ ∀ (vs : List V) (G' H' : Hp), Same G G' → W G' H' → DpAll K G' vs (Ds ρ) → Q vs H'
theorem pd_imp {X : Cx} {e : Expr} {t t' : TE} (h : PE X e t) (w : ∀ σ H Q, t' σ H Q → t σ H Q) : PE X e t' := ⟨fun pins s σ H Q I z => h.run pins s σ H Q I (w _ _ _ z)⟩
theorem pda_imp {X : Cx} {es : List Expr} {t t' : TA} (h : PA X es t) (w : ∀ σ H Q, t' σ H Q → t σ H Q) : PA X es t' := ⟨fun pos pins s σ H Q I z => h.run pos pins s σ H Q I (w _ _ _ z)⟩
section
variable {X : Cx} {K : PySem.W.Frag}
theorem pd_str {z : Str} {j : Nat} {pos : Pos} : PE X (.Constant (.str z) j pos) (tD K [] fun _ => .str z) :=
  pd_imp pe_str fun σ H Q ⟨W, hW, ρ, G, w, _, q⟩ => q _ G H (Same.refl _) w (.str z)
theorem pd_int {i : Int} {j : Nat} {pos : Pos} : PE X (.Constant (.int i) j pos) (tD K [] fun _ => .int i) :=
  pd_imp pe_int fun σ H Q ⟨W, hW, ρ, G, w, _, q⟩ => q _ G H (Same.refl _) w (.int i)
theorem pd_non {j : Nat} {pos : Pos} : PE X (.Constant .none j pos) (tD K [] fun _ => .none) :=
  pd_imp pe_non fun σ H Q ⟨W, hW, ρ, G, w, _, q⟩ => q _ G H (Same.refl _) w .non
theorem pd_bl {b : Bool} {j : Nat} {pos : Pos} : PE X (.Constant (.bool b) j pos) (tD K [] fun _ => .bool b) :=
  pd_imp pe_bl fun σ H Q ⟨W, hW, ρ, G, w, _, q⟩ => q _ G H (Same.refl _) w (.bl b)
theorem pd_acc {e : Expr} {t : TE} (n : Nat) (h : PE X e t) : PE X e (tD K [(n, t)] fun ρ => ρ n) :=
  pd_imp h fun σ H Q ⟨W, hW, ρ, G, w, acc, q⟩ => acc (n, t) (List.mem_singleton.mpr rfl) G H Q (Same.refl _) w fun v G2 H2 s w2 d => q v G2 H2 s w2 d
theorem pds_nil : PA X [] (tDs K [] fun _ => []) :=
  pda_imp pa_nil fun σ H Q ⟨W, hW, ρ, G, w, _, q⟩ => q [] G H (Same.refl _) w .nil
theorem pds_cons {e : Expr} {es : List Expr} {as bs : List (Nat × TE)} {D : (Nat → PyData) → PyData} {Ds : (Nat → PyData) → List PyData} (h1 : PE X e (tD K as D)) (h2 : PA X es (tDs K bs Ds))
    (hs : starEach (e :: es) X.env = (false, eval e X.env) :: starEach es X.env := by rfl) : PA X (e :: es) (tDs K (as ++ bs) fun ρ => D ρ :: Ds ρ) := by
  refine pda_imp (pa_cons h1 h2 hs) fun σ H Q ⟨W, hW, ρ, G, w, acc, q⟩ => ?_
  refine ⟨W, hW, ρ, G, w, fun p hp => acc p (List.mem_append_left _ hp), fun v G1 H1 s1 w1 d1 => ?_⟩
  exact ⟨W, hW, ρ, G1, w1, fun p hp => (acc p (List.mem_append_right _ hp)).mono s1, fun vs G2 H2 s2 w2 d2 => q _ G2 H2 (s1.trans s2) w2 (.cons (Dp.mono s2 d1) d2)⟩
theorem dall_len {H : Hp} {vs : List V} {ds : List PyData} (h : DpAll K H vs ds) (l : ds.length ≤ 100000) : vs.length ≤ sizeLine := by
  rw [DpAll.length h]
  exact le_line l
theorem pd_tup {es : List Expr} {k : Nat} {pos : Pos} {as : List (Nat × TE)} {Ds : (Nat → PyData) → List PyData} (h : PA X es (tDs K as Ds)) (l : ∀ ρ, (Ds ρ).length ≤ 100000 := by exact fun _ => Nat.le_of_ble_eq_true rfl) : PE X (.Tuple es k pos) (tD K as fun ρ => .tuple (Ds ρ)) :=
  pd_imp (pe_tup h) fun σ H Q ⟨W, hW, ρ, G, w, acc, q⟩ => ⟨W, hW, ρ, G, w, acc, fun vs G1 H1 s1 w1 d1 => ⟨dall_len d1 (l ρ), fun p np => by
    have gp := (hW.sm w1).free np
    have sn : Same G1 (upd G1 p (.tup vs)) := same_new gp
    exact q _ _ _ (s1.trans sn) (hW.new w1 np) (.tup (SqT.of upd_same) (DpAll.mono sn d1))⟩⟩
theorem pd_lst {es : List Expr} {pos : Pos} {as : List (Nat × TE)} {Ds : (Nat → PyData) → List PyData} (h : PA X es (tDs K as Ds)) (l : ∀ ρ, (Ds ρ).length ≤ 100000 := by exact fun _ => Nat.le_of_ble_eq_true rfl) : PE X (.List es pos) (tD K as fun ρ => .list (Ds ρ)) :=
  pd_imp (pe_lst h) fun σ H Q ⟨W, hW, ρ, G, w, acc, q⟩ => ⟨W, hW, ρ, G, w, acc, fun vs G1 H1 s1 w1 d1 => ⟨dall_len d1 (l ρ), fun p np => by
    have gp := (hW.sm w1).free np
    have sn : Same G1 (upd G1 p (.lst vs)) := same_new gp
    exact q _ _ _ (s1.trans sn) (hW.new w1 np) (.lst (SqL.of upd_same) (DpAll.mono sn d1))⟩⟩
theorem dpa_app {H : Hp} : ∀ {vs us : List V} {ds es : List PyData}, DpAll K H vs ds → DpAll K H us es → DpAll K H (vs ++ us) (ds ++ es)
  | _, _, _, _, .nil, h => h
  | _, _, _, _, .cons a t, h => .cons a (dpa_app t h)
theorem dpa_rep {H : Hp} {vs : List V} {ds : List PyData} (h : DpAll K H vs ds) : ∀ n : Nat, DpAll K H (List.replicate n vs).flatten (List.replicate n ds).flatten
  | 0 => .nil
  | n + 1 => by
    rw [List.replicate_succ, List.replicate_succ, List.flatten_cons, List.flatten_cons]
    exact dpa_app h (dpa_rep h n)
/-- (e, ..) * n -/
theorem pd_rep (hK : X.K = K) {es : List Expr} {k j : Nat} {p1 p2 p3 : Pos} {n : Int} {as : List (Nat × TE)} {Ds : (Nat → PyData) → List PyData} (h : PA X es (tDs K as Ds)) (hn : 2 ≤ n ∧ n ≤ 1000 := by decide) (l1 : ∀ ρ, 1 ≤ (Ds ρ).length := by exact fun _ => Nat.le_of_ble_eq_true rfl) (l2 : ∀ ρ, (Ds ρ).length ≤ 1000 := by exact fun _ => Nat.le_of_ble_eq_true rfl) :
    PE X (.BinOp (.Tuple es k p1) .Mult (.Constant (.int n) j p2) p3) (tD K as fun ρ => .tuple (List.replicate n.toNat (Ds ρ)).flatten) :=
  pd_imp (pe_op (op_repT_K hK) (pe_tup h) pe_int) fun σ H Q ⟨W, hW, ρ, G, w, acc, q⟩ => ⟨W, hW, ρ, G, w, acc, fun vs G1 H1 s1 w1 d1 => ⟨dall_len d1 (Nat.le_trans (l2 ρ) (by decide)), fun p np => by
    have gp := (hW.sm w1).free np
    have sn : Same G1 (upd G1 p (.tup vs)) := same_new gp
    have lv := DpAll.length d1
    have l1 := l1 ρ
    have l2 := l2 ρ
    refine ⟨p, n, vs, rfl, rfl, SqT.of upd_same, fun z => ?_, hn.1, hn.2, by omega, fun p2 np2 => ?_⟩
    · rw [z] at lv
      have lv : 0 = (Ds ρ).length := lv
      omega
    have w2 := hW.new (o := .tup vs) w1 np
    have gp2 := (hW.sm w2).free np2
    have sn2 : Same (upd G1 p (.tup vs)) (upd (upd G1 p (.tup vs)) p2 (.tup (List.replicate n.toNat vs).flatten)) := same_new gp2
    exact q _ _ _ (s1.trans (sn.trans sn2)) (hW.new w2 np2) (.tup (SqT.of upd_same) (DpAll.mono (sn.trans sn2) (dpa_rep d1 _)))⟩⟩
end
/-- x + [..], x a list of data -/
theorem dcat_step {K : PySem.W.Frag} {W : Hp → Hp → Prop} {as : List (Nat × TE)} {Ds : (Nat → PyData) → List PyData} {σ : L2.St} {G H : Hp} {Q : VK} {i : Nat} {l : Addr} {xs : List V} {ds : List PyData} (ρ : Nat → PyData) (hW : Wo W) (w : W G H) (hi : σ[i]? = some (some (.ref l))) (hl : G l = some (.lst xs)) (hd : DpAll K G xs ds)
    (acc : ∀ p ∈ as, AccW K W p.2 σ G (ρ p.1)) (n1 : ds.length ≤ 1000) (n2 : (Ds ρ).length ≤ 1000)
    (q : ∀ (p : Addr) (zs : List V) (G' H' : Hp), Same G G' → W G' H' → G p = none → G' p = some (.lst zs) → DpAll K G' zs (ds ++ Ds ρ) → Q (.ref p) H') : tOp rCat (tVar i) (tLst (tDs K as Ds)) σ H Q := by
  refine ⟨_, hi, W, hW, ρ, G, w, acc, fun vs G1 H1 s1 w1 d1 => ⟨dall_len d1 (Nat.le_trans n2 (by decide)), fun p np => ?_⟩⟩
  have gp := (hW.sm w1).free np
  have sn : Same G1 (upd G1 p (.lst vs)) := same_new gp
  have w2 := hW.new (o := .lst vs) w1 np
  have lx := DpAll.length hd
  have lv := DpAll.length d1
  refine ⟨l, p, xs, vs, rfl, rfl, hW.sm w2 _ _ (sn _ _ (s1 _ _ hl)), upd_same, le_line (by omega), fun p2 np2 => ?_⟩
  have gp2 := (hW.sm w2).free np2
  have sn2 : Same (upd G1 p (.lst vs)) (upd (upd G1 p (.lst vs)) p2 (.lst (xs ++ vs))) := same_new gp2
  have sa := s1.trans (sn.trans sn2)
  exact q p2 (xs ++ vs) _ _ sa (hW.new w2 np2) ((s1.trans sn).free gp2) upd_same (dpa_app (DpAll.mono sa hd) (DpAll.mono (sn.trans sn2) d1))
/-- [..] of data -/
theorem dlst_step {K : PySem.W.Frag} {W : Hp → Hp → Prop} {as : List (Nat × TE)} {Ds : (Nat → PyData) → List PyData} {σ : L2.St} {G H : Hp} {Q : VK} (ρ : Nat → PyData) (hW : Wo W) (w : W G H)
    (acc : ∀ p ∈ as, AccW K W p.2 σ G (ρ p.1)) (n2 : (Ds ρ).length ≤ 1000)
    (q : ∀ (p : Addr) (zs : List V) (G' H' : Hp), Same G G' → W G' H' → G p = none → G' p = some (.lst zs) → DpAll K G' zs (Ds ρ) → Q (.ref p) H') : tLst (tDs K as Ds) σ H Q := by
  refine ⟨W, hW, ρ, G, w, acc, fun vs G1 H1 s1 w1 d1 => ⟨dall_len d1 (Nat.le_trans n2 (by decide)), fun p np => ?_⟩⟩
  have gp := (hW.sm w1).free np
  have sn : Same G1 (upd G1 p (.lst vs)) := same_new gp
  exact q p vs _ _ (s1.trans sn) (hW.new w1 np) (s1.free gp) upd_same (DpAll.mono sn d1)
/-- x + [y], y made -/
theorem dcat_one {K : PySem.W.Frag} {W : Hp → Hp → Prop} {G H : Hp} {Q : VK} {l : Addr} {xs : List V} {ds : List PyData} {y : V} {d : PyData} (hW : Wo W) (w : W G H) (hl : G l = some (.lst xs)) (hd : DpAll K G xs ds) (hy : Dp K G y d) (n1 : ds.length ≤ 1000)
    (q : ∀ (p : Addr) (zs : List V) (G' H' : Hp), Same G G' → W G' H' → G p = none → G' p = some (.lst zs) → DpAll K G' zs (ds ++ [d]) → Q (.ref p) H') : [y].length ≤ sizeLine ∧ ∀ p, H p = none → rCat (.ref l) (.ref p) (upd H p (.lst [y])) Q := by
  refine ⟨(by show 1 ≤ sizeLine; decide), fun p np => ?_⟩
  have gp := (hW.sm w).free np
  have sn : Same G (upd G p (.lst [y])) := same_new gp
  have w2 := hW.new (o := .lst [y]) w np
  have lx := DpAll.length hd
  refine ⟨l, p, xs, [y], rfl, rfl, hW.sm w2 _ _ (sn _ _ hl), upd_same, le_line (by show xs.length + 1 ≤ _; omega), fun p2 np2 => ?_⟩
  have gp2 := (hW.sm w2).free np2
  have sn2 : Same (upd G p (.lst [y])) (upd (upd G p (.lst [y])) p2 (.lst (xs ++ [y]))) := same_new gp2
  have sa := sn.trans sn2
  exact q p2 (xs ++ [y]) _ _ sa (hW.new w2 np2) (sn.free gp2) upd_same (dpa_app (DpAll.mono sa hd) (.cons (Dp.mono sa hy) .nil))
theorem dpa_mem {K : PySem.W.Frag} {H : Hp} {xs : List V} {ds : List PyData} (h : DpAll K H xs ds) {x : V} (m : x ∈ xs) : ∃ d ∈ ds, Dp K H x d := by
  obtain ⟨i, hi⟩ := List.mem_iff_getElem?.mp m
  obtain ⟨d, e1, e2⟩ := DpAll.get h hi
  exact ⟨d, List.mem_of_getElem? e1, e2⟩
/-- one drawn of data -/
theorem any_of {K : PySem.W.Frag} {b l p : Addr} {G H : Hp} {zs : List V} {ds : List PyData} {Q : VK} (w : Wd b l G H) (hp : G p = some (.lst zs)) (hd : DpAll K G zs ds) (n1 : 1 ≤ ds.length) (n2 : ds.length ≤ 100000)
    (q : ∀ (y : V) (d : PyData) (H' : Hp), Wd b l G H' → Dp K G y d → d ∈ ds → Q y H') : spAny K [.ref b, .ref p] H Q E0 := by
  have lz := DpAll.length hd
  refine ⟨b, l, p, G, zs, rfl, .inl (SqL.of hp), fun z => ?_, by omega, w, fun x H' hx w' => ?_⟩
  · rw [z] at lz
    have lz : 0 = ds.length := lz
    omega
  · obtain ⟨d, m, h⟩ := dpa_mem hd hx
    exact q x d H' w' h m
theorem acc_nil {P : Nat × TE → Prop} : ∀ p ∈ ([] : List (Nat × TE)), P p := fun _ h => nomatch h
theorem acc_one {P : Nat × TE → Prop} {x : Nat × TE} (h : P x) : ∀ p ∈ [x], P p := fun p hp => by
  rw [List.mem_singleton.mp hp]
  exact h
theorem acc_app {P : Nat × TE → Prop} {as bs : List (Nat × TE)} (h1 : ∀ p ∈ as, P p) (h2 : ∀ p ∈ bs, P p) : ∀ p ∈ as ++ bs, P p := fun p hp => (List.mem_append.mp hp).elim (h1 p) (h2 p)
/-- x + [y, ..], these made -/
theorem dcat_vs {K : PySem.W.Frag} {W : Hp → Hp → Prop} {G H : Hp} {Q : VK} {l : Addr} {xs ys : List V} {ds es : List PyData} (hW : Wo W) (w : W G H) (hl : G l = some (.lst xs)) (hd : DpAll K G xs ds) (hy : DpAll K G ys es) (n1 : ds.length ≤ 1000) (n2 : es.length ≤ 1000)
    (q : ∀ (p : Addr) (zs : List V) (G' H' : Hp), Same G G' → W G' H' → G p = none → G' p = some (.lst zs) → DpAll K G' zs (ds ++ es) → Q (.ref p) H') : ys.length ≤ sizeLine ∧ ∀ p, H p = none → rCat (.ref l) (.ref p) (upd H p (.lst ys)) Q := by
  have lx := DpAll.length hd
  have ly := DpAll.length hy
  refine ⟨le_line (by omega), fun p np => ?_⟩
  have gp := (hW.sm w).free np
  have sn : Same G (upd G p (.lst ys)) := same_new gp
  have w2 := hW.new (o := .lst ys) w np
  refine ⟨l, p, xs, ys, rfl, rfl, hW.sm w2 _ _ (sn _ _ hl), upd_same, le_line (by omega), fun p2 np2 => ?_⟩
  have gp2 := (hW.sm w2).free np2
  have sn2 : Same (upd G p (.lst ys)) (upd (upd G p (.lst ys)) p2 (.lst (xs ++ ys))) := same_new gp2
  have sa := sn.trans sn2
  exact q p2 (xs ++ ys) _ _ sa (hW.new w2 np2) (sn.free gp2) upd_same (dpa_app (DpAll.mono sa hd) (DpAll.mono sa hy))
/-- t + (z,), t a tuple of data -/
theorem acc_catT {K : PySem.W.Frag} {W : Hp → Hp → Prop} (hW : Wo W) {σ : L2.St} {G : Hp} {i : Nat} {a : Addr} {xs : List V} {ds : List PyData} {z : Str} (e : σ[i]? = some (some (.ref a))) (h : SqT K G a xs) (hd : DpAll K G xs ds) (n0 : 1 ≤ ds.length) (n1 : ds.length ≤ 1000) :
    AccW K W (tOp (rCatA K) (tVar i) (tTup (tCons (tC (.str z)) tNil))) σ G (.tuple (ds ++ [.str z])) := fun G' H' Q s w k => by
  refine ⟨_, e, (by show 1 ≤ sizeLine; decide), fun p np => ?_⟩
  have lx := DpAll.length hd
  have gp := (hW.sm w).free np
  have sn : Same G' (upd G' p (.tup [.str z])) := same_new gp
  have w2 := hW.new (o := .tup [.str z]) w np
  refine ⟨a, p, xs, [.str z], rfl, rfl, Same.tup (s.trans (sn.trans (hW.sm w2))) h, SqT.of upd_same, le_line (by show xs.length + 1 ≤ _; omega), fun z => ?_, (fun _ z => nomatch z), fun _ _ p2 np2 => ?_⟩
  · rw [z] at lx
    have lx : 0 = ds.length := lx
    omega
  have gp2 := (hW.sm w2).free np2
  have sn2 : Same (upd G' p (.tup [.str z])) (upd (upd G' p (.tup [.str z])) p2 (.tup (xs ++ [.str z]))) := same_new gp2
  exact k _ _ _ (sn.trans sn2) (hW.new w2 np2) (.tup (SqT.of upd_same) (dpa_app (DpAll.mono (s.trans (sn.trans sn2)) hd) (.cons (.str z) .nil)))
theorem cutV_neg1 (xs : List V) (h : 1 ≤ xs.length) : HT.sIx xs.length xs.length (some (-1)) = xs.length - 1 ∧ cutV xs none (some (-1)) = xs.take (xs.length - 1) := by
  have e : HT.sIx xs.length xs.length (some (-1)) = xs.length - 1 := by
    show (if (-1 : Int) < 0 then ((-1 : Int) + (xs.length : Int)).toNat else min (-1 : Int).toNat xs.length) = _
    rw [if_pos (by decide)]
    omega
  refine ⟨e, ?_⟩
  unfold cutV
  rw [e, HT.sIx_none]
  rfl
/-- t[:-1] + (z,) -/
theorem acc_cutT {K : PySem.W.Frag} {W : Hp → Hp → Prop} (hW : Wo W) {σ : L2.St} {G : Hp} {i : Nat} {a : Addr} {xs : List V} {ds : List PyData} {z : Str} (e : σ[i]? = some (some (.ref a))) (h : SqT K G a xs) (hd : DpAll K G xs ds) (n0 : 1 ≤ ds.length) (n1 : ds.length ≤ 1000) :
    AccW K W (tOp (rCatA K) (tSl (rSlA K) (tVar i) tNoPart (tPart (tUn (rU fun i => V.int (-i)) (tC (.int 1))))) (tTup (tCons (tC (.str z)) tNil))) σ G (.tuple (ds.take (ds.length - 1) ++ [.str z])) := fun G' H' Q s w k => by
  have lx := DpAll.length hd
  obtain ⟨e1, e2⟩ := cutV_neg1 xs (by omega)
  refine ⟨_, e, (1 : Int), rfl, -1, rfl, a, xs, rfl, Same.tup (s.trans (hW.sm w)) h, fun zz => ?_, fun _ p0 np0 => ?_⟩
  · have := zz.2
    rw [e1] at this
    omega
  rw [e2]
  have gp0 := (hW.sm w).free np0
  have s0 : Same G' (upd G' p0 (.tup (xs.take (xs.length - 1)))) := same_new gp0
  have w0 := hW.new (o := .tup (xs.take (xs.length - 1))) w np0
  refine ⟨(by show 1 ≤ sizeLine; decide), fun p np => ?_⟩
  have gp := (hW.sm w0).free np
  have sn := same_new (o := .tup [.str z]) gp
  have w2 := hW.new (o := .tup [.str z]) w0 np
  have ht := sn _ _ (upd_same (H := G') (a := p0) (o := .tup (xs.take (xs.length - 1))))
  have dt := DpAll.take (xs.length - 1) (DpAll.mono (s.trans (s0.trans sn)) hd)
  rw [lx] at dt ht
  rw [lx]
  refine ⟨p0, p, xs.take (ds.length - 1), [.str z], rfl, rfl, SqT.of (by rw [← lx] at ht ⊢; exact hW.sm w2 _ _ ht), SqT.of upd_same, le_line (by rw [List.length_take]; show min _ _ + 1 ≤ _; omega), fun zz => ?_, (fun _ z => nomatch z), fun _ _ p2 np2 => ?_⟩
  · have d0 : ds.take (ds.length - 1) = [] := by
      have := DpAll.length dt
      rw [zz] at this
      exact List.eq_nil_of_length_eq_zero this.symm
    rw [d0] at k
    refine k _ _ _ (s0.trans sn) (by rw [← lx] at *; exact w2) (.tup (SqT.of upd_same) (.cons (.str z) .nil))
  have w2' : W (upd (upd G' p0 (.tup (xs.take (ds.length - 1)))) p (.tup [.str z])) (upd (upd H' p0 (.tup (xs.take (ds.length - 1)))) p (.tup [.str z])) := by
    rw [← lx]
    exact w2
  have s0' : Same G' (upd (upd G' p0 (.tup (xs.take (ds.length - 1)))) p (.tup [.str z])) := by
    rw [← lx]
    exact s0.trans sn
  have gp2 := (hW.sm w2').free np2
  have sn2 : Same (upd (upd G' p0 (.tup (xs.take (ds.length - 1)))) p (.tup [.str z])) (upd (upd (upd G' p0 (.tup (xs.take (ds.length - 1)))) p (.tup [.str z])) p2 (.tup (xs.take (ds.length - 1) ++ [.str z]))) := same_new gp2
  exact k _ _ _ (s0'.trans sn2) (hW.new w2' np2) (.tup (SqT.of upd_same) (dpa_app (DpAll.take _ (DpAll.mono (s.trans (s0'.trans sn2)) hd)) (.cons (.str z) .nil)))
end Bh

set_option Elab.async false
set_option linter.all false
set_option maxRecDepth 100000
set_option maxHeartbeats 1000000
set_option autoImplicit false
namespace Bh
open PySem PySem.Spec PyProof.Rows L2 LamX NdefX
def tS (ds : List PyData) : PyData := .tuple ds
def zS (s : Str) : PyData := .str s
def oddF (n : Str) : List PyData := [.none, .int 3, .str "a", tS [], tS [.str "a"], tS [.str "a", tS [.str "0"]], tS [.str "a", .list [.str "0", .str "1"]], .list [.str "a", tS [.str "0", .str "1"]], tS [.str "A", tS [.str "0", .str "1"]]]
 ++ [tS [.str "", tS [.str "0", .str "1"]], tS [.str "abcdefghi", tS [.str "0", .str "1"]], tS [.none, tS [.str "0", .str "1"]], tS [.str "a", tS [.str "0", .str "0"]], tS [.str "a", tS [.str "0", .str ""]]]
 ++ [tS [.str "a", tS [.str "0", .str "A"]], tS [.str "a", tS [.str "0", .int 1]], tS [.str "a", .str "01"], tS [.str "a", tS [.str "0", .str "1", .str "2", .str "3", .str "4", .str "5", .str "6"]]]
def oddF2 (n : Str) : List PyData := [tS [.str n, tS [.str "0", .str "1", .str "2"]], tS [.str "a", tS [.str "0", .str "1"], tS []]]
def spOddField (K : PySem.W.Frag) : Sp := fun vs H Q _ => ∃ (b l a : Addr) (G : Hp) (xs : List V) (fs : List Fld) (f : Fld), vs = [.ref b, .ref a] ∧ SqL K G a xs ∧ Paired (FdAt K G) xs fs ∧ fs[0]? = some f ∧ Wd b l G H ∧
  ∀ (G' H' : Hp) (y : V) (d : PyData), Same G G' → Wd b l G' H' → Dp K G' y d → d ∈ oddF f.1 ++ oddF2 f.1 → Q y H'
section
variable {P : Program} {w : World} {K : PySem.W.Frag} {mg : Str → Option Value} {base : Heap}
theorem ok_oddfield (T : Top K mg) : FnOk P w K mg base CX0 4 T.a_l_odd_field T.fd_l_odd_field ["_law_bag_here", "_law_fields_here"] (spOddField K) := by
  have G_l_draw := ok_draw (P := P) (w := w) (base := base) T
  have G_l_any := ok_any (P := P) (w := w) (base := base) T
  refine T.d_l_odd_field.F.ok sc_l_odd_field (fun vs H Q E h => ?_) (fun cdv A outer s H vs Q E hr h => ?_)
  · obtain ⟨b, l, a, G, xs, fs, f, rfl, _⟩ := h
    rfl
  obtain ⟨b, l, a, G, xs, fs, f, rfl, hS, hF, ef, wd, q⟩ := h
  refine ⟨_, (pss_cons (ps_set (i := 2) sc_l_odd_field.nd rfl (Or.inl rfl) (pe_ix (ix_tup_K (K := K) (by rfl)) (pe_ix (ix_list_K (K := K) (by rfl)) (pv 1) pe_int (fun _ _ => rfl)) pe_int (fun _ _ => rfl)))
    (pss_cons (ps_set (i := 3) sc_l_odd_field.nd rfl (Or.inl rfl) (pe_lst (pds_cons (K := K) pd_non (pds_cons pd_int (pds_cons pd_str (pds_cons (pd_tup pds_nil) (pds_cons (pd_tup (pds_cons pd_str pds_nil)) (pds_cons (pd_tup (pds_cons pd_str (pds_cons (pd_tup (pds_cons pd_str pds_nil)) pds_nil))) (pds_cons (pd_tup (pds_cons pd_str (pds_cons (pd_lst (pds_cons pd_str (pds_cons pd_str pds_nil))) pds_nil))) (pds_cons (pd_lst (pds_cons pd_str (pds_cons (pd_tup (pds_cons pd_str (pds_cons pd_str pds_nil))) pds_nil))) (pds_cons (pd_tup (pds_cons pd_str (pds_cons (pd_tup (pds_cons pd_str (pds_cons pd_str pds_nil))) pds_nil))) pds_nil)))))))))))
    (pss_cons (ps_set (i := 3) sc_l_odd_field.nd rfl (Or.inl rfl) (pe_op op_cat (pv 3) (pe_lst (pds_cons (K := K) (pd_tup (pds_cons pd_str (pds_cons (pd_tup (pds_cons pd_str (pds_cons pd_str pds_nil))) pds_nil))) (pds_cons (pd_tup (pds_cons pd_str (pds_cons (pd_tup (pds_cons pd_str (pds_cons pd_str pds_nil))) pds_nil))) (pds_cons (pd_tup (pds_cons pd_non (pds_cons (pd_tup (pds_cons pd_str (pds_cons pd_str pds_nil))) pds_nil))) (pds_cons (pd_tup (pds_cons pd_str (pds_cons (pd_tup (pds_cons pd_str (pds_cons pd_str pds_nil))) pds_nil))) (pds_cons (pd_tup (pds_cons pd_str (pds_cons (pd_tup (pds_cons pd_str (pds_cons pd_str pds_nil))) pds_nil))) pds_nil))))))))
    (pss_cons (ps_set (i := 3) sc_l_odd_field.nd rfl (Or.inl rfl) (pe_op op_cat (pv 3) (pe_lst (pds_cons (K := K) (pd_tup (pds_cons pd_str (pds_cons (pd_tup (pds_cons pd_str (pds_cons pd_str pds_nil))) pds_nil))) (pds_cons (pd_tup (pds_cons pd_str (pds_cons (pd_tup (pds_cons pd_str (pds_cons pd_int pds_nil))) pds_nil))) (pds_cons (pd_tup (pds_cons pd_str (pds_cons pd_str pds_nil))) (pds_cons (pd_tup (pds_cons pd_str (pds_cons (pd_tup (pds_cons pd_str (pds_cons pd_str (pds_cons pd_str (pds_cons pd_str (pds_cons pd_str (pds_cons pd_str (pds_cons pd_str pds_nil)))))))) pds_nil))) pds_nil)))))))
    (pss_one (ps_ret (pe_call G_l_any (hr.mono (by decide)) (by rfl) T.d_l_any.g T.d_l_any.kp T.d_l_any.b .nil pass0 (pa_cons (pv 0) (pa_cons (pe_op op_cat (pv 3) (pe_lst (pa_cons (pe_ifExp (pt_cmpR op_eq (pe_call G_l_draw (hr.mono (by decide)) (by rfl) T.d_l_draw.g T.d_l_draw.kp T.d_l_draw.b .nil pass0 (pa_cons (pv 0) (pa_cons pe_int pa_nil))) pe_int (nomark _)) (pd_tup (K := K) (pds_cons (pd_acc 2 (pv 2)) (pds_cons (pd_tup (pds_cons pd_str (pds_cons pd_str (pds_cons pd_str pds_nil)))) pds_nil))) (pd_tup (K := K) (pds_cons pd_str (pds_cons (pd_tup (pds_cons pd_str (pds_cons pd_str pds_nil))) (pds_cons (pd_tup pds_nil) pds_nil))))) pa_nil))) pa_nil))))))))), ?_⟩
  obtain ⟨x', ex', hfd⟩ := fds_get hF ef
  obtain ⟨t, o, rfl, k1, k2⟩ := hfd
  refine ⟨_, rfl, a, xs, (0 : Int), .ref t, rfl, rfl, wd.sm.seq hS, at_nn (by decide) ex', t, _, (0 : Int), .str f.1, rfl, rfl, Same.tup wd.sm k1, at_nn (by decide) rfl, ?_⟩
  refine gn_step ?_
  try dsimp only
  refine sq_asg ?_
  refine dlst_step (W := Wd b l) (fun _ => .str f.1) (wo_wd b l) wd (fun p hp => ?_) (by decide) (fun p1 z1 G1 H1 s1 w1 n1 h1 d1 => ?_)
  · cases hp
  refine gn_step ?_
  try dsimp only
  refine sq_asg ?_
  refine dcat_step (W := Wd b l) (fun _ => .str f.1) (wo_wd b l) w1 rfl h1 d1 (fun p hp => ?_) (by decide) (by decide) (fun p2 z2 G2 H2 s2 w2 n2 h2 d2 => ?_)
  · cases hp
  refine gn_step ?_
  try dsimp only
  refine sq_asg ?_
  refine dcat_step (W := Wd b l) (fun _ => .str f.1) (wo_wd b l) w2 rfl h2 d2 (fun p hp => ?_) (by decide) (by decide) (fun p3 z3 G3 H3 s3 w3 n3 h3 d3 => ?_)
  · cases hp
  refine gn_step ?_
  try dsimp only
  refine ⟨_, rfl, _, rfl, _, rfl, b, l, _, 2, rfl, by decide, by decide, w3, fun r H4 r0 r1 w4 => ⟨rfl, _, rfl, ?_⟩⟩
  refine meet3 (fun y H' => ∃ (G' : Hp) (d : PyData), Same G3 G' ∧ Wd b l G' H' ∧ Dp K G' y d ∧ d ∈ oddF2 f.1) (fun k' hk' => ?_) fun y H5 ⟨G5, d, s5, w5, hd, hm⟩ => ?_
  · refine ite3 (fun e => ?_) (fun e => ?_)
    · refine ⟨Wd b l, wo_wd b l, fun _ => .str f.1, G3, w4, fun p hp => ?_, fun v G' H' s' w' hv => hk' _ _ ⟨G', _, s', w', hv, List.mem_cons_self ..⟩⟩
      cases List.mem_singleton.mp hp
      exact acc_var rfl (.str _)
    · refine ⟨Wd b l, wo_wd b l, fun _ => .str f.1, G3, w4, (fun p hp => by cases hp), fun v G' H' s' w' hv => hk' _ _ ⟨G', _, s', w', hv, List.mem_cons_of_mem _ (List.mem_cons_self ..)⟩⟩
  refine dcat_one (wo_wd b l) w5 (s5 _ _ h3) (DpAll.mono s5 d3) hd (by decide) fun p6 z6 G6 H6 s6 w6 _ h6 d6 => ?_
  refine any_of w6 h6 d6 (Nat.le_of_ble_eq_true rfl) (Nat.le_of_ble_eq_true rfl) fun y6 d6 H7 w7 hy m => q G6 H7 y6 d6 (s1.trans (s2.trans (s3.trans (s5.trans s6)))) w7 hy ?_
  rcases List.mem_append.mp m with m | m
  · exact List.mem_append_left _ m
  · rw [List.mem_singleton.mp m]
    exact List.mem_append_right _ hm
end
end Bh

set_option Elab.async false
set_option linter.all false
set_option maxRecDepth 100000
set_option maxHeartbeats 2000000
set_option autoImplicit false
namespace Bh
open PySem PySem.Spec PyProof.Rows L2 LamX NdefX
def oddC (n o : Str) : List PyData := [.none, .tuple [], .tuple [.tuple []], .tuple [.tuple [], .tuple [], .tuple []], .list [.tuple [], .tuple []], .tuple [.list [], .tuple []], .tuple [.tuple [], .list []], .tuple [.tuple [.tuple [.str n, .str "=", .str "none"]], .tuple []]] ++ [.tuple [.tuple [.tuple [.str "Z", .str "=", .str o]], .tuple []], .tuple [.tuple [.tuple [.str n, .str "==", .str o]], .tuple []], .tuple [.tuple [.str n, .str "="], .tuple []]] ++ [.tuple [.tuple [], .tuple [.tuple [.str n, .str "none"]]], .tuple [.tuple [], .tuple [.tuple [.str "Z", .str "+"]]], .tuple [.tuple [], .tuple [.tuple [.str n, .str "-"]]], .tuple [.tuple [], .tuple [.tuple [.str n]]], .tuple [.tuple [], .tuple [.str n]]] ++ [.tuple [.tuple (List.replicate (7 : Int).toNat [.tuple [.str n, .str "=", .str o]]).flatten, .tuple []], .tuple [.tuple [], .tuple (List.replicate (7 : Int).toNat [.tuple [.str n, .str "+"]]).flatten], .tuple [.tuple [], .bool true], .tuple [.none, .tuple []]] ++ [.tuple [.tuple [.tuple [.str n, .none, .str o]], .tuple []], .tuple [.tuple [], .tuple [.tuple [.str n, .list [.str "+"]]]]]
def oddT (g : List PyData) : List PyData := [.none, .int 3, .tuple [], .tuple [.str "Z", .tuple g], .tuple [.str "", .tuple g], .tuple [.str "a"], .tuple [.str "a", .tuple []], .tuple [.str "a", .tuple g, .tuple []], .list [.str "a", .tuple g], .tuple [.str "a", .list g]] ++ [.tuple [.str "a", .tuple [.tuple []]], .tuple [.str "a", .tuple (List.replicate (9 : Int).toNat [.tuple [.tuple [], .tuple []]]).flatten], .tuple [.int 3, .tuple g], .tuple [.list [.str "a"], .tuple g]]
def oddK (n : Str) (v : List PyData) (c : PyData) : List PyData := [.none, .tuple [], .tuple [.str "A", .tuple [], .none, .none], .tuple [.str "a", .tuple [], .none], .tuple [.str "a", .tuple [], .none, .none, .none], .list [.str "a", .tuple [], .none, .none]] ++ [.tuple [.str "a", .list [], .none, .none], .tuple [.str "a", .tuple [.tuple [.str n, .str "="]], .none, .none], .tuple [.str "a", .tuple [.tuple [.str "Z", .str "+"]], .none, .none]] ++ [.tuple [.str "a", .tuple [.tuple [.str n, .str "+"], .tuple [.str n, .str "-"]], .none, .none], .tuple [.str "a", .tuple [.str n], .none, .none], .tuple [.str "a", .tuple [], .tuple [], .none]] ++ [.tuple [.str "a", .tuple [], .tuple [c], .none], .tuple [.str "a", .tuple [], .list [.tuple [.tuple [], .tuple []]], .none], .tuple [.str "a", .tuple [], .none, .tuple []]] ++ [.tuple [.str "a", .tuple [], .none, .tuple (v ++ [.str "0"])], .tuple [.str "a", .tuple [], .none, .list v], .tuple [.str "a", .tuple [], .none, .tuple (v.take (v.length - 1) ++ [.str "none"])]] ++ [.tuple [.str "a", .tuple [], .tuple (List.replicate (9 : Int).toNat [.tuple [.tuple [], .tuple []]]).flatten, .none], .tuple [.str "a", .tuple [], .none, .bool false], .tuple [.none, .tuple [], .none, .none]]
def spOddCase (K : PySem.W.Frag) : Sp := fun vs H Q _ => ∃ (b l a : Addr) (G : Hp) (xs : List V) (fs : List Fld) (f : Fld) (o : Str), vs = [.ref b, .ref a] ∧ SqL K G a xs ∧ Paired (FdAt K G) xs fs ∧ fs[0]? = some f ∧ f.2[0]? = some o ∧ Wd b l G H ∧
  ∀ (G' H' : Hp) (y : V) (d : PyData), Same G G' → Wd b l G' H' → Dp K G' y d → d ∈ oddC f.1 o → Q y H'
section
variable {P : Program} {w : World} {K : PySem.W.Frag} {mg : Str → Option Value} {base : Heap}
theorem acc_ix0 {W : Hp → Hp → Prop} (hW : Wo W) {σ : L2.St} {G : Hp} {i : Nat} {o : Addr} {os : List Str} {z : Str} (e : σ[i]? = some (some (.ref o))) (h : SqT K G o (os.map V.str)) (h0 : os[0]? = some z) : AccW K W (tOp (rIxT K) (tVar i) (tC (.int 0))) σ G (.str z) :=
  fun G' H' Q s w k => ⟨_, e, o, _, (0 : Int), .str z, rfl, rfl, Same.tup (s.trans (hW.sm w)) h, at_nn (by decide) (by rw [show (0 : Int).toNat = 0 from rfl, List.getElem?_map, h0]; rfl), k _ G' H' (Same.refl _) w (.str _)⟩
theorem ok_oddcase (T : Top K mg) : FnOk P w K mg base CX0 4 T.a_l_odd_case T.fd_l_odd_case ["_law_bag_here", "_law_fields_here"] (spOddCase K) := by
  have G_l_any := ok_any (P := P) (w := w) (base := base) T
  refine T.d_l_odd_case.F.ok sc_l_odd_case (fun vs H Q E h => ?_) (fun cdv A outer s H vs Q E hr h => ?_)
  · obtain ⟨b, l, a, G, xs, fs, f, o, rfl, _⟩ := h
    rfl
  obtain ⟨b, l, a, G, xs, fs, f, z, rfl, hS, hF, ef, eo, wd, q⟩ := h
  refine ⟨_, (pss_cons (ps_asg (pe_ix (ix_list_K (K := K) (by rfl)) (pv 1) pe_int (fun _ _ => rfl)) (pg_tup_K (K := K) (by rfl) (n := 2) (by rfl) (pgs_cons (pg_name (i := 2) sc_l_odd_case.nd rfl (Or.inl rfl)) (pgs_cons (pg_name (i := 3) sc_l_odd_case.nd rfl (Or.inl rfl)) pgs_nil))))
    (pss_cons (ps_set (i := 4) sc_l_odd_case.nd rfl (Or.inl rfl) (pe_lst (pds_cons (K := K) pd_non (pds_cons (pd_tup pds_nil) (pds_cons (pd_tup (pds_cons (pd_tup pds_nil) pds_nil)) (pds_cons (pd_tup (pds_cons (pd_tup pds_nil) (pds_cons (pd_tup pds_nil) (pds_cons (pd_tup pds_nil) pds_nil)))) (pds_cons (pd_lst (pds_cons (pd_tup pds_nil) (pds_cons (pd_tup pds_nil) pds_nil))) (pds_cons (pd_tup (pds_cons (pd_lst pds_nil) (pds_cons (pd_tup pds_nil) pds_nil))) (pds_cons (pd_tup (pds_cons (pd_tup pds_nil) (pds_cons (pd_lst pds_nil) pds_nil))) (pds_cons (pd_tup (pds_cons (pd_tup (pds_cons (pd_tup (pds_cons (pd_acc 2 (pv 2)) (pds_cons pd_str (pds_cons pd_str pds_nil)))) pds_nil)) (pds_cons (pd_tup pds_nil) pds_nil))) pds_nil))))))))))
    (pss_cons (ps_set (i := 4) sc_l_odd_case.nd rfl (Or.inl rfl) (pe_op op_cat (pv 4) (pe_lst (pds_cons (K := K) (pd_tup (pds_cons (pd_tup (pds_cons (pd_tup (pds_cons pd_str (pds_cons pd_str (pds_cons (pd_acc 100 (pe_ix (ix_tup_K (K := K) (by rfl)) (pv 3) pe_int (fun _ _ => rfl))) pds_nil)))) pds_nil)) (pds_cons (pd_tup pds_nil) pds_nil))) (pds_cons (pd_tup (pds_cons (pd_tup (pds_cons (pd_tup (pds_cons (pd_acc 2 (pv 2)) (pds_cons pd_str (pds_cons (pd_acc 100 (pe_ix (ix_tup_K (K := K) (by rfl)) (pv 3) pe_int (fun _ _ => rfl))) pds_nil)))) pds_nil)) (pds_cons (pd_tup pds_nil) pds_nil))) (pds_cons (pd_tup (pds_cons (pd_tup (pds_cons (pd_acc 2 (pv 2)) (pds_cons pd_str pds_nil))) (pds_cons (pd_tup pds_nil) pds_nil))) pds_nil))))))
    (pss_cons (ps_set (i := 4) sc_l_odd_case.nd rfl (Or.inl rfl) (pe_op op_cat (pv 4) (pe_lst (pds_cons (K := K) (pd_tup (pds_cons (pd_tup pds_nil) (pds_cons (pd_tup (pds_cons (pd_tup (pds_cons (pd_acc 2 (pv 2)) (pds_cons pd_str pds_nil))) pds_nil)) pds_nil))) (pds_cons (pd_tup (pds_cons (pd_tup pds_nil) (pds_cons (pd_tup (pds_cons (pd_tup (pds_cons pd_str (pds_cons pd_str pds_nil))) pds_nil)) pds_nil))) (pds_cons (pd_tup (pds_cons (pd_tup pds_nil) (pds_cons (pd_tup (pds_cons (pd_tup (pds_cons (pd_acc 2 (pv 2)) (pds_cons pd_str pds_nil))) pds_nil)) pds_nil))) (pds_cons (pd_tup (pds_cons (pd_tup pds_nil) (pds_cons (pd_tup (pds_cons (pd_tup (pds_cons (pd_acc 2 (pv 2)) pds_nil)) pds_nil)) pds_nil))) (pds_cons (pd_tup (pds_cons (pd_tup pds_nil) (pds_cons (pd_tup (pds_cons (pd_acc 2 (pv 2)) pds_nil)) pds_nil))) pds_nil))))))))
    (pss_cons (ps_set (i := 4) sc_l_odd_case.nd rfl (Or.inl rfl) (pe_op op_cat (pv 4) (pe_lst (pds_cons (K := K) (pd_tup (pds_cons (pd_rep (K := K) (by rfl) (pds_cons (pd_tup (pds_cons (pd_acc 2 (pv 2)) (pds_cons pd_str (pds_cons (pd_acc 100 (pe_ix (ix_tup_K (K := K) (by rfl)) (pv 3) pe_int (fun _ _ => rfl))) pds_nil)))) pds_nil)) (pds_cons (pd_tup pds_nil) pds_nil))) (pds_cons (pd_tup (pds_cons (pd_tup pds_nil) (pds_cons (pd_rep (K := K) (by rfl) (pds_cons (pd_tup (pds_cons (pd_acc 2 (pv 2)) (pds_cons pd_str pds_nil))) pds_nil)) pds_nil))) (pds_cons (pd_tup (pds_cons (pd_tup pds_nil) (pds_cons pd_bl pds_nil))) (pds_cons (pd_tup (pds_cons pd_non (pds_cons (pd_tup pds_nil) pds_nil))) pds_nil)))))))
    (pss_one (ps_ret (pe_call G_l_any (hr.mono (by decide)) (by rfl) T.d_l_any.g T.d_l_any.kp T.d_l_any.b .nil pass0 (pa_cons (pv 0) (pa_cons (pe_op op_cat (pv 4) (pe_lst (pds_cons (K := K) (pd_tup (pds_cons (pd_tup (pds_cons (pd_tup (pds_cons (pd_acc 2 (pv 2)) (pds_cons pd_non (pds_cons (pd_acc 100 (pe_ix (ix_tup_K (K := K) (by rfl)) (pv 3) pe_int (fun _ _ => rfl))) pds_nil)))) pds_nil)) (pds_cons (pd_tup pds_nil) pds_nil))) (pds_cons (pd_tup (pds_cons (pd_tup pds_nil) (pds_cons (pd_tup (pds_cons (pd_tup (pds_cons (pd_acc 2 (pv 2)) (pds_cons (pd_lst (pds_cons pd_str pds_nil)) pds_nil))) pds_nil)) pds_nil))) pds_nil)))) pa_nil)))))))))), ?_⟩
  obtain ⟨x', ex', hfd⟩ := fds_get hF ef
  obtain ⟨t, o, rfl, k1, k2⟩ := hfd
  have hW := wo_wd b l
  refine ⟨_, rfl, a, xs, (0 : Int), .ref t, rfl, rfl, wd.sm.seq hS, at_nn (by decide) ex', t, _, rfl, Same.tup wd.sm k1, rfl, _, _, rfl, _, _, rfl, rfl, ?_⟩
  let ρ : Nat → PyData := fun i => if i = 100 then .str z else .str f.1
  have kk := k2.sqT
  try dsimp only
  refine sq_asg ?_
  refine dlst_step (W := Wd b l) ρ hW wd ?_ (Nat.le_of_ble_eq_true rfl) (fun p1 z1 G1 H1 s1 w1 n1 h1 d1 => ?_)
  · repeat' (first | exact acc_nil | refine acc_app ?_ ?_ | refine acc_one ?_ | exact acc_var rfl (.str _) | exact acc_ix0 hW rfl kk eo)
  have kk := Same.tup s1 kk
  refine gn_step ?_
  try dsimp only
  refine sq_asg ?_
  refine dcat_step (W := Wd b l) ρ hW w1 rfl h1 d1 ?_ (Nat.le_of_ble_eq_true rfl) (Nat.le_of_ble_eq_true rfl) (fun p2 z2 G2 H2 s2 w2 n2 h2 d2 => ?_)
  · repeat' (first | exact acc_nil | refine acc_app ?_ ?_ | refine acc_one ?_ | exact acc_var rfl (.str _) | exact acc_ix0 hW rfl kk eo)
  have kk := Same.tup s2 kk
  refine gn_step ?_
  try dsimp only
  refine sq_asg ?_
  refine dcat_step (W := Wd b l) ρ hW w2 rfl h2 d2 ?_ (Nat.le_of_ble_eq_true rfl) (Nat.le_of_ble_eq_true rfl) (fun p3 z3 G3 H3 s3 w3 n3 h3 d3 => ?_)
  · repeat' (first | exact acc_nil | refine acc_app ?_ ?_ | refine acc_one ?_ | exact acc_var rfl (.str _) | exact acc_ix0 hW rfl kk eo)
  have kk := Same.tup s3 kk
  refine gn_step ?_
  try dsimp only
  refine sq_asg ?_
  refine dcat_step (W := Wd b l) ρ hW w3 rfl h3 d3 ?_ (Nat.le_of_ble_eq_true rfl) (Nat.le_of_ble_eq_true rfl) (fun p4 z4 G4 H4 s4 w4 n4 h4 d4 => ?_)
  · repeat' (first | exact acc_nil | refine acc_app ?_ ?_ | refine acc_one ?_ | exact acc_var rfl (.str _) | exact acc_ix0 hW rfl kk eo)
  have kk := Same.tup s4 kk
  refine gn_step ?_
  try dsimp only
  refine ⟨_, rfl, ?_⟩
  refine dcat_step (W := Wd b l) ρ hW w4 rfl h4 d4 ?_ (Nat.le_of_ble_eq_true rfl) (Nat.le_of_ble_eq_true rfl) (fun p5 z5 G5 H5 s5 w5 n5 h5 d5 => ?_)
  · repeat' (first | exact acc_nil | refine acc_app ?_ ?_ | refine acc_one ?_ | exact acc_var rfl (.str _) | exact acc_ix0 hW rfl kk eo)
  exact any_of w5 h5 d5 (Nat.le_of_ble_eq_true rfl) (Nat.le_of_ble_eq_true rfl) fun y d H7 w7 hy m => q G5 H7 y d (s1.trans (s2.trans (s3.trans (s4.trans s5)))) w7 hy m
end
end Bh

set_option Elab.async false
set_option linter.all false
set_option maxRecDepth 100000
set_option maxHeartbeats 1000000
namespace Bh
open PySem PySem.Spec PyProof.Rows L2
def spVals5 (K : PySem.W.Frag) : Sp := fun vs H Q _ => ∃ (a : Addr) (xs : List V) (fs : List Fld), vs = [.ref a] ∧ SqL K H a xs ∧ DpAll K H xs (fs.map dF) ∧ fs.length ≤ 3 ∧ (∀ f ∈ fs, f.2.length ≤ 6) ∧
  ∀ (H' : Hp) (p : Addr) (ys : List V), Same H H' → H p = none → H' p = some (.lst ys) → DpAll K H' ys ((vals fs).map dV) → Q (.ref p) H'
/-- all that stands there, but the bag -/
theorem wd_max {b l : Addr} {G H H' : Hp} (w : Wd b l G H) (s : Same H H') : Wd b l (hid b (hid l H')) H' ∧ Same G (hid b (hid l H')) ∧ Imm H' (hid b (hid l H')) := by
  have g := w.bag.same s
  have nb : ∀ {a : Addr} {o : HO}, G a = some o → a ≠ b := fun e z => by
    rw [z, w.nb] at e
    cases e
  have nl : ∀ {a : Addr} {o : HO}, G a = some o → a ≠ l := fun e z => by
    rw [z, w.nl] at e
    cases e
  refine ⟨⟨if_pos rfl, ?_, hid_le.trans hid_le, g⟩, fun a o e => ?_, fun a o e n => ?_⟩
  · unfold hid
    split
    · rfl
    · exact if_pos rfl
  · rw [hid_ne (nb e), hid_ne (nl e)]
    exact s _ _ (w.sm _ _ e)
  · obtain ⟨ns, i, c, s, h1, h2, _⟩ := g
    have ab : a ≠ b := fun z => by
      rw [z, h1] at e
      exact n _ (Option.some.inj e).symm
    have al : a ≠ l := fun z => by
      rw [z, h2] at e
      exact n _ (Option.some.inj e).symm
    rw [hid_ne ab, hid_ne al]
    exact e
section
variable {P : Program} {w : World} {K : PySem.W.Frag} {mg : Str → Option Value} {base : Heap}
theorem ok_values5 (T : Top K mg) : FnOk P w K mg base CX0 1 T.a_l_values T.fd_l_values ["_law_fields_here"] (spVals5 K) := by
  refine T.d_l_values.F.ok sc_l_values (fun vs H Q E h => ?_) (fun cdv A outer s H vs Q E hr h => ?_)
  · obtain ⟨a, xs, fs, rfl, _⟩ := h
    rfl
  obtain ⟨a, xs, fs, rfl, hS, hF, le3, six, q⟩ := h
  refine ⟨_, (pss_cons (ps_set (i := 1) sc_l_values.nd rfl (Or.inl rfl) (pe_lst (pa_cons (pe_tup pa_nil) pa_nil)))
    (pss_cons (ps_for PassesOwn.never rfl (pi_list_K (K := K) (by rfl) (pv 0)) (pg_tup_K (K := K) (by rfl) (n := 2) (by rfl) (pgs_cons (pg_name (i := 2) sc_l_values.nd rfl (Or.inl rfl)) (pgs_cons (pg_name (i := 3) sc_l_values.nd rfl (Or.inl rfl)) pgs_nil)))
      (pss_cons (ps_set (i := 4) sc_l_values.nd rfl (Or.inl rfl) (pe_lst pa_nil))
      (pss_cons (ps_for PassesOwn.never rfl (pi_list_K (K := K) (by rfl) (pv 1)) (pg_name (i := 5) sc_l_values.nd rfl (Or.inr rfl))
        (pss_one (ps_set (i := 4) sc_l_values.nd rfl (Or.inl rfl) (pe_op op_cat (pv 4) (pe_lc (own := [("_law_option", 6)]) rfl sc_l_values.nd (pi_tup_K (K := K) (by rfl) (pv 3)) (blkOk_by (own := [("_law_option", 6)]) (N := ["_law_fields_here", "_law_found", "_law_name", "_law_options_here", "_law_longer", "_law_value_here", "_law_option"]) (sc := defScope s_l_values) (by decide +kernel)) (fun _ _ _ _ _ => by exact (pg_name (i := 6) sc_l_values.nd rfl (Or.inl rfl))) (fun _ _ _ _ _ => by exact pts_nil) (fun _ _ _ _ _ => by exact (pe_op (op_catA_K (K := K) (by rfl)) (pv 5) (pe_tup (pa_cons (pv 6) pa_nil)))))))))
      (pss_one (ps_set (i := 1) sc_l_values.nd rfl (Or.inl rfl) (pv 4))))))
    (pss_one (ps_ret (pv 1))))), ?_⟩
  have lxs : xs.length = fs.length := by rw [DpAll.length hF, List.length_map]
  have big : ∀ i, i ≤ 3 → (vals (fs.take i)).length ≤ 216 := fun i hi => Nat.le_trans (vals_len six i) (Nat.pow_le_pow_right (by decide) hi)
  refine ⟨Nat.zero_le _, fun e ne => ⟨(by show 1 ≤ sizeLine; decide), fun p0 np0 => ?_⟩⟩
  have se : Same H (upd H e (.tup [])) := same_new ne
  have sp : Same H (upd (upd H e (.tup [])) p0 (.lst [.ref e])) := se.trans (same_new np0)
  refine ⟨_, rfl, a, rfl, ⟨_, sp.seq hS⟩, for_it walk_list (fun i σ H' => ∃ x2 x3 x4 x5 x6 p ys, σ = [some (.ref a), some (.ref p), x2, x3, x4, x5, x6] ∧ Same H H' ∧ H' p = some (.lst ys) ∧ DpAll K H' ys ((vals (fs.take i)).map dV) ∧ H p = none)
    ⟨none, none, none, none, none, p0, [.ref e], rfl, sp, upd_same, .cons (.tup (.inl (.inl ((upd_ne (ne_of_none upd_same np0)).trans upd_same))) .nil) .nil, se.free np0⟩ (fun i σ H' _ ⟨_, _, _, _, _, _, _, _, e, _⟩ => e.seq hS) ?_ ?_⟩
  · rintro i x σ H' H'' hi ⟨x2, x3, x4, x5, x6, p, ys, rfl, s1, hp, hD, np⟩ ⟨rfl, ex⟩
    have hi3 : i < fs.length := by omega
    have hf : fs[i]? = some fs[i] := List.getElem?_eq_getElem hi3
    obtain ⟨d', ed', hfd⟩ := DpAll.get hF ex
    rw [List.getElem?_map, hf] at ed'
    cases ed'
    have six' := six fs[i] (List.getElem_mem hi3)
    have lys : ys.length = (vals (fs.take i)).length := by rw [DpAll.length hD, List.length_map]
    have b216 : (vals (fs.take i)).length * fs[i].2.length ≤ 216 := by
      have k := big (i + 1) (by omega)
      rw [vals_take hf] at k
      unfold ext1 at k
      rw [flat_len] at k
      exact k
    obtain ⟨t, o, rfl, k1, k2⟩ := dp_dF (Dp.mono s1 hfd)
    refine ⟨t, _, rfl, k1, rfl, _, _, rfl, _, _, rfl, rfl, ?_⟩
    refine ⟨Nat.zero_le _, fun q0 nq0 => ?_⟩
    have sq : Same H'' (upd H'' q0 (.lst [])) := same_new nq0
    refine ⟨_, rfl, p, rfl, ⟨_, SqL.of (sq _ _ hp)⟩, for_it walk_list (fun j σ H2 => ∃ x5 x6 qq zs, σ = [some (.ref a), some (.ref p), some (.str fs[i].1), some (.ref o), some (.ref qq), x5, x6] ∧ Same H'' H2 ∧ H2 qq = some (.lst zs) ∧ H'' qq = none ∧
        DpAll K H2 zs ((ext1 ((vals (fs.take i)).take j) fs[i]).map dV))
      ⟨x5, x6, q0, [], rfl, sq, upd_same, nq0, .nil⟩ (fun j σ H2 _ ⟨_, _, _, _, _, e, _⟩ => SqL.of (e _ _ hp)) ?_ ?_⟩
    · rintro j y σ H2 H3 hj ⟨x5, x6, qq, zs, rfl, s2, hq, nq, hE⟩ ⟨rfl, ey⟩
      obtain ⟨d, e1, e2⟩ := DpAll.get hD ey
      rw [List.getElem?_map] at e1
      cases ev : (vals (fs.take i))[j]? with
      | none =>
        rw [ev] at e1
        cases e1
      | some v =>
        rw [ev] at e1
        cases e1
        obtain ⟨ya, rfl, hya⟩ := dp_dV (Dp.mono s2 e2)
        have lv : v.length ≤ 3 := by
          have z := (vals_ok (fs := fs.take i) v (List.mem_of_getElem? ev)).1
          rw [List.length_take] at z
          omega
        refine ⟨_, rfl, _, rfl, o, rfl, ⟨_, Same.tup s2 k2⟩, fun D nD => ?_⟩
        refine lc_it walk_tup (fun m H4 => ∃ ws, Same H3 H4 ∧ H4 D = some (.lst ws) ∧ DpAll K H4 ws (((fs[i].2.take m).map fun o => v ++ [o]).map dV)) ⟨[], same_new nD, upd_same, .nil⟩ (fun m H4 _ ⟨_, e, _⟩ => Same.tup (s2.trans e) k2) ?_ ?_
        · rintro m z H4 H5 hm ⟨ws, s4, hD4, hW⟩ ⟨rfl, ez⟩
          rw [List.getElem?_map] at ez
          cases eo : fs[i].2[m]? with
          | none =>
            rw [eo] at ez
            cases ez
          | some op =>
            rw [eo] at ez
            cases ez
            have hmm : m < fs[i].2.length := (List.getElem?_eq_some_iff.mp eo).1
            have lw : ws.length < sizeLine := lt_line (by rw [DpAll.length hW, List.length_map, List.length_map, List.length_take]; omega)
            refine ⟨rfl, ?_⟩
            refine ⟨_, rfl, _, rfl, (by show 1 ≤ sizeLine; decide), fun t1 n1 => ?_⟩
            have s5 : Same H5 (upd H5 t1 (.tup [.str op])) := same_new n1
            refine ⟨ya, t1, v.map V.str, [.str op], rfl, rfl, Same.tup (s4.trans s5) hya, .inl (.inl upd_same), le_line (by rw [List.length_map]; show _ + 1 ≤ _; omega), fun hnil => ?_, fun _ z => (by cases z), fun hne _ t2 n2 => ?_⟩
            · have vn : v = [] := by simpa using hnil
              subst vn
              have hD5 := s5 _ _ hD4
              have im : Imm (upd H5 t1 (.tup [.str op])) (upd (upd H5 t1 (.tup [.str op])) D (.lst (ws ++ [.ref t1]))) := imm_upd hD5
              refine ⟨ws, hD5, lw, ws ++ [.ref t1], same_mut (s4.trans s5) nD, upd_same, ?_⟩
              rw [List.take_add_one, eo, List.map_append, List.map_append]
              exact dpa_snoc (DpAll.imm im (noLs_map noL_dV _) (DpAll.mono s5 hW)) (Dp.imm im (noL_dV _) (dV_dp (w := [op]) (.inl (.inl upd_same))))
            · have s6 := s5.trans (same_new (o := .tup (v.map V.str ++ [.str op])) n2)
              have hD5 := s6 _ _ hD4
              have im : Imm (upd (upd H5 t1 (.tup [.str op])) t2 (.tup (v.map V.str ++ [.str op]))) (upd (upd (upd H5 t1 (.tup [.str op])) t2 (.tup (v.map V.str ++ [.str op]))) D (.lst (ws ++ [.ref t2]))) := imm_upd hD5
              refine ⟨ws, hD5, lw, ws ++ [.ref t2], same_mut (s4.trans s6) nD, upd_same, ?_⟩
              rw [List.take_add_one, eo, List.map_append, List.map_append]
              exact dpa_snoc (DpAll.imm im (noLs_map noL_dV _) (DpAll.mono s6 hW)) (Dp.imm im (noL_dV _) (dV_dp (w := v ++ [op]) (by rw [List.map_append]; exact .inl (.inl upd_same))))
        · rintro H4 ⟨ws, s4, hD4, hW⟩
          rw [List.length_map, List.take_length] at hW
          have lzs : zs.length = (ext1 ((vals (fs.take i)).take j) fs[i]).length := by rw [DpAll.length hE, List.length_map]
          have lws : ws.length = fs[i].2.length := by rw [DpAll.length hW, List.length_map, List.length_map]
          have lz2 : (ext1 ((vals (fs.take i)).take j) fs[i]).length ≤ 216 := by
            unfold ext1
            rw [flat_len]
            refine Nat.le_trans (Nat.mul_le_mul_right _ ?_) b216
            rw [List.length_take]
            exact Nat.min_le_right _ _
          refine ⟨qq, D, zs, ws, rfl, rfl, s4 _ _ hq, hD4, le_line (by omega), fun c nc => ?_⟩
          have s5 : Same H4 (upd H4 c (.lst (zs ++ ws))) := same_new nc
          refine ⟨_, _, c, zs ++ ws, rfl, s2.trans (s4.trans s5), upd_same, ?_, ?_⟩
          · exact (s2.trans s4).free nc
          have e3 : ext1 ((vals (fs.take i)).take (j + 1)) fs[i] = ext1 ((vals (fs.take i)).take j) fs[i] ++ fs[i].2.map fun o => v ++ [o] := by
            unfold ext1
            rw [List.take_add_one, ev, List.flatMap_append]
            simp
          rw [e3, List.map_append]
          exact DpAll.append (DpAll.mono (s4.trans s5) hE) (DpAll.mono s5 hW)
    · rintro σ H2 ⟨x5, x6, qq, zs, rfl, s2, hq, nq, hE⟩
      rw [lys, List.take_length] at hE
      refine ⟨_, rfl, ?_⟩
      refine ⟨_, _, _, _, _, qq, zs, rfl, s1.trans s2, hq, ?_, s1.free nq⟩
      rw [vals_take hf]
      exact hE
  · rintro σ H' ⟨x2, x3, x4, x5, x6, p, ys, rfl, s1, hp, hD, np⟩
    rw [lxs, List.take_length] at hD
    exact ⟨_, rfl, q H' p ys s1 np hp hD⟩
end
end Bh

set_option Elab.async false
set_option linter.all false
set_option maxRecDepth 100000
set_option maxHeartbeats 2000000
set_option autoImplicit false
namespace Bh
open PySem PySem.Spec PyProof.Rows L2 LamX NdefX
def spOddTie (K : PySem.W.Frag) : Sp := fun vs H Q _ => ∃ (b l t p1 p2 p3 : Addr) (G : Hp) (y1 y2 : List V) (fs : List Fld) (ts : List Tie) (f : Fld) (o : Str) (c : Tie), vs = [.ref b, .ref t] ∧ G t = some (.tup [.ref p1, .ref p2, .ref p3]) ∧ G p1 = some (.lst y1) ∧ G p2 = some (.lst y2) ∧
  Paired (FdAt K G) y1 fs ∧ DpAll K G y2 (ts.map dTie) ∧ fs[0]? = some f ∧ f.2[0]? = some o ∧ ts[0]? = some c ∧ 1 ≤ c.2.length ∧ c.2.length ≤ 8 ∧ Wd b l G H ∧
  ∀ (G' H' : Hp) (y : V) (d : PyData), Same G G' → Wd b l G' H' → Dp K G' y d → (d ∈ oddT (c.2.map dC) ∨ ∃ e ∈ oddC f.1 o, d = .tuple [.str "a", .tuple (c.2.map dC ++ [e])]) → Q y H'
section
variable {P : Program} {w : World} {K : PySem.W.Frag} {mg : Str → Option Value} {base : Heap}
theorem acc_list {W : Hp → Hp → Prop} (hW : Wo W) {σ : L2.St} {G : Hp} {i : Nat} {a : Addr} {xs : List V} {ds : List PyData} (e : σ[i]? = some (some (.ref a))) (h : SqT K G a xs) (hd : DpAll K G xs ds) : AccW K W (tCB (rListOf K) (tCons (tVar i) tNil)) σ G (.list ds) :=
  fun G' H' Q s w k => ⟨_, e, a, xs, rfl, .inr (Same.tup (s.trans (hW.sm w)) h), fun l nl => by
    have gl := (hW.sm w).free nl
    have sn : Same G' (upd G' l (.lst xs)) := same_new gl
    exact k _ _ _ sn (hW.new w nl) (.lst (SqL.of upd_same) (DpAll.mono (s.trans sn) hd))⟩
theorem ok_oddtie (T : Top K mg) : FnOk P w K mg base CX0 6 T.a_l_odd_tie T.fd_l_odd_tie ["_law_bag_here", "_law_m"] (spOddTie K) := by
  have G_l_any := ok_any (P := P) (w := w) (base := base) T
  have G_l_odd_case := ok_oddcase (P := P) (w := w) (base := base) T
  refine T.d_l_odd_tie.F.ok sc_l_odd_tie (fun vs H Q E h => ?_) (fun cdv A outer s H vs Q E hr h => ?_)
  · obtain ⟨b, l, t, p1, p2, p3, G, y1, y2, fs, ts, f, o, c, rfl, _⟩ := h
    rfl
  obtain ⟨b, l, t, p1, p2, p3, G, y1, y2, fs, ts, f, o, c, rfl, gt, g1, g2, hF, hT, ef, eo, ec, c1, c8, wd, q⟩ := h
  refine ⟨_, (pss_cons (ps_set (i := 2) sc_l_odd_tie.nd rfl (Or.inl rfl) (pe_ix (ix_tup_K (K := K) (by rfl)) (pe_ix (ix_list_K (K := K) (by rfl)) (pe_ix (ix_tup_K (K := K) (by rfl)) (pv 1) pe_int (fun _ _ => rfl)) pe_int (fun _ _ => rfl)) pe_int (fun _ _ => rfl)))
    (pss_cons (ps_set (i := 3) sc_l_odd_tie.nd rfl (Or.inl rfl) (pe_lst (pds_cons (K := K) pd_non (pds_cons pd_int (pds_cons (pd_tup pds_nil) (pds_cons (pd_tup (pds_cons pd_str (pds_cons (pd_acc 2 (pv 2)) pds_nil))) (pds_cons (pd_tup (pds_cons pd_str (pds_cons (pd_acc 2 (pv 2)) pds_nil))) (pds_cons (pd_tup (pds_cons pd_str pds_nil)) (pds_cons (pd_tup (pds_cons pd_str (pds_cons (pd_tup pds_nil) pds_nil))) (pds_cons (pd_tup (pds_cons pd_str (pds_cons (pd_acc 2 (pv 2)) (pds_cons (pd_tup pds_nil) pds_nil)))) (pds_cons (pd_lst (pds_cons pd_str (pds_cons (pd_acc 2 (pv 2)) pds_nil))) (pds_cons (pd_tup (pds_cons pd_str (pds_cons (pd_acc 100 (pe_callTy (call_list_of_K (K := K) (by rfl)) (by rfl) T.b_list (by decide +kernel) (pa_cons (pv 2) pa_nil))) pds_nil))) pds_nil))))))))))))
    (pss_cons (ps_set (i := 3) sc_l_odd_tie.nd rfl (Or.inl rfl) (pe_op op_cat (pv 3) (pe_lst (pds_cons (K := K) (pd_tup (pds_cons pd_str (pds_cons (pd_tup (pds_cons (pd_tup pds_nil) pds_nil)) pds_nil))) (pds_cons (pd_tup (pds_cons pd_str (pds_cons (pd_rep (K := K) (by rfl) (pds_cons (pd_tup (pds_cons (pd_tup pds_nil) (pds_cons (pd_tup pds_nil) pds_nil))) pds_nil)) pds_nil))) (pds_cons (pd_tup (pds_cons pd_int (pds_cons (pd_acc 2 (pv 2)) pds_nil))) (pds_cons (pd_tup (pds_cons (pd_lst (pds_cons pd_str pds_nil)) (pds_cons (pd_acc 2 (pv 2)) pds_nil))) pds_nil)))))))
    (pss_one (ps_ret (pe_call G_l_any (hr.mono (by decide)) (by rfl) T.d_l_any.g T.d_l_any.kp T.d_l_any.b .nil pass0 (pa_cons (pv 0) (pa_cons (pe_op op_cat (pv 3) (pe_lst (pa_cons (pe_tup (pa_cons pe_str (pa_cons (pe_op (op_catA_K (K := K) (by rfl)) (pv 2) (pe_tup (pa_cons (pe_call G_l_odd_case (hr.mono (by decide)) (by rfl) T.d_l_odd_case.g T.d_l_odd_case.kp T.d_l_odd_case.b .nil pass0 (pa_cons (pv 0) (pa_cons (pe_ix (ix_tup_K (K := K) (by rfl)) (pv 1) pe_int (fun _ _ => rfl)) pa_nil))) pa_nil))) pa_nil))) pa_nil))) pa_nil)))))))), ?_⟩
  obtain ⟨xt, ext, hxt⟩ := DpAll.getD hT (show (ts.map dTie)[0]? = some (dTie c) by rw [List.getElem?_map, ec]; rfl)
  obtain ⟨tt, us, rfl, k1, k2⟩ := dp_tup hxt
  obtain ⟨u1, r1, rfl, e1, k2⟩ := dpa_cons k2
  obtain ⟨u2, r2, rfl, e2, k2⟩ := dpa_cons k2
  obtain rfl := dpa_nil k2
  obtain rfl := dp_str e1
  obtain ⟨tg, xg, rfl, hg, dg⟩ := dp_tup e2
  have hW := wo_wd b l
  have lg : xg.length = c.2.length := by rw [DpAll.length dg, List.length_map]
  have ht : SqT K H t [.ref p1, .ref p2, .ref p3] := SqT.of (wd.sm _ _ gt)
  refine ⟨_, rfl, t, _, (1 : Int), .ref p2, rfl, rfl, ht, at_nn (by decide) rfl, p2, y2, (0 : Int), .ref tt, rfl, rfl, SqL.of (wd.sm _ _ g2), at_nn (by decide) ext, tt, _, (1 : Int), .ref tg, rfl, rfl, Same.tup wd.sm k1, at_nn (by decide) rfl, ?_⟩
  let ρ : Nat → PyData := fun i => if i = 100 then .list (c.2.map dC) else .tuple (c.2.map dC)
  refine gn_step ?_
  try dsimp only
  refine sq_asg ?_
  refine dlst_step (W := Wd b l) ρ hW wd ?_ (Nat.le_of_ble_eq_true rfl) (fun p1' z1 G1 H1 s1 w1 n1 h1 d1 => ?_)
  · repeat' (first | exact acc_nil | refine acc_app ?_ ?_ | refine acc_one ?_ | exact acc_var rfl (.tup hg dg) | exact acc_list hW rfl hg dg)
  have hg := Same.tup s1 hg
  have dg := DpAll.mono s1 dg
  refine gn_step ?_
  try dsimp only
  refine sq_asg ?_
  refine dcat_step (W := Wd b l) ρ hW w1 rfl h1 d1 ?_ (Nat.le_of_ble_eq_true rfl) (Nat.le_of_ble_eq_true rfl) (fun p2' z2 G2 H2 s2 w2 n2 h2 d2 => ?_)
  · repeat' (first | exact acc_nil | refine acc_app ?_ ?_ | refine acc_one ?_ | exact acc_var rfl (.tup hg dg) | exact acc_list hW rfl hg dg)
  have hg := Same.tup s2 hg
  have dg := DpAll.mono s2 dg
  refine gn_step ?_
  try dsimp only
  have s12 := s1.trans s2
  have ht2 : SqT K H2 t [.ref p1, .ref p2, .ref p3] := SqT.of (w2.sm _ _ (s12 _ _ gt))
  refine ⟨_, rfl, _, rfl, _, rfl, _, rfl, _, rfl, t, _, (0 : Int), .ref p1, rfl, rfl, ht2, at_nn (by decide) rfl, ?_⟩
  refine ⟨b, l, p1, G2, y1, fs, f, o, rfl, SqL.of (s12 _ _ g1), fds_mono s12 hF, ef, eo, w2, fun G3 H3 y e s3 w3 hy me => ?_⟩
  refine ⟨(by show 1 ≤ sizeLine; decide), fun p4 np4 => ?_⟩
  have w4 := w3.new (o := .tup [y]) np4
  have s4 := w3.sameG (o := .tup [y]) np4
  refine ⟨tg, p4, xg, [y], rfl, rfl, Same.tup ((s3.trans s4).trans w4.sm) hg, SqT.of upd_same, le_line (by show xg.length + 1 ≤ _; omega), fun z => ?_, (fun _ z => nomatch z), fun _ _ p5 np5 => ?_⟩
  · rw [z] at lg
    have lg : 0 = c.2.length := lg
    omega
  have w5 := w4.new (o := .tup (xg ++ [y])) np5
  have s5 := w4.sameG (o := .tup (xg ++ [y])) np5
  refine ⟨(by show 2 ≤ sizeLine; decide), fun p6 np6 => ?_⟩
  have w6 := w5.new (o := .tup [.str "a", .ref p5]) np6
  have s6 := w5.sameG (o := .tup [.str "a", .ref p5]) np6
  have sB := s3.trans (s4.trans (s5.trans s6))
  refine dcat_one hW w6 (sB _ _ h2) (DpAll.mono sB d2) (.tup (SqT.of upd_same) (.cons (.str _) (.cons (.tup (SqT.of (s6 _ _ upd_same)) (dpa_app (DpAll.mono sB dg) (.cons (Dp.mono (s4.trans (s5.trans s6)) hy) .nil))) .nil))) (Nat.le_of_ble_eq_true rfl) fun p7 z7 G7 H7 s7 w7 n7 h7 d7 => ?_
  refine any_of w7 h7 d7 (Nat.le_of_ble_eq_true rfl) (Nat.le_of_ble_eq_true rfl) fun y' d H8 w8 hy' m => q G7 H8 y' d (s12.trans (sB.trans s7)) w8 hy' ?_
  rcases List.mem_append.mp m with m | m
  · exact .inl m
  · exact .inr ⟨e, me, List.mem_singleton.mp m⟩
end
end Bh

set_option Elab.async false
set_option linter.all false
set_option maxRecDepth 100000
set_option maxHeartbeats 4000000
set_option autoImplicit false
namespace Bh
open PySem PySem.Spec PyProof.Rows L2 LamX NdefX
def spOddKind (K : PySem.W.Frag) : Sp := fun vs H Q _ => ∃ (b l t p1 p2 p3 : Addr) (G : Hp) (y1 : List V) (fs : List Fld) (f : Fld) (o : Str) (v : List Str), vs = [.ref b, .ref t] ∧ G t = some (.tup [.ref p1, .ref p2, .ref p3]) ∧ G p1 = some (.lst y1) ∧
  Paired (FdAt K G) y1 fs ∧ fs[0]? = some f ∧ f.2[0]? = some o ∧ fs.length ≤ 3 ∧ (∀ f ∈ fs, f.2.length ≤ 6) ∧ (vals fs)[0]? = some v ∧ 1 ≤ v.length ∧ v.length ≤ 3 ∧ Wd b l G H ∧
  ∀ (G' H' : Hp) (y : V) (d c : PyData), Same G G' → Wd b l G' H' → Dp K G' y d → c ∈ oddC f.1 o → d ∈ oddK f.1 (v.map PyData.str) c → Q y H'
section
variable {P : Program} {w : World} {K : PySem.W.Frag} {mg : Str → Option Value} {base : Heap}
theorem ok_oddkind (T : Top K mg) : FnOk P w K mg base CX0 6 T.a_l_odd_kind T.fd_l_odd_kind ["_law_bag_here", "_law_m"] (spOddKind K) := by
  have G_l_any := ok_any (P := P) (w := w) (base := base) T
  have G_l_odd_case := ok_oddcase (P := P) (w := w) (base := base) T
  have G_l_values := ok_values5 (P := P) (w := w) (base := base) T
  refine T.d_l_odd_kind.F.ok sc_l_odd_kind (fun vs H Q E h => ?_) (fun cdv A outer s H vs Q E hr h => ?_)
  · obtain ⟨b, l, t, p1, p2, p3, G, y1, fs, f, o, v, rfl, _⟩ := h
    rfl
  obtain ⟨b, l, t, p1, p2, p3, G, y1, fs, f, o, v, rfl, gt, g1, hF, ef, eo, f3, f6, ev, v1, v3, wd, q⟩ := h
  refine ⟨_, (pss_cons (ps_asg (pe_ix (ix_list_K (K := K) (by rfl)) (pe_ix (ix_tup_K (K := K) (by rfl)) (pv 1) pe_int (fun _ _ => rfl)) pe_int (fun _ _ => rfl)) (pg_tup_K (K := K) (by rfl) (n := 2) (by rfl) (pgs_cons (pg_name (i := 2) sc_l_odd_kind.nd rfl (Or.inl rfl)) (pgs_cons (pg_name (i := 3) sc_l_odd_kind.nd rfl (Or.inl rfl)) pgs_nil))))
    (pss_cons (ps_set (i := 4) sc_l_odd_kind.nd rfl (Or.inl rfl) (pe_ix (ix_list_K (K := K) (by rfl)) (pe_call G_l_values (hr.mono (by decide)) (by rfl) T.d_l_values.g T.d_l_values.kp T.d_l_values.b .nil pass0 (pa_cons (pe_ix (ix_tup_K (K := K) (by rfl)) (pv 1) pe_int (fun _ _ => rfl)) pa_nil)) pe_int (fun _ _ => rfl)))
    (pss_cons (ps_set (i := 5) sc_l_odd_kind.nd rfl (Or.inl rfl) (pe_lst (pds_cons (K := K) pd_non (pds_cons (pd_tup pds_nil) (pds_cons (pd_tup (pds_cons pd_str (pds_cons (pd_tup pds_nil) (pds_cons pd_non (pds_cons pd_non pds_nil))))) (pds_cons (pd_tup (pds_cons pd_str (pds_cons (pd_tup pds_nil) (pds_cons pd_non pds_nil)))) (pds_cons (pd_tup (pds_cons pd_str (pds_cons (pd_tup pds_nil) (pds_cons pd_non (pds_cons pd_non (pds_cons pd_non pds_nil)))))) (pds_cons (pd_lst (pds_cons pd_str (pds_cons (pd_tup pds_nil) (pds_cons pd_non (pds_cons pd_non pds_nil))))) pds_nil))))))))
    (pss_cons (ps_set (i := 5) sc_l_odd_kind.nd rfl (Or.inl rfl) (pe_op op_cat (pv 5) (pe_lst (pds_cons (K := K) (pd_tup (pds_cons pd_str (pds_cons (pd_lst pds_nil) (pds_cons pd_non (pds_cons pd_non pds_nil))))) (pds_cons (pd_tup (pds_cons pd_str (pds_cons (pd_tup (pds_cons (pd_tup (pds_cons (pd_acc 2 (pv 2)) (pds_cons pd_str pds_nil))) pds_nil)) (pds_cons pd_non (pds_cons pd_non pds_nil))))) (pds_cons (pd_tup (pds_cons pd_str (pds_cons (pd_tup (pds_cons (pd_tup (pds_cons pd_str (pds_cons pd_str pds_nil))) pds_nil)) (pds_cons pd_non (pds_cons pd_non pds_nil))))) pds_nil))))))
    (pss_cons (ps_set (i := 5) sc_l_odd_kind.nd rfl (Or.inl rfl) (pe_op op_cat (pv 5) (pe_lst (pds_cons (K := K) (pd_tup (pds_cons pd_str (pds_cons (pd_tup (pds_cons (pd_tup (pds_cons (pd_acc 2 (pv 2)) (pds_cons pd_str pds_nil))) (pds_cons (pd_tup (pds_cons (pd_acc 2 (pv 2)) (pds_cons pd_str pds_nil))) pds_nil))) (pds_cons pd_non (pds_cons pd_non pds_nil))))) (pds_cons (pd_tup (pds_cons pd_str (pds_cons (pd_tup (pds_cons (pd_acc 2 (pv 2)) pds_nil)) (pds_cons pd_non (pds_cons pd_non pds_nil))))) (pds_cons (pd_tup (pds_cons pd_str (pds_cons (pd_tup pds_nil) (pds_cons (pd_tup pds_nil) (pds_cons pd_non pds_nil))))) pds_nil))))))
    (pss_cons (ps_set (i := 5) sc_l_odd_kind.nd rfl (Or.inl rfl) (pe_op op_cat (pv 5) (pe_lst (pa_cons (pe_tup (pa_cons pe_str (pa_cons (pe_tup pa_nil) (pa_cons (pe_tup (pa_cons (pe_call G_l_odd_case (hr.mono (by decide)) (by rfl) T.d_l_odd_case.g T.d_l_odd_case.kp T.d_l_odd_case.b .nil pass0 (pa_cons (pv 0) (pa_cons (pe_ix (ix_tup_K (K := K) (by rfl)) (pv 1) pe_int (fun _ _ => rfl)) pa_nil))) pa_nil)) (pa_cons pe_non pa_nil))))) (pa_cons (pd_tup (K := K) (pds_cons pd_str (pds_cons (pd_tup pds_nil) (pds_cons (pd_lst (pds_cons (pd_tup (pds_cons (pd_tup pds_nil) (pds_cons (pd_tup pds_nil) pds_nil))) pds_nil)) (pds_cons pd_non pds_nil))))) (pa_cons (pd_tup (K := K) (pds_cons pd_str (pds_cons (pd_tup pds_nil) (pds_cons pd_non (pds_cons (pd_tup pds_nil) pds_nil))))) pa_nil))))))
    (pss_cons (ps_set (i := 5) sc_l_odd_kind.nd rfl (Or.inl rfl) (pe_op op_cat (pv 5) (pe_lst (pds_cons (K := K) (pd_tup (pds_cons pd_str (pds_cons (pd_tup pds_nil) (pds_cons pd_non (pds_cons (pd_acc 102 (pe_op (op_catA_K (K := K) (by rfl)) (pv 4) (pe_tup (pa_cons pe_str pa_nil)))) pds_nil))))) (pds_cons (pd_tup (pds_cons pd_str (pds_cons (pd_tup pds_nil) (pds_cons pd_non (pds_cons (pd_acc 101 (pe_callTy (call_list_of_K (K := K) (by rfl)) (by rfl) T.b_list (by decide +kernel) (pa_cons (pv 4) pa_nil))) pds_nil))))) (pds_cons (pd_tup (pds_cons pd_str (pds_cons (pd_tup pds_nil) (pds_cons pd_non (pds_cons (pd_acc 100 (pe_op (op_catA_K (K := K) (by rfl)) (pe_slice (sl_tupA_K (K := K) (by rfl)) (pv 4) po_none (po_some (pe_un un_neg pe_int))) (pe_tup (pa_cons pe_str pa_nil)))) pds_nil))))) pds_nil))))))
    (pss_one (ps_ret (pe_call G_l_any (hr.mono (by decide)) (by rfl) T.d_l_any.g T.d_l_any.kp T.d_l_any.b .nil pass0 (pa_cons (pv 0) (pa_cons (pe_op op_cat (pv 5) (pe_lst (pds_cons (K := K) (pd_tup (pds_cons pd_str (pds_cons (pd_tup pds_nil) (pds_cons (pd_rep (K := K) (by rfl) (pds_cons (pd_tup (pds_cons (pd_tup pds_nil) (pds_cons (pd_tup pds_nil) pds_nil))) pds_nil)) (pds_cons pd_non pds_nil))))) (pds_cons (pd_tup (pds_cons pd_str (pds_cons (pd_tup pds_nil) (pds_cons pd_non (pds_cons pd_bl pds_nil))))) (pds_cons (pd_tup (pds_cons pd_non (pds_cons (pd_tup pds_nil) (pds_cons pd_non (pds_cons pd_non pds_nil))))) pds_nil))))) pa_nil)))))))))))), ?_⟩
  obtain ⟨x', ex', hfd⟩ := fds_get hF ef
  obtain ⟨tf, oo, rfl, k1, k2⟩ := hfd
  have hW := wo_wd b l
  have ht : SqT K H t [.ref p1, .ref p2, .ref p3] := SqT.of (wd.sm _ _ gt)
  refine ⟨_, rfl, t, _, (0 : Int), .ref p1, rfl, rfl, ht, at_nn (by decide) rfl, p1, y1, (0 : Int), .ref tf, rfl, rfl, SqL.of (wd.sm _ _ g1), at_nn (by decide) ex', tf, _, rfl, Same.tup wd.sm k1, rfl, _, _, rfl, _, _, rfl, rfl, ?_⟩
  refine ⟨_, rfl, t, _, (0 : Int), .ref p1, rfl, rfl, ht, at_nn (by decide) rfl, p1, y1, fs, rfl, SqL.of (wd.sm _ _ g1), DpAll.mono wd.sm (fds_dp hF), f3, f6, fun H1 p ys s1 np hp hys => ?_⟩
  obtain ⟨w1, s1', im⟩ := wd_max wd s1
  have hp' : hid b (hid l H1) p = some (.lst ys) := by
    have pb : p ≠ b := fun z => by
      obtain ⟨ob, e⟩ := wd.bag.b_some
      rw [← z, np] at e
      cases e
    have pl : p ≠ l := fun z => by
      obtain ⟨ob, e⟩ := wd.bag.l_some
      rw [← z, np] at e
      cases e
    rw [hid_ne pb, hid_ne pl]
    exact hp
  have hys' := DpAll.imm im (noLs_map noL_dV (vals fs)) hys
  generalize hid b (hid l H1) = G1 at w1 s1' im hp' hys'
  obtain ⟨xv, exv, hxv⟩ := DpAll.getD hys' (show ((vals fs).map dV)[0]? = some (dV v) by rw [List.getElem?_map, ev]; rfl)
  obtain ⟨tv, rfl, hv⟩ := dp_dV hxv
  refine ⟨p, ys, (0 : Int), .ref tv, rfl, rfl, SqL.of (w1.sm _ _ hp'), at_nn (by decide) exv, ?_⟩
  refine gn_step ?_
  try dsimp only
  let ρ : Nat → PyData := fun i => if i = 100 then .tuple ((v.map PyData.str).take ((v.map PyData.str).length - 1) ++ [.str "none"]) else if i = 101 then .list (v.map PyData.str) else if i = 102 then .tuple (v.map PyData.str ++ [.str "0"]) else .str f.1
  have hvv := hv
  have dvv : DpAll K G1 (v.map V.str) (v.map PyData.str) := strs_dp v
  have l1v : 1 ≤ (v.map PyData.str).length := by rw [List.length_map]; exact v1
  have l2v : (v.map PyData.str).length ≤ 1000 := by rw [List.length_map]; omega
  refine sq_asg ?_
  refine dlst_step (W := Wd b l) ρ hW w1 ?_ (Nat.le_of_ble_eq_true rfl) (fun q1 z1 G2 H2 s2 w2 n2 h2 d2 => ?_)
  · repeat' (first | exact acc_nil | refine acc_app ?_ ?_ | refine acc_one ?_ | exact acc_var rfl (.str _) | exact acc_list hW rfl hvv dvv | exact acc_catT hW rfl hvv dvv l1v l2v | exact acc_cutT hW rfl hvv dvv l1v l2v)
  refine gn_step ?_
  try dsimp only
  refine sq_asg ?_
  refine dcat_step (W := Wd b l) ρ hW w2 rfl h2 d2 ?_ (Nat.le_of_ble_eq_true rfl) (Nat.le_of_ble_eq_true rfl) (fun q3 z3 G3 H3 s3 w3 n3 h3 d3 => ?_)
  · repeat' (first | exact acc_nil | refine acc_app ?_ ?_ | refine acc_one ?_ | exact acc_var rfl (.str _) | exact acc_list hW rfl hvv dvv | exact acc_catT hW rfl hvv dvv l1v l2v | exact acc_cutT hW rfl hvv dvv l1v l2v)
  refine gn_step ?_
  try dsimp only
  refine sq_asg ?_
  refine dcat_step (W := Wd b l) ρ hW w3 rfl h3 d3 ?_ (Nat.le_of_ble_eq_true rfl) (Nat.le_of_ble_eq_true rfl) (fun q4 z4 G4 H4 s4 w4 n4 h4 d4 => ?_)
  · repeat' (first | exact acc_nil | refine acc_app ?_ ?_ | refine acc_one ?_ | exact acc_var rfl (.str _) | exact acc_list hW rfl hvv dvv | exact acc_catT hW rfl hvv dvv l1v l2v | exact acc_cutT hW rfl hvv dvv l1v l2v)
  refine gn_step ?_
  try dsimp only
  have s14 := s1'.trans (s2.trans (s3.trans s4))
  have ht4 : SqT K H4 t [.ref p1, .ref p2, .ref p3] := SqT.of (w4.sm _ _ (s14 _ _ gt))
  refine sq_asg ?_
  refine ⟨_, rfl, Nat.zero_le _, fun pe npe => ?_⟩
  have we := w4.new (o := .tup []) npe
  have se := w4.sameG (o := .tup []) npe
  refine ⟨_, rfl, _, rfl, t, _, (0 : Int), .ref p1, rfl, rfl, Same.tup (same_new npe) ht4, at_nn (by decide) rfl, ?_⟩
  refine ⟨b, l, p1, _, y1, fs, f, o, rfl, SqL.of (se _ _ (s14 _ _ g1)), fds_mono (s14.trans se) hF, ef, eo, we, fun G5 H5 y c s5 w5 hy mc => ?_⟩
  refine ⟨(by show 1 ≤ sizeLine; decide), fun pt npt => ?_⟩
  have wt := w5.new (o := .tup [y]) npt
  have st := w5.sameG (o := .tup [y]) npt
  refine ⟨(by show 4 ≤ sizeLine; decide), fun pq npq => ?_⟩
  have wq := wt.new (o := .tup [.str "a", .ref pe, .ref pt, .non]) npq
  have sq := wt.sameG (o := .tup [.str "a", .ref pe, .ref pt, .non]) npq
  have i1 : Dp K _ (.ref pq) (.tuple [.str "a", .tuple [], .tuple [c], .none]) := .tup (SqT.of upd_same) (.cons (.str _) (.cons (.tup (SqT.of ((s5.trans (st.trans sq)) _ _ upd_same)) .nil) (.cons (.tup (SqT.of (sq _ _ upd_same)) (.cons (Dp.mono (st.trans sq) hy) .nil)) (.cons .non .nil))))
  refine ⟨Wd b l, hW, ρ, _, wq, ?_, fun v2 G6 H6 s6 w6 hv2 => ?_⟩
  · repeat' (first | exact acc_nil | refine acc_app ?_ ?_ | refine acc_one ?_ | exact acc_var rfl (.str _) | exact acc_list hW rfl hvv dvv | exact acc_catT hW rfl hvv dvv l1v l2v | exact acc_cutT hW rfl hvv dvv l1v l2v)
  refine ⟨Wd b l, hW, ρ, _, w6, ?_, fun v3' G7 H7 s7 w7 hv3 => ?_⟩
  · repeat' (first | exact acc_nil | refine acc_app ?_ ?_ | refine acc_one ?_ | exact acc_var rfl (.str _) | exact acc_list hW rfl hvv dvv | exact acc_catT hW rfl hvv dvv l1v l2v | exact acc_cutT hW rfl hvv dvv l1v l2v)
  have sZ := se.trans (s5.trans (st.trans (sq.trans (s6.trans s7))))
  refine dcat_vs hW w7 (sZ _ _ h4) (DpAll.mono sZ d4) (.cons (Dp.mono (s6.trans s7) i1) (.cons (Dp.mono s7 hv2) (.cons hv3 .nil))) (Nat.le_of_ble_eq_true rfl) (Nat.le_of_ble_eq_true rfl) fun q8 z8 G8 H8 s8 w8 n8 h8 d8 => ?_
  refine gn_step ?_
  try dsimp only
  have hvv := Same.tup (s2.trans (s3.trans (s4.trans (sZ.trans s8)))) hv
  have dvv : DpAll K G8 (v.map V.str) (v.map PyData.str) := strs_dp v
  refine sq_asg ?_
  refine dcat_step (W := Wd b l) ρ hW w8 rfl h8 d8 ?_ (Nat.le_of_ble_eq_true rfl) (Nat.le_of_ble_eq_true rfl) (fun q9 z9 G9 H9 s9 w9 n9 h9 d9 => ?_)
  · repeat' (first | exact acc_nil | refine acc_app ?_ ?_ | refine acc_one ?_ | exact acc_var rfl (.str _) | exact acc_list hW rfl hvv dvv | exact acc_catT hW rfl hvv dvv l1v l2v | exact acc_cutT hW rfl hvv dvv l1v l2v)
  refine gn_step ?_
  try dsimp only
  refine ⟨_, rfl, ?_⟩
  refine dcat_step (W := Wd b l) ρ hW w9 rfl h9 d9 ?_ (Nat.le_of_ble_eq_true rfl) (Nat.le_of_ble_eq_true rfl) (fun q10 z10 G10 H10 s10 w10 n10 h10 d10 => ?_)
  · repeat' (first | exact acc_nil | refine acc_app ?_ ?_ | refine acc_one ?_ | exact acc_var rfl (.str _) | exact acc_list hW rfl hvv dvv | exact acc_catT hW rfl hvv dvv l1v l2v | exact acc_cutT hW rfl hvv dvv l1v l2v)
  exact any_of w10 h10 d10 (Nat.le_of_ble_eq_true rfl) (Nat.le_of_ble_eq_true rfl) fun y' d H11 w11 hy' m => q G10 H11 y' d c (s14.trans (sZ.trans (s8.trans (s9.trans s10)))) w11 hy' mc m
end
end Bh

set_option Elab.async false
set_option linter.all false
set_option maxRecDepth 100000
set_option maxHeartbeats 1000000
set_option autoImplicit false
namespace Bh
open PySem PySem.Spec PyProof.Rows L2 LamX NdefX
/-! ### the odd ones are refused -/
theorem fieldD_nm {fs : List Fld} {n o : PyData} (h : nmD letters n = false) : fieldD fs (.tuple [n, o]) = false := by
  show (decide _ && nmD letters n && _ && _ && _) = false
  rw [h, Bool.and_false]
  rfl
theorem fieldD_op {fs : List Fld} {n o : PyData} (h : optsAreD o = false) : fieldD fs (.tuple [n, o]) = false := by
  show (_ && optsAreD o && _) = false
  rw [h, Bool.and_false]
  rfl
theorem fieldD_in {fs : List Fld} {n : Str} {o : PyData} (h : n ∈ fs.map (·.1)) : fieldD fs (.tuple [.str n, o]) = false := by
  show (_ && _ && !decide (n ∈ fs.map (·.1)) && _ && _) = false
  rw [decide_eq_true h, Bool.not_true, Bool.and_false]
  rfl
theorem oddF_bad (n : Str) (fs : List Fld) : ∀ d ∈ oddF n, fieldD fs d = false ∧ okD d = true := by
  intro d hd
  simp only [oddF, List.mem_append, List.mem_cons, List.not_mem_nil, or_false, or_assoc] at hd
  rcases hd with rfl | rfl | rfl | rfl | rfl | rfl | rfl | rfl | rfl | rfl | rfl | rfl | rfl | rfl | rfl | rfl | rfl | rfl <;>
    exact ⟨by first | exact fieldD_no rfl | exact fieldD_nm (by decide +kernel) | exact fieldD_op (by decide +kernel), by decide +kernel⟩
theorem oddF2_bad {n : Str} (hn : n.length ≤ 100000) (fs : List Fld) : ∀ d ∈ oddF2 n, (d = .tuple [.str n, .tuple [.str "0", .str "1", .str "2"]] ∨ fieldD fs d = false) ∧ okD d = true := by
  intro d hd
  simp only [oddF2, List.mem_cons, List.not_mem_nil, or_false] at hd
  rcases hd with rfl | rfl
  · refine ⟨.inl rfl, ?_⟩
    show (okD (.str n) && _) = true
    rw [okD_str hn]
    decide +kernel
  · exact ⟨.inr (fieldD_no rfl), by decide +kernel⟩
/-- what is known of the fields -/
structure Odd (fs : List Fld) (f : Fld) : Prop where
  at_ : optsD fs (.str f.1) = f.2
  no : ∀ g ∈ fs, ("none" : Str) ∉ g.2
  no1 : ("none" : Str) ∉ f.2
  mi : ("-" : Str) ∉ f.2
  z : ("Z" : Str) ∉ fs.map (·.1)
  l1 : f.1.length ≤ 100000
  l2 : ∀ o ∈ f.2, o.length ≤ 100000
theorem caseD_t {fs : List Fld} {t s : PyData} (h : testsD fs t = false) : caseD fs (.tuple [t, s]) = false := by
  show (testsD fs t && _) = false
  rw [h]
  rfl
theorem caseD_s {fs : List Fld} {t s : PyData} (h : stepsD fs s = false) : caseD fs (.tuple [t, s]) = false := by
  show (_ && stepsD fs s) = false
  rw [h, Bool.and_false]
theorem testsD_one {fs : List Fld} {x : PyData} (h : testD fs x = false) : testsD fs (.tuple [x]) = false := by
  show (decide ([x].length ≤ 6) && (testD fs x && true)) = false
  rw [h]
  rfl
theorem stepsD_one {fs : List Fld} {x : PyData} (h : stepD fs x = false) : stepsD fs (.tuple [x]) = false := by
  show (decide ([x].length ≤ 6) && (stepD fs x && true)) = false
  rw [h]
  rfl
theorem testD_o {fs : List Fld} {f s o : PyData} (h : membD (optsD fs f) o = false) : testD fs (.tuple [f, s, o]) = false := by
  show (_ && membD (optsD fs f) o) = false
  rw [h, Bool.and_false]
theorem testD_s {fs : List Fld} {f s o : PyData} (h : membD signs s = false) : testD fs (.tuple [f, s, o]) = false := by
  show (membD signs s && _) = false
  rw [h]
  rfl
theorem stepD_o {fs : List Fld} {f o : PyData} (h : membD ("+" :: optsD fs f) o = false) : stepD fs (.tuple [f, o]) = false := by
  show (membD ("+" :: optsD fs f) o && _) = false
  rw [h]
  rfl
theorem stepD_n {fs : List Fld} {f o : PyData} (h : membD (fs.map (·.1)) f = false) : stepD fs (.tuple [f, o]) = false := by
  show (_ && membD (fs.map (·.1)) f) = false
  rw [h, Bool.and_false]
theorem membD_no {zs : List Str} {z : Str} (h : z ∉ zs) : membD zs (.str z) = false := decide_eq_false h
theorem Odd.zo {fs : List Fld} {f : Fld} (k : Odd fs f) : optsD fs (.str "Z") = [] := optsD_none fun j g hg => by
  rw [eqv_strs]
  exact decide_eq_false fun e => k.z (List.mem_map.mpr ⟨g, List.mem_of_getElem? hg, e⟩)
theorem oddC_bad {fs : List Fld} {f : Fld} {o : Str} (k : Odd fs f) (ho : o ∈ f.2) : ∀ d ∈ oddC f.1 o, caseD fs d = false ∧ okD d = true := by
  intro d hd
  have nm : membD (optsD fs (.str f.1)) (.str "none") = false := by
    rw [k.at_]
    exact membD_no k.no1
  have zm : membD (optsD fs (.str "Z")) (.str o) = false := by
    rw [k.zo]
    rfl
  have sm : membD ("+" :: optsD fs (.str f.1)) (.str "none") = false := by
    rw [k.at_]
    refine membD_no fun m => ?_
    rcases List.mem_cons.mp m with m | m
    · exact absurd m (by decide +kernel)
    · exact k.no1 m
  have mm : membD ("+" :: optsD fs (.str f.1)) (.str "-") = false := by
    rw [k.at_]
    refine membD_no fun m => ?_
    rcases List.mem_cons.mp m with m | m
    · exact absurd m (by decide +kernel)
    · exact k.mi m
  have l1 := decide_eq_true k.l1
  have l2 := decide_eq_true (k.l2 o ho)
  have oks : ∀ z : Str, z ∈ (["=", "none", "Z", "==", "+", "-"] : List Str) → decide (z.length ≤ 100000) = true := by decide +kernel
  simp only [oddC, List.mem_append, List.mem_cons, List.not_mem_nil, or_false, or_assoc] at hd
  refine ⟨?_, ?_⟩
  · rcases hd with rfl | rfl | rfl | rfl | rfl | rfl | rfl | rfl | rfl | rfl | rfl | rfl | rfl | rfl | rfl | rfl | rfl | rfl | rfl | rfl | rfl | rfl <;>
    first
    | exact caseD_no rfl
    | exact caseD_t (by rfl)
    | exact caseD_s (by rfl)
    | exact caseD_t (testsD_one (testD_o nm))
    | exact caseD_t (testsD_one (testD_o zm))
    | exact caseD_t (testsD_one (testD_s (by decide +kernel)))
    | exact caseD_t (testsD_one (testD_no rfl))
    | exact caseD_s (stepsD_one (stepD_o sm))
    | exact caseD_s (stepsD_one (stepD_n (membD_no k.z)))
    | exact caseD_s (stepsD_one (stepD_o mm))
    | exact caseD_s (stepsD_one (stepD_no rfl))
    | exact caseD_s (stepsD_one (stepD_o (by rfl)))
    | exact caseD_t (testsD_no rfl)
    | exact caseD_s (stepsD_no (by simp) rfl)
  · rcases hd with rfl | rfl | rfl | rfl | rfl | rfl | rfl | rfl | rfl | rfl | rfl | rfl | rfl | rfl | rfl | rfl | rfl | rfl | rfl | rfl | rfl | rfl <;>
    first
    | decide +kernel
    | (simp [okD, okDs, l1, l2, k.l1, k.l2 o ho, List.replicate]; done)
    | (simp [okD, okDs, l1, l2, k.l1, k.l2 o ho, List.replicate]; decide +kernel)
theorem nameFitD_nm {ns : List Str} {m : Nat} {n : PyData} (h : nmD letters n = false) : nameFitD ns m n = false := by
  show (decide _ && nmD letters n && _) = false
  rw [h, Bool.and_false]
  rfl
theorem tieD_n {fs : List Fld} {ns : List Str} {n p : PyData} (h : nmD letters n = false) : tieD fs ns (.tuple [n, p]) = false := by
  show (nameFitD ns 4 n && _) = false
  rw [nameFitD_nm h]
  rfl
theorem tieD_p {fs : List Fld} {ns : List Str} {n p : PyData} (h : progD fs p = false) : tieD fs ns (.tuple [n, p]) = false := by
  show (_ && progD fs p) = false
  rw [h, Bool.and_false]
theorem progD_mem {fs : List Fld} {cs : List PyData} {c : PyData} (m : c ∈ cs) (h : caseD fs c = false) : progD fs (.tuple cs) = false := by
  show (_ && cs.all (caseD fs)) = false
  rw [show cs.all (caseD fs) = false from List.all_eq_false.mpr ⟨c, m, by rw [h]; decide⟩, Bool.and_false]
theorem okDs_app {as bs : List PyData} (h1 : okDs as = true) (h2 : okDs bs = true) : okDs (as ++ bs) = true := okDs_of fun x hx => (List.mem_append.mp hx).elim (okDs_mem h1) (okDs_mem h2)
theorem oddT_bad {fs : List Fld} {ns : List Str} {g : List PyData} (hg : okDs g = true) : ∀ d ∈ oddT g, tieD fs ns d = false ∧ okD d = true := by
  intro d hd
  have og : okD (.tuple g) = true := hg
  have ol : okD (.list g) = true := hg
  simp only [oddT, List.mem_append, List.mem_cons, List.not_mem_nil, or_false, or_assoc] at hd
  refine ⟨?_, ?_⟩
  · rcases hd with rfl | rfl | rfl | rfl | rfl | rfl | rfl | rfl | rfl | rfl | rfl | rfl | rfl | rfl <;>
    first
    | exact tieD_no rfl
    | exact tieD_n (by decide +kernel)
    | exact tieD_n (by rfl)
    | exact tieD_p (by rfl)
    | exact tieD_p (progD_no rfl)
    | exact tieD_p (progD_mem (List.mem_cons_self ..) (caseD_no rfl))
  · rcases hd with rfl | rfl | rfl | rfl | rfl | rfl | rfl | rfl | rfl | rfl | rfl | rfl | rfl | rfl <;>
    first
    | decide +kernel
    | (simp [okD, okDs, hg]; done)
    | (simp [okD, okDs, hg]; decide +kernel)
theorem oddT2_bad {fs : List Fld} {ns : List Str} {g : List PyData} {c : PyData} (hg : okDs g = true) (h : caseD fs c = false) (hc : okD c = true) : tieD fs ns (.tuple [.str "a", .tuple (g ++ [c])]) = false ∧ okD (.tuple [.str "a", .tuple (g ++ [c])]) = true := by
  refine ⟨tieD_p (progD_mem (List.mem_append_right _ (List.mem_singleton.mpr rfl)) h), ?_⟩
  show (okD (.str "a") && (okDs (g ++ [c]) && true)) = true
  rw [okDs_app hg (okDs_of fun x hx => by rw [List.mem_singleton.mp hx]; exact hc)]
  decide +kernel
theorem kindD_n {fs : List Fld} {ns : List Str} {n k t b : PyData} (h : nmD letters n = false) : kindD fs ns (.tuple [n, k, t, b]) = false := by
  show (nameFitD ns 3 n && _ && _ && _) = false
  rw [nameFitD_nm h]
  rfl
theorem kindD_k {fs : List Fld} {ns : List Str} {n k t b : PyData} (h : keysD fs k = false) : kindD fs ns (.tuple [n, k, t, b]) = false := by
  show (_ && keysD fs k && _ && _) = false
  rw [h, Bool.and_false]
  rfl
theorem kindD_t {fs : List Fld} {ns : List Str} {n k t b : PyData} (h : (nonD t || progD fs t) = false) : kindD fs ns (.tuple [n, k, t, b]) = false := by
  show (_ && _ && (nonD t || progD fs t) && _) = false
  rw [h, Bool.and_false]
  rfl
theorem kindD_t2 {fs : List Fld} {ns : List Str} {n k t b : PyData} (h0 : nonD t = false) (h : progD fs t = false) : kindD fs ns (.tuple [n, k, t, b]) = false := kindD_t (by rw [h0, h]; rfl)
theorem kindD_b {fs : List Fld} {ns : List Str} {n k t b : PyData} (h : holdD fs b = false) : kindD fs ns (.tuple [n, k, t, b]) = false := by
  show (_ && _ && _ && holdD fs b) = false
  rw [h, Bool.and_false]
theorem keysD_mem {fs : List Fld} {cs : List PyData} {c : PyData} (m : c ∈ cs) (h : keyD fs c = false) : keysD fs (.tuple cs) = false := by
  show (_ && cs.all (keyD fs) && _) = false
  rw [show cs.all (keyD fs) = false from List.all_eq_false.mpr ⟨c, m, by rw [h]; decide⟩, Bool.and_false]
  rfl
theorem keyD_s {fs : List Fld} {f s : PyData} (h : membD ["+", "-"] s = false) : keyD fs (.tuple [f, s]) = false := by
  show (_ && membD ["+", "-"] s) = false
  rw [h, Bool.and_false]
theorem keyD_f {fs : List Fld} {f s : PyData} (h : membD (fs.map (·.1)) f = false) : keyD fs (.tuple [f, s]) = false := by
  show (membD (fs.map (·.1)) f && _) = false
  rw [h]
  rfl
theorem keysD_two {fs : List Fld} {n : Str} {s t : PyData} : keysD fs (.tuple [.tuple [.str n, s], .tuple [.str n, t]]) = false := by
  show (_ && _ && decide ([n, n].Nodup)) = false
  rw [show decide ([n, n].Nodup) = false from decide_eq_false (by simp), Bool.and_false]
theorem holdD_len {fs : List Fld} {os : List PyData} (h : os.length ≠ fs.length) : holdD fs (.tuple os) = false := by
  show (false || (decide (os.length = fs.length) && _)) = false
  rw [decide_eq_false h]
  rfl
theorem holdD_at {fs : List Fld} {os : List PyData} {i : Nat} {f : Fld} {o : PyData} (hf : fs[i]? = some f) (ho : os[i]? = some o) (h : membD f.2 o = false) : holdD fs (.tuple os) = false := by
  show (false || (_ && ((List.range fs.length).map (valI fs os)).all id)) = false
  have : ((List.range fs.length).map (valI fs os)).all id = false := by
    rw [List.all_eq_false]
    refine ⟨valI fs os i, List.mem_map.mpr ⟨i, List.mem_range.mpr (List.getElem?_eq_some_iff.mp hf).1, rfl⟩, ?_⟩
    unfold valI
    simp only [hf, ho]
    rw [h]
    decide
  rw [this, Bool.and_false]
  rfl
theorem oddK_bad {fs : List Fld} {ns : List Str} {f : Fld} {v : List Str} {c : PyData} (k : Odd fs f) (hv : FitV fs v) (v1 : 1 ≤ v.length) (lv : ∀ o ∈ v, o.length ≤ 100000) (hc : caseD fs c = false) (oc : okD c = true) : ∀ d ∈ oddK f.1 (v.map PyData.str) c, kindD fs ns d = false ∧ okD d = true := by
  intro d hd
  have ov : okDs (v.map PyData.str) = true := okD_strs lv
  have ot : okDs ((v.map PyData.str).take ((v.map PyData.str).length - 1)) = true := okDs_of fun x hx => okDs_mem ov (List.mem_of_mem_take hx)
  have on1 : okDs (v.map PyData.str ++ [.str "0"]) = true := okDs_app ov (by decide +kernel)
  have on2 : okDs ((v.map PyData.str).take ((v.map PyData.str).length - 1) ++ [.str "none"]) = true := okDs_app ot (by decide +kernel)
  have on2' := on2
  rw [List.length_map] at on2'
  have hA : (Str.ofString "a").length ≤ 100000 := by decide +kernel
  have z := membD_no k.z
  have h0 : holdD fs (.tuple []) = false := holdD_len (by rw [← hv.1]; show 0 ≠ _; omega)
  have h1 : holdD fs (.tuple (v.map PyData.str ++ [.str "0"])) = false := holdD_len (by rw [← hv.1, List.length_append, List.length_map]; show _ + 1 ≠ _; omega)
  have h2 : holdD fs (.tuple ((v.map PyData.str).take ((v.map PyData.str).length - 1) ++ [.str "none"])) = false := by
    have li : v.length - 1 < fs.length := by rw [← hv.1]; omega
    refine holdD_at (i := v.length - 1) (List.getElem?_eq_getElem li) (o := .str "none") ?_ (membD_no (k.no _ (List.getElem_mem li)))
    rw [List.getElem?_append_right (by rw [List.length_take, List.length_map]; omega), List.length_take, List.length_map, show v.length - 1 - min (v.length - 1) v.length = 0 by omega]
    rfl
  simp only [oddK, List.mem_append, List.mem_cons, List.not_mem_nil, or_false, or_assoc] at hd
  refine ⟨?_, ?_⟩
  · rcases hd with rfl | rfl | rfl | rfl | rfl | rfl | rfl | rfl | rfl | rfl | rfl | rfl | rfl | rfl | rfl | rfl | rfl | rfl | rfl | rfl | rfl <;>
    first
    | exact kindD_no rfl
    | exact kindD_n (by decide +kernel)
    | exact kindD_k (by rfl)
    | exact kindD_k (keysD_mem (List.mem_cons_self ..) (keyD_s (by decide +kernel)))
    | exact kindD_k (keysD_mem (List.mem_cons_self ..) (keyD_f z))
    | exact kindD_k keysD_two
    | exact kindD_k (keysD_mem (List.mem_cons_self ..) (keyD_no rfl))
    | exact kindD_t (by rfl)
    | exact kindD_t2 rfl (progD_mem (List.mem_cons_self ..) hc)
    | exact kindD_t2 rfl (progD_no rfl)
    | exact kindD_b h0
    | exact kindD_b h1
    | exact kindD_b h2
    | exact kindD_b (by rfl)
  · rcases hd with rfl | rfl | rfl | rfl | rfl | rfl | rfl | rfl | rfl | rfl | rfl | rfl | rfl | rfl | rfl | rfl | rfl | rfl | rfl | rfl | rfl <;>
    first
    | decide +kernel
    | (simp [okD, okDs, k.l1, oc, ov, on1, on2, on2', hA]; done)
    | (simp [okD, okDs, k.l1, oc, ov, on1, on2, on2', hA]; decide +kernel)
end Bh

set_option Elab.async false
set_option linter.all false
set_option maxRecDepth 100000
namespace Bh
open PySem PySem.Spec PyProof.Rows L2
/-! ### an instance called; a method called by keywords alone -/
section
variable {X : Cx} {CX : CXT} {k : Nat} {C f : Addr} {fd : FuncData} {ps ks : List Str} {sp : Sp} {E : XK} {fe e o : Expr} {es : List Expr} {pos apos : Pos} {tf to : TE} {t tk : TA} {m : Str} {kws : List Keyword} {g : List Value → List Value → List Value} {gV : List V → List V → List V}
/-- x(e, ..), x an instance of C -/
def tCallI (C : Addr) (sp : Sp) (E : XK) (tf : TE) (t : TA) : TE := fun σ H Q => tf σ H fun y H1 => ∃ a, y = V.ref a ∧ t σ H1 fun vs H2 => (∃ dx fs, H2 a = some (.ins C dx fs)) ∧ sp (V.ref a :: vs) H2 Q E
theorem pe_callI (hf : PE X fe tf) (c : StX.CallO X.K C f) (F : FnOk X.prog X.w X.K X.mg X.base CX k f fd ps sp) (hr : Room k X.A) (hb : Binds X.K fd ps []) (hx : Passes CX X E) (ha : PA X (e :: es) t)
    (ht : eval (.Call fe (e :: es) [] pos) X.env = (do callWith pos (← eval fe X.env) [] (backTo pos (starEach (e :: es) X.env)) (backToKw pos (keywordEach [] X.env))) := by rfl)
    (he : starEach (e :: es) X.env = (false, eval e X.env) :: starEach es X.env := by rfl) (hpl : (backTo pos (starEach es X.env)).any (·.1) = false := by rfl) : PE X (.Call fe (e :: es) [] pos) (tCallI C sp E tf t) := by
  refine ⟨fun pins s σ H Q I h => ?_⟩
  refine Call_ (thn (hf.run pins s σ H _ I h) fun u s1 ⟨y, H1, I1, ry, a, ey, q⟩ => ?_) ht
  subst ey
  obtain rfl : u = Value.ref a := ry
  refine StX.callO_with (thn (ha.run pos pins s1 σ H1 _ I1 q) fun us s2 ⟨vs, H2, I2, r, hi, q2⟩ => ?_) he hpl
  obtain ⟨ox, od, J, hd⟩ := StX.insC_at I2 (.inr hi)
  refine ⟨⟨C, ox, od, J, hd⟩, ?_⟩
  have l := F.len _ _ _ _ q2
  have bnd := hb s2 (.ref a :: us) I2.kIn (by rw [List.append_nil, ← l, List.length_cons, List.length_cons, r.length])
  rw [List.append_nil] at bnd
  refine wpAny_call (PySem.W.kco_code I2.kIn J hd c.at_ c.fn c.fi (codeAny_mono (F.run X.A X.stack s2 H2 ⟨.ref a :: us, []⟩ (.ref a :: us) (.ref a :: vs) Q E hr I2.env0 bnd (.cons rfl r) q2) fun res s3 z => ?_))
  cases res with
  | error err => exact hx pins σ H2 s2 err s3 I2 z
  | ok fl =>
    cases fl with
    | ret u => exact I2.after z
    | next => exact z.elim
    | brk => exact z.elim
    | cont => exact z.elim
/-- o.m(k = v, ..) -/
def tMethN (C : Addr) (m : Str) (n : Nat) (sp : Sp) (gV : List V → List V → List V) (E : XK) (to : TE) (tk : TA) : TE := fun σ H Q => to σ H fun x H1 => ∃ a dx fs, x = .ref a ∧ H1 a = some (.ins C dx fs) ∧ fs.lookup m = none ∧ tk σ H1 fun zs H2 => zs.length = n ∧ sp (gV [x] zs) H2 Q E
theorem pe_methN {pl : Sem Bool} (he : PE X o to) (c : Cls X.K C) (hm : Meth X.K C m f) (F : FnOk X.prog X.w X.K X.mg X.base CX k f fd ps sp) (hr : Room k X.A) (hb : KBn X.K fd ps 1 ks g gV) (hx : Passes CX X E) (hkw : PK X kws tk)
    (hall : (backToKw pos (keywordEach kws X.env)).all (·.1.isSome) = true := by rfl) (hks : (backToKw pos (keywordEach kws X.env)).filterMap (·.1) = ks := by rfl)
    (hpl : ((backTo pos (starEach [] X.env)).any (·.1) || (backToKw pos (keywordEach kws X.env)).any (·.1.isNone)) = false := by rfl)
    (ht : eval (.Call (.Attribute o m apos) [] kws pos) X.env = (do
      let ov ← eval o X.env
      standAt apos.atName
      let (f, first) ← holding [ov] (getMethod ov m pl)
      callWith pos f first (backTo pos (starEach [] X.env)) (backToKw pos (keywordEach kws X.env))) := by rfl) :
    PE X (.Call (.Attribute o m apos) [] kws pos) (tMethN C m ks.length sp gV E to tk) := by
  refine ⟨fun pins s σ H Q I h => ?_⟩
  refine PySem.W.methodCall_KW (pl := pl) (thn (he.run pins s σ H _ I h) fun u s1 ⟨x, H1, I1, rx, a, dx, fs, ex, ea, l, q⟩ => ?_) ht
  subst ex
  obtain rfl : u = Value.ref a := rx
  refine getmeth_ok I1 ea c hm l ?_
  refine PySem.W.callWith_KW0 (first := [.ref a]) (h₀ := X.base) I.ok.mod.kin hm.kp hall ?_ hpl
  refine thn (hkw.run pos pins s1 σ H1 _ I1 q) fun ws s2 ⟨zs, H2, I2, rz, l2, q2⟩ => ⟨I2.kIn, ?_⟩
  rw [hks]
  exact run_fnN (us := [.ref a]) (vs := [.ref a]) F hr hb hx I2 (.cons rfl .nil) rz rfl l2 q2
end
end Bh

set_option Elab.async false
set_option linter.all false
set_option maxRecDepth 100000
namespace Bh
open PySem PySem.Spec PyProof.Rows L2
/-! ### l.clear() of a list -/
def rLClear : V → List V → Hp → VK → Prop := fun x vs H Q => ∃ l xs, x = .ref l ∧ vs = [] ∧ H l = some (.lst xs) ∧ Q .non (upd H l (.lst []))
theorem mt_lclear {X : Cx} : MtM X "list.clear" rLClear := by
  intro pins s σ H x vs v us Q I rx rv h
  obtain ⟨l, xs, rfl, rfl, hH, q⟩ := h
  cases rx
  cases rv
  obtain ⟨z, its, n, r, hl, e⟩ := I.lstM hH
  refine call_meets PySem.F.slot_list_clear ⟨_, e, rfl⟩ PySem.F.entry_list_clear (PySem.F.args_list_clear_1 _) (PySem.AutoSeq1.list_clear_list_0 l its.toArray n ?_) ⟨e, ?_⟩
  · rw [List.size_toArray, ← r.length]; exact z
  · exact ⟨.non, _, I.lset (its' := []) hH e (by simp) .nil (Nat.zero_le _), rfl, q⟩
theorem pe_bm0_K {X : Cx} {K : PySem.W.Frag} (hK : X.K = K) {o : Expr} {to : TE} {name : Str} {apos cpos : Pos} {T id : String} {r : V → List V → Hp → VK → Prop}
    (pa : PlainAttrs T) (slot : Slot T name id) (hty : typeOf (.builtin id) = pure (.type "method_descriptor")) (hm : MtR X id r) (ho : PE X o to)
    (hbase : attributeBase o name X.env (eval o X.env) = eval o X.env := by rfl) (hline : (apos.endLine == cpos.line) = true := by rfl) : PE X (.Call (.Attribute o name apos) [] [] cpos) (tBM0 K T r to) := by
  subst hK
  exact pe_bm0 pa slot hty hm ho hbase hline
end Bh

set_option Elab.async false
set_option linter.all false
set_option maxRecDepth 100000
namespace Bh
open PySem PySem.Spec PyProof.Rows L2 LamX NdefX
/-! ### a lambda by its place in a def's text -/
def noP : Pos := ⟨0, 0, 0, 0⟩
def noE : Expr := .Constant .none 0 noP
def bodyOf : Stmt → List Stmt
  | .For _ _ b _ _ => b
  | .If _ b _ _ => b
  | _ => []
def exprOf : Stmt → Expr
  | .Assign _ v _ => v
  | .Expr v _ => v
  | _ => noE
def partsOf : Expr → List Expr
  | .List es _ => es
  | .Call _ es _ _ => es
  | .BinOp a _ b _ => [a, b]
  | _ => []
def lwOf : Expr → LW
  | .Lambda p b s _ => ⟨p, b, s⟩
  | _ => ⟨{ posonlyargs := [], args := [], vararg := none, kwonlyargs := [], kw_defaults := [], kwarg := none, defaults := [] }, noE, { kind := .function, names := [], isGenerator := false, isCoroutine := false }⟩
section
variable {X : Cx}
theorem pe_stl0L {L : LW} {T : List (Addr × Str)} {c P : Addr} {params : Arguments} {body : Expr} {scope : Scope} {pos : Pos} (hL : L = ⟨params, body, scope⟩) (TB : TabB X.base X.mg c P) (hcode : X.env.code = .ref c)
    (hm : (P, X.env.qual ++ "<lambda>") ∈ T) (hu : ∀ p ∈ T, p.1 = P → p.2 = X.env.qual ++ "<lambda>") (hdef : defaultsOf params X.env = ([], [])) (hfree : ∀ y ∈ scope.names, y.2 = .free → X.env.scope.names.lookup y.1 = some .cell ∨ X.env.scope.names.lookup y.1 = some .free) :
    PE X (.Lambda params body scope pos) (tStl T X.env.cells (X.env.qual ++ "<lambda>") L none) := by
  subst hL
  exact pe_stl0 TB hcode hm hu hdef hfree
theorem pe_stl1L {L : LW} {T : List (Addr × Str)} {c P : Addr} {params : Arguments} {body : Expr} {scope : Scope} {pos p1 : Pos} {n : Int} {j : Nat} (hL : L = ⟨params, body, scope⟩) (TB : TabB X.base X.mg c P) (hcode : X.env.code = .ref c)
    (hm : (P, X.env.qual ++ "<lambda>") ∈ T) (hu : ∀ p ∈ T, p.1 = P → p.2 = X.env.qual ++ "<lambda>") (hd : params.defaults = [.Constant (.int n) j p1]) (hk : params.kw_defaults = []) (hfree : ∀ y ∈ scope.names, y.2 = .free → X.env.scope.names.lookup y.1 = some .cell ∨ X.env.scope.names.lookup y.1 = some .free) :
    PE X (.Lambda params body scope pos) (tStl T X.env.cells (X.env.qual ++ "<lambda>") L (some n)) := by
  subst hL
  exact pe_stl1 TB hcode hm hu hd hk hfree
end
end Bh

set_option Elab.async false
set_option linter.all false
set_option maxRecDepth 100000
set_option maxHeartbeats 1000000
namespace Bh
open PySem PySem.Spec PyProof.Rows L2 LamX NdefX
/-- a method of the class at C -/
structure Mt (K : PySem.W.Frag) (C : Addr) (m qual : Str) (st : Stmt) (ps : List Str) : Type where
  f : Addr
  fd : FuncData
  F : Fun K m qual st f fd
  M : Meth K C m f
  b : Binds K fd ps []
/-- the class Rulebook with all that is called of it -/
structure RbM (K : PySem.W.Frag) (mg : Str → Option Value) (R : RbC K mg) (cI pI : Addr) : Type where
  fI : Addr
  od : Option Addr
  an : Option Addr
  oc : Value
  kV : Value
  doc : Value
  pm : Value
  ct : Value
  osl : Array (Option Value)
  lk : K.lookup fI = some ⟨oc, od, .func (PySem.W.fnOf "__init__" "Rulebook.__init__" (defArgs s_Rulebook__init) (defBody s_Rulebook__init) (defScope s_Rulebook__init) .none kV doc pm an (.ref cI) ct), osl⟩
  hcd : PySem.W.codeIn K (.ref cI) "Rulebook.__init__" = true
  mkr : Mk K R.C fI
  all_values : Mt K R.C "all_values" "Rulebook.all_values" s_Rulebook_all_values ["self"]
abbrev RbM.fdI {K : PySem.W.Frag} {mg : Str → Option Value} {R : RbC K mg} {cI pI : Addr} (M : RbM K mg R cI pI) : FuncData := PySem.W.fnOf "__init__" "Rulebook.__init__" (defArgs s_Rulebook__init) (defBody s_Rulebook__init) (defScope s_Rulebook__init) .none M.kV M.doc M.pm M.an (.ref cI) M.ct
theorem kb_ties_kinds {K : PySem.W.Frag} {mg : Str → Option Value} {R : RbC K mg} {cI pI : Addr} (M : RbM K mg R cI pI) : KBn K M.fdI ["self", "fields", "ties", "kinds"] 2 ["ties", "kinds"] (fun us ws => us ++ ws) (fun vs zs => vs ++ zs) :=
  ⟨fun s us ws _ l1 l2 => match us, ws, l1, l2 with
    | [_, _], [_, _], _, _ => .of_eq rfl, fun r1 r2 => r1.append r2⟩
/-- what is known, but tables of code objects -/
def noTb (H : Hp) : Hp := fun a => match H a with
  | some (.tbl _) => none
  | o => o
theorem noTb_le {H : Hp} : Same (noTb H) H := fun a o e => by
  unfold noTb at e
  split at e
  · cases e
  · exact e
theorem noTb_at {H : Hp} {a : Addr} {o : HO} (e : H a = some o) (n : ∀ ps, o ≠ .tbl ps) : noTb H a = some o := by
  unfold noTb
  rw [e]
  cases o with
  | tbl ps => exact absurd rfl (n ps)
  | _ => rfl
theorem noTb_not {H : Hp} {a : Addr} {o : HO} (e : noTb H a = some o) : ∀ ps, o ≠ .tbl ps := fun ps z => by
  unfold noTb at e
  split at e
  · cases e
  · rename_i n
    exact n ps (z ▸ e)
end Bh
namespace Bh
open PySem PySem.Spec PyProof.Rows L2 LamX NdefX
/-- H' keeps what H holds, but tables of code objects and the lists at S -/
def Kp (S : List Addr) (H H' : Hp) : Prop := ∀ a o, H a = some o → (∀ ps, o ≠ .tbl ps) → (a ∈ S → ∀ xs, o ≠ .lst xs) → H' a = some o
section
variable {K : PySem.W.Frag} {S S' : List Addr} {H H1 H' : Hp} {b l p pI C x a1 a2 a3 t p1 p2 p3 : Addr} {fs : List Fld} {ts : List Tie} {ks : List Knd} {q : Str}
theorem Same.kp (e : Same H H') : Kp S H H' := fun a o h _ _ => e _ _ h
theorem Kp.trans (e : Kp S H H1) (f : Kp S H1 H') : Kp S H H' := fun a o h n m => f a o (e a o h n m) n m
theorem Kp.mono (h : ∀ a ∈ S, a ∈ S') (e : Kp S H H') : Kp S' H H' := fun a o k n m => e a o k n fun z => m (h a z)
theorem kp_tb (e : Same (noTb H) H') : Kp S H H' := fun a o h n _ => e _ _ (noTb_at h n)
theorem kp_upd {xs : List V} {o : HO} (h : H p = some (.lst xs)) (m : p ∈ S) : Kp S H (upd H p o) := fun a u k _ n => by
  rw [upd_ne (fun z => by rw [z, h] at k; exact n (z ▸ m) _ (Option.some.inj k).symm)]
  exact k
theorem kp_hid {xs : List V} (h : H p = some (.lst xs)) (m : p ∈ S) : Kp S H (hid p H) := fun a u k _ n => by
  rw [hid_ne (fun z => by rw [z, h] at k; exact n (z ▸ m) _ (Option.some.inj k).symm)]
  exact k
theorem Kp.lst {xs : List V} (e : Kp S H H') (h : H p = some (.lst xs)) (n : p ∉ S) : H' p = some (.lst xs) := e _ _ h (fun _ z => nomatch z) fun m => absurd m n
theorem Kp.tup {xs : List V} (e : Kp S H H') (h : H p = some (.tup xs)) : H' p = some (.tup xs) := e _ _ h (fun _ z => nomatch z) fun _ _ z => nomatch z
theorem Kp.ins {dx : Addr} {gs : List (Str × V)} (e : Kp S H H') (h : H p = some (.ins C dx gs)) : H' p = some (.ins C dx gs) := e _ _ h (fun _ z => nomatch z) fun _ _ z => nomatch z
theorem Kp.imm (e : Kp S H H') : Imm (noTb H) H' := fun a u h n => e _ _ (noTb_le _ _ h) (noTb_not h) fun _ => n
theorem SqL.nTb {a : Addr} {xs : List V} (h : SqL K H a xs) : SqL K (noTb H) a xs :=
  h.imp (fun h => h.imp (fun h => noTb_at h (fun _ z => nomatch z)) fun ⟨o, h⟩ => ⟨o, noTb_at h (fun _ z => nomatch z)⟩) id
theorem SqT.nTb {a : Addr} {xs : List V} (h : SqT K H a xs) : SqT K (noTb H) a xs :=
  h.imp (fun h => h.imp (fun h => noTb_at h (fun _ z => nomatch z)) fun ⟨o, h⟩ => ⟨o, noTb_at h (fun _ z => nomatch z)⟩) id
end
mutual
theorem Dp.nTb {K : PySem.W.Frag} {H : Hp} : ∀ {v : V} {d : PyData}, Dp K H v d → Dp K (noTb H) v d
  | _, _, .non => .non
  | _, _, .bl b => .bl b
  | _, _, .int i => .int i
  | _, _, .str x => .str x
  | _, _, .lst h all => .lst (SqL.nTb h) (DpAll.nTb all)
  | _, _, .tup h all => .tup (SqT.nTb h) (DpAll.nTb all)
theorem DpAll.nTb {K : PySem.W.Frag} {H : Hp} : ∀ {vs : List V} {ds : List PyData}, DpAll K H vs ds → DpAll K (noTb H) vs ds
  | _, _, .nil => .nil
  | _, _, .cons h t => .cons (Dp.nTb h) (DpAll.nTb t)
end
section
variable {K : PySem.W.Frag} {S S' : List Addr} {H H1 H' : Hp} {b l p pI C x a1 a2 a3 t p1 p2 p3 : Addr} {fs : List Fld} {ts : List Tie} {ks : List Knd} {q : Str}
theorem Kp.dps {α : Type} {f : α → PyData} (e : Kp S H H') (n : ∀ x, noL (f x) = true) {ys : List V} {xs : List α} (h : DpAll K H ys (xs.map f)) : DpAll K H' ys (xs.map f) := DpAll.imm e.imm (noLs_map n xs) (DpAll.nTb h)
theorem noL_dF (f : Fld) : noL (dF f) = true := by
  show (true && (noLs (f.2.map PyData.str) && true)) = true
  rw [noLs_map fun _ => rfl]
  rfl
theorem BagAt.kp (h : BagAt b l H) (e : Kp S H H') (nb : b ∉ S) (nl : l ∉ S) : BagAt b l H' := by
  obtain ⟨ns, i, c, s, h1, h2, r⟩ := h
  exact ⟨ns, i, c, s, e.lst h1 nb, e.lst h2 nl, r⟩
theorem BagAt.ne (h : BagAt b l H) : b ≠ l := fun z => by
  obtain ⟨ns, i, c, s, h1, h2, r⟩ := h
  rw [z, h2] at h1
  cases ns with
  | nil => cases h1
  | cons n ns => cases h1
theorem tab_hidL {xs : List V} (t : TabS H pI q) (h : H p = some (.lst xs)) : TabS (hid p H) pI q := by
  obtain ⟨ps, h1, h2, h3⟩ := t
  refine ⟨ps, ?_, h2, fun pos cv hc => ?_⟩
  · rw [hid_ne (fun z => by rw [z, h] at h1; cases h1)]
    exact h1
  · obtain ⟨c, e1, e2⟩ := h3 pos cv hc
    refine ⟨c, e1, ?_⟩
    rw [hid_ne (fun z => by rw [z, h] at e2; unfold CodeO at e2; cases e2)]
    exact e2
theorem tab_updL {xs : List V} {o : HO} (t : TabS H pI q) (h : H p = some (.lst xs)) : TabS (upd H p o) pI q := by
  obtain ⟨ps, h1, h2, h3⟩ := t
  refine ⟨ps, ?_, h2, fun pos cv hc => ?_⟩
  · rw [upd_ne (fun z => by rw [z, h] at h1; cases h1)]
    exact h1
  · obtain ⟨c, e1, e2⟩ := h3 pos cv hc
    refine ⟨c, e1, ?_⟩
    rw [upd_ne (fun z => by rw [z, h] at e2; unfold CodeO at e2; cases e2)]
    exact e2
/-- all that is known but the bag -/
def noBag (b l : Addr) (H : Hp) : Hp := hid b (hid l H)
theorem BagAt.wd (h : BagAt b l H) : Wd b l (noBag b l H) H := by
  refine ⟨if_pos rfl, ?_, hid_le.trans hid_le, h⟩
  unfold noBag
  rw [hid_comm]
  exact if_pos rfl
theorem BagAt.kpB (h : BagAt b l H) : Kp [b, l] H (noBag b l H) := by
  have ne := h.ne
  obtain ⟨ns, i, c, s, h1, h2, r⟩ := h
  exact (kp_hid h2 (by simp)).trans (kp_hid (p := b) (by rw [hid_ne ne]; exact h1) (by simp))
theorem tab_noBag (t : TabS H pI q) (h : BagAt b l H) : TabS (noBag b l H) pI q := by
  have ne := h.ne
  obtain ⟨ns, i, c, s, h1, h2, r⟩ := h
  exact tab_hidL (tab_hidL t h2) (by rw [hid_ne ne]; exact h1)
/-- after a draw -/
theorem draw_kp {G' : Hp} (h : BagAt b l H) (s : Same (Bh.noBag b l H) G') (w : Wd b l G' H') : Kp [b, l] H H' := h.kpB.trans (Same.kp (Same.trans s w.sm))
theorem draw_tab {G' : Hp} (t : TabS H pI q) (h : BagAt b l H) (s : Same (Bh.noBag b l H) G') (w : Wd b l G' H') : TabS H' pI q := (tab_noBag t h).ext (Same.trans s w.sm)
theorem tabs_hidL {TL : List (Addr × Str)} {p : Addr} {xs : List V} (t : Tabs TL H) (h : H p = some (.lst xs)) : Tabs TL (hid p H) := fun a ha => tab_hidL (t a ha) h
theorem tabs_updL {TL : List (Addr × Str)} {p : Addr} {xs : List V} {o : HO} (t : Tabs TL H) (h : H p = some (.lst xs)) : Tabs TL (upd H p o) := fun a ha => tab_updL (t a ha) h
theorem draws_tab {TL : List (Addr × Str)} {G' : Hp} (t : Tabs TL H) (h : BagAt b l H) (s : Same (Bh.noBag b l H) G') (w : Wd b l G' H') : Tabs TL H' := fun a ha => draw_tab (t a ha) h s w
end
/-- all_values of a rulebook -/
def spAllV (K : PySem.W.Frag) (C : Addr) : Sp := fun vs H Q _ => ∃ (x dx a1 a2 a3 : Addr) (y1 : List V) (fs : List Fld), vs = [.ref x] ∧ H x = some (.ins C dx (rbF a1 a2 a3)) ∧ H a1 = some (.lst y1) ∧ DpAll K H y1 (fs.map dF) ∧ FsB fs ∧ FsV fs ∧
  ∀ (p : Addr) (H' : Hp) (ys : List V), Same H H' → H' p = some (.lst ys) → ys.length = (vals fs).length → Q (.ref p) H'
section
variable {P : Program} {w : World} {K : PySem.W.Frag} {mg : Str → Option Value} {base : Heap} {f : Addr} {fd : FuncData}
theorem ok_mall_values (T : Top K mg) (R : RbC K mg) (F : Fun K "all_values" "Rulebook.all_values" s_Rulebook_all_values f fd) : FnOk P w K mg base CX0 2 f fd ["self"] (spAllV K R.C) := by
  have G_values_of := ok_valuesof (P := P) (w := w) (base := base) T
  refine F.ok sc_Rulebook_all_values (fun vs H Q E h => ?_) (fun cdv A outer s H vs Q E hr h => ?_)
  · obtain ⟨x, dx, a1, a2, a3, y1, fs, rfl, _⟩ := h
    rfl
  obtain ⟨x, dx, a1, a2, a3, y1, fs, rfl, h0, h1, d1, fb, fv, q⟩ := h
  refine ⟨_, (pss_one (ps_ret (pe_call G_values_of (hr.mono (by decide)) (by rfl) T.d_values_of.g T.d_values_of.kp T.d_values_of.b .nil pass0 (pa_cons (pe_fld (pv 0) (by rfl)) pa_nil)))), ?_⟩
  exact ⟨_, rfl, x, R.C, dx, _, .ref a1, rfl, h0, R.cl, R.n1, rfl, .ref a1, fs, rfl, ⟨a1, _, rfl, .inl (SqL.of h1), d1⟩, fb, fv, fun p ys H' np s1 hp hd => q p H' ys s1 hp (by rw [DpAll.length hd, List.length_map])⟩
end
end Bh

set_option Elab.async false
set_option linter.all false
set_option maxRecDepth 100000
set_option maxHeartbeats 2000000
namespace Bh
open PySem PySem.Spec PyProof.Rows L2 LamX NdefX
abbrev spB (K : PySem.W.Frag) {mg : Str → Option Value} (T : Top K mg) (C : Addr) (TL : List (Addr × Str)) : Sp := spInitB K TL C T.r_InvalidField.c T.r_InvalidTie.c T.r_InvalidKind.c
abbrev lam0 : LW := lwOf ((partsOf (exprOf ((bodyOf ((defBody s_law).getD 1 (.Pass noP))).getD 6 (.Pass noP)))).getD 0 noE)
def lk0 {P : Program} {w : World} {K : PySem.W.Frag} {mg : Str → Option Value} {base : Heap} {cI pI : Addr} {TL : List (Addr × Str)} (T : Top K mg) {R : RbC K mg} (M : RbM K mg R cI pI) (TB : TabB base mg cI pI) (mI : (pI, rbQ) ∈ TL) (uI : ∀ p ∈ TL, p.1 = pI → p.2 = rbQ) : LK P w K mg base ["_law_script", "_law_bag_here", "_law_turn", "_law_m", "_law_spots", "_law_part", "_law_bad", "_law_wrong", "_law_spot", "_law_odd", "_law_asks", "_law_due", "_law_ask"] (defScope s_law) 14 where
  L := lam0
  d := none
  N := ["_law_wrong", "_law_m"]
  ps := []
  fr := ["_law_wrong", "_law_m"]
  vs := []
  js := [7, 3]
  tb := fun E => tMakeK R.C 1 2 (spB K T R.C TL) (fun vs zs => vs ++ zs) E (tCons (tOp (rIxL K) (tVar 0) (tC (.int 0))) tNil) (tCons (tOp (rIxT K) (tVar 1) (tC (.int 1))) (tCons (tOp (rIxT K) (tVar 1) (tC (.int 2))) tNil))
  S := nscope_by (by decide +kernel)
  b0 := fun _ => ⟨rfl, rfl, fun _ _ _ _ _ _ => rfl⟩
  b1 := fun _ h => nomatch h
  free := ndef_free (sc := defScope s_law) (fr := ["_law_wrong", "_law_m"]) (by decide +kernel)
  frs := ndef_fr (sc := defScope s_law) (by decide +kernel)
  at_ := rfl
  body := fun A outer s H E F f hF hr => by
    obtain ⟨fn, fq, fp, fb, fsc, fcl, fc⟩ := F
    cases hF
    exact (pe_makeK (n := 1) (ks := ["ties", "kinds"]) (gV := fun vs zs => vs ++ zs) M.mkr (ok_rinitB (P := P) (w := w) (base := base) (TL := TL) T R TB mI uI M.lk M.hcd) (hr.mono (by decide)) (by rfl) R.g (kb_ties_kinds M) (passes_call (takes_of rfl rfl rfl rfl) (fun _ _ _ _ z => z)) (pa_cons (pe_ix (ix_list_K (K := K) (by rfl)) (pv 0) pe_int (fun _ _ => rfl)) pa_nil) (pk_cons (pe_ix (ix_tup_K (K := K) (by rfl)) (pv 1) pe_int (fun _ _ => rfl)) (pk_cons (pe_ix (ix_tup_K (K := K) (by rfl)) (pv 1) pe_int (fun _ _ => rfl)) pk_nil)))
abbrev lam1 : LW := lwOf ((partsOf (exprOf ((bodyOf ((defBody s_law).getD 1 (.Pass noP))).getD 7 (.Pass noP)))).getD 0 noE)
def lk1 {P : Program} {w : World} {K : PySem.W.Frag} {mg : Str → Option Value} {base : Heap} {cI pI : Addr} {TL : List (Addr × Str)} (T : Top K mg) {R : RbC K mg} (M : RbM K mg R cI pI) (TB : TabB base mg cI pI) (mI : (pI, rbQ) ∈ TL) (uI : ∀ p ∈ TL, p.1 = pI → p.2 = rbQ) : LK P w K mg base ["_law_script", "_law_bag_here", "_law_turn", "_law_m", "_law_spots", "_law_part", "_law_bad", "_law_wrong", "_law_spot", "_law_odd", "_law_asks", "_law_due", "_law_ask"] (defScope s_law) 14 where
  L := lam1
  d := none
  N := ["_law_wrong"]
  ps := []
  fr := ["_law_wrong"]
  vs := []
  js := [7]
  tb := fun E => tMakeK R.C 1 2 (spB K T R.C TL) (fun vs zs => vs ++ zs) E (tCons (tOp (rIxL K) (tVar 0) (tC (.int 0))) tNil) (tCons (tLst tNil) (tCons (tC .non) tNil))
  S := nscope_by (by decide +kernel)
  b0 := fun _ => ⟨rfl, rfl, fun _ _ _ _ _ _ => rfl⟩
  b1 := fun _ h => nomatch h
  free := ndef_free (sc := defScope s_law) (fr := ["_law_wrong"]) (by decide +kernel)
  frs := ndef_fr (sc := defScope s_law) (by decide +kernel)
  at_ := rfl
  body := fun A outer s H E F f hF hr => by
    obtain ⟨fn, fq, fp, fb, fsc, fcl, fc⟩ := F
    cases hF
    exact (pe_makeK (n := 1) (ks := ["ties", "kinds"]) (gV := fun vs zs => vs ++ zs) M.mkr (ok_rinitB (P := P) (w := w) (base := base) (TL := TL) T R TB mI uI M.lk M.hcd) (hr.mono (by decide)) (by rfl) R.g (kb_ties_kinds M) (passes_call (takes_of rfl rfl rfl rfl) (fun _ _ _ _ z => z)) (pa_cons (pe_ix (ix_list_K (K := K) (by rfl)) (pv 0) pe_int (fun _ _ => rfl)) pa_nil) (pk_cons (pe_lst pa_nil) (pk_cons pe_non pk_nil)))
abbrev lam2 : LW := lwOf ((partsOf (exprOf ((bodyOf ((defBody s_law).getD 1 (.Pass noP))).getD 8 (.Pass noP)))).getD 0 noE)
def lk2 {P : Program} {w : World} {K : PySem.W.Frag} {mg : Str → Option Value} {base : Heap} {cI pI : Addr} {TL : List (Addr × Str)} (T : Top K mg) {R : RbC K mg} (M : RbM K mg R cI pI) (TB : TabB base mg cI pI) (mI : (pI, rbQ) ∈ TL) (uI : ∀ p ∈ TL, p.1 = pI → p.2 = rbQ) : LK P w K mg base ["_law_script", "_law_bag_here", "_law_turn", "_law_m", "_law_spots", "_law_part", "_law_bad", "_law_wrong", "_law_spot", "_law_odd", "_law_asks", "_law_due", "_law_ask"] (defScope s_law) 14 where
  L := lam2
  d := none
  N := ["_law_m", "_law_wrong"]
  ps := []
  fr := ["_law_m", "_law_wrong"]
  vs := []
  js := [3, 7]
  tb := fun E => tMakeK R.C 1 2 (spB K T R.C TL) (fun vs zs => vs ++ zs) E (tCons (tOp (rIxT K) (tVar 0) (tC (.int 0))) tNil) (tCons (tOp (rIxL K) (tVar 1) (tC (.int 1))) (tCons (tOp (rIxT K) (tVar 0) (tC (.int 2))) tNil))
  S := nscope_by (by decide +kernel)
  b0 := fun _ => ⟨rfl, rfl, fun _ _ _ _ _ _ => rfl⟩
  b1 := fun _ h => nomatch h
  free := ndef_free (sc := defScope s_law) (fr := ["_law_m", "_law_wrong"]) (by decide +kernel)
  frs := ndef_fr (sc := defScope s_law) (by decide +kernel)
  at_ := rfl
  body := fun A outer s H E F f hF hr => by
    obtain ⟨fn, fq, fp, fb, fsc, fcl, fc⟩ := F
    cases hF
    exact (pe_makeK (n := 1) (ks := ["ties", "kinds"]) (gV := fun vs zs => vs ++ zs) M.mkr (ok_rinitB (P := P) (w := w) (base := base) (TL := TL) T R TB mI uI M.lk M.hcd) (hr.mono (by decide)) (by rfl) R.g (kb_ties_kinds M) (passes_call (takes_of rfl rfl rfl rfl) (fun _ _ _ _ z => z)) (pa_cons (pe_ix (ix_tup_K (K := K) (by rfl)) (pv 0) pe_int (fun _ _ => rfl)) pa_nil) (pk_cons (pe_ix (ix_list_K (K := K) (by rfl)) (pv 1) pe_int (fun _ _ => rfl)) (pk_cons (pe_ix (ix_tup_K (K := K) (by rfl)) (pv 0) pe_int (fun _ _ => rfl)) pk_nil)))
abbrev lam3 : LW := lwOf ((partsOf (exprOf ((bodyOf ((defBody s_law).getD 1 (.Pass noP))).getD 9 (.Pass noP)))).getD 0 noE)
def lk3 {P : Program} {w : World} {K : PySem.W.Frag} {mg : Str → Option Value} {base : Heap} {cI pI : Addr} {TL : List (Addr × Str)} (T : Top K mg) {R : RbC K mg} (M : RbM K mg R cI pI) (TB : TabB base mg cI pI) (mI : (pI, rbQ) ∈ TL) (uI : ∀ p ∈ TL, p.1 = pI → p.2 = rbQ) : LK P w K mg base ["_law_script", "_law_bag_here", "_law_turn", "_law_m", "_law_spots", "_law_part", "_law_bad", "_law_wrong", "_law_spot", "_law_odd", "_law_asks", "_law_due", "_law_ask"] (defScope s_law) 14 where
  L := lam3
  d := none
  N := ["_law_m", "_law_wrong"]
  ps := []
  fr := ["_law_m", "_law_wrong"]
  vs := []
  js := [3, 7]
  tb := fun E => tMakeK R.C 1 2 (spB K T R.C TL) (fun vs zs => vs ++ zs) E (tCons (tOp (rIxT K) (tVar 0) (tC (.int 0))) tNil) (tCons (tOp (rIxL K) (tVar 1) (tC (.int 1))) (tCons (tLst tNil) tNil))
  S := nscope_by (by decide +kernel)
  b0 := fun _ => ⟨rfl, rfl, fun _ _ _ _ _ _ => rfl⟩
  b1 := fun _ h => nomatch h
  free := ndef_free (sc := defScope s_law) (fr := ["_law_m", "_law_wrong"]) (by decide +kernel)
  frs := ndef_fr (sc := defScope s_law) (by decide +kernel)
  at_ := rfl
  body := fun A outer s H E F f hF hr => by
    obtain ⟨fn, fq, fp, fb, fsc, fcl, fc⟩ := F
    cases hF
    exact (pe_makeK (n := 1) (ks := ["ties", "kinds"]) (gV := fun vs zs => vs ++ zs) M.mkr (ok_rinitB (P := P) (w := w) (base := base) (TL := TL) T R TB mI uI M.lk M.hcd) (hr.mono (by decide)) (by rfl) R.g (kb_ties_kinds M) (passes_call (takes_of rfl rfl rfl rfl) (fun _ _ _ _ z => z)) (pa_cons (pe_ix (ix_tup_K (K := K) (by rfl)) (pv 0) pe_int (fun _ _ => rfl)) pa_nil) (pk_cons (pe_ix (ix_list_K (K := K) (by rfl)) (pv 1) pe_int (fun _ _ => rfl)) (pk_cons (pe_lst pa_nil) pk_nil)))
abbrev lam4 : LW := lwOf ((partsOf (exprOf ((bodyOf ((defBody s_law).getD 1 (.Pass noP))).getD 10 (.Pass noP)))).getD 0 noE)
def lk4 {P : Program} {w : World} {K : PySem.W.Frag} {mg : Str → Option Value} {base : Heap} {cI pI : Addr} {TL : List (Addr × Str)} (T : Top K mg) {R : RbC K mg} (M : RbM K mg R cI pI) (TB : TabB base mg cI pI) (mI : (pI, rbQ) ∈ TL) (uI : ∀ p ∈ TL, p.1 = pI → p.2 = rbQ) : LK P w K mg base ["_law_script", "_law_bag_here", "_law_turn", "_law_m", "_law_spots", "_law_part", "_law_bad", "_law_wrong", "_law_spot", "_law_odd", "_law_asks", "_law_due", "_law_ask"] (defScope s_law) 14 where
  L := lam4
  d := none
  N := ["_law_m", "_law_wrong"]
  ps := []
  fr := ["_law_m", "_law_wrong"]
  vs := []
  js := [3, 7]
  tb := fun E => tMakeK R.C 1 2 (spB K T R.C TL) (fun vs zs => vs ++ zs) E (tCons (tOp (rIxT K) (tVar 0) (tC (.int 0))) tNil) (tCons (tOp (rIxT K) (tVar 0) (tC (.int 1))) (tCons (tOp (rIxL K) (tVar 1) (tC (.int 2))) tNil))
  S := nscope_by (by decide +kernel)
  b0 := fun _ => ⟨rfl, rfl, fun _ _ _ _ _ _ => rfl⟩
  b1 := fun _ h => nomatch h
  free := ndef_free (sc := defScope s_law) (fr := ["_law_m", "_law_wrong"]) (by decide +kernel)
  frs := ndef_fr (sc := defScope s_law) (by decide +kernel)
  at_ := rfl
  body := fun A outer s H E F f hF hr => by
    obtain ⟨fn, fq, fp, fb, fsc, fcl, fc⟩ := F
    cases hF
    exact (pe_makeK (n := 1) (ks := ["ties", "kinds"]) (gV := fun vs zs => vs ++ zs) M.mkr (ok_rinitB (P := P) (w := w) (base := base) (TL := TL) T R TB mI uI M.lk M.hcd) (hr.mono (by decide)) (by rfl) R.g (kb_ties_kinds M) (passes_call (takes_of rfl rfl rfl rfl) (fun _ _ _ _ z => z)) (pa_cons (pe_ix (ix_tup_K (K := K) (by rfl)) (pv 0) pe_int (fun _ _ => rfl)) pa_nil) (pk_cons (pe_ix (ix_tup_K (K := K) (by rfl)) (pv 0) pe_int (fun _ _ => rfl)) (pk_cons (pe_ix (ix_list_K (K := K) (by rfl)) (pv 1) pe_int (fun _ _ => rfl)) pk_nil)))
abbrev lam5 : LW := lwOf ((partsOf (exprOf ((bodyOf ((defBody s_law).getD 1 (.Pass noP))).getD 15 (.Pass noP)))).getD 0 noE)
def lk5 {P : Program} {w : World} {K : PySem.W.Frag} {mg : Str → Option Value} {base : Heap} {cI pI : Addr} {TL : List (Addr × Str)} (T : Top K mg) {R : RbC K mg} (M : RbM K mg R cI pI) (TB : TabB base mg cI pI) (mI : (pI, rbQ) ∈ TL) (uI : ∀ p ∈ TL, p.1 = pI → p.2 = rbQ) : LK P w K mg base ["_law_script", "_law_bag_here", "_law_turn", "_law_m", "_law_spots", "_law_part", "_law_bad", "_law_wrong", "_law_spot", "_law_odd", "_law_asks", "_law_due", "_law_ask"] (defScope s_law) 14 where
  L := lam5
  d := none
  N := ["_law_odd"]
  ps := []
  fr := ["_law_odd"]
  vs := []
  js := [9]
  tb := fun E => tMakeK R.C 1 2 (spB K T R.C TL) (fun vs zs => vs ++ zs) E (tCons (tVar 0) tNil) (tCons (tVar 0) (tCons (tVar 0) tNil))
  S := nscope_by (by decide +kernel)
  b0 := fun _ => ⟨rfl, rfl, fun _ _ _ _ _ _ => rfl⟩
  b1 := fun _ h => nomatch h
  free := ndef_free (sc := defScope s_law) (fr := ["_law_odd"]) (by decide +kernel)
  frs := ndef_fr (sc := defScope s_law) (by decide +kernel)
  at_ := rfl
  body := fun A outer s H E F f hF hr => by
    obtain ⟨fn, fq, fp, fb, fsc, fcl, fc⟩ := F
    cases hF
    exact (pe_makeK (n := 1) (ks := ["ties", "kinds"]) (gV := fun vs zs => vs ++ zs) M.mkr (ok_rinitB (P := P) (w := w) (base := base) (TL := TL) T R TB mI uI M.lk M.hcd) (hr.mono (by decide)) (by rfl) R.g (kb_ties_kinds M) (passes_call (takes_of rfl rfl rfl rfl) (fun _ _ _ _ z => z)) (pa_cons (pv 0) pa_nil) (pk_cons (pv 0) (pk_cons (pv 0) pk_nil)))
abbrev lam6 : LW := lwOf ((partsOf (exprOf ((bodyOf ((defBody s_law).getD 1 (.Pass noP))).getD 16 (.Pass noP)))).getD 0 noE)
def lk6 {P : Program} {w : World} {K : PySem.W.Frag} {mg : Str → Option Value} {base : Heap} {cI pI : Addr} {TL : List (Addr × Str)} (T : Top K mg) {R : RbC K mg} (M : RbM K mg R cI pI) (TB : TabB base mg cI pI) (mI : (pI, rbQ) ∈ TL) (uI : ∀ p ∈ TL, p.1 = pI → p.2 = rbQ) : LK P w K mg base ["_law_script", "_law_bag_here", "_law_turn", "_law_m", "_law_spots", "_law_part", "_law_bad", "_law_wrong", "_law_spot", "_law_odd", "_law_asks", "_law_due", "_law_ask"] (defScope s_law) 14 where
  L := lam6
  d := none
  N := ["_law_m", "_law_odd"]
  ps := []
  fr := ["_law_m", "_law_odd"]
  vs := []
  js := [3, 9]
  tb := fun E => tMakeK R.C 1 2 (spB K T R.C TL) (fun vs zs => vs ++ zs) E (tCons (tOp (rIxT K) (tVar 0) (tC (.int 0))) tNil) (tCons (tVar 1) (tCons (tVar 1) tNil))
  S := nscope_by (by decide +kernel)
  b0 := fun _ => ⟨rfl, rfl, fun _ _ _ _ _ _ => rfl⟩
  b1 := fun _ h => nomatch h
  free := ndef_free (sc := defScope s_law) (fr := ["_law_m", "_law_odd"]) (by decide +kernel)
  frs := ndef_fr (sc := defScope s_law) (by decide +kernel)
  at_ := rfl
  body := fun A outer s H E F f hF hr => by
    obtain ⟨fn, fq, fp, fb, fsc, fcl, fc⟩ := F
    cases hF
    exact (pe_makeK (n := 1) (ks := ["ties", "kinds"]) (gV := fun vs zs => vs ++ zs) M.mkr (ok_rinitB (P := P) (w := w) (base := base) (TL := TL) T R TB mI uI M.lk M.hcd) (hr.mono (by decide)) (by rfl) R.g (kb_ties_kinds M) (passes_call (takes_of rfl rfl rfl rfl) (fun _ _ _ _ z => z)) (pa_cons (pe_ix (ix_tup_K (K := K) (by rfl)) (pv 0) pe_int (fun _ _ => rfl)) pa_nil) (pk_cons (pv 1) (pk_cons (pv 1) pk_nil)))
abbrev lam7 : LW := lwOf ((partsOf (exprOf ((bodyOf ((defBody s_law).getD 1 (.Pass noP))).getD 17 (.Pass noP)))).getD 0 noE)
def lk7 {P : Program} {w : World} {K : PySem.W.Frag} {mg : Str → Option Value} {base : Heap} {cI pI : Addr} {TL : List (Addr × Str)} (T : Top K mg) {R : RbC K mg} (M : RbM K mg R cI pI) (TB : TabB base mg cI pI) (mI : (pI, rbQ) ∈ TL) (uI : ∀ p ∈ TL, p.1 = pI → p.2 = rbQ) : LK P w K mg base ["_law_script", "_law_bag_here", "_law_turn", "_law_m", "_law_spots", "_law_part", "_law_bad", "_law_wrong", "_law_spot", "_law_odd", "_law_asks", "_law_due", "_law_ask"] (defScope s_law) 14 where
  L := lam7
  d := none
  N := ["_law_m", "_law_odd"]
  ps := []
  fr := ["_law_m", "_law_odd"]
  vs := []
  js := [3, 9]
  tb := fun E => tMakeK R.C 1 2 (spB K T R.C TL) (fun vs zs => vs ++ zs) E (tCons (tOp (rIxT K) (tVar 0) (tC (.int 0))) tNil) (tCons (tOp (rIxT K) (tVar 0) (tC (.int 1))) (tCons (tVar 1) tNil))
  S := nscope_by (by decide +kernel)
  b0 := fun _ => ⟨rfl, rfl, fun _ _ _ _ _ _ => rfl⟩
  b1 := fun _ h => nomatch h
  free := ndef_free (sc := defScope s_law) (fr := ["_law_m", "_law_odd"]) (by decide +kernel)
  frs := ndef_fr (sc := defScope s_law) (by decide +kernel)
  at_ := rfl
  body := fun A outer s H E F f hF hr => by
    obtain ⟨fn, fq, fp, fb, fsc, fcl, fc⟩ := F
    cases hF
    exact (pe_makeK (n := 1) (ks := ["ties", "kinds"]) (gV := fun vs zs => vs ++ zs) M.mkr (ok_rinitB (P := P) (w := w) (base := base) (TL := TL) T R TB mI uI M.lk M.hcd) (hr.mono (by decide)) (by rfl) R.g (kb_ties_kinds M) (passes_call (takes_of rfl rfl rfl rfl) (fun _ _ _ _ z => z)) (pa_cons (pe_ix (ix_tup_K (K := K) (by rfl)) (pv 0) pe_int (fun _ _ => rfl)) pa_nil) (pk_cons (pe_ix (ix_tup_K (K := K) (by rfl)) (pv 0) pe_int (fun _ _ => rfl)) (pk_cons (pv 1) pk_nil)))
abbrev lamb0 : LW := lwOf ((partsOf (exprOf ((defBody s_l_bounds_so).getD 5 (.Pass noP)))).getD 0 noE)
def lkb0 {P : Program} {w : World} {K : PySem.W.Frag} {mg : Str → Option Value} {base : Heap} {cI pI : Addr} {TL : List (Addr × Str)} (T : Top K mg) {R : RbC K mg} (M : RbM K mg R cI pI) (TB : TabB base mg cI pI) (mI : (pI, rbQ) ∈ TL) (uI : ∀ p ∈ TL, p.1 = pI → p.2 = rbQ) : LK P w K mg base ["_law_two", "_law_six", "_law_wide", "_law_far", "_law_names", "_law_t", "_law_s", "_law_asks", "_law_due", "_law_name", "_law_ask"] (defScope s_l_bounds_so) 14 where
  L := lamb0
  d := none
  N := ["_law_wide", "_law_t", "_law_s"]
  ps := []
  fr := ["_law_wide", "_law_t", "_law_s"]
  vs := []
  js := [2, 5, 6]
  tb := fun E => tCB (rLenS K) (tCons (tMeth R.C "all_values" (spAllV K R.C) [] E0 (tMakeK R.C 1 2 (spInit K TL R.C) (fun vs zs => vs ++ zs) E0 (tCons (tVar 0) tNil) (tCons (tSl (rSlL K) (tVar 1) tNoPart (tPart (tC (.int 4)))) (tCons (tSl (rSlL K) (tVar 2) tNoPart (tPart (tC (.int 3)))) tNil))) tNil) tNil)
  S := nscope_by (by decide +kernel)
  b0 := fun _ => ⟨rfl, rfl, fun _ _ _ _ _ _ => rfl⟩
  b1 := fun _ h => nomatch h
  free := ndef_free (sc := defScope s_l_bounds_so) (fr := ["_law_wide", "_law_t", "_law_s"]) (by decide +kernel)
  frs := ndef_fr (sc := defScope s_l_bounds_so) (by decide +kernel)
  at_ := rfl
  body := fun A outer s H E F f hF hr => by
    obtain ⟨fn, fq, fp, fb, fsc, fcl, fc⟩ := F
    cases hF
    exact (pe_callB (call_len_seq_K (K := K) (by rfl)) (by rfl) T.b_len PySem.boot_len (pa_cons (pe_meth0 (pe_makeK (n := 1) (ks := ["ties", "kinds"]) (gV := fun vs zs => vs ++ zs) M.mkr (ok_rinit (P := P) (w := w) (base := base) (TL := TL) T R TB mI uI M.lk M.hcd) (hr.mono (by decide)) (by rfl) R.g (kb_ties_kinds M) pass0 (pa_cons (pv 0) pa_nil) (pk_cons (pe_slice (sl_list_K (K := K) (by rfl)) (pv 1) po_none (po_some pe_int)) (pk_cons (pe_slice (sl_list_K (K := K) (by rfl)) (pv 2) po_none (po_some pe_int)) pk_nil))) R.cl M.all_values.M (ok_mall_values (P := P) (w := w) (base := base) T R M.all_values.F) (hr.mono (by decide)) M.all_values.b .nil pass0) pa_nil))
abbrev lamb1 : LW := lwOf ((partsOf (exprOf ((defBody s_l_bounds_so).getD 6 (.Pass noP)))).getD 0 noE)
def lkb1 {P : Program} {w : World} {K : PySem.W.Frag} {mg : Str → Option Value} {base : Heap} {cI pI : Addr} {TL : List (Addr × Str)} (T : Top K mg) {R : RbC K mg} (M : RbM K mg R cI pI) (TB : TabB base mg cI pI) (mI : (pI, rbQ) ∈ TL) (uI : ∀ p ∈ TL, p.1 = pI → p.2 = rbQ) : LK P w K mg base ["_law_two", "_law_six", "_law_wide", "_law_far", "_law_names", "_law_t", "_law_s", "_law_asks", "_law_due", "_law_name", "_law_ask"] (defScope s_l_bounds_so) 14 where
  L := lamb1
  d := none
  N := ["_law_far", "_law_t", "_law_s"]
  ps := []
  fr := ["_law_far", "_law_t", "_law_s"]
  vs := []
  js := [3, 5, 6]
  tb := fun E => tMakeK R.C 1 2 (spB K T R.C TL) (fun vs zs => vs ++ zs) E (tCons (tVar 0) tNil) (tCons (tSl (rSlL K) (tVar 1) tNoPart (tPart (tC (.int 1)))) (tCons (tSl (rSlL K) (tVar 2) tNoPart (tPart (tC (.int 1)))) tNil))
  S := nscope_by (by decide +kernel)
  b0 := fun _ => ⟨rfl, rfl, fun _ _ _ _ _ _ => rfl⟩
  b1 := fun _ h => nomatch h
  free := ndef_free (sc := defScope s_l_bounds_so) (fr := ["_law_far", "_law_t", "_law_s"]) (by decide +kernel)
  frs := ndef_fr (sc := defScope s_l_bounds_so) (by decide +kernel)
  at_ := rfl
  body := fun A outer s H E F f hF hr => by
    obtain ⟨fn, fq, fp, fb, fsc, fcl, fc⟩ := F
    cases hF
    exact (pe_makeK (n := 1) (ks := ["ties", "kinds"]) (gV := fun vs zs => vs ++ zs) M.mkr (ok_rinitB (P := P) (w := w) (base := base) (TL := TL) T R TB mI uI M.lk M.hcd) (hr.mono (by decide)) (by rfl) R.g (kb_ties_kinds M) (passes_call (takes_of rfl rfl rfl rfl) (fun _ _ _ _ z => z)) (pa_cons (pv 0) pa_nil) (pk_cons (pe_slice (sl_list_K (K := K) (by rfl)) (pv 1) po_none (po_some pe_int)) (pk_cons (pe_slice (sl_list_K (K := K) (by rfl)) (pv 2) po_none (po_some pe_int)) pk_nil)))
abbrev lamb2 : LW := lwOf ((partsOf (exprOf ((defBody s_l_bounds_so).getD 7 (.Pass noP)))).getD 0 noE)
def lkb2 {P : Program} {w : World} {K : PySem.W.Frag} {mg : Str → Option Value} {base : Heap} {cI pI : Addr} {TL : List (Addr × Str)} (T : Top K mg) {R : RbC K mg} (M : RbM K mg R cI pI) (TB : TabB base mg cI pI) (mI : (pI, rbQ) ∈ TL) (uI : ∀ p ∈ TL, p.1 = pI → p.2 = rbQ) : LK P w K mg base ["_law_two", "_law_six", "_law_wide", "_law_far", "_law_names", "_law_t", "_law_s", "_law_asks", "_law_due", "_law_name", "_law_ask"] (defScope s_l_bounds_so) 14 where
  L := lamb2
  d := none
  N := ["_law_wide", "_law_t", "_law_s", "_law_two"]
  ps := []
  fr := ["_law_wide", "_law_t", "_law_s", "_law_two"]
  vs := []
  js := [2, 5, 6, 0]
  tb := fun E => tMakeK R.C 1 2 (spB K T R.C TL) (fun vs zs => vs ++ zs) E (tCons (tOp rCat (tVar 0) (tLst (tCons (tTup (tCons (tC (.str "d")) (tCons (tVar 3) tNil))) tNil))) tNil) (tCons (tSl (rSlL K) (tVar 1) tNoPart (tPart (tC (.int 1)))) (tCons (tSl (rSlL K) (tVar 2) tNoPart (tPart (tC (.int 1)))) tNil))
  S := nscope_by (by decide +kernel)
  b0 := fun _ => ⟨rfl, rfl, fun _ _ _ _ _ _ => rfl⟩
  b1 := fun _ h => nomatch h
  free := ndef_free (sc := defScope s_l_bounds_so) (fr := ["_law_wide", "_law_t", "_law_s", "_law_two"]) (by decide +kernel)
  frs := ndef_fr (sc := defScope s_l_bounds_so) (by decide +kernel)
  at_ := rfl
  body := fun A outer s H E F f hF hr => by
    obtain ⟨fn, fq, fp, fb, fsc, fcl, fc⟩ := F
    cases hF
    exact (pe_makeK (n := 1) (ks := ["ties", "kinds"]) (gV := fun vs zs => vs ++ zs) M.mkr (ok_rinitB (P := P) (w := w) (base := base) (TL := TL) T R TB mI uI M.lk M.hcd) (hr.mono (by decide)) (by rfl) R.g (kb_ties_kinds M) (passes_call (takes_of rfl rfl rfl rfl) (fun _ _ _ _ z => z)) (pa_cons (pe_op op_cat (pv 0) (pe_lst (pa_cons (pe_tup (pa_cons pe_str (pa_cons (pv 3) pa_nil))) pa_nil))) pa_nil) (pk_cons (pe_slice (sl_list_K (K := K) (by rfl)) (pv 1) po_none (po_some pe_int)) (pk_cons (pe_slice (sl_list_K (K := K) (by rfl)) (pv 2) po_none (po_some pe_int)) pk_nil)))
abbrev lamb3 : LW := lwOf ((partsOf (exprOf ((defBody s_l_bounds_so).getD 8 (.Pass noP)))).getD 0 noE)
def lkb3 {P : Program} {w : World} {K : PySem.W.Frag} {mg : Str → Option Value} {base : Heap} {cI pI : Addr} {TL : List (Addr × Str)} (T : Top K mg) {R : RbC K mg} (M : RbM K mg R cI pI) (TB : TabB base mg cI pI) (mI : (pI, rbQ) ∈ TL) (uI : ∀ p ∈ TL, p.1 = pI → p.2 = rbQ) : LK P w K mg base ["_law_two", "_law_six", "_law_wide", "_law_far", "_law_names", "_law_t", "_law_s", "_law_asks", "_law_due", "_law_name", "_law_ask"] (defScope s_l_bounds_so) 14 where
  L := lamb3
  d := none
  N := ["_law_wide", "_law_t", "_law_s"]
  ps := []
  fr := ["_law_wide", "_law_t", "_law_s"]
  vs := []
  js := [2, 5, 6]
  tb := fun E => tMakeK R.C 1 2 (spB K T R.C TL) (fun vs zs => vs ++ zs) E (tCons (tVar 0) tNil) (tCons (tVar 1) (tCons (tVar 2) tNil))
  S := nscope_by (by decide +kernel)
  b0 := fun _ => ⟨rfl, rfl, fun _ _ _ _ _ _ => rfl⟩
  b1 := fun _ h => nomatch h
  free := ndef_free (sc := defScope s_l_bounds_so) (fr := ["_law_wide", "_law_t", "_law_s"]) (by decide +kernel)
  frs := ndef_fr (sc := defScope s_l_bounds_so) (by decide +kernel)
  at_ := rfl
  body := fun A outer s H E F f hF hr => by
    obtain ⟨fn, fq, fp, fb, fsc, fcl, fc⟩ := F
    cases hF
    exact (pe_makeK (n := 1) (ks := ["ties", "kinds"]) (gV := fun vs zs => vs ++ zs) M.mkr (ok_rinitB (P := P) (w := w) (base := base) (TL := TL) T R TB mI uI M.lk M.hcd) (hr.mono (by decide)) (by rfl) R.g (kb_ties_kinds M) (passes_call (takes_of rfl rfl rfl rfl) (fun _ _ _ _ z => z)) (pa_cons (pv 0) pa_nil) (pk_cons (pv 1) (pk_cons (pv 2) pk_nil)))
abbrev lamb4 : LW := lwOf ((partsOf (exprOf ((defBody s_l_bounds_so).getD 9 (.Pass noP)))).getD 0 noE)
def lkb4 {P : Program} {w : World} {K : PySem.W.Frag} {mg : Str → Option Value} {base : Heap} {cI pI : Addr} {TL : List (Addr × Str)} (T : Top K mg) {R : RbC K mg} (M : RbM K mg R cI pI) (TB : TabB base mg cI pI) (mI : (pI, rbQ) ∈ TL) (uI : ∀ p ∈ TL, p.1 = pI → p.2 = rbQ) : LK P w K mg base ["_law_two", "_law_six", "_law_wide", "_law_far", "_law_names", "_law_t", "_law_s", "_law_asks", "_law_due", "_law_name", "_law_ask"] (defScope s_l_bounds_so) 14 where
  L := lamb4
  d := none
  N := ["_law_wide", "_law_s", "_law_t"]
  ps := []
  fr := ["_law_wide", "_law_s", "_law_t"]
  vs := []
  js := [2, 6, 5]
  tb := fun E => tMakeK R.C 1 2 (spB K T R.C TL) (fun vs zs => vs ++ zs) E (tCons (tVar 0) tNil) (tCons (tSl (rSlL K) (tVar 2) tNoPart (tPart (tC (.int 4)))) (tCons (tVar 1) tNil))
  S := nscope_by (by decide +kernel)
  b0 := fun _ => ⟨rfl, rfl, fun _ _ _ _ _ _ => rfl⟩
  b1 := fun _ h => nomatch h
  free := ndef_free (sc := defScope s_l_bounds_so) (fr := ["_law_wide", "_law_s", "_law_t"]) (by decide +kernel)
  frs := ndef_fr (sc := defScope s_l_bounds_so) (by decide +kernel)
  at_ := rfl
  body := fun A outer s H E F f hF hr => by
    obtain ⟨fn, fq, fp, fb, fsc, fcl, fc⟩ := F
    cases hF
    exact (pe_makeK (n := 1) (ks := ["ties", "kinds"]) (gV := fun vs zs => vs ++ zs) M.mkr (ok_rinitB (P := P) (w := w) (base := base) (TL := TL) T R TB mI uI M.lk M.hcd) (hr.mono (by decide)) (by rfl) R.g (kb_ties_kinds M) (passes_call (takes_of rfl rfl rfl rfl) (fun _ _ _ _ z => z)) (pa_cons (pv 0) pa_nil) (pk_cons (pe_slice (sl_list_K (K := K) (by rfl)) (pv 2) po_none (po_some pe_int)) (pk_cons (pv 1) pk_nil)))
abbrev lamb5 : LW := lwOf ((partsOf (exprOf ((defBody s_l_bounds_so).getD 10 (.Pass noP)))).getD 0 noE)
def lkb5 {P : Program} {w : World} {K : PySem.W.Frag} {mg : Str → Option Value} {base : Heap} {cI pI : Addr} {TL : List (Addr × Str)} (T : Top K mg) {R : RbC K mg} (M : RbM K mg R cI pI) (TB : TabB base mg cI pI) (mI : (pI, rbQ) ∈ TL) (uI : ∀ p ∈ TL, p.1 = pI → p.2 = rbQ) : LK P w K mg base ["_law_two", "_law_six", "_law_wide", "_law_far", "_law_names", "_law_t", "_law_s", "_law_asks", "_law_due", "_law_name", "_law_ask"] (defScope s_l_bounds_so) 14 where
  L := lamb5
  d := none
  N := ["_law_wide", "_law_s", "_law_t"]
  ps := []
  fr := ["_law_wide", "_law_s", "_law_t"]
  vs := []
  js := [2, 6, 5]
  tb := fun E => tMakeK R.C 1 2 (spB K T R.C TL) (fun vs zs => vs ++ zs) E (tCons (tVar 0) tNil) (tCons (tOp rCat (tSl (rSlL K) (tVar 2) tNoPart (tPart (tC (.int 2)))) (tSl (rSlL K) (tVar 2) tNoPart (tPart (tC (.int 1))))) (tCons (tSl (rSlL K) (tVar 1) tNoPart (tPart (tC (.int 1)))) tNil))
  S := nscope_by (by decide +kernel)
  b0 := fun _ => ⟨rfl, rfl, fun _ _ _ _ _ _ => rfl⟩
  b1 := fun _ h => nomatch h
  free := ndef_free (sc := defScope s_l_bounds_so) (fr := ["_law_wide", "_law_s", "_law_t"]) (by decide +kernel)
  frs := ndef_fr (sc := defScope s_l_bounds_so) (by decide +kernel)
  at_ := rfl
  body := fun A outer s H E F f hF hr => by
    obtain ⟨fn, fq, fp, fb, fsc, fcl, fc⟩ := F
    cases hF
    exact (pe_makeK (n := 1) (ks := ["ties", "kinds"]) (gV := fun vs zs => vs ++ zs) M.mkr (ok_rinitB (P := P) (w := w) (base := base) (TL := TL) T R TB mI uI M.lk M.hcd) (hr.mono (by decide)) (by rfl) R.g (kb_ties_kinds M) (passes_call (takes_of rfl rfl rfl rfl) (fun _ _ _ _ z => z)) (pa_cons (pv 0) pa_nil) (pk_cons (pe_op op_cat (pe_slice (sl_list_K (K := K) (by rfl)) (pv 2) po_none (po_some pe_int)) (pe_slice (sl_list_K (K := K) (by rfl)) (pv 2) po_none (po_some pe_int))) (pk_cons (pe_slice (sl_list_K (K := K) (by rfl)) (pv 1) po_none (po_some pe_int)) pk_nil)))
abbrev lamb6 : LW := lwOf ((partsOf (exprOf ((defBody s_l_bounds_so).getD 11 (.Pass noP)))).getD 0 noE)
def lkb6 {P : Program} {w : World} {K : PySem.W.Frag} {mg : Str → Option Value} {base : Heap} {cI pI : Addr} {TL : List (Addr × Str)} (T : Top K mg) {R : RbC K mg} (M : RbM K mg R cI pI) (TB : TabB base mg cI pI) (mI : (pI, rbQ) ∈ TL) (uI : ∀ p ∈ TL, p.1 = pI → p.2 = rbQ) : LK P w K mg base ["_law_two", "_law_six", "_law_wide", "_law_far", "_law_names", "_law_t", "_law_s", "_law_asks", "_law_due", "_law_name", "_law_ask"] (defScope s_l_bounds_so) 14 where
  L := lamb6
  d := none
  N := ["_law_wide", "_law_t", "_law_s"]
  ps := []
  fr := ["_law_wide", "_law_t", "_law_s"]
  vs := []
  js := [2, 5, 6]
  tb := fun E => tMakeK R.C 1 2 (spB K T R.C TL) (fun vs zs => vs ++ zs) E (tCons (tVar 0) tNil) (tCons (tSl (rSlL K) (tVar 1) tNoPart (tPart (tC (.int 1)))) (tCons (tOp rCat (tSl (rSlL K) (tVar 2) tNoPart (tPart (tC (.int 1)))) (tSl (rSlL K) (tVar 2) tNoPart (tPart (tC (.int 1))))) tNil))
  S := nscope_by (by decide +kernel)
  b0 := fun _ => ⟨rfl, rfl, fun _ _ _ _ _ _ => rfl⟩
  b1 := fun _ h => nomatch h
  free := ndef_free (sc := defScope s_l_bounds_so) (fr := ["_law_wide", "_law_t", "_law_s"]) (by decide +kernel)
  frs := ndef_fr (sc := defScope s_l_bounds_so) (by decide +kernel)
  at_ := rfl
  body := fun A outer s H E F f hF hr => by
    obtain ⟨fn, fq, fp, fb, fsc, fcl, fc⟩ := F
    cases hF
    exact (pe_makeK (n := 1) (ks := ["ties", "kinds"]) (gV := fun vs zs => vs ++ zs) M.mkr (ok_rinitB (P := P) (w := w) (base := base) (TL := TL) T R TB mI uI M.lk M.hcd) (hr.mono (by decide)) (by rfl) R.g (kb_ties_kinds M) (passes_call (takes_of rfl rfl rfl rfl) (fun _ _ _ _ z => z)) (pa_cons (pv 0) pa_nil) (pk_cons (pe_slice (sl_list_K (K := K) (by rfl)) (pv 1) po_none (po_some pe_int)) (pk_cons (pe_op op_cat (pe_slice (sl_list_K (K := K) (by rfl)) (pv 2) po_none (po_some pe_int)) (pe_slice (sl_list_K (K := K) (by rfl)) (pv 2) po_none (po_some pe_int))) pk_nil)))
abbrev lksA {P : Program} {w : World} {K : PySem.W.Frag} {mg : Str → Option Value} {base : Heap} {cI pI : Addr} {TL : List (Addr × Str)} (T : Top K mg) {R : RbC K mg} (M : RbM K mg R cI pI) (TB : TabB base mg cI pI) (mI : (pI, rbQ) ∈ TL) (uI : ∀ p ∈ TL, p.1 = pI → p.2 = rbQ) : List (LK P w K mg base ["_law_script", "_law_bag_here", "_law_turn", "_law_m", "_law_spots", "_law_part", "_law_bad", "_law_wrong", "_law_spot", "_law_odd", "_law_asks", "_law_due", "_law_ask"] (defScope s_law) 14) := [lk0 T M TB mI uI, lk1 T M TB mI uI, lk2 T M TB mI uI, lk3 T M TB mI uI, lk4 T M TB mI uI]
abbrev lksB {P : Program} {w : World} {K : PySem.W.Frag} {mg : Str → Option Value} {base : Heap} {cI pI : Addr} {TL : List (Addr × Str)} (T : Top K mg) {R : RbC K mg} (M : RbM K mg R cI pI) (TB : TabB base mg cI pI) (mI : (pI, rbQ) ∈ TL) (uI : ∀ p ∈ TL, p.1 = pI → p.2 = rbQ) : List (LK P w K mg base ["_law_script", "_law_bag_here", "_law_turn", "_law_m", "_law_spots", "_law_part", "_law_bad", "_law_wrong", "_law_spot", "_law_odd", "_law_asks", "_law_due", "_law_ask"] (defScope s_law) 14) := [lk5 T M TB mI uI, lk6 T M TB mI uI, lk7 T M TB mI uI]
abbrev lksAB {P : Program} {w : World} {K : PySem.W.Frag} {mg : Str → Option Value} {base : Heap} {cI pI : Addr} {TL : List (Addr × Str)} (T : Top K mg) {R : RbC K mg} (M : RbM K mg R cI pI) (TB : TabB base mg cI pI) (mI : (pI, rbQ) ∈ TL) (uI : ∀ p ∈ TL, p.1 = pI → p.2 = rbQ) : List (LK P w K mg base ["_law_script", "_law_bag_here", "_law_turn", "_law_m", "_law_spots", "_law_part", "_law_bad", "_law_wrong", "_law_spot", "_law_odd", "_law_asks", "_law_due", "_law_ask"] (defScope s_law) 14) := [lk0 T M TB mI uI, lk1 T M TB mI uI, lk2 T M TB mI uI, lk3 T M TB mI uI, lk4 T M TB mI uI, lk5 T M TB mI uI, lk6 T M TB mI uI, lk7 T M TB mI uI]
abbrev lksC {P : Program} {w : World} {K : PySem.W.Frag} {mg : Str → Option Value} {base : Heap} {cI pI : Addr} {TL : List (Addr × Str)} (T : Top K mg) {R : RbC K mg} (M : RbM K mg R cI pI) (TB : TabB base mg cI pI) (mI : (pI, rbQ) ∈ TL) (uI : ∀ p ∈ TL, p.1 = pI → p.2 = rbQ) : List (LK P w K mg base ["_law_two", "_law_six", "_law_wide", "_law_far", "_law_names", "_law_t", "_law_s", "_law_asks", "_law_due", "_law_name", "_law_ask"] (defScope s_l_bounds_so) 14) := [lkb0 T M TB mI uI, lkb1 T M TB mI uI, lkb2 T M TB mI uI, lkb3 T M TB mI uI, lkb4 T M TB mI uI, lkb5 T M TB mI uI, lkb6 T M TB mI uI]
end Bh

set_option Elab.async false
set_option linter.all false
set_option maxRecDepth 100000
set_option maxHeartbeats 1000000
namespace Bh
open PySem PySem.Spec PyProof.Rows L2 LamX NdefX
theorem IsLm.mutL {cs : List (Str × Addr)} {q : Str} {L : LW} {d : Option Int} {H : Hp} {v : V} {p : Addr} {xs : List V} {o : HO} (h : IsLm cs q L d H v) (e : H p = some (.lst xs)) : IsLm cs q L d (upd H p o) v := by
  obtain ⟨f, c, dV, e1, e2, e3, e4⟩ := h
  refine ⟨f, c, dV, e1, ?_, ?_, ?_⟩
  · rw [upd_ne (fun z => by rw [z, e] at e2; unfold LmO at e2; cases e2)]
    exact e2
  · rw [upd_ne (fun z => by rw [z, e] at e3; unfold CodeO at e3; cases e3)]
    exact e3
  · rcases e4 with z | ⟨n, t, z1, z2, z3⟩
    · exact .inl z
    · refine .inr ⟨n, t, z1, z2, ?_⟩
      rw [upd_ne (fun z => by rw [z, e] at z3; cases z3)]
      exact z3
theorem extn_noTb {H H' : Hp} (e : ExtN H H') : Same (noTb H) (noTb H') := fun a o h => noTb_at (e _ _ (noTb_le _ _ h) (noTb_not h)) (noTb_not h)
theorem extn_same {H H' : Hp} (e : ExtN H H') : Same (noTb H) H' := fun a o h => e _ _ (noTb_le _ _ h) (noTb_not h)
theorem dp_ext {K : PySem.W.Frag} {H H' : Hp} {v : V} {d : PyData} (e : ExtN H H') (h : Dp K H v d) : Dp K H' v d := Dp.mono (extn_same e) (Dp.nTb h)
section
variable {P : Program} {w : World} {K : PySem.W.Frag} {mg : Str → Option Value} {base : Heap} {XN : List Str} {sc : Scope} {k : Nat} {TL : List (Addr × Str)} {cs : List (Str × Addr)} {q : Str} {HB : Hp} {p : Addr}
/-- the list p (new since HB) of these lambdas -/
structure Asks (TL : List (Addr × Str)) (cs : List (Str × Addr)) (q : Str) (HB : Hp) (p : Addr) (ks : List (LK P w K mg base XN sc k)) (H : Hp) : Prop where
  ex : ExtN HB H
  nw : ∀ o, HB p = some o → ∃ ps, o = HO.tbl ps
  tb : Tabs TL H
  ls : ∃ vs, H p = some (.lst vs) ∧ Paired (fun v κ => IsLm cs q κ.L κ.d H v) vs ks
theorem paired_snoc {α β : Type} {R : α → β → Prop} {xs : List α} {ys : List β} {x : α} {y : β} (h : Paired R xs ys) (r : R x y) : Paired R (xs ++ [x]) (ys ++ [y]) := by
  induction h with
  | nil => exact .cons r .nil
  | cons h _ ih => exact .cons h ih
theorem paired_imp {α β : Type} {R S : α → β → Prop} {xs : List α} {ys : List β} (h : Paired R xs ys) (m : ∀ x y, R x y → S x y) : Paired S xs ys := by
  induction h with
  | nil => exact .nil
  | cons h _ ih => exact .cons (m _ _ h) ih
theorem extn_mutT {H H1 : Hp} {o : HO} (e : ExtN H H1) (n : ∀ o, H p = some o → ∃ ps, o = HO.tbl ps) : ExtN H (upd H1 p o) := fun b u h z => by
  rw [upd_ne (fun y => by rw [y] at h; obtain ⟨ps, r⟩ := n _ h; exact z ps r)]
  exact e b u h z
theorem tbl_of {H H' : Hp} {o : HO} (e : ExtN H H') (np : H' p = none) (z : H p = some o) : ∃ ps, o = .tbl ps := by
  by_cases t : ∃ ps, o = .tbl ps
  · exact t
  · have := e _ _ z fun ps y => t ⟨ps, y⟩
    rw [np] at this
    cases this
theorem paired_len {α β : Type} {R : α → β → Prop} : ∀ {xs : List α} {ys : List β}, Paired R xs ys → xs.length = ys.length
  | _, _, .nil => rfl
  | _, _, .cons _ t => congrArg Nat.succ (paired_len t)
theorem asks_one {κ : LK P w K mg base XN sc k} {σ : L2.St} {H : Hp} {Q : VK} (tb : Tabs TL H) (h : ∀ H' p, Asks TL cs q H p [κ] H' → Q (.ref p) H') :
    tLst (tCons (tStl TL cs q κ.L κ.d) tNil) σ H Q := by
  refine ⟨tb, fun H1 v1 e1 t1 l1 => ⟨(by show 1 ≤ sizeLine; decide), fun p np => ?_⟩⟩
  exact h _ p ⟨extn_new e1 np, fun o z => tbl_of e1 np z, tabs_new t1 np, _, upd_same, .cons (l1.ext (extn_new (ExtN.refl _) np)) .nil⟩
theorem asks_add {ks : List (LK P w K mg base XN sc k)} {κ : LK P w K mg base XN sc k} {σ : L2.St} {H : Hp} {D : Ends} {j : Nat} (a : Asks TL cs q HB p ks H) (hl : ks.length < 100) (e : σ[j]? = some (some (.ref p))) (h : ∀ H', Asks TL cs q HB p (ks ++ [κ]) H' → D.nx σ H') :
    tDrop (tBM K "list" rAppend (tVar j) (tCons (tStl TL cs q κ.L κ.d) tNil)) D σ H := by
  obtain ⟨vs, h1, h2⟩ := a.ls
  refine ⟨_, e, .inl ⟨rfl, _, SqL.of h1⟩, a.tb, fun H2 v e2 t2 l2 => ?_⟩
  have g1 := e2 _ _ h1 fun _ z => nomatch z
  have ln : vs.length = ks.length := Bh.paired_len h2
  refine ⟨p, vs, v, rfl, rfl, g1, lt_line (by omega), h _ ⟨extn_mutT (a.ex.trans e2) a.nw, a.nw, tabs_updL t2 g1, _, upd_same, ?_⟩⟩
  exact paired_snoc (paired_imp h2 fun x y r => (r.ext e2).mutL g1) (l2.mutL g1)
/-- what a kept lambda's question ends with: the refusal and its place, or a number -/
def Ask (K : PySem.W.Frag) (TL : List (Addr × Str)) (cBE cMS : Addr) (HA : Hp) (σ : L2.St) (κ : LK P w K mg base XN sc k) (r : Str × Int) : Prop :=
  (∃ C : Addr, ErC K cBE cMS C r.1 "position" ∧ (r.1, ("position" : Str)) ∈ exPairs ∧
    ∀ (H' : Hp) (E : XK) (Q0 : VK), ExtN HA H' → Tabs TL H' → (∀ (dd : Addr) (H2 : Hp), ExtN H' H2 → Tabs TL H2 → H2 dd = some (.xd [("code", .str r.1), ("position", .int r.2)]) → E (.ref C) (some dd) H2) → κ.tb E (startF κ.N κ.vs (κ.js.map (slotAt σ))) H' Q0) ∨
  (r.1 = "value" ∧ ∀ (H' : Hp) (E : XK) (Q0 : VK), ExtN HA H' → Tabs TL H' → (∀ H2, ExtN H' H2 → Tabs TL H2 → Q0 (.int r.2) H2) → κ.tb E (startF κ.N κ.vs (κ.js.map (slotAt σ))) H' Q0)
abbrev dAsk (r : Str × Int) : PyData := .tuple [.str r.1, .int r.2]
theorem noTb_updL {H : Hp} {D : Addr} {xs : List V} : hid D (noTb (upd H D (.lst xs))) = hid D (noTb H) := by
  funext a
  by_cases h : a = D
  · unfold hid
    rw [if_pos h, if_pos h]
  · rw [hid_ne h, hid_ne h]
    unfold noTb
    rw [upd_ne h]
theorem lc_asksL {cBE cMS : Addr} {ks ks2 : List (LK P w K mg base XN sc k)} {rs : List (Str × Int)} {H : Hp} {Q : VK} {vs : List V} {σ : L2.St} {s0 s1 s2 s3 s4 s5 s6 s7 s8 s9 s11 s12 : Option V} (hσ : σ = [s0, s1, s2, s3, s4, s5, s6, s7, s8, s9, some (.ref p), s11, s12])
    (h1 : H p = some (.lst vs)) (h2 : Paired (fun v κ => IsLm cs q κ.L κ.d H v) vs ks) (h3 : Paired (Ask K TL cBE cMS H σ) ks rs) (hn : ks.length ≤ 100) (sub : ∀ κ ∈ ks, κ ∈ ks2) (tb : Tabs TL H)
    (h : ∀ H' D ys, ExtN H H' → Tabs TL H' → H' D = some (.lst ys) → DpAll K H' ys (rs.map dAsk) → Q (.ref D) H') :
    tLc (iList K (tVar 10)) (gName 12) tYes (tTryL cs q ks2 12 (TTryE K cBE cMS exPairs) σ) [12] σ H Q := by
  subst hσ
  refine ⟨_, rfl, p, rfl, ⟨_, SqL.of h1⟩, fun D nD => ?_⟩
  have l1 : vs.length = ks.length := Bh.paired_len h2
  have l2 : ks.length = rs.length := Bh.paired_len h3
  refine lc_it walk_list (fun i H' => ExtN H H' ∧ Tabs TL H' ∧ ∃ acc, H' D = some (.lst acc) ∧ DpAll K (hid D (noTb H')) acc ((rs.take i).map dAsk)) ⟨extn_new (ExtN.refl _) nD, tabs_new tb nD, [], upd_same, .nil⟩ (fun i H' _ p => SqL.of (p.1 _ _ h1 fun _ z => nomatch z)) ?_ ?_
  · rintro i x H' H'' hi ⟨x1, t1, acc, hD, hacc⟩ ⟨rfl, ex⟩
    obtain ⟨κ, eκ, lm⟩ := paired_get h2 ex
    obtain ⟨r, er, ask⟩ := paired_get h3 eκ
    obtain ⟨f0, c0, dV0, rfl, m1, m2, m3⟩ := id lm
    refine ⟨rfl, κ, f0, sub _ (List.mem_of_getElem? eκ), rfl, ?_⟩
    have la : acc.length ≤ 100 := by
      rw [DpAll.length hacc, List.length_map, List.length_take]
      omega
    have tk : rs.take (i + 1) = rs.take i ++ [r] := by
      rw [List.take_add_one, er]
      rfl
    have fin : ∀ (H3 : Hp) (p3 : Addr), ExtN H'' H3 → Tabs TL H3 → H3 p3 = some (.tup [.str r.1, .int r.2]) → ∃ acc', H3 D = some (.lst acc') ∧ acc'.length < sizeLine ∧ (ExtN H (upd H3 D (.lst (acc' ++ [V.ref p3]))) ∧ Tabs TL (upd H3 D (.lst (acc' ++ [V.ref p3]))) ∧ ∃ ac2, upd H3 D (.lst (acc' ++ [V.ref p3])) D = some (.lst ac2) ∧ DpAll K (hid D (noTb (upd H3 D (.lst (acc' ++ [V.ref p3]))))) ac2 ((rs.take (i + 1)).map dAsk)) := fun H3 p3 xx t3 e3 => by
      have hD3 := xx _ _ hD fun _ z => nomatch z
      refine ⟨acc, hD3, lt_line (by omega), extn_mutT (x1.trans xx) (fun o z => by rw [nD] at z; cases z), tabs_updL t3 hD3, _, upd_same, ?_⟩
      rw [noTb_updL, tk, List.map_append]
      have nD3 : p3 ≠ D := fun z => by
        rw [z, hD3] at e3
        cases e3
      exact DpAll.append (DpAll.mono (hid_same (extn_noTb xx)) hacc) (.cons (.tup (SqT.of ((hid_ne nD3).trans (noTb_at e3 fun _ z => nomatch z))) (.cons (.str _) (.cons (.int _) .nil))) .nil)
    rcases ask with ⟨C, hC, hp, ask⟩ | ⟨ev, ask⟩
    · refine ⟨fun cls d H2 => ∃ (dd : Addr), cls = .ref C ∧ d = some dd ∧ ExtN H'' H2 ∧ Tabs TL H2 ∧ H2 dd = some (.xd [("code", .str r.1), ("position", .int r.2)]), fun _ _ => False, ⟨lm.ext x1, ask _ _ _ x1 t1 fun dd H2 s t e => ⟨dd, rfl, rfl, s, t, e⟩⟩, ?_, fun _ _ z => z.elim⟩
      rintro cls d H2 ⟨dd, rfl, rfl, x2, t2, e⟩
      exact ⟨C, dd, r.1, "position", .int r.2, rfl, rfl, e, hC, hp, fun H3 p3 s3 e3 => fin H3 p3 (x2.trans (ExtN.of s3)) (t2.ext s3) e3⟩
    · refine ⟨fun _ _ _ => False, fun v H2 => v = .int r.2 ∧ ExtN H'' H2 ∧ Tabs TL H2, ⟨lm.ext x1, ask _ _ _ x1 t1 fun H2 s t => ⟨rfl, s, t⟩⟩, fun _ _ _ z => z.elim, ?_⟩
      rintro v H2 ⟨rfl, x2, t2⟩ p3 n3
      exact fin _ p3 (x2.trans (extn_new (ExtN.refl _) n3)) (tabs_new t2 n3) (by rw [upd_same, ev])
  · rintro H' ⟨x1, t1, acc, hD, hacc⟩
    refine h H' D acc x1 t1 hD ?_
    have z := DpAll.mono noTb_le (DpAll.mono hid_le hacc)
    rw [List.take_of_length_le (by omega)] at z
    exact z
theorem lc_asksC {cBE cMS : Addr} {ks ks2 : List (LK P w K mg base XN sc k)} {rs : List (Str × Int)} {H : Hp} {Q : VK} {vs : List V} {σ : L2.St} {s0 s1 s2 s3 s4 s5 s6 s8 s9 s10 : Option V} (hσ : σ = [s0, s1, s2, s3, s4, s5, s6, some (.ref p), s8, s9, s10])
    (h1 : H p = some (.lst vs)) (h2 : Paired (fun v κ => IsLm cs q κ.L κ.d H v) vs ks) (h3 : Paired (Ask K TL cBE cMS H σ) ks rs) (hn : ks.length ≤ 100) (sub : ∀ κ ∈ ks, κ ∈ ks2) (tb : Tabs TL H)
    (h : ∀ H' D ys, ExtN H H' → Tabs TL H' → H' D = some (.lst ys) → DpAll K H' ys (rs.map dAsk) → Q (.ref D) H') :
    tLc (iList K (tVar 7)) (gName 10) tYes (tTryL cs q ks2 10 (TTryE K cBE cMS exPairs) σ) [10] σ H Q := by
  subst hσ
  refine ⟨_, rfl, p, rfl, ⟨_, SqL.of h1⟩, fun D nD => ?_⟩
  have l1 : vs.length = ks.length := Bh.paired_len h2
  have l2 : ks.length = rs.length := Bh.paired_len h3
  refine lc_it walk_list (fun i H' => ExtN H H' ∧ Tabs TL H' ∧ ∃ acc, H' D = some (.lst acc) ∧ DpAll K (hid D (noTb H')) acc ((rs.take i).map dAsk)) ⟨extn_new (ExtN.refl _) nD, tabs_new tb nD, [], upd_same, .nil⟩ (fun i H' _ p => SqL.of (p.1 _ _ h1 fun _ z => nomatch z)) ?_ ?_
  · rintro i x H' H'' hi ⟨x1, t1, acc, hD, hacc⟩ ⟨rfl, ex⟩
    obtain ⟨κ, eκ, lm⟩ := paired_get h2 ex
    obtain ⟨r, er, ask⟩ := paired_get h3 eκ
    obtain ⟨f0, c0, dV0, rfl, m1, m2, m3⟩ := id lm
    refine ⟨rfl, κ, f0, sub _ (List.mem_of_getElem? eκ), rfl, ?_⟩
    have la : acc.length ≤ 100 := by
      rw [DpAll.length hacc, List.length_map, List.length_take]
      omega
    have tk : rs.take (i + 1) = rs.take i ++ [r] := by
      rw [List.take_add_one, er]
      rfl
    have fin : ∀ (H3 : Hp) (p3 : Addr), ExtN H'' H3 → Tabs TL H3 → H3 p3 = some (.tup [.str r.1, .int r.2]) → ∃ acc', H3 D = some (.lst acc') ∧ acc'.length < sizeLine ∧ (ExtN H (upd H3 D (.lst (acc' ++ [V.ref p3]))) ∧ Tabs TL (upd H3 D (.lst (acc' ++ [V.ref p3]))) ∧ ∃ ac2, upd H3 D (.lst (acc' ++ [V.ref p3])) D = some (.lst ac2) ∧ DpAll K (hid D (noTb (upd H3 D (.lst (acc' ++ [V.ref p3]))))) ac2 ((rs.take (i + 1)).map dAsk)) := fun H3 p3 xx t3 e3 => by
      have hD3 := xx _ _ hD fun _ z => nomatch z
      refine ⟨acc, hD3, lt_line (by omega), extn_mutT (x1.trans xx) (fun o z => by rw [nD] at z; cases z), tabs_updL t3 hD3, _, upd_same, ?_⟩
      rw [noTb_updL, tk, List.map_append]
      have nD3 : p3 ≠ D := fun z => by
        rw [z, hD3] at e3
        cases e3
      exact DpAll.append (DpAll.mono (hid_same (extn_noTb xx)) hacc) (.cons (.tup (SqT.of ((hid_ne nD3).trans (noTb_at e3 fun _ z => nomatch z))) (.cons (.str _) (.cons (.int _) .nil))) .nil)
    rcases ask with ⟨C, hC, hp, ask⟩ | ⟨ev, ask⟩
    · refine ⟨fun cls d H2 => ∃ (dd : Addr), cls = .ref C ∧ d = some dd ∧ ExtN H'' H2 ∧ Tabs TL H2 ∧ H2 dd = some (.xd [("code", .str r.1), ("position", .int r.2)]), fun _ _ => False, ⟨lm.ext x1, ask _ _ _ x1 t1 fun dd H2 s t e => ⟨dd, rfl, rfl, s, t, e⟩⟩, ?_, fun _ _ z => z.elim⟩
      rintro cls d H2 ⟨dd, rfl, rfl, x2, t2, e⟩
      exact ⟨C, dd, r.1, "position", .int r.2, rfl, rfl, e, hC, hp, fun H3 p3 s3 e3 => fin H3 p3 (x2.trans (ExtN.of s3)) (t2.ext s3) e3⟩
    · refine ⟨fun _ _ _ => False, fun v H2 => v = .int r.2 ∧ ExtN H'' H2 ∧ Tabs TL H2, ⟨lm.ext x1, ask _ _ _ x1 t1 fun H2 s t => ⟨rfl, s, t⟩⟩, fun _ _ _ z => z.elim, ?_⟩
      rintro v H2 ⟨rfl, x2, t2⟩ p3 n3
      exact fin _ p3 (x2.trans (extn_new (ExtN.refl _) n3)) (tabs_new t2 n3) (by rw [upd_same, ev])
  · rintro H' ⟨x1, t1, acc, hD, hacc⟩
    refine h H' D acc x1 t1 hD ?_
    have z := DpAll.mono noTb_le (DpAll.mono hid_le hacc)
    rw [List.take_of_length_le (by omega)] at z
    exact z
end
theorem sh_asks (rs : List (Str × Int)) (h : rs.length ≤ 100) : Sh 9 (.list (rs.map dAsk)) := .lst (by rw [List.length_map]; omega) fun d hd => by
  obtain ⟨r, _, rfl⟩ := List.mem_map.mp hd
  exact .tup (by show 2 ≤ 100000; decide) fun d hd => by
    simp only [List.mem_cons, List.not_mem_nil, or_false] at hd
    rcases hd with rfl | rfl
    · exact .str
    · exact .int
end Bh

set_option Elab.async false
set_option linter.all false
set_option maxRecDepth 100000
set_option maxHeartbeats 2000000
set_option autoImplicit false
namespace Bh
open PySem PySem.Spec PyProof.Rows L2 LamX NdefX
/-- three values that make no rulebook, and the refusal -/
def Bad3 (K : PySem.W.Frag) (H : Hp) (v1 v2 v3 : V) (r : Str × Int) : Prop :=
  (r.1 = "InvalidField" ∧ ∃ (d : PyData) (i : Nat), r.2 = i ∧ Dp K H v1 d ∧ Out dF GoodFs fieldD d (some i)) ∨
  ∃ fs : List Fld, DpS K H v1 (fs.map dF) ∧ GoodFs fs ∧ 1 ≤ fs.length ∧ fs.length ≤ 1000 ∧
   ((r.1 = "InvalidTie" ∧ ∃ (d : PyData) (i : Nat), r.2 = i ∧ Dp K H v2 d ∧ Out dTie (GoodTs fs) (ansT fs) d (some i)) ∨
    ∃ ts : List Tie, DpS K H v2 (ts.map dTie) ∧ GoodTs fs ts ∧ 1 ≤ ts.length ∧ r.1 = "InvalidKind" ∧ ∃ (d : PyData) (i : Nat), r.2 = i ∧ Dp K H v3 d ∧ Out dKnd (GoodKs fs) (ansK fs) d (some i))
def clsN {K : PySem.W.Frag} {mg : Str → Option Value} (T : Top K mg) (nm : Str) : Addr := if nm = "InvalidField" then T.r_InvalidField.c else if nm = "InvalidTie" then T.r_InvalidTie.c else T.r_InvalidKind.c
theorem erc_all {K : PySem.W.Frag} {mg : Str → Option Value} (T : Top K mg) {nm : Str} (h : nm ∈ (["InvalidField", "InvalidTie", "InvalidKind"] : List Str)) : ErC K T.cBE T.cMS (clsN T nm) nm "position" ∧ (nm, ("position" : Str)) ∈ exPairs := by
  simp only [List.mem_cons, List.not_mem_nil, or_false] at h
  rcases h with rfl | rfl | rfl
  · exact ⟨by unfold clsN; rw [if_pos rfl]; exact T.e_InvalidField, .head _⟩
  · exact ⟨by unfold clsN; rw [if_neg (by decide +kernel), if_pos rfl]; exact T.e_InvalidTie, .tail _ (.head _)⟩
  · exact ⟨by unfold clsN; rw [if_neg (by decide +kernel), if_neg (by decide +kernel)]; exact T.e_InvalidKind, .tail _ (.tail _ (.head _))⟩
theorem DpS.ext {K : PySem.W.Frag} {H H' : Hp} {v : V} {ds : List PyData} (e : ExtN H H') (h : DpS K H v ds) : DpS K H' v ds := by
  obtain ⟨d, h1, h2⟩ := h.dp
  have := dp_ext e h2
  rcases h1 with rfl | rfl
  · exact .ofL this
  · exact .ofT this
theorem Bad3.ext {K : PySem.W.Frag} {H H' : Hp} {v1 v2 v3 : V} {r : Str × Int} (e : ExtN H H') (h : Bad3 K H v1 v2 v3 r) : Bad3 K H' v1 v2 v3 r := by
  rcases h with ⟨z, d, i, ei, hd, o⟩ | ⟨fs, hf, g, f1, f2, h⟩
  · exact .inl ⟨z, d, i, ei, dp_ext e hd, o⟩
  · refine .inr ⟨fs, hf.ext e, g, f1, f2, ?_⟩
    rcases h with ⟨z, d, i, ei, hd, o⟩ | ⟨ts, ht, gt, t1, z, d, i, ei, hd, o⟩
    · exact .inl ⟨z, d, i, ei, dp_ext e hd, o⟩
    · exact .inr ⟨ts, ht.ext e, gt, t1, z, d, i, ei, dp_ext e hd, o⟩
theorem init_err {H1 : Hp} {x dx C Cx : Addr} {TL : List (Addr × Str)} {E : XK} {nm : Str} {i : Nat} (nx : H1 x = none) (nd : H1 dx = none) (ne : dx ≠ x)
    (k : ∀ (dd : Addr) (H2 : Hp), ExtN H1 H2 → Tabs TL H2 → H2 dd = some (.xd [("code", .str nm), ("position", .int (i : Nat))]) → E (.ref C) (some dd) H2) : ErQ x TL (upd (upd H1 dx (.own x)) x (.ins Cx dx [])) E C nm i := fun dd H2 s t e => k dd H2 (fun a o h n => by
  have ax : a ≠ x := ne_of_none h nx
  have ad : a ≠ dx := ne_of_none h nd
  exact s _ _ (noT_at (by rw [upd_ne ax, upd_ne ad]; exact h) n ax)) t e
theorem spb_of {K : PySem.W.Frag} {mg : Str → Option Value} (T : Top K mg) {R : RbC K mg} {TL : List (Addr × Str)} {H1 : Hp} {v1 v2 v3 : V} {r : Str × Int} {x dx : Addr} {Q : VK} {E : XK} (b : Bad3 K H1 v1 v2 v3 r) (tb : Tabs TL H1) (nx : H1 x = none) (nd : H1 dx = none) (ne : dx ≠ x)
    (k : ∀ (dd : Addr) (H2 : Hp), ExtN H1 H2 → Tabs TL H2 → H2 dd = some (.xd [("code", .str r.1), ("position", .int r.2)]) → E (.ref (clsN T r.1)) (some dd) H2) : spB K T R.C TL [.ref x, v1, v2, v3] (upd (upd H1 dx (.own x)) x (.ins R.C dx [])) Q E := by
  have s1 : Same H1 (upd (upd H1 dx (.own x)) x (.ins R.C dx [])) := (same_new nd).trans (same_new ((upd_ne (Ne.symm ne)).trans nx))
  have er : ∀ (C : Addr) (nm : Str) (i : Nat), nm = r.1 → r.2 = i → C = clsN T r.1 → ErQ x TL (upd (upd H1 dx (.own x)) x (.ins R.C dx [])) E C nm i := fun C nm i e1 e2 e3 => by
    subst e1 e3
    refine init_err nx nd ne fun dd H2 s t e => k dd H2 s t ?_
    rw [e2]
    exact e
  refine ⟨x, dx, v1, v2, v3, rfl, upd_same, tb.ext s1, ?_⟩
  rcases b with ⟨z, d, i, ei, hd, o⟩ | ⟨fs, hf, g, f1, f2, h⟩
  · exact .inl ⟨d, i, Dp.mono s1 hd, o, er _ _ i z.symm ei (by unfold clsN; rw [z, if_pos rfl])⟩
  · refine .inr ⟨fs, hf.mono s1, g, f1, f2, ?_⟩
    rcases h with ⟨z, d, i, ei, hd, o⟩ | ⟨ts, ht, gt, t1, z, d, i, ei, hd, o⟩
    · exact .inl ⟨d, i, Dp.mono s1 hd, o, er _ _ i z.symm ei (by unfold clsN; rw [z, if_neg (by decide +kernel), if_pos rfl])⟩
    · exact .inr ⟨ts, ht.mono s1, gt, t1, d, i, Dp.mono s1 hd, o, er _ _ i z.symm ei (by unfold clsN; rw [z, if_neg (by decide +kernel), if_neg (by decide +kernel)])⟩
end Bh

set_option Elab.async false
set_option linter.all false
set_option maxRecDepth 100000
set_option maxHeartbeats 4000000
set_option autoImplicit false
namespace Bh
open PySem PySem.Spec PyProof.Rows L2 LamX NdefX
abbrev bdQ : Str := "_law_bounds_so.<locals>.<lambda>"
/-- _law_bounds_so: its code object is at cS -/
structure BdM (K : PySem.W.Frag) (mg : Str → Option Value) (cS : Addr) : Type where
  f : Addr
  od : Option Addr
  an : Option Addr
  oc : Value
  kV : Value
  doc : Value
  pm : Value
  ct : Value
  osl : Array (Option Value)
  lk : K.lookup f = some ⟨oc, od, .func (PySem.W.fnOf "_law_bounds_so" "_law_bounds_so" (defArgs s_l_bounds_so) (defBody s_l_bounds_so) (defScope s_l_bounds_so) .none kV doc pm an (.ref cS) ct), osl⟩
  hcd : PySem.W.codeIn K (.ref cS) "_law_bounds_so" = true
  g : mg "_law_bounds_so" = some (.ref f)
  kp : PySem.W.keepIn K (.ref f) = true
  b : Binds K (PySem.W.fnOf "_law_bounds_so" "_law_bounds_so" (defArgs s_l_bounds_so) (defBody s_l_bounds_so) (defScope s_l_bounds_so) .none kV doc pm an (.ref cS) ct) [] []
abbrev BdM.fd {K : PySem.W.Frag} {mg : Str → Option Value} {cS : Addr} (S : BdM K mg cS) : FuncData := PySem.W.fnOf "_law_bounds_so" "_law_bounds_so" (defArgs s_l_bounds_so) (defBody s_l_bounds_so) (defScope s_l_bounds_so) .none S.kV S.doc S.pm S.an (.ref cS) S.ct
/-! ### the parts that it asks with -/
abbrev sTwo : List Str := ["0", "1"]
abbrev sSix : List Str := ["0", "1", "2", "3", "4", "5"]
abbrev wideF : List Fld := [("a", sSix), ("b", sTwo), ("c", sTwo)]
abbrev farF : List Fld := [("a", sSix), ("b", sSix)]
abbrev bNames : List Str := ["a", "b", "c", "d", "e"]
abbrev bT (n : Str) : Tie := (n, [([], some [])])
abbrev bK (n : Str) : Knd := ⟨n, [], none, none⟩
theorem nm_b : ∀ n ∈ bNames, IsNm n := by
  intro n hn
  simp only [List.mem_cons, List.not_mem_nil, or_false] at hn
  rcases hn with rfl | rfl | rfl | rfl | rfl <;> exact ⟨by decide +kernel, by decide +kernel, by decide +kernel⟩
theorem fsv_of {fs : List Fld} (h : ∀ i, i ≤ fs.length → (vals (fs.take i)).length ≤ 10000) : FsV fs := fun i => by
  by_cases e : i ≤ fs.length
  · exact h i e
  · have := h fs.length (Nat.le_refl _)
    rw [List.take_length] at this
    rw [List.take_of_length_le (by omega)]
    exact this
theorem fld_of {fs : List Fld} {f : Fld} (few : fs.length < 3) (no : f.1 ∉ fs.map (·.1)) (nm : IsNm f.1) (lo : 2 ≤ f.2.length) (hi : f.2.length ≤ 6) (nd : f.2.Nodup) (op : ∀ o ∈ f.2, IsOp o) (g : FsB fs) (v : FsV fs) (sz : (vals (fs ++ [f])).length ≤ 24) : OkFld fs f := by
  refine ⟨few, no, nm, lo, hi, nd, op, ⟨?_, ?_, ?_⟩, fun i => ?_, sz⟩
  · rw [List.map_append, List.nodup_append]
    refine ⟨g.nd, by simp, fun x hx y hy e => ?_⟩
    rw [List.mem_singleton.mp hy] at e
    have e : x = f.1 := e
    exact no (e ▸ hx)
  · rw [List.length_append]
    show _ + 1 ≤ 1000
    omega
  · intro x hx
    rcases List.mem_append.mp hx with hx | hx
    · exact g.os x hx
    · rw [List.mem_singleton.mp hx]
      omega
  · by_cases e : i ≤ fs.length
    · rw [List.take_append_of_le_length e]
      exact v i
    · rw [List.take_of_length_le (by rw [List.length_append]; show _ + 1 ≤ _; omega)]
      omega
theorem op_six : ∀ o ∈ sSix, IsOp o := by
  unfold IsOp
  decide +kernel
theorem op_two : ∀ o ∈ sTwo, IsOp o := fun o ho => op_six o (by
  simp only [List.mem_cons, List.not_mem_nil, or_false] at ho
  rcases ho with rfl | rfl <;> simp)
theorem fsb0 : FsB [] := ⟨List.nodup_nil, Nat.zero_le _, fun f hf => nomatch hf⟩
theorem fsv0 : FsV [] := fun i => by rw [List.take_nil]; decide
theorem okA : OkFld [] ("a", sSix) := fld_of (by decide) (by simp) (nm_b _ (by simp)) (by decide) (by decide) (by decide +kernel) op_six fsb0 fsv0 (by decide +kernel)
theorem okB : OkFld [("a", sSix)] ("b", sTwo) := fld_of (by decide) (by decide +kernel) (nm_b _ (by simp)) (by decide) (by decide) (by decide +kernel) op_two okA.fb okA.fv (by decide +kernel)
theorem okC : OkFld [("a", sSix), ("b", sTwo)] ("c", sTwo) := fld_of (by decide) (by decide +kernel) (nm_b _ (by simp)) (by decide) (by decide) (by decide +kernel) op_two okB.fb okB.fv (by decide +kernel)
theorem goodA : GoodFs [("a", sSix)] := fun j f e => by
  match j, e with
  | 0, e =>
    cases e
    exact okA
theorem goodW : GoodFs wideF := fun j f e => by
  match j, e with
  | 0, e =>
    cases e
    exact okA
  | 1, e =>
    cases e
    exact okB
  | 2, e =>
    cases e
    exact okC
theorem prg_b : OkPrg wideF [([], some [])] := ⟨by decide, by decide, fun c hc => by
  rw [List.mem_singleton.mp hc]
  exact ⟨⟨(fun t h => nomatch h), (fun ss e s hs => by cases e; cases hs), (by decide), (fun ss e => by cases e; decide)⟩, (by decide), (fun ss e => by cases e; decide), (fun t h => nomatch h)⟩⟩
theorem goodT {ns : List Str} (l : ns.length ≤ 4) (nd : ns.Nodup) (s : ∀ n ∈ ns, n ∈ bNames) : GoodTs wideF (ns.map bT) := ⟨by rw [List.length_map]; exact l, by rw [List.map_map]; exact (List.map_id' ns).symm ▸ nd, fun t ht => by
  obtain ⟨n, hn, rfl⟩ := List.mem_map.mp ht
  exact ⟨nm_b n (s n hn), prg_b⟩⟩
theorem knd_b {n : Str} (h : IsNm n) : OkKnd wideF (bK n) := ⟨h, ⟨Nat.zero_le _, List.nodup_nil, (fun k hk => nomatch hk)⟩, (fun p e => nomatch e), (fun v e => nomatch e)⟩
theorem goodK {ns : List Str} (l : ns.length ≤ 3) (nd : ns.Nodup) (s : ∀ n ∈ ns, n ∈ bNames) : GoodKs wideF (ns.map bK) := ⟨by rw [List.length_map]; exact l, by rw [List.map_map]; exact (List.map_id' ns).symm ▸ nd, fun t ht => by
  obtain ⟨n, hn, rfl⟩ := List.mem_map.mp ht
  exact knd_b (nm_b n (s n hn))⟩
theorem book_b : OkBook wideF ((["a", "b", "c", "d"] : List Str).map bT) ((["a", "b", "c"] : List Str).map bK) := by
  have gt := goodT (ns := ["a", "b", "c", "d"]) (by decide) (by decide +kernel) (by decide +kernel)
  have gk := goodK (ns := ["a", "b", "c"]) (by decide) (by decide +kernel) (by decide +kernel)
  exact ⟨by decide, by decide, goodW, goodW.all.1, goodW.all.2.1, by decide, by decide, gt.nd, gt.ok, by decide, by decide, gk.nd, gk.ok⟩
theorem out1 : Out dF GoodFs fieldD (.list (farF.map dF)) (some 1) := Out.wrong (enc := dF) (good := GoodFs) (ans := fieldD) [("a", sSix)] (dF ("b", sSix)) [] _ (.inl rfl) (by decide) goodA (show fieldD [("a", sSix)] (dF ("b", sSix)) = false by decide +kernel) (by decide +kernel)
theorem out2 : Out dF GoodFs fieldD (.list (wideF.map dF ++ [dF ("d", sTwo)])) (some 3) := Out.wrong (enc := dF) (good := GoodFs) (ans := fieldD) wideF (dF ("d", sTwo)) [] _ (.inl rfl) (by decide) goodW (show fieldD wideF (dF ("d", sTwo)) = false by decide +kernel) (by decide +kernel)
theorem out3 : Out dTie (GoodTs wideF) (ansT wideF) (.list ((bNames.map bT).map dTie)) (some 4) := Out.wrong (enc := dTie) (good := (GoodTs wideF)) (ans := (ansT wideF)) ((["a", "b", "c", "d"] : List Str).map bT) (dTie (bT "e")) [] _ (.inl rfl) (by decide) (goodT (by decide) (by decide +kernel) (by decide +kernel)) (by decide +kernel) (by decide +kernel)
theorem out4 : Out dKnd (GoodKs wideF) (ansK wideF) (.list ((bNames.map bK).map dKnd)) (some 3) := Out.wrong (enc := dKnd) (good := (GoodKs wideF)) (ans := (ansK wideF)) ((["a", "b", "c"] : List Str).map bK) (dKnd (bK "d")) [dKnd (bK "e")] _ (.inl rfl) (by decide) (goodK (by decide) (by decide +kernel) (by decide +kernel)) (by decide +kernel) (by decide +kernel)
theorem out5 : Out dTie (GoodTs wideF) (ansT wideF) (.list (((["a", "b", "a"] : List Str).map bT).map dTie)) (some 2) := Out.wrong (enc := dTie) (good := (GoodTs wideF)) (ans := (ansT wideF)) ((["a", "b"] : List Str).map bT) (dTie (bT "a")) [] _ (.inl rfl) (by decide) (goodT (by decide) (by decide +kernel) (by decide +kernel)) (by decide +kernel) (by decide +kernel)
theorem out6 : Out dKnd (GoodKs wideF) (ansK wideF) (.list (((["a", "a"] : List Str).map bK).map dKnd)) (some 1) := Out.wrong (enc := dKnd) (good := (GoodKs wideF)) (ans := (ansK wideF)) ((["a"] : List Str).map bK) (dKnd (bK "a")) [] _ (.inl rfl) (by decide) (goodK (by decide) (by decide +kernel) (by decide +kernel)) (by decide +kernel) (by decide +kernel)
end Bh

set_option Elab.async false
set_option linter.all false
set_option maxRecDepth 100000
set_option maxHeartbeats 4000000
set_option autoImplicit false
namespace Bh
open PySem PySem.Spec PyProof.Rows L2 LamX NdefX
theorem sl_data {K : PySem.W.Frag} {H : Hp} {a : Addr} {xs : List V} {ds : List PyData} {n : Nat} {Q : VK} (h : H a = some (.lst xs)) (hd : DpAll K H xs ds) (q : ∀ (p : Addr) (H' : Hp), Same H H' → H' p = some (.lst (xs.take n)) → DpAll K H' (xs.take n) (ds.take n) → Q (.ref p) H') : rSlL K (.ref a) none (some (n : Int)) H Q := by
  refine ⟨a, xs, rfl, SqL.of h, fun p np => ?_⟩
  have s := same_new (o := .lst (cutV xs none (some (n : Int)))) np
  refine q p _ s ?_ (DpAll.take n (DpAll.mono s hd))
  rw [upd_same, cutV_take xs (by omega)]
  rfl
theorem cat_data {K : PySem.W.Frag} {H : Hp} {a b : Addr} {xs ys : List V} {ds es : List PyData} {Q : VK} (h : H a = some (.lst xs)) (hd : DpAll K H xs ds) (h2 : H b = some (.lst ys)) (he : DpAll K H ys es) (l1 : ds.length ≤ 1000) (l2 : es.length ≤ 1000) (q : ∀ (p : Addr) (H' : Hp), Same H H' → H' p = some (.lst (xs ++ ys)) → DpAll K H' (xs ++ ys) (ds ++ es) → Q (.ref p) H') : rCat (.ref a) (.ref b) H Q := by
  have e1 := DpAll.length hd
  have e2 := DpAll.length he
  refine ⟨a, b, xs, ys, rfl, rfl, h, h2, le_line (by omega), fun p np => ?_⟩
  have s := same_new (o := .lst (xs ++ ys)) np
  exact q p _ s upd_same (dpa_app (DpAll.mono s hd) (DpAll.mono s he))
theorem dpa_ext {K : PySem.W.Frag} {H H' : Hp} {xs : List V} {ds : List PyData} (e : ExtN H H') (h : DpAll K H xs ds) : DpAll K H' xs ds := DpAll.mono (extn_same e) (DpAll.nTb h)
/-- what the lambdas of _law_bounds_so find -/
structure BdA (K : PySem.W.Frag) (H : Hp) (pw pf pt ps : Addr) (v2 : V) (xw xf xt xs : List V) : Prop where
  w : H pw = some (.lst xw)
  wd : DpAll K H xw (wideF.map dF)
  f : H pf = some (.lst xf)
  fd : DpAll K H xf (farF.map dF)
  t : H pt = some (.lst xt)
  td : DpAll K H xt ((bNames.map bT).map dTie)
  s : H ps = some (.lst xs)
  sd : DpAll K H xs ((bNames.map bK).map dKnd)
  d2 : Dp K H v2 (.tuple (sTwo.map PyData.str))
theorem BdA.ext {K : PySem.W.Frag} {H H' : Hp} {pw pf pt ps : Addr} {v2 : V} {xw xf xt xs : List V} (h : BdA K H pw pf pt ps v2 xw xf xt xs) (e : ExtN H H') : BdA K H' pw pf pt ps v2 xw xf xt xs :=
  ⟨e _ _ h.w (fun _ z => nomatch z), dpa_ext e h.wd, e _ _ h.f (fun _ z => nomatch z), dpa_ext e h.fd, e _ _ h.t (fun _ z => nomatch z), dpa_ext e h.td, e _ _ h.s (fun _ z => nomatch z), dpa_ext e h.sd, dp_ext e h.d2⟩
theorem extn_noT {H1 H2 : Hp} {x dx Cx : Addr} (nx : H1 x = none) (nd : H1 dx = none) (s : Same (noT x (upd (upd H1 dx (.own x)) x (.ins Cx dx []))) H2) : ExtN H1 H2 := fun a o h n => by
  have ax : a ≠ x := ne_of_none h nx
  have ad : a ≠ dx := ne_of_none h nd
  exact s _ _ (noT_at (by rw [upd_ne ax, upd_ne ad]; exact h) n ax)
abbrev bDue : List (Str × Int) := [("value", 24), ("InvalidField", 1), ("InvalidField", 3), ("InvalidTie", 4), ("InvalidKind", 3), ("InvalidTie", 2), ("InvalidKind", 1)]
section
variable {P : Program} {w : World} {K : PySem.W.Frag} {mg : Str → Option Value} {base : Heap} {cI pI : Addr} {TL : List (Addr × Str)}
theorem asks_bounds (T : Top K mg) {R : RbC K mg} (M : RbM K mg R cI pI) (TB : TabB base mg cI pI) (mI : (pI, rbQ) ∈ TL) (uI : ∀ p ∈ TL, p.1 = pI → p.2 = rbQ) {H : Hp} {s1 s4 s7 s8 s9 s10 : Option V} {v2 : V} {pw pf pt ps : Addr} {xw xf xt xs : List V}
    (b : BdA K H pw pf pt ps v2 xw xf xt xs) :
    Paired (Ask K TL T.cBE T.cMS H [some v2, s1, some (.ref pw), some (.ref pf), s4, some (.ref pt), some (.ref ps), s7, s8, s9, s10]) (lksC (P := P) (w := w) (base := base) T M TB mI uI) bDue := by
  have lw : ∀ {H'}, BdA K H' pw pf pt ps v2 xw xf xt xs → DpS K H' (.ref pw) (wideF.map dF) := fun b => ⟨pw, xw, rfl, .inl (SqL.of b.w), b.wd⟩
  refine .cons (.inr ⟨rfl, fun H' E Q0 e t k => ?_⟩) (.cons (.inl ⟨_, (erc_all T (by simp)).1, (erc_all T (by simp)).2, fun H' E Q0 e t k => ?_⟩) (.cons (.inl ⟨_, (erc_all T (by simp)).1, (erc_all T (by simp)).2, fun H' E Q0 e t k => ?_⟩) (.cons (.inl ⟨_, (erc_all T (by simp)).1, (erc_all T (by simp)).2, fun H' E Q0 e t k => ?_⟩)
    (.cons (.inl ⟨_, (erc_all T (by simp)).1, (erc_all T (by simp)).2, fun H' E Q0 e t k => ?_⟩) (.cons (.inl ⟨_, (erc_all T (by simp)).1, (erc_all T (by simp)).2, fun H' E Q0 e t k => ?_⟩) (.cons (.inl ⟨_, (erc_all T (by simp)).1, (erc_all T (by simp)).2, fun H' E Q0 e t k => ?_⟩) .nil))))))
  all_goals have b := b.ext e
  · refine ⟨_, rfl, _, rfl, (4 : Int), rfl, sl_data (n := 4) b.t b.td fun q1 H1 e1 h1 d1 => ⟨_, rfl, (3 : Int), rfl, sl_data (n := 3) (e1 _ _ b.s) (DpAll.mono e1 b.sd) fun q2 H2 e2 h2 d2 => ⟨rfl, rfl, fun x dx nx nd ne => ?_⟩⟩⟩
    have s12 := e1.trans e2
    have s3 : Same H2 (upd (upd H2 dx (.own x)) x (.ins R.C dx [])) := (same_new nd).trans (same_new ((upd_ne (Ne.symm ne)).trans nx))
    refine ⟨x, dx, _, _, _, xw, xt.take 4, xs.take 3, wideF, (["a", "b", "c", "d"] : List Str).map bT, (["a", "b", "c"] : List Str).map bK, rfl, upd_same, ⟨pw, rfl, .inl (SqL.of (s3 _ _ (s12 _ _ b.w))), DpAll.mono (s12.trans s3) b.wd⟩, ⟨q1, rfl, .inl (SqL.of (s3 _ _ (e2 _ _ h1))), DpAll.mono (e2.trans s3) d1⟩, ⟨q2, rfl, .inl (SqL.of (s3 _ _ h2)), DpAll.mono s3 d2⟩, book_b, (t.ext s12).ext s3, fun H4 a1 a2 a3 s4 hx g1 _ _ _ _ _ f1 _ _ t4 => ⟨rfl, ?_⟩⟩
    refine ⟨x, dx, _, rfl, hx, rfl, x, dx, a1, a2, a3, xw, wideF, rfl, hx, g1, f1, goodW.all.1, goodW.all.2.1, fun p H5 ys s5 hp ly => ?_⟩
    have lv : ys.length = 24 := by
      rw [ly]
      decide +kernel
    refine ⟨p, ys, rfl, .inl (SqL.of hp), ?_⟩
    rw [lv]
    exact k H5 (((ExtN.of s12).trans (extn_noT nx nd s4)).trans (ExtN.of s5)) (t4.ext s5)
  · refine ⟨_, rfl, _, rfl, (1 : Int), rfl, sl_data (n := 1) b.t b.td fun q1 H1 e1 h1 d1 => ⟨_, rfl, (1 : Int), rfl, sl_data (n := 1) (e1 _ _ b.s) (DpAll.mono e1 b.sd) fun q2 H2 e2 h2 d2 => ⟨rfl, rfl, fun x dx nx nd ne => ?_⟩⟩⟩
    have s12 := e1.trans e2
    exact spb_of T (r := ("InvalidField", 1)) (.inl ⟨rfl, _, 1, rfl, .lst (SqL.of (s12 _ _ b.f)) (DpAll.mono s12 b.fd), out1⟩) (t.ext s12) nx nd ne fun dd H3 e3 t3 h3 => k dd H3 ((ExtN.of s12).trans e3) t3 h3
  · refine ⟨_, rfl, _, rfl, (by show 2 ≤ sizeLine; decide), fun u1 n1 => ⟨(by show 1 ≤ sizeLine; decide), fun u2 n2 => ?_⟩⟩
    have z1 := same_new (o := .tup [.str "d", v2]) n1
    have z2 := same_new (o := .lst [.ref u1]) n2
    have z12 := z1.trans z2
    refine cat_data (z12 _ _ b.w) (DpAll.mono z12 b.wd) upd_same (.cons (.tup (SqT.of (z2 _ _ upd_same)) (.cons (.str _) (.cons (Dp.mono z12 b.d2) .nil))) .nil) (by decide) (by show 1 ≤ 1000; decide) fun q0 H0 e0 h0 d0 => ?_
    have z := z12.trans e0
    refine ⟨_, rfl, (1 : Int), rfl, sl_data (n := 1) (z _ _ b.t) (DpAll.mono z b.td) fun q1 H1 e1 h1 d1 => ⟨_, rfl, (1 : Int), rfl, sl_data (n := 1) (e1 _ _ (z _ _ b.s)) (DpAll.mono (z.trans e1) b.sd) fun q2 H2 e2 h2 d2 => ⟨rfl, rfl, fun x dx nx nd ne => ?_⟩⟩⟩
    have s12 := e1.trans e2
    exact spb_of T (r := ("InvalidField", 3)) (.inl ⟨rfl, _, 3, rfl, .lst (SqL.of (s12 _ _ h0)) (DpAll.mono s12 d0), out2⟩) (t.ext (z.trans s12)) nx nd ne fun dd H3 e3 t3 h3 => k dd H3 ((ExtN.of (z.trans s12)).trans e3) t3 h3
  · refine ⟨_, rfl, _, rfl, _, rfl, rfl, rfl, fun x dx nx nd ne => ?_⟩
    exact spb_of T (r := ("InvalidTie", 4)) (.inr ⟨wideF, lw b, goodW, by decide, by decide, .inl ⟨rfl, _, 4, rfl, .lst (SqL.of b.t) b.td, out3⟩⟩) t nx nd ne k
  · refine ⟨_, rfl, _, rfl, (4 : Int), rfl, sl_data (n := 4) b.t b.td fun q1 H1 e1 h1 d1 => ⟨_, rfl, rfl, rfl, fun x dx nx nd ne => ?_⟩⟩
    exact spb_of T (r := ("InvalidKind", 3)) (.inr ⟨wideF, (lw b).mono e1, goodW, by decide, by decide, .inr ⟨(["a", "b", "c", "d"] : List Str).map bT, ⟨q1, _, rfl, .inl (SqL.of h1), d1⟩, goodT (by decide) (by decide +kernel) (by decide +kernel), by decide, rfl, _, 3, rfl, .lst (SqL.of (e1 _ _ b.s)) (DpAll.mono e1 b.sd), out4⟩⟩) (t.ext e1) nx nd ne fun dd H3 e3 t3 h3 => k dd H3 ((ExtN.of e1).trans e3) t3 h3
  · refine ⟨_, rfl, _, rfl, (2 : Int), rfl, sl_data (n := 2) b.t b.td fun q1 H1 e1 h1 d1 => ⟨_, rfl, (1 : Int), rfl, sl_data (n := 1) (e1 _ _ b.t) (DpAll.mono e1 b.td) fun q2 H2 e2 h2 d2 => ?_⟩⟩
    refine cat_data (e2 _ _ h1) (DpAll.mono e2 d1) h2 d2 (by decide) (by decide) fun q3 H3 e3 h3 d3 => ?_
    have s := e1.trans (e2.trans e3)
    refine ⟨_, rfl, (1 : Int), rfl, sl_data (n := 1) (s _ _ b.s) (DpAll.mono s b.sd) fun q4 H4 e4 h4 d4 => ⟨rfl, rfl, fun x dx nx nd ne => ?_⟩⟩
    have s4 := s.trans e4
    exact spb_of T (r := ("InvalidTie", 2)) (.inr ⟨wideF, (lw b).mono s4, goodW, by decide, by decide, .inl ⟨rfl, _, 2, rfl, .lst (SqL.of (e4 _ _ h3)) (DpAll.mono e4 d3), out5⟩⟩) (t.ext s4) nx nd ne fun dd H5 e5 t5 h5 => k dd H5 ((ExtN.of s4).trans e5) t5 h5
  · refine ⟨_, rfl, _, rfl, (1 : Int), rfl, sl_data (n := 1) b.t b.td fun q1 H1 e1 h1 d1 => ⟨_, rfl, (1 : Int), rfl, sl_data (n := 1) (e1 _ _ b.s) (DpAll.mono e1 b.sd) fun q2 H2 e2 h2 d2 => ⟨_, rfl, (1 : Int), rfl, sl_data (n := 1) (e2 _ _ (e1 _ _ b.s)) (DpAll.mono (e1.trans e2) b.sd) fun q3 H3 e3 h3 d3 => ?_⟩⟩⟩
    refine cat_data (e3 _ _ h2) (DpAll.mono e3 d2) h3 d3 (by decide) (by decide) fun q4 H4 e4 h4 d4 => ⟨rfl, rfl, fun x dx nx nd ne => ?_⟩
    have s := e1.trans (e2.trans (e3.trans e4))
    exact spb_of T (r := ("InvalidKind", 1)) (.inr ⟨wideF, (lw b).mono s, goodW, by decide, by decide, .inr ⟨(["a"] : List Str).map bT, ⟨q1, _, rfl, .inl (SqL.of ((e2.trans (e3.trans e4)) _ _ h1)), DpAll.mono (e2.trans (e3.trans e4)) d1⟩, goodT (by decide) (by decide +kernel) (by decide +kernel), by decide, rfl, _, 1, rfl, .lst (SqL.of h4) d4, out6⟩⟩) (t.ext s) nx nd ne fun dd H5 e5 t5 h5 => k dd H5 ((ExtN.of s).trans e5) t5 h5
end
end Bh

set_option Elab.async false
set_option linter.all false
set_option maxRecDepth 100000
set_option maxHeartbeats 1000000
namespace Bh
open PySem PySem.Spec PyProof.Rows L2
section
variable {P : Program} {w : World} {K : PySem.W.Frag} {mg : Str → Option Value} {base : Heap}
theorem like_step (T : Top K mg) (n : Nat) (G_l_like : FnOk P w K mg base CX0 n T.a_l_like T.fd_l_like ["_law_found", "_law_due"] (spLk K n)) : FnOk P w K mg base CX0 (n + 1) T.a_l_like T.fd_l_like ["_law_found", "_law_due"] (spLk K (n + 1)) := by
  refine T.d_l_like.F.ok sc_l_like (fun vs H Q E h => ?_) (fun cdv A outer s H vs Q E hr h => ?_)
  · obtain ⟨x, y, d, rfl, _⟩ := h
    rfl
  obtain ⟨x, y, d, rfl, hx, hy, hs, q⟩ := h
  refine ⟨_, (pss_cons (ps_if (pt_cmpR op_isN (pv 1) pe_non (nomark _)) (pss_one (ps_ret (pe_cmpR op_isN (pv 0) pe_non (nomark _)))) pss_nil)
    (pss_cons (ps_if (pt_val (pe_callB (call_isi_K (K := K) (by rfl)) (by rfl) T.b_isinstance (by decide +kernel) (pa_cons (pv 1) (pa_cons (pe_tyN "dict" (by rfl) T.b_dict (by decide +kernel)) pa_nil)))) (pss_cons ps_never
      (pss_one ps_never)) pss_nil)
    (pss_cons (ps_if (pt_val (pe_callB (call_isiT_K (K := K) (by rfl)) (by rfl) T.b_isinstance (by decide +kernel) (pa_cons (pv 1) (pa_cons (pe_tup (pa_cons (pe_tyN "list" (by rfl) T.b_list (by decide +kernel)) (pa_cons (pe_tyN "tuple" (by rfl) T.b_tuple (by decide +kernel)) pa_nil))) pa_nil)))) (pss_cons (ps_if (PW.pt (pw_or (pt_cmpR op_ne (pe_callB (call_isi_K (K := K) (by rfl)) (by rfl) T.b_isinstance (by decide +kernel) (pa_cons (pv 0) (pa_cons (pe_tyN "list" (by rfl) T.b_list (by decide +kernel)) pa_nil))) (pe_callB (call_isi_K (K := K) (by rfl)) (by rfl) T.b_isinstance (by decide +kernel) (pa_cons (pv 1) (pa_cons (pe_tyN "list" (by rfl) T.b_list (by decide +kernel)) pa_nil))) (nomark _)) (pw_or1 (pt_cmpR op_ne (pe_callB (call_isi_K (K := K) (by rfl)) (by rfl) T.b_isinstance (by decide +kernel) (pa_cons (pv 0) (pa_cons (pe_tyN "tuple" (by rfl) T.b_tuple (by decide +kernel)) pa_nil))) (pe_callB (call_isi_K (K := K) (by rfl)) (by rfl) T.b_isinstance (by decide +kernel) (pa_cons (pv 1) (pa_cons (pe_tyN "tuple" (by rfl) T.b_tuple (by decide +kernel)) pa_nil))) (nomark _))))) (pss_one (ps_ret pe_bl)) pss_nil)
      (pss_one (ps_ret (pe_and (pe_cmpR op_eq (pe_callB (call_len_seq_K (K := K) (by rfl)) (by rfl) T.b_len PySem.boot_len (pa_cons (pv 0) pa_nil)) (pe_callB (call_len_seq_K (K := K) (by rfl)) (by rfl) T.b_len PySem.boot_len (pa_cons (pv 1) pa_nil)) (nomark _)) (pe_one (pe_callB (cr_all_K (K := K) (by rfl) rfl) (by rfl) T.b_all (by decide +kernel) (pa_cons (pe_lc (own := [("_law_one", 3), ("_law_other", 4)]) rfl sc_l_like.nd (pi_zipA_K (K := K) (by rfl) (by rfl) T.b_zip (pa_cons (pv 0) (pa_cons (pv 1) pa_nil))) (blkOk_by (own := [("_law_one", 3), ("_law_other", 4)]) (N := ["_law_found", "_law_due", "_law_key", "_law_one", "_law_other"]) (sc := defScope s_l_like) (by decide +kernel)) (fun _ _ _ _ _ => by exact (pg_tup_K (K := K) (by rfl) (n := 2) (by rfl) (pgs_cons (pg_name (i := 3) sc_l_like.nd rfl (Or.inl rfl)) (pgs_cons (pg_name (i := 4) sc_l_like.nd rfl (Or.inl rfl)) pgs_nil)))) (fun _ _ _ _ _ => by exact pts_nil) (fun _ _ _ _ _ => by exact (pe_call G_l_like hr (by rfl) T.d_l_like.g T.d_l_like.kp T.d_l_like.b .nil pass0 (pa_cons (pv 3) (pa_cons (pv 4) pa_nil))))) pa_nil))))))) pss_nil)
    (pss_cons (ps_if (PW.pt (pw_or (pt_cmpR op_ne (pe_callB (call_isi_K (K := K) (by rfl)) (by rfl) T.b_isinstance (by decide +kernel) (pa_cons (pv 0) (pa_cons (pe_tyN "bool" (by rfl) T.b_bool (by decide +kernel)) pa_nil))) (pe_callB (call_isi_K (K := K) (by rfl)) (by rfl) T.b_isinstance (by decide +kernel) (pa_cons (pv 1) (pa_cons (pe_tyN "bool" (by rfl) T.b_bool (by decide +kernel)) pa_nil))) (nomark _)) (pw_or1 (pt_cmpR op_ne (pe_callB (call_isi_K (K := K) (by rfl)) (by rfl) T.b_isinstance (by decide +kernel) (pa_cons (pv 0) (pa_cons (pe_tyN "int" (by rfl) T.b_int (by decide +kernel)) pa_nil))) (pe_callB (call_isi_K (K := K) (by rfl)) (by rfl) T.b_isinstance (by decide +kernel) (pa_cons (pv 1) (pa_cons (pe_tyN "int" (by rfl) T.b_int (by decide +kernel)) pa_nil))) (nomark _))))) (pss_one (ps_ret pe_bl)) pss_nil)
    (pss_one (ps_ret (pe_and (pe_cmpR op_eq (pe_callB (call_isi_K (K := K) (by rfl)) (by rfl) T.b_isinstance (by decide +kernel) (pa_cons (pv 0) (pa_cons (pe_tyN "str" (by rfl) T.b_str (by decide +kernel)) pa_nil))) (pe_callB (call_isi_K (K := K) (by rfl)) (by rfl) T.b_isinstance (by decide +kernel) (pa_cons (pv 1) (pa_cons (pe_tyN "str" (by rfl) T.b_str (by decide +kernel)) pa_nil))) (nomark _)) (pe_one (pe_cmpR op_eq (pv 0) (pv 1) (nomark _)))))))))), ?_⟩
  cases hx with
  | non =>
    cases hy
    refine ⟨_, rfl, rfl, _, rfl, iteY rfl ⟨_, rfl, rfl, ?_⟩⟩
    exact q _ (Same.refl _)
  | bl b =>
    cases hy
    refine ⟨_, rfl, rfl, _, rfl, iteN (by intro z; cases z) ?_⟩
    refine ⟨_, rfl, _, _, _, _, false, rfl, .ty _, .base (.bl b), kit_ty (by decide +kernel), _, rfl, iteF ?_⟩
    refine ⟨_, rfl, (by show 2 ≤ sizeLine; decide), fun p np => ⟨_, p, _, _, _, false, rfl, upd_same, .cons (.ty _) (.cons (.ty _) .nil), .base (.bl b), kitAny_cons (kit_ty (b := "list") (r := false) (by decide +kernel)) (fun _ => kitAny_cons (kit_ty (r := false) (by decide +kernel)) (fun _ => kitAny_nil) (fun z => nomatch z)) (fun z => nomatch z), _, rfl, iteF ?_⟩⟩
    refine ⟨_, rfl, _, _, _, _, true, rfl, .ty _, .base (.bl b), kit_ty (by decide +kernel), _, rfl, _, _, _, _, true, rfl, .ty _, .base (.bl b), kit_ty (by decide +kernel), rfl, _, rfl, iteNS rfl ?_⟩
    refine ⟨_, rfl, _, _, _, _, true, rfl, .ty _, .base (.bl b), kit_ty (by decide +kernel), _, rfl, _, _, _, _, true, rfl, .ty _, .base (.bl b), kit_ty (by decide +kernel), rfl, _, rfl, iteNS rfl ?_⟩
    refine ⟨_, rfl, _, _, _, _, false, rfl, .ty _, .base (.bl b), kit_ty (by decide +kernel), _, rfl, _, _, _, _, false, rfl, .ty _, .base (.bl b), kit_ty (by decide +kernel), rfl, _, rfl, iteY rfl ⟨_, rfl, _, rfl, rfl, q_eq (q _ (same_new np))⟩⟩
  | int i =>
    cases hy
    refine ⟨_, rfl, rfl, _, rfl, iteN (by intro z; cases z) ?_⟩
    refine ⟨_, rfl, _, _, _, _, false, rfl, .ty _, .base (.int i), kit_ty (by decide +kernel), _, rfl, iteF ?_⟩
    refine ⟨_, rfl, (by show 2 ≤ sizeLine; decide), fun p np => ⟨_, p, _, _, _, false, rfl, upd_same, .cons (.ty _) (.cons (.ty _) .nil), .base (.int i), kitAny_cons (kit_ty (b := "list") (r := false) (by decide +kernel)) (fun _ => kitAny_cons (kit_ty (r := false) (by decide +kernel)) (fun _ => kitAny_nil) (fun z => nomatch z)) (fun z => nomatch z), _, rfl, iteF ?_⟩⟩
    refine ⟨_, rfl, _, _, _, _, false, rfl, .ty _, .base (.int i), kit_ty (by decide +kernel), _, rfl, _, _, _, _, false, rfl, .ty _, .base (.int i), kit_ty (by decide +kernel), rfl, _, rfl, iteNS rfl ?_⟩
    refine ⟨_, rfl, _, _, _, _, true, rfl, .ty _, .base (.int i), kit_ty (by decide +kernel), _, rfl, _, _, _, _, true, rfl, .ty _, .base (.int i), kit_ty (by decide +kernel), rfl, _, rfl, iteNS rfl ?_⟩
    refine ⟨_, rfl, _, _, _, _, false, rfl, .ty _, .base (.int i), kit_ty (by decide +kernel), _, rfl, _, _, _, _, false, rfl, .ty _, .base (.int i), kit_ty (by decide +kernel), rfl, _, rfl, iteY rfl ⟨_, rfl, _, rfl, rfl, q_eq (q _ (same_new np))⟩⟩
  | str z =>
    cases hy
    refine ⟨_, rfl, rfl, _, rfl, iteN (by intro z; cases z) ?_⟩
    refine ⟨_, rfl, _, _, _, _, false, rfl, .ty _, .base (.str z), kit_ty (by decide +kernel), _, rfl, iteF ?_⟩
    refine ⟨_, rfl, (by show 2 ≤ sizeLine; decide), fun p np => ⟨_, p, _, _, _, false, rfl, upd_same, .cons (.ty _) (.cons (.ty _) .nil), .base (.str z), kitAny_cons (kit_ty (b := "list") (r := false) (by decide +kernel)) (fun _ => kitAny_cons (kit_ty (r := false) (by decide +kernel)) (fun _ => kitAny_nil) (fun z => nomatch z)) (fun z => nomatch z), _, rfl, iteF ?_⟩⟩
    refine ⟨_, rfl, _, _, _, _, false, rfl, .ty _, .base (.str z), kit_ty (by decide +kernel), _, rfl, _, _, _, _, false, rfl, .ty _, .base (.str z), kit_ty (by decide +kernel), rfl, _, rfl, iteNS rfl ?_⟩
    refine ⟨_, rfl, _, _, _, _, false, rfl, .ty _, .base (.str z), kit_ty (by decide +kernel), _, rfl, _, _, _, _, false, rfl, .ty _, .base (.str z), kit_ty (by decide +kernel), rfl, _, rfl, iteNS rfl ?_⟩
    refine ⟨_, rfl, _, _, _, _, true, rfl, .ty _, .base (.str z), kit_ty (by decide +kernel), _, rfl, _, _, _, _, true, rfl, .ty _, .base (.str z), kit_ty (by decide +kernel), rfl, _, rfl, iteY rfl ⟨_, rfl, _, rfl, rfl, q_eq (q _ (same_new np))⟩⟩
  | @lst a xs ds h1 h2 =>
    cases hy with
    | @lst b ys _ k1 k2 =>
    cases hs with
    | @lst m _ hl hall =>
    have lxy : xs.length = ys.length := (DpAll.length h2).trans (DpAll.length k2).symm
    refine ⟨_, rfl, rfl, _, rfl, iteN (by intro z; cases z) ?_⟩
    refine ⟨_, rfl, _, _, _, _, false, rfl, .ty _, tyL k1, kit_ty (by decide +kernel), _, rfl, iteF ?_⟩
    refine ⟨_, rfl, (by show 2 ≤ sizeLine; decide), fun p np => ⟨_, p, _, _, _, true, rfl, upd_same, .cons (.ty _) (.cons (.ty _) .nil), tyL ((same_new np).seq k1), kitAny_cons (kit_ty (b := "list") (r := true) (by decide +kernel)) (fun z => nomatch z) (fun _ => rfl), _, rfl, iteT ?_⟩⟩
    have e1 : Same H (upd H p (.tup [.ty "list", .ty "tuple"])) := same_new np
    have h1' := e1.seq h1
    have k1' := e1.seq k1
    refine ⟨_, rfl, _, _, _, _, true, rfl, .ty _, tyL h1', kit_ty (by decide +kernel), _, rfl, _, _, _, _, true, rfl, .ty _, tyL k1', kit_ty (by decide +kernel), rfl, _, rfl, iteNS rfl ?_⟩
    refine ⟨_, rfl, _, _, _, _, false, rfl, .ty _, tyL h1', kit_ty (by decide +kernel), _, rfl, _, _, _, _, false, rfl, .ty _, tyL k1', kit_ty (by decide +kernel), rfl, _, rfl, iteNS rfl ?_⟩
    refine ⟨_, rfl, a, xs, rfl, .inl h1', _, rfl, b, ys, rfl, .inl k1', rfl, _, rfl, iteY (by rw [lxy]) ?_⟩
    refine ⟨_, rfl, _, rfl, a, b, xs, ys, rfl, .inl ⟨h1', k1', fun D nD => ?_⟩⟩
    refine lc_it (walk_zip (n := xs.length) (by omega)) (fun i H' => Same (upd H p (.tup [.ty "list", .ty "tuple"])) H' ∧ H' D = some (.lst ((List.replicate i true).map V.bl))) ⟨same_new nD, upd_same⟩ (fun i H' _ p => ⟨p.1.seq h1', p.1.seq k1'⟩) ?_ ?_
    · rintro i v H' H'' hi ⟨s1, hD⟩ ⟨Tp, x', y', rfl, nT, rfl, ex, ey⟩
      refine ⟨Tp, [x', y'], rfl, .inl (.inl upd_same), rfl, x', [y'], rfl, y', [], rfl, rfl, rfl, ?_⟩
      obtain ⟨d', hm, hx', hy'⟩ := dpa_at h2 k2 ex ey
      have s2 := e1.trans (s1.trans (same_new (o := .tup [x', y']) nT))
      refine ⟨_, rfl, _, rfl, x', y', d', rfl, Dp.mono s2 hx', Dp.mono s2 hy', hall _ hm, fun H4 s4 => ?_⟩
      have lz : xs.length = ds.length := DpAll.length h2
      refine ⟨_, s4 _ _ ((upd_ne (ne_of_none hD nT)).trans hD), by rw [List.length_map, List.length_replicate]; exact lt_line (by omega), fun b' o e' => ?_, ?_⟩
      · have nb : b' ≠ D := ne_of_none e' nD
        rw [upd_ne nb]
        exact s4 _ _ (same_new nT _ _ (s1 _ _ e'))
      · rw [upd_same, List.replicate_succ', List.map_append]
        rfl
    · rintro H' ⟨s1, hD⟩
      refine ⟨D, List.replicate xs.length true, rfl, SqL.of hD, ?_⟩
      rw [bls_true]
      exact q _ (e1.trans s1)
  | @tup a xs ds h1 h2 =>
    cases hy with
    | @tup b ys _ k1 k2 =>
    cases hs with
    | @tup m _ hl hall =>
    have lxy : xs.length = ys.length := (DpAll.length h2).trans (DpAll.length k2).symm
    refine ⟨_, rfl, rfl, _, rfl, iteN (by intro z; cases z) ?_⟩
    refine ⟨_, rfl, _, _, _, _, false, rfl, .ty _, tyT k1, kit_ty (by decide +kernel), _, rfl, iteF ?_⟩
    refine ⟨_, rfl, (by show 2 ≤ sizeLine; decide), fun p np => ⟨_, p, _, _, _, true, rfl, upd_same, .cons (.ty _) (.cons (.ty _) .nil), tyT (Same.tup (same_new np) k1), kitAny_cons (kit_ty (b := "list") (r := false) (by decide +kernel)) (fun _ => kitAny_cons (kit_ty (r := true) (by decide +kernel)) (fun z => nomatch z) (fun _ => rfl)) (fun z => nomatch z), _, rfl, iteT ?_⟩⟩
    have e1 : Same H (upd H p (.tup [.ty "list", .ty "tuple"])) := same_new np
    have h1' := Same.tup e1 h1
    have k1' := Same.tup e1 k1
    refine ⟨_, rfl, _, _, _, _, false, rfl, .ty _, tyT h1', kit_ty (by decide +kernel), _, rfl, _, _, _, _, false, rfl, .ty _, tyT k1', kit_ty (by decide +kernel), rfl, _, rfl, iteNS rfl ?_⟩
    refine ⟨_, rfl, _, _, _, _, true, rfl, .ty _, tyT h1', kit_ty (by decide +kernel), _, rfl, _, _, _, _, true, rfl, .ty _, tyT k1', kit_ty (by decide +kernel), rfl, _, rfl, iteNS rfl ?_⟩
    refine ⟨_, rfl, a, xs, rfl, .inr h1', _, rfl, b, ys, rfl, .inr k1', rfl, _, rfl, iteY (by rw [lxy]) ?_⟩
    refine ⟨_, rfl, _, rfl, a, b, xs, ys, rfl, .inr ⟨h1', k1', fun D nD => ?_⟩⟩
    refine lc_it (walk_zipT (n := xs.length) (by omega)) (fun i H' => Same (upd H p (.tup [.ty "list", .ty "tuple"])) H' ∧ H' D = some (.lst ((List.replicate i true).map V.bl))) ⟨same_new nD, upd_same⟩ (fun i H' _ p => ⟨Same.tup p.1 h1', Same.tup p.1 k1'⟩) ?_ ?_
    · rintro i v H' H'' hi ⟨s1, hD⟩ ⟨Tp, x', y', rfl, nT, rfl, ex, ey⟩
      refine ⟨Tp, [x', y'], rfl, .inl (.inl upd_same), rfl, x', [y'], rfl, y', [], rfl, rfl, rfl, ?_⟩
      obtain ⟨d', hm, hx', hy'⟩ := dpa_at h2 k2 ex ey
      have s2 := e1.trans (s1.trans (same_new (o := .tup [x', y']) nT))
      refine ⟨_, rfl, _, rfl, x', y', d', rfl, Dp.mono s2 hx', Dp.mono s2 hy', hall _ hm, fun H4 s4 => ?_⟩
      have lz : xs.length = ds.length := DpAll.length h2
      refine ⟨_, s4 _ _ ((upd_ne (ne_of_none hD nT)).trans hD), by rw [List.length_map, List.length_replicate]; exact lt_line (by omega), fun b' o e' => ?_, ?_⟩
      · have nb : b' ≠ D := ne_of_none e' nD
        rw [upd_ne nb]
        exact s4 _ _ (same_new nT _ _ (s1 _ _ e'))
      · rw [upd_same, List.replicate_succ', List.map_append]
        rfl
    · rintro H' ⟨s1, hD⟩
      refine ⟨D, List.replicate xs.length true, rfl, SqL.of hD, ?_⟩
      rw [bls_true]
      exact q _ (e1.trans s1)
theorem ok_like (T : Top K mg) : ∀ n : Nat, FnOk P w K mg base CX0 n T.a_l_like T.fd_l_like ["_law_found", "_law_due"] (spLk K n)
  | 0 => ⟨fun _ _ _ _ h => h.elim, fun _ _ _ _ _ _ _ _ _ _ _ _ _ h => h.elim⟩
  | n + 1 => like_step T n (ok_like T n)
end
end Bh

set_option Elab.async false
set_option linter.all false
set_option maxRecDepth 100000
set_option maxHeartbeats 4000000
set_option autoImplicit false
namespace Bh
open PySem PySem.Spec PyProof.Rows L2 LamX NdefX
def spBounds (TL : List (Addr × Str)) : Sp := fun vs H Q _ => vs = [] ∧ Tabs TL H ∧ ∀ H', Q (.bl true) H'
theorem ret_call {sp : Sp} {dvs : List V} {E : XK} {tc : TE} {ta : TA} {D : Ends} {σ : L2.St} {H : Hp} (h : tc σ H fun x H1 => ta σ H1 fun xs H2 => sp (x :: xs ++ dvs) H2 D.rt E) : tRet (tCall sp dvs E (tCons tc ta)) D σ H := h
theorem seq_ex {t u : TS} {D : Ends} {σ : L2.St} {H : Hp} (h : t { D with nx := u D } σ H) : tSeq t u D σ H := h
section
variable {P : Program} {w : World} {K : PySem.W.Frag} {mg : Str → Option Value} {base : Heap} {cI pI cS pS : Addr} {TL : List (Addr × Str)}
theorem ok_bounds (T : Top K mg) {R : RbC K mg} (M : RbM K mg R cI pI) (S : BdM K mg cS) (TB : TabB base mg cI pI) (TBL : TabB base mg cS pS) (mI : (pI, rbQ) ∈ TL) (uI : ∀ p ∈ TL, p.1 = pI → p.2 = rbQ) (mS0 : (pS, bdQ) ∈ TL) (uS0 : ∀ p ∈ TL, p.1 = pS → p.2 = bdQ) :
    FnOk P w K mg base CX0 17 S.f S.fd [] (spBounds TL) := by
  have mL : (pS, ("_law_bounds_so.<locals>." : Str) ++ "<lambda>") ∈ TL := by
    rw [show (("_law_bounds_so.<locals>." : Str) ++ "<lambda>") = bdQ by decide +kernel]
    exact mS0
  have uL : ∀ p ∈ TL, p.1 = pS → p.2 = ("_law_bounds_so.<locals>." : Str) ++ "<lambda>" := fun p hp e => (uS0 p hp e).trans (show bdQ = ("_law_bounds_so.<locals>." : Str) ++ "<lambda>" by decide +kernel)
  have G_l_like := ok_like (P := P) (w := w) (base := base) T 10
  obtain ⟨oc2, od2, kV2, doc2, pm2, an2, cdvT, ct2, osl2, eT, lkT, hcT⟩ := T.d_l_try.F.ex
  have bT := T.d_l_try.b
  rw [eT] at bT lkT
  refine fn_of S.lk S.hcd sc_l_bounds_so (fun vs H Q E h => ?_) (fun A outer s H vs Q E hr h => ?_)
  · obtain ⟨rfl, _⟩ := h
    rfl
  obtain ⟨rfl, tb, q⟩ := h
  refine ⟨_, PSs.nox (pss_cons (ps_asg (pd_tup (K := K) (pds_cons (pd_tup (pds_cons pd_str (pds_cons pd_str pds_nil))) (pds_cons (pd_tup (pds_cons pd_str (pds_cons pd_str (pds_cons pd_str (pds_cons pd_str (pds_cons pd_str (pds_cons pd_str pds_nil))))))) pds_nil))) (pg_tup_K (K := K) (by rfl) (n := 2) (by rfl) (pgs_cons (pg_name (i := 0) sc_l_bounds_so.nd rfl (Or.inr rfl)) (pgs_cons (pg_name (i := 1) sc_l_bounds_so.nd rfl (Or.inl rfl)) pgs_nil))))
    (pss_cons (ps_asg (pe_tup (pa_cons (pe_lst (pds_cons (K := K) (pd_tup (pds_cons pd_str (pds_cons (pd_acc 1 (pv 1)) pds_nil))) (pds_cons (pd_tup (pds_cons pd_str (pds_cons (pd_acc 0 (pv 0)) pds_nil))) (pds_cons (pd_tup (pds_cons pd_str (pds_cons (pd_acc 0 (pv 0)) pds_nil))) pds_nil)))) (pa_cons (pe_lst (pds_cons (K := K) (pd_tup (pds_cons pd_str (pds_cons (pd_acc 1 (pv 1)) pds_nil))) (pds_cons (pd_tup (pds_cons pd_str (pds_cons (pd_acc 1 (pv 1)) pds_nil))) pds_nil))) pa_nil))) (pg_tup_K (K := K) (by rfl) (n := 2) (by rfl) (pgs_cons (pg_name (i := 2) sc_l_bounds_so.nd rfl (Or.inr rfl)) (pgs_cons (pg_name (i := 3) sc_l_bounds_so.nd rfl (Or.inr rfl)) pgs_nil))))
    (pss_cons (ps_set (i := 4) sc_l_bounds_so.nd rfl (Or.inl rfl) (pe_lst (pds_cons (K := K) pd_str (pds_cons pd_str (pds_cons pd_str (pds_cons pd_str (pds_cons pd_str pds_nil)))))))
    (pss_cons (ps_set (i := 5) sc_l_bounds_so.nd rfl (Or.inr rfl) (pe_lc (own := [("_law_name", 9)]) rfl sc_l_bounds_so.nd (pi_list_K (K := K) (by rfl) (pv 4)) (blkOk_by (own := [("_law_name", 9)]) (N := ["_law_two", "_law_six", "_law_wide", "_law_far", "_law_names", "_law_t", "_law_s", "_law_asks", "_law_due", "_law_name", "_law_ask"]) (sc := defScope s_l_bounds_so) (by decide +kernel)) (fun _ _ _ _ _ => by exact (pg_name (i := 9) sc_l_bounds_so.nd rfl (Or.inl rfl))) (fun _ _ _ _ _ => by exact pts_nil) (fun _ _ _ _ _ => by exact (pd_tup (K := K) (pds_cons (pd_acc 9 (pv 9)) (pds_cons (pd_tup (pds_cons (pd_tup (pds_cons (pd_tup pds_nil) (pds_cons (pd_tup pds_nil) pds_nil))) pds_nil)) pds_nil))))))
    (pss_cons (ps_set (i := 6) sc_l_bounds_so.nd rfl (Or.inr rfl) (pe_lc (own := [("_law_name", 9)]) rfl sc_l_bounds_so.nd (pi_list_K (K := K) (by rfl) (pv 4)) (blkOk_by (own := [("_law_name", 9)]) (N := ["_law_two", "_law_six", "_law_wide", "_law_far", "_law_names", "_law_t", "_law_s", "_law_asks", "_law_due", "_law_name", "_law_ask"]) (sc := defScope s_l_bounds_so) (by decide +kernel)) (fun _ _ _ _ _ => by exact (pg_name (i := 9) sc_l_bounds_so.nd rfl (Or.inl rfl))) (fun _ _ _ _ _ => by exact pts_nil) (fun _ _ _ _ _ => by exact (pd_tup (K := K) (pds_cons (pd_acc 9 (pv 9)) (pds_cons (pd_tup pds_nil) (pds_cons pd_non (pds_cons pd_non pds_nil))))))))
    (pss_cons (ps_set (i := 7) sc_l_bounds_so.nd rfl (Or.inl rfl) (pe_lst (pa_cons (pe_stl0L (L := lamb0) (T := TL) rfl TBL rfl mL uL rfl (ndef_free (sc := defScope s_l_bounds_so) (fr := ["_law_wide", "_law_t", "_law_s"]) (by decide +kernel))) pa_nil)))
    (pss_cons (ps_expr (pe_bm_K (K := K) (by rfl) PySem.F.plainAttrs_list PySem.F.slot_list_append PySem.F.type_list_append mt_append (pv 7) (pa_cons (pe_stl0L (L := lamb1) (T := TL) rfl TBL rfl mL uL rfl (ndef_free (sc := defScope s_l_bounds_so) (fr := ["_law_far", "_law_t", "_law_s"]) (by decide +kernel))) pa_nil)))
    (pss_cons (ps_expr (pe_bm_K (K := K) (by rfl) PySem.F.plainAttrs_list PySem.F.slot_list_append PySem.F.type_list_append mt_append (pv 7) (pa_cons (pe_stl0L (L := lamb2) (T := TL) rfl TBL rfl mL uL rfl (ndef_free (sc := defScope s_l_bounds_so) (fr := ["_law_wide", "_law_t", "_law_s", "_law_two"]) (by decide +kernel))) pa_nil)))
    (pss_cons (ps_expr (pe_bm_K (K := K) (by rfl) PySem.F.plainAttrs_list PySem.F.slot_list_append PySem.F.type_list_append mt_append (pv 7) (pa_cons (pe_stl0L (L := lamb3) (T := TL) rfl TBL rfl mL uL rfl (ndef_free (sc := defScope s_l_bounds_so) (fr := ["_law_wide", "_law_t", "_law_s"]) (by decide +kernel))) pa_nil)))
    (pss_cons (ps_expr (pe_bm_K (K := K) (by rfl) PySem.F.plainAttrs_list PySem.F.slot_list_append PySem.F.type_list_append mt_append (pv 7) (pa_cons (pe_stl0L (L := lamb4) (T := TL) rfl TBL rfl mL uL rfl (ndef_free (sc := defScope s_l_bounds_so) (fr := ["_law_wide", "_law_s", "_law_t"]) (by decide +kernel))) pa_nil)))
    (pss_cons (ps_expr (pe_bm_K (K := K) (by rfl) PySem.F.plainAttrs_list PySem.F.slot_list_append PySem.F.type_list_append mt_append (pv 7) (pa_cons (pe_stl0L (L := lamb5) (T := TL) rfl TBL rfl mL uL rfl (ndef_free (sc := defScope s_l_bounds_so) (fr := ["_law_wide", "_law_s", "_law_t"]) (by decide +kernel))) pa_nil)))
    (pss_cons (ps_expr (pe_bm_K (K := K) (by rfl) PySem.F.plainAttrs_list PySem.F.slot_list_append PySem.F.type_list_append mt_append (pv 7) (pa_cons (pe_stl0L (L := lamb6) (T := TL) rfl TBL rfl mL uL rfl (ndef_free (sc := defScope s_l_bounds_so) (fr := ["_law_wide", "_law_t", "_law_s"]) (by decide +kernel))) pa_nil)))
    (pss_cons (ps_set (i := 8) sc_l_bounds_so.nd rfl (Or.inl rfl) (pe_lst (pds_cons (K := K) (pd_tup (pds_cons pd_str (pds_cons pd_int pds_nil))) (pds_cons (pd_tup (pds_cons pd_str (pds_cons pd_int pds_nil))) (pds_cons (pd_tup (pds_cons pd_str (pds_cons pd_int pds_nil))) (pds_cons (pd_tup (pds_cons pd_str (pds_cons pd_int pds_nil))) pds_nil))))))
    (pss_cons (ps_set (i := 8) sc_l_bounds_so.nd rfl (Or.inl rfl) (pe_op op_cat (pv 8) (pe_lst (pds_cons (K := K) (pd_tup (pds_cons pd_str (pds_cons pd_int pds_nil))) (pds_cons (pd_tup (pds_cons pd_str (pds_cons pd_int pds_nil))) (pds_cons (pd_tup (pds_cons pd_str (pds_cons pd_int pds_nil))) pds_nil))))))
    (pss_one (ps_ret (pe_call G_l_like (hr.mono (by decide)) (by rfl) T.d_l_like.g T.d_l_like.kp T.d_l_like.b .nil pass0 (pa_cons (pe_lcTry (own := [("_law_ask", 10)]) (i := 10) (lksC T M TB mI uI) rfl sc_l_bounds_so.nd (pi_list_K (K := K) (by rfl) (pv 7)) (blkOk_by (own := [("_law_ask", 10)]) (N := ["_law_two", "_law_six", "_law_wide", "_law_far", "_law_names", "_law_t", "_law_s", "_law_asks", "_law_due", "_law_name", "_law_ask"]) (sc := defScope s_l_bounds_so) (by decide +kernel)) (fun _ _ _ _ _ => by exact (pg_name (i := 10) sc_l_bounds_so.nd rfl (Or.inl rfl))) (fun _ _ _ _ _ => by rfl) T.d_l_try.g T.d_l_try.kp lkT hcT bT sc_l_try rfl (.inl (by rfl)) (try_gives T cdvT) (hr.mono (by decide)) rfl (fun _ _ => .inl rfl)) (pa_cons (pv 8) pa_nil))))))))))))))))))), ?_⟩
  rw [show L2.start ["_law_two", "_law_six", "_law_wide", "_law_far", "_law_names", "_law_t", "_law_s", "_law_asks", "_law_due", "_law_name", "_law_ask"] [] = [none, none, none, none, none, none, none, none, none, none, none] from rfl]
  refine sq_asg ?_
  refine ⟨_, wo_eq, fun _ => .none, H, rfl, ?_, fun v G1 H1 s1 e1 hv => ?_⟩
  · repeat' (first | exact acc_nil | refine acc_app ?_ ?_)
  obtain rfl := e1
  obtain ⟨ta, us, rfl, ht, hu⟩ := dp_tup hv
  obtain ⟨v2, r1, rfl, e2, hu⟩ := dpa_cons hu
  obtain ⟨v6, r2, rfl, e6, hu⟩ := dpa_cons hu
  obtain rfl := dpa_nil hu
  refine ⟨ta, _, rfl, ht, rfl, _, _, rfl, _, _, rfl, rfl, ?_⟩
  have tb1 := tb.ext s1
  clear hv hu ht
  try dsimp only
  let ρ : Nat → PyData := fun i => if i = 0 then .tuple (sTwo.map PyData.str) else if i = 1 then .tuple (sSix.map PyData.str) else .none
  refine sq_asg ?_
  refine tup_step ?_
  refine cons_step ?_
  refine dlst_step ρ wo_eq rfl ?_ (Nat.le_of_ble_eq_true rfl) (fun pw xw G2 H2 s2 ee n2 h2 d2 => ?_)
  · repeat' (first | exact acc_nil | refine acc_app ?_ ?_ | refine acc_one ?_ | exact acc_var rfl e2 | exact acc_var rfl e6)
  obtain rfl := ee
  refine cons_step ?_
  refine dlst_step ρ wo_eq rfl ?_ (Nat.le_of_ble_eq_true rfl) (fun pf xf G3 H3 s3 ee n3 h3 d3 => ?_)
  · repeat' (first | exact acc_nil | refine acc_app ?_ ?_ | refine acc_one ?_ | exact acc_var rfl (Dp.mono s2 e2) | exact acc_var rfl (Dp.mono s2 e6))
  obtain rfl := ee
  refine ⟨(by show 2 ≤ sizeLine; decide), fun pq npq => ?_⟩
  have s4 := same_new (o := .tup [.ref pw, .ref pf]) npq
  refine ⟨pq, _, rfl, SqT.of upd_same, rfl, _, _, rfl, _, _, rfl, rfl, ?_⟩
  have s34 := s3.trans s4
  have hw := s34 _ _ h2
  have dw : DpAll K _ xw (wideF.map dF) := DpAll.mono s34 d2
  have hf := s4 _ _ h3
  have df : DpAll K _ xf (farF.map dF) := DpAll.mono s4 d3
  have d2' := Dp.mono (s2.trans s34) e2
  have tb4 := tb1.ext (s2.trans s34)
  generalize upd G3 pq (.tup [.ref pw, .ref pf]) = H4 at hw dw hf df d2' tb4
  clear s34 s4 npq s3 s2 h2 d2 n2 h3 d3 n3 e2 e6 tb1 s1
  try dsimp only
  refine sq_asg ?_
  refine dlst_step (fun _ => .none) wo_eq rfl ?_ (Nat.le_of_ble_eq_true rfl) (fun pn xn G5 H5 s5 ee n5 h5 d5 => ?_)
  · repeat' (first | exact acc_nil | refine acc_app ?_ ?_)
  obtain rfl := ee
  obtain rfl : xn = bNames.map V.str := dp_strs (zs := bNames) d5
  refine gn_step ?_
  try dsimp only
  refine sq_asg ?_
  refine ⟨_, rfl, pn, rfl, ⟨_, SqL.of h5⟩, fun pt nD => ?_⟩
  refine lc_it walk_list (fun i H' => Same G5 H' ∧ ∃ acc, H' pt = some (.lst acc) ∧ DpAll K H' acc (((bNames.take i).map Bh.bT).map dTie)) ⟨same_new nD, [], upd_same, .nil⟩ (fun i H' _ p => SqL.of (p.1 _ _ h5)) ?_ ?_
  · rintro i x H' H'' hi ⟨s1, acc, hD, hacc⟩ ⟨rfl, ex⟩
    rw [List.getElem?_map] at ex
    cases en : bNames[i]? with
    | none => rw [en] at ex; cases ex
    | some n =>
      rw [en] at ex
      cases ex
      have la : acc.length ≤ 1000 := by
        rw [DpAll.length hacc, List.length_map, List.length_map, List.length_take]
        have : bNames.length = 5 := rfl
        omega
      refine ⟨rfl, ?_⟩
      refine ⟨_, wo_eq, fun _ => .str n, _, rfl, ?_, fun v G H3 s3 e3 hv => ?_⟩
      · repeat' (first | exact acc_nil | refine acc_app ?_ ?_ | refine acc_one ?_ | exact acc_var rfl (.str _))
      obtain rfl := e3
      have hD3 := s3 _ _ hD
      have im : Imm G (upd G pt (.lst (acc ++ [v]))) := imm_upd hD3
      refine ⟨acc, hD3, lt_line (by omega), same_mut (s1.trans s3) nD, acc ++ [v], upd_same, ?_⟩
      rw [List.take_add_one, en, List.map_append, List.map_append]
      exact DpAll.append (DpAll.imm im (noLs_map noL_dTie _) (DpAll.mono s3 hacc)) (.cons (Dp.imm im (by rfl) hv) .nil)
  rintro H6 ⟨s6, xt, h6, d6⟩
  rw [List.take_of_length_le (by show 5 ≤ 5; decide)] at d6
  refine gn_step ?_
  try dsimp only
  have h56 := s6 _ _ h5
  refine sq_asg ?_
  refine ⟨_, rfl, pn, rfl, ⟨_, SqL.of h56⟩, fun ps nD => ?_⟩
  refine lc_it walk_list (fun i H' => Same H6 H' ∧ ∃ acc, H' ps = some (.lst acc) ∧ DpAll K H' acc (((bNames.take i).map Bh.bK).map dKnd)) ⟨same_new nD, [], upd_same, .nil⟩ (fun i H' _ p => SqL.of (p.1 _ _ h56)) ?_ ?_
  · rintro i x H' H'' hi ⟨s1, acc, hD, hacc⟩ ⟨rfl, ex⟩
    rw [List.getElem?_map] at ex
    cases en : bNames[i]? with
    | none => rw [en] at ex; cases ex
    | some n =>
      rw [en] at ex
      cases ex
      have la : acc.length ≤ 1000 := by
        rw [DpAll.length hacc, List.length_map, List.length_map, List.length_take]
        have : bNames.length = 5 := rfl
        omega
      refine ⟨rfl, ?_⟩
      refine ⟨_, wo_eq, fun _ => .str n, _, rfl, ?_, fun v G H3 s3 e3 hv => ?_⟩
      · repeat' (first | exact acc_nil | refine acc_app ?_ ?_ | refine acc_one ?_ | exact acc_var rfl (.str _))
      obtain rfl := e3
      have hD3 := s3 _ _ hD
      have im : Imm G (upd G ps (.lst (acc ++ [v]))) := imm_upd hD3
      refine ⟨acc, hD3, lt_line (by omega), same_mut (s1.trans s3) nD, acc ++ [v], upd_same, ?_⟩
      rw [List.take_add_one, en, List.map_append, List.map_append]
      exact DpAll.append (DpAll.imm im (noLs_map noL_dKnd _) (DpAll.mono s3 hacc)) (.cons (Dp.imm im (by rfl) hv) .nil)
  rintro H7 ⟨s7, xs, h7, d7⟩
  rw [List.take_of_length_le (by show 5 ≤ 5; decide)] at d7
  refine gn_step ?_
  try dsimp only
  have s57 := s5.trans (s6.trans s7)
  have B : BdA K H7 pw pf pt ps v2 xw xf xt xs := ⟨s57 _ _ hw, DpAll.mono s57 dw, s57 _ _ hf, DpAll.mono s57 df, s7 _ _ h6, DpAll.mono s7 d6, h7, d7, Dp.mono s57 d2'⟩
  have tb7 := tb4.ext s57
  clear s57 s5 s6 s7 hw dw hf df h6 d6 h7 d7 d2' tb4 h5 h56 d5 n5 tb
  refine sq_asg ?_
  refine asks_one (κ := lkb0 (P := P) (w := w) (base := base) T M TB mI uI) tb7 fun H8 pa A1 => ?_
  refine gn_step ?_
  try dsimp only
  refine seq_ex ?_
  refine asks_add (κ := lkb1 (P := P) (w := w) (base := base) T M TB mI uI) A1 (by show 1 < 100; decide) rfl fun J1 A2 => ?_
  clear A1
  try dsimp only
  refine seq_ex ?_
  refine asks_add (κ := lkb2 (P := P) (w := w) (base := base) T M TB mI uI) A2 (by show 2 < 100; decide) rfl fun J2 A3 => ?_
  clear A2
  try dsimp only
  refine seq_ex ?_
  refine asks_add (κ := lkb3 (P := P) (w := w) (base := base) T M TB mI uI) A3 (by show 3 < 100; decide) rfl fun J3 A4 => ?_
  clear A3
  try dsimp only
  refine seq_ex ?_
  refine asks_add (κ := lkb4 (P := P) (w := w) (base := base) T M TB mI uI) A4 (by show 4 < 100; decide) rfl fun J4 A5 => ?_
  clear A4
  try dsimp only
  refine seq_ex ?_
  refine asks_add (κ := lkb5 (P := P) (w := w) (base := base) T M TB mI uI) A5 (by show 5 < 100; decide) rfl fun J5 A6 => ?_
  clear A5
  try dsimp only
  refine seq_ex ?_
  refine asks_add (κ := lkb6 (P := P) (w := w) (base := base) T M TB mI uI) A6 (by show 6 < 100; decide) rfl fun J6 A7 => ?_
  clear A6
  try dsimp only
  have tbA := A7.tb
  have xA := A7.ex
  obtain ⟨vsA, lsA, pA⟩ := A7.ls
  have B := B.ext xA
  clear A7 xA
  refine sq_asg ?_
  refine dlst_step (fun _ => .none) wo_eq rfl ?_ (Nat.le_of_ble_eq_true rfl) (fun pd xd G9 H9 s9 ee n9 h9 d9 => ?_)
  · repeat' (first | exact acc_nil | refine acc_app ?_ ?_)
  obtain rfl := ee
  refine gn_step ?_
  try dsimp only
  refine sq_asg ?_
  refine dcat_step (fun _ => .none) wo_eq rfl rfl h9 d9 ?_ (Nat.le_of_ble_eq_true rfl) (Nat.le_of_ble_eq_true rfl) (fun pe xe G10 H10 s10 ee n10 h10 d10 => ?_)
  · repeat' (first | exact acc_nil | refine acc_app ?_ ?_)
  obtain rfl := ee
  refine gn_step ?_
  try dsimp only
  have s910 := s9.trans s10
  refine ret_call ?_
  refine lc_asksC rfl (s910 _ _ lsA) (paired_imp pA fun v κ r => r.ext (ExtN.of s910)) (asks_bounds T M TB mI uI (B.ext (ExtN.of s910))) (by show 7 ≤ 100; decide) (fun κ h => h) (tbA.ext s910) fun H11 D ys x11 t11 kD dD => ?_
  refine ⟨_, rfl, .ref D, .ref pe, .list (bDue.map dAsk), rfl, .lst (SqL.of kD) dD, .lst (SqL.of (x11 _ _ h10 fun _ z => nomatch z)) (dpa_ext x11 d10), sh_asks _ (by decide), fun H12 _ => q H12⟩
end
end Bh

set_option Elab.async false
set_option linter.all false
set_option maxRecDepth 100000
set_option maxHeartbeats 2000000
namespace Bh
open PySem PySem.Spec PyProof.Rows L2
/-! ### zip of a tuple and two lists -/
def ItZ3 (K : PySem.W.Frag) (a b c : Addr) : It where
  go := fun i H => ∃ (l m k : List V) (x y u : V), SqT K H a l ∧ SqL K H b m ∧ SqL K H c k ∧ l[i]? = some x ∧ m[i]? = some y ∧ k[i]? = some u
  yld := fun i H v H' => ∃ (T : Addr) (x y u : V), v = .ref T ∧ H T = none ∧ H' = upd H T (.tup [x, y, u]) ∧ (∀ l, SqT K H a l → l[i]? = some x) ∧ (∀ m, SqL K H b m → m[i]? = some y) ∧ ∀ k, SqL K H c k → k[i]? = some u
  stop := fun i H => ∃ l m k : List V, SqT K H a l ∧ SqL K H b m ∧ SqL K H c k ∧ i ≤ l.length ∧ i ≤ m.length ∧ i ≤ k.length ∧ (i = l.length ∨ i = m.length ∨ i = k.length)
theorem turn_z3 {P : Program} {w : World} {K : PySem.W.Frag} {elts : List Expr} {kk : Nat} {tpos : Pos} {a b c z TI TO i1 i2 i3 : Addr} (S : ZipSep3 z TI TO i1 i2 i3 [i1, a] [i2, b] [i3, c]) (n1 : a ≠ i1) (n2 : b ≠ i2) (n3 : c ≠ i3) :
    Turn P w K (.Tuple elts kk tpos) (ItZ3 K a b c) [z, TI, TO, i1, i2, i3] z (fun i h => IsZip h z TI TO .none ∧ IsTupOf3 h TI (.ref i1) (.ref i2) (.ref i3) ∧ (∃ x y u, IsTupOf3 h TO x y u) ∧ h.IsTupleIter i1 a i ∧ h.IsListIter i2 b i ∧ h.IsListIter i3 c i) where
  mem := List.mem_cons_self ..
  obj := fun i h ⟨q1, q2, ⟨x, y, u, q3⟩, ⟨o1, q4, _, q5⟩, ⟨o2, q6, _, q7⟩, ⟨o3, q8, _, q9⟩⟩ c hc => by
    simp only [List.mem_cons, List.not_mem_nil, or_false] at hc
    rcases hc with rfl | rfl | rfl | rfl | rfl | rfl
    · exact ⟨_, q1, fun v u => nomatch u⟩
    · exact ⟨_, q2, fun v u => nomatch u⟩
    · exact ⟨_, q3, fun v u => nomatch u⟩
    · exact ⟨o1, q4, fun v u => by rw [q5] at u; cases u⟩
    · exact ⟨o2, q6, fun v u => by rw [q7] at u; cases u⟩
    · exact ⟨o3, q8, fun v u => by rw [q9] at u; cases u⟩
  keep := fun i h h' ⟨q1, q2, ⟨x, y, u, q3⟩, q4, q5, q6⟩ k => ⟨k z (by simp) _ q1, k TI (by simp) _ q2, ⟨x, y, u, k TO (by simp) _ q3⟩, q4.at fun o u => k i1 (by simp) o u, q5.at fun o u => k i2 (by simp) o u, q6.at fun o u => k i3 (by simp) o u⟩
  item := by
    intro X eP eW eK hc i pins s σ H E I hf ⟨q1, q2, ⟨x0, y0, u0, q3⟩, q4, q5, q6⟩ ⟨l, m, k, x, y, u, hl, hm, hk0, hx, hy, hu⟩
    subst eP eW eK
    obtain ⟨it1, r1, pl1, _⟩ := I.tuple hl
    obtain ⟨it2, r2, pl2, _⟩ := I.list hm
    obtain ⟨it3, r3, pl3, _⟩ := I.list hk0
    obtain ⟨u1, hu1, ru1⟩ := r1.get hx
    obtain ⟨u2, hu2, ru2⟩ := r2.get hy
    obtain ⟨u3, hu3, ru3⟩ := r3.get hu
    have hh : X.A.in1.handled = none := by rw [Around.in1_handled]; exact I.ok.hd hc
    have D1 := Draws.tuple (prog := X.prog) (w := X.w) hh i1 a n1 it1.toArray
    have D2 := Draws.list (prog := X.prog) (w := X.w) hh i2 b n2 it2.toArray
    have D3 := Draws.list (prog := X.prog) (w := X.w) hh i3 c n3 it3.toArray
    have li1 : i < it1.toArray.size := by rw [List.size_toArray]; exact (List.getElem?_eq_some_iff.mp hu1).1
    have li2 : i < it2.toArray.size := by rw [List.size_toArray]; exact (List.getElem?_eq_some_iff.mp hu2).1
    have li3 : i < it3.toArray.size := by rw [List.size_toArray]; exact (List.getElem?_eq_some_iff.mp hu3).1
    have lz : z < s.heap.objs.size := Heap.lt_size q1
    refine wpAny_pyNext_zipD3_item S D1 D2 D3 q1 q2 q3 ⟨q4, pl1⟩ ⟨q5, pl2.isList⟩ ⟨q6, pl3.isList⟩ li1 li2 li3 fun x1 x2 x3 h' tk p1 p2 p3 hz' hO st1 st2 st3 hT hsz hk => ⟨_, rfl, wpAny_letOwnedTupleGo_zip (s := { s with heap := h', toks := tk }) hz' fun h2 hz2 sb => ?_⟩
    obtain rfl : x1 = u1 := by
      have e1 : it1[i]? = some x1 := by rw [← p1]; exact List.getElem?_toArray.symm
      rw [hu1] at e1
      exact (Option.some.inj e1).symm
    obtain rfl : x2 = u2 := by
      have e1 : it2[i]? = some x2 := by rw [← p2]; exact List.getElem?_toArray.symm
      rw [hu2] at e1
      exact (Option.some.inj e1).symm
    obtain rfl : x3 = u3 := by
      have e1 : it3[i]? = some x3 := by rw [← p3]; exact List.getElem?_toArray.symm
      rw [hu3] at e1
      exact (Option.some.inj e1).symm
    have at2 : h2.get? s.heap.objs.size = some { cls := .type "tuple", data := .seq #[x1, x2, x3] } := (sb.2 _ (Nat.ne_of_gt lz)).trans hT
    have nw : ObjOk X.prog X.w (upd H s.heap.objs.size (.tup [x, y, u])) h2 s.heap.objs.size (.tup [x, y, u]) := by
      refine ⟨(by show 3 ≤ sizeLine; decide), [x1, x2, x3], .cons ru1 (.cons ru2 (.cons ru3 .nil)), _, at2, rfl, _, rfl⟩
    have J : Inv X pins σ (upd H s.heap.objs.size (.tup [x, y, u])) { s with heap := h2, toks := tk } := by
      refine I.turnedNew (ch := [z, TI, TO, i1, i2, i3]) (fun b o nb e => ?_) hf (Nat.le_refl _) nw
      exact (sb.2 b (fun e' => nb (by simp [e']))).trans (hk b o (fun e' => nb (by simp [e'])) (fun e' => nb (by simp [e'])) (fun e' => nb (by simp [e'])) (fun e' => nb (by simp [e'])) (fun e' => nb (by simp [e'])) e)
    refine ⟨.ref s.heap.objs.size, _, J, rfl, ⟨_, x, y, u, rfl, I.hok.fresh (Nat.le_refl _), rfl, fun l2 h2' => by rw [I.tuple_inj h2' hl]; exact hx, fun m2 h2' => by rw [I.list_inj h2' hm]; exact hy, fun m2 h2' => by rw [I.list_inj h2' hk0]; exact hu⟩, ⟨hz2, ?_, ⟨x1, x2, x3, ?_⟩, ?_, ?_, ?_⟩, fun c' hcm => ?_⟩
    · exact (sb.2 _ S.TIz).trans (hk _ _ S.TIz S.TITO S.TIi1 S.TIi2 S.TIi3 q2)
    · exact (sb.2 _ S.TOz).trans hO
    · exact st1.1.at fun o e => (sb.2 _ (fun q => S.zf1 (q ▸ S.mem1))).trans e
    · exact st2.1.at fun o e => (sb.2 _ (fun q => S.zf2 (q ▸ S.mem2))).trans e
    · exact st3.1.at fun o e => (sb.2 _ (fun q => S.zf3 (q ▸ S.mem3))).trans e
    · have hlt : c' < s.heap.objs.size := by
        have e' : c' = z ∨ c' = TI ∨ c' = TO ∨ c' = i1 ∨ c' = i2 ∨ c' = i3 := by simpa using hcm
        rcases e' with q | q | q | q | q | q
        · rw [q]; exact lz
        · rw [q]; exact Heap.lt_size q2
        · rw [q]; exact Heap.lt_size q3
        · rw [q]; obtain ⟨_, e1, _⟩ := q4; exact Heap.lt_size e1
        · rw [q]; obtain ⟨_, e2, _⟩ := q5; exact Heap.lt_size e2
        · rw [q]; obtain ⟨_, e2, _⟩ := q6; exact Heap.lt_size e2
      rw [upd_ne (Nat.ne_of_lt hlt)]
      exact (hf c' hcm).1
  done := by
    intro X eP eW eK hc i pins s σ H E I hf ⟨q1, q2, ⟨x0, y0, u0, q3⟩, q4, q5, q6⟩ ⟨l, m, k, hl, hm, hk0, hx, hy, hu, he⟩
    subst eP eW eK
    obtain ⟨it1, r1, pl1, _⟩ := I.tuple hl
    obtain ⟨it2, r2, pl2, _⟩ := I.list hm
    obtain ⟨it3, r3, pl3, _⟩ := I.list hk0
    have l1 := r1.length
    have l2 := r2.length
    have l3 := r3.length
    have hh : X.A.in1.handled = none := by rw [Around.in1_handled]; exact I.ok.hd hc
    have D1 := Draws.tuple (prog := X.prog) (w := X.w) hh i1 a n1 it1.toArray
    have D2 := Draws.list (prog := X.prog) (w := X.w) hh i2 b n2 it2.toArray
    have D3 := Draws.list (prog := X.prog) (w := X.w) hh i3 c n3 it3.toArray
    refine wpAny_pyNext_zipD3_end S D1 D2 D3 q1 q2 q3 ⟨q4, pl1⟩ ⟨q5, pl2.isList⟩ ⟨q6, pl3.isList⟩ (by simp; omega) (by simp; omega) (by simp; omega) (by simp; omega) fun h' tk hk => ⟨rfl, I.turnedL (t' := tk) (ch := [z, TI, TO, i1, i2, i3]) (fun c o hb q =>
      hk c o (fun q' => hb (by simp [q'])) (fun q' => hb (by simp [q'])) (fun q' => hb (by simp [q'])) (fun q' => hb (by simp [q'])) (fun q' => hb (by simp [q'])) q) hf⟩
  self := fun A i s Q E st h => wpAny_pyIter_zip st.1 h
/-- three by three -/
def YTri (xs ys zs : List V) (i : Nat) (H : Hp) (v : V) (H' : Hp) : Prop := ∃ (T : Addr) (x y u : V), v = .ref T ∧ H T = none ∧ H' = upd H T (.tup [x, y, u]) ∧ xs[i]? = some x ∧ ys[i]? = some y ∧ zs[i]? = some u
theorem walk_z3 {K : PySem.W.Frag} {a b c : Addr} {xs ys zs : List V} {n : Nat} (e1 : xs.length = n) (e2 : ys.length = n) (e3 : zs.length = n) : Walk (ItZ3 K a b c) n (fun H => SqT K H a xs ∧ SqL K H b ys ∧ SqL K H c zs) (YTri xs ys zs) := by
  refine ⟨fun i _ hi q => ?_, fun _ q => ⟨xs, ys, zs, q.1, q.2.1, q.2.2, by omega, by omega, by omega, by omega⟩, fun i H v H' _ q y => ?_⟩
  · have l1 : i < xs.length := by omega
    have l2 : i < ys.length := by omega
    have l3 : i < zs.length := by omega
    exact ⟨xs, ys, zs, xs[i], ys[i], zs[i], q.1, q.2.1, q.2.2, List.getElem?_eq_getElem l1, List.getElem?_eq_getElem l2, List.getElem?_eq_getElem l3⟩
  · obtain ⟨T, x, y, u, e1, e2, e3, e4, e5, e6⟩ := y
    exact ⟨T, x, y, u, e1, e2, e3, e4 xs q.1, e5 ys q.2.1, e6 zs q.2.2⟩
def iZip3 (K : PySem.W.Frag) (ta : TA) : TI := fun σ H R => ta σ H fun vs H1 => ∃ a b c xs ys zs n, vs = [.ref a, .ref b, .ref c] ∧ SqT K H1 a xs ∧ SqL K H1 b ys ∧ SqL K H1 c zs ∧ xs.length = n ∧ ys.length = n ∧ zs.length = n ∧
  ∀ J : It, Walk J n (fun H => SqT K H a xs ∧ SqL K H b ys ∧ SqL K H c zs) (YTri xs ys zs) → R J H1
theorem pi_zip3 {X : Cx} {K : PySem.W.Frag} (hK : X.K = K) {e e2 e3 : Expr} {ta : TA} {p pos tpos : Pos} {elts : List Expr} {kk : Nat} (hg : Gl X "zip") (hm : X.mg "zip" = none) (ha : PA X [e, e2, e3] ta)
    (hs : starEach [e, e2, e3] X.env = (false, eval e X.env) :: starEach [e2, e3] X.env := by rfl) (hpl : (backTo pos (starEach [e2, e3] X.env)).any (·.1) = false := by rfl) :
    PI X (.Tuple elts kk tpos) (.Call (.Name "zip" p) [e, e2, e3] [] pos) (iZip3 K ta) := by
  subst hK
  refine ⟨fun pins s σ H R I h => ?_⟩
  refine Call_ (ld_blt I hg hm PyProof.Rows.boot_zip (PyProof.Rows.callWith_type1 (thn (ha.run pos pins s σ H _ I h) fun us s1 ⟨vs, H1, I1, r1, q1⟩ => ?_) hs hpl))
  obtain ⟨a, b, c, xs, ys, zs, n, rfl, hqx, hqy, hqz, e1, e2, e3, q⟩ := q1
  obtain ⟨u, w, v, rfl, ra, rb, rc⟩ : ∃ u w v, us = [u, w, v] ∧ RelV (.ref a) u ∧ RelV (.ref b) w ∧ RelV (.ref c) v := by
    cases r1 with
    | cons x y =>
      cases y with
      | cons x2 y2 =>
        cases y2 with
        | cons x3 z => cases z; exact ⟨_, _, _, rfl, x, x2, x3⟩
  cases ra
  cases rb
  cases rc
  have new6 : ∀ d ∈ [s1.heap.objs.size + 5, s1.heap.objs.size + 3, s1.heap.objs.size + 4, s1.heap.objs.size, s1.heap.objs.size + 1, s1.heap.objs.size + 2], FpOk X pins H1 d := fun d hc => by
    have le : s1.heap.objs.size ≤ d := by
      simp only [List.mem_cons, List.not_mem_nil, or_false] at hc
      omega
    exact I1.fpOk le (I1.hok.fresh le)
  obtain ⟨it1, r1', p1, _⟩ := I1.tuple hqx
  obtain ⟨o1, ho1, _⟩ := id p1
  have la : a < s1.heap.objs.size := Heap.lt_size ho1
  obtain ⟨it2, r2', p2, _⟩ := I1.list hqy
  have lb : b < s1.heap.objs.size := p2.lt
  obtain ⟨it3, r3', p3, _⟩ := I1.list hqz
  have lc : c < s1.heap.objs.size := p3.lt
  refine zip_begins3 (begins_tuple a it1.toArray) (begins_list b it2.toArray) (begins_list c it3.toArray) p1 p2.isList p3.isList fun h' hz hTI hTO g1 g2 g3 hsz hk => wpAny_pyIter_zip hz ?_
  refine ⟨s1.heap.objs.size + 5, _, _, _, H1, rfl, I1.kept (t' := s1.toks) hk, turn_z3 (zip_sep3 (fp1 := [a]) (fp2 := [b]) (fp3 := [c]) (fun d hd => by rw [List.mem_singleton.mp hd]; exact la) (fun d hd => by rw [List.mem_singleton.mp hd]; exact lb) (fun d hd => by rw [List.mem_singleton.mp hd]; exact lc)) (Nat.ne_of_lt la) (Nat.ne_of_lt (Nat.lt_succ_of_lt lb)) (Nat.ne_of_lt (Nat.lt_succ_of_lt (Nat.lt_succ_of_lt lc))), ⟨hz, hTI, ⟨_, _, _, hTO⟩, ⟨_, g1, rfl, rfl⟩, ⟨_, g2, rfl, rfl⟩, ⟨_, g3, rfl, rfl⟩⟩, new6, q _ ?_⟩
  exact walk_z3 e1 e2 e3
end Bh

set_option Elab.async false
set_option linter.all false
set_option maxRecDepth 100000
set_option maxHeartbeats 2000000
set_option autoImplicit false
namespace Bh
open PySem PySem.Spec PyProof.Rows L2 LamX NdefX
/-! ### no list in it begins with a number -/
mutual
def noI : PyData → Bool
  | .list (.int _ :: _) => false
  | .list ds => noIs ds
  | .tuple ds => noIs ds
  | _ => true
def noIs : List PyData → Bool
  | [] => true
  | d :: ds => noI d && noIs ds
end
theorem noI_list {ds : List PyData} (h : noI (.list ds) = true) : noIs ds = true ∧ ∀ i r, ds ≠ .int i :: r := by
  cases ds with
  | nil => exact ⟨rfl, fun _ _ z => nomatch z⟩
  | cons d r =>
    cases d with
    | int i => exact nomatch h
    | _ => exact ⟨h, fun _ _ z => nomatch z⟩
mutual
theorem Dp.hidI {K : PySem.W.Frag} {G : Hp} {S : Addr} {i : Int} {r : List V} (hS : G S = some (.lst (.int i :: r))) : ∀ {v : V} {d : PyData}, noI d = true → Dp K G v d → Dp K (hid S G) v d
  | _, _, _, .non => .non
  | _, _, _, .bl b => .bl b
  | _, _, _, .int i => .int i
  | _, _, _, .str x => .str x
  | _, _, n, .tup h all => .tup (by
      rcases h with (h | ⟨o, h⟩) | h
      · exact .inl (.inl ((hid_ne (fun z => by rw [z, hS] at h; cases h)).trans h))
      · exact .inl (.inr ⟨o, (hid_ne (fun z => by rw [z, hS] at h; cases h)).trans h⟩)
      · exact .inr h) (DpAll.hidI hS n all)
  | _, _, n, .lst h all => .lst (by
      rcases h with (h | ⟨o, h⟩) | h
      · refine .inl (.inl ((hid_ne (fun z => ?_)).trans h))
        rw [z, hS] at h
        cases h
        cases all with
        | cons h1 _ =>
          cases h1
          exact (noI_list n).2 _ _ rfl
      · exact .inl (.inr ⟨o, (hid_ne (fun z => by rw [z, hS] at h; cases h)).trans h⟩)
      · exact .inr h) (DpAll.hidI hS (noI_list n).1 all)
theorem DpAll.hidI {K : PySem.W.Frag} {G : Hp} {S : Addr} {i : Int} {r : List V} (hS : G S = some (.lst (.int i :: r))) : ∀ {vs : List V} {ds : List PyData}, noIs ds = true → DpAll K G vs ds → DpAll K (hid S G) vs ds
  | _, _, _, .nil => .nil
  | _, _, n, .cons h t => .cons (Dp.hidI hS (Bool.and_eq_true_iff.mp n).1 h) (DpAll.hidI hS (Bool.and_eq_true_iff.mp n).2 t)
end
mutual
theorem noI_noL : ∀ {d : PyData}, noL d = true → noI d = true
  | .none, _ => rfl
  | .bool _, _ => rfl
  | .int _, _ => rfl
  | .str _, _ => rfl
  | .tuple ds, h => noIs_noLs (ds := ds) h
  | .list _, h => nomatch h
  | .dict _, h => nomatch h
theorem noIs_noLs : ∀ {ds : List PyData}, noLs ds = true → noIs ds = true
  | [], _ => rfl
  | d :: ds, h => by
    show (noI d && noIs ds) = true
    have h : (noL d && noLs ds) = true := h
    rw [Bool.and_eq_true] at h
    rw [noI_noL h.1, noIs_noLs h.2]
    rfl
end
theorem noIs_app : ∀ {as bs : List PyData}, noIs as = true → noIs bs = true → noIs (as ++ bs) = true
  | [], _, _, h => h
  | a :: as, bs, h1, h2 => by
    have h1 : (noI a && noIs as) = true := h1
    rw [Bool.and_eq_true] at h1
    show (noI a && noIs (as ++ bs)) = true
    rw [h1.1, noIs_app h1.2 h2]
    rfl
theorem noIs_take : ∀ {as : List PyData} (n : Nat), noIs as = true → noIs (as.take n) = true
  | _, 0, _ => rfl
  | [], _ + 1, _ => rfl
  | a :: as, n + 1, h1 => by
    have h1 : (noI a && noIs as) = true := h1
    rw [Bool.and_eq_true] at h1
    show (noI a && noIs (as.take n)) = true
    rw [h1.1, noIs_take n h1.2]
    rfl
theorem oddF_noI (n : Str) : ∀ d ∈ oddF n ++ oddF2 n, noI d = true := by
  intro d hd
  rcases List.mem_append.mp hd with hd | hd
  · simp only [oddF, List.mem_append, List.mem_cons, List.not_mem_nil, or_false, or_assoc] at hd
    rcases hd with rfl | rfl | rfl | rfl | rfl | rfl | rfl | rfl | rfl | rfl | rfl | rfl | rfl | rfl | rfl | rfl | rfl | rfl <;> rfl
  · simp only [oddF2, List.mem_cons, List.not_mem_nil, or_false] at hd
    rcases hd with rfl | rfl <;> rfl
theorem oddC_noI (n o : Str) : ∀ d ∈ oddC n o, noI d = true := by
  intro d hd
  simp only [oddC, List.mem_append, List.mem_cons, List.not_mem_nil, or_false, or_assoc] at hd
  rcases hd with rfl | rfl | rfl | rfl | rfl | rfl | rfl | rfl | rfl | rfl | rfl | rfl | rfl | rfl | rfl | rfl | rfl | rfl | rfl | rfl | rfl | rfl <;> rfl
theorem noI_progs (p : List Cas) : noI (.list (p.map dC)) = true ∧ noIs (p.map dC) = true := by
  have h := noIs_noLs (noLs_map noL_dC p)
  refine ⟨?_, h⟩
  cases p with
  | nil => rfl
  | cons c r => exact h
theorem noI_strs (v : List Str) : noI (.list (v.map PyData.str)) = true ∧ noIs (v.map PyData.str) = true := by
  have h : noIs (v.map PyData.str) = true := noIs_noLs (noLs_map (fun _ => rfl) v)
  refine ⟨?_, h⟩
  cases v with
  | nil => rfl
  | cons c r => exact h
theorem oddT_noI (p : List Cas) : ∀ d ∈ oddT (p.map dC), noI d = true := by
  intro d hd
  obtain ⟨h2, h1⟩ := noI_progs p
  simp only [oddT, List.mem_append, List.mem_cons, List.not_mem_nil, or_false, or_assoc] at hd
  rcases hd with rfl | rfl | rfl | rfl | rfl | rfl | rfl | rfl | rfl | rfl | rfl | rfl | rfl | rfl <;> first
    | rfl
    | (show (true && (noI (.list (p.map dC)) && true)) = true; rw [h2]; rfl)
    | (show (true && (noIs (p.map dC) && true)) = true; rw [h1]; rfl)
    | (show (true && (noIs (p.map dC) && (true && true))) = true; rw [h1]; rfl)
theorem oddT2_noI (p : List Cas) {c : PyData} (h : noI c = true) : noI (.tuple [.str "a", .tuple (p.map dC ++ [c])]) = true := by
  show (true && (noIs (p.map dC ++ [c]) && true)) = true
  rw [noIs_app (noI_progs p).2 (by show (noI c && true) = true; rw [h]; rfl)]
  rfl
theorem oddK_noI (n : Str) (v : List Str) {c : PyData} (h : noI c = true) : ∀ d ∈ oddK n (v.map PyData.str) c, noI d = true := by
  intro d hd
  obtain ⟨h2, h1⟩ := noI_strs v
  have h3 : noIs (v.map PyData.str ++ [.str "0"]) = true := noIs_app h1 rfl
  have h4 : noIs ((v.map PyData.str).take ((v.map PyData.str).length - 1) ++ [.str "none"]) = true := noIs_app (noIs_take _ h1) rfl
  simp only [oddK, List.mem_append, List.mem_cons, List.not_mem_nil, or_false, or_assoc] at hd
  rcases hd with rfl | rfl | rfl | rfl | rfl | rfl | rfl | rfl | rfl | rfl | rfl | rfl | rfl | rfl | rfl | rfl | rfl | rfl | rfl | rfl | rfl <;> first
    | rfl
    | (show (true && (true && ((noI c && true) && (true && true)))) = true; rw [h]; rfl)
    | (show (true && (true && (true && (noI (.list (v.map PyData.str)) && true)))) = true; rw [h2]; rfl)
    | (show (true && (true && (true && (noIs (v.map PyData.str ++ [.str "0"]) && true)))) = true; rw [h3]; rfl)
    | (show (true && (true && (true && (noIs ((v.map PyData.str).take ((v.map PyData.str).length - 1) ++ [.str "none"]) && true)))) = true; rw [h4]; rfl)
/-! ### what the turn has drawn -/
theorem pool_no : ∀ o ∈ pool, o ≠ "none" ∧ o ≠ "-" ∧ o.length ≤ 100000 := by decide +kernel
theorem odd_of {fs : List Fld} {f : Fld} (h : FsOk5 fs) (e : fs[0]? = some f) : Odd fs f := by
  have m := List.mem_of_getElem? e
  have no : ∀ g ∈ fs, ∀ o ∈ g.2, o ≠ "none" ∧ o ≠ "-" ∧ o.length ≤ 100000 := fun g hg o ho => pool_no o ((h.ok.os g hg).2.2.2 o ho)
  refine ⟨?_, fun g hg z => (no g hg _ z).1 rfl, fun z => (no f m _ z).1 rfl, fun z => (no f m _ z).2.1 rfl, fun z => ?_, Nat.le_trans (h.ok.nm f m).hi (by decide), fun o ho => (no f m o ho).2.2⟩
  · rw [optsD_of h.ok.nd (List.mem_map.mpr ⟨f, m, rfl⟩)]
    exact opts_of h.ok.nd m
  · obtain ⟨g, hg, ez⟩ := List.mem_map.mp z
    have := (h.ok.nm g hg).az 90 (by rw [ez]; decide +kernel)
    omega
theorem goodFs_of {fs : List Fld} (h : FsOk5 fs) : GoodFs fs := fun j f e => h.fld e
/-- the three odd ones -/
structure Three (fs : List Fld) (ts : List Tie) (ks : List Knd) (f : Fld) (d1 d2 d3 : PyData) : Prop where
  f1 : (d1 = .tuple [.str f.1, .tuple [.str "0", .str "1", .str "2"]]) ∨ ∀ fs', fieldD fs' d1 = false
  o1 : okD d1 = true
  n1 : noI d1 = true
  t2 : ∀ ns, tieD fs ns d2 = false
  o2 : okD d2 = true
  n2 : noI d2 = true
  k3 : ∀ ns, kindD fs ns d3 = false
  o3 : okD d3 = true
  n3 : noI d3 = true
theorem three_of {fs : List Fld} {ts : List Tie} {ks : List Knd} {f : Fld} {o : Str} {c : Tie} {v : List Str} {d1 d2 d3 e : PyData} (h : FsOk5 fs) (ef : fs[0]? = some f) (eo : f.2[0]? = some o) (hc : OkPrg fs c.2) (hv : FitV fs v) (v1 : 1 ≤ v.length)
    (m1 : d1 ∈ oddF f.1 ++ oddF2 f.1) (m2 : d2 ∈ oddT (c.2.map dC) ∨ ∃ e ∈ oddC f.1 o, d2 = .tuple [.str "a", .tuple (c.2.map dC ++ [e])]) (me : e ∈ oddC f.1 o) (m3 : d3 ∈ oddK f.1 (v.map PyData.str) e) : Three fs ts ks f d1 d2 d3 := by
  have k := odd_of h ef
  have ho := List.mem_of_getElem? eo
  have gs := (goodFs_of h).s
  have og : okDs (c.2.map dC) = true := okD_dP gs hc
  have lv : ∀ o ∈ v, o.length ≤ 100000 := fun o ho => by
    obtain ⟨i, hi⟩ := List.mem_iff_getElem?.mp ho
    have li : i < fs.length := by
      rw [← hv.1]
      exact (List.getElem?_eq_some_iff.mp hi).1
    exact (gs _ (List.getElem_mem li)).2 o (hv.2 i _ o (List.getElem?_eq_getElem li) hi)
  have hE := oddC_bad k ho e me
  have h2 : (∀ ns, tieD fs ns d2 = false) ∧ okD d2 = true ∧ noI d2 = true := by
    rcases m2 with m2 | ⟨e', me', rfl⟩
    · exact ⟨fun ns => (oddT_bad og d2 m2).1, (oddT_bad (fs := fs) (ns := []) og d2 m2).2, oddT_noI c.2 d2 m2⟩
    · have hE' := oddC_bad k ho e' me'
      exact ⟨fun ns => (oddT2_bad og hE'.1 hE'.2).1, (oddT2_bad (ns := []) og hE'.1 hE'.2).2, oddT2_noI c.2 (oddC_noI _ _ e' me')⟩
  have h1 : ((d1 = .tuple [.str f.1, .tuple [.str "0", .str "1", .str "2"]]) ∨ ∀ fs', fieldD fs' d1 = false) ∧ okD d1 = true := by
    rcases List.mem_append.mp m1 with m | m
    · exact ⟨.inr fun fs' => (oddF_bad f.1 fs' d1 m).1, (oddF_bad f.1 [] d1 m).2⟩
    · refine ⟨?_, (oddF2_bad k.l1 [] d1 m).2⟩
      by_cases z : d1 = .tuple [.str f.1, .tuple [.str "0", .str "1", .str "2"]]
      · exact .inl z
      · exact .inr fun fs' => (oddF2_bad k.l1 fs' d1 m).1.resolve_left z
  exact ⟨h1.1, h1.2, oddF_noI f.1 d1 m1, h2.1, h2.2.1, h2.2.2, fun ns => (oddK_bad k hv v1 lv hE.1 hE.2 d3 m3).1, (oddK_bad (ns := []) k hv v1 lv hE.1 hE.2 d3 m3).2, oddK_noI f.1 v (oddC_noI _ _ e me) d3 m3⟩
end Bh

set_option Elab.async false
set_option linter.all false
set_option maxRecDepth 100000
set_option maxHeartbeats 2000000
set_option autoImplicit false
namespace Bh
open PySem PySem.Spec PyProof.Rows L2 LamX NdefX
theorem cutV_dropN (xs : List V) (k : Nat) : cutV xs (some (k : Int)) none = xs.drop k := by
  unfold cutV
  rw [HT.sIx_none, show HT.sIx xs.length 0 (some (k : Int)) = min k xs.length from HT.sIx_nat _ _ k]
  by_cases h : k ≤ xs.length
  · rw [Nat.min_eq_left h]
    exact List.take_of_length_le (by rw [List.length_drop]; omega)
  · rw [Nat.min_eq_right (by omega), List.drop_of_length_le (Nat.le_refl _), List.drop_of_length_le (by omega)]
    exact List.take_nil
/-- a part with an odd item put in -/
def insD (D : List PyData) (r : Nat) (d : PyData) : List PyData := (D.take r ++ [d]) ++ D.drop r
theorem out_ins {α : Type} {enc : α → PyData} {good : List α → Prop} {ans : List α → PyData → Bool} {ys : List α} {r : Nat} {d : PyData} (g : good (ys.take r)) (bad : ans (ys.take r) d = false) (ok : okD d = true) (hr : r ≤ ys.length) (hl : ys.length ≤ 900) :
    Out enc good ans (.list (insD (ys.map enc) r d)) (some r) := by
  have e : insD (ys.map enc) r d = (ys.take r).map enc ++ d :: (ys.map enc).drop r := by
    unfold insD
    rw [List.append_assoc, List.map_take]
    rfl
  have lr : (ys.take r).length = r := by rw [List.length_take]; omega
  have := Out.wrong (enc := enc) (good := good) (ans := ans) (ys.take r) d ((ys.map enc).drop r) (.list (insD (ys.map enc) r d)) (.inl (by rw [e])) (by rw [lr, List.length_drop, List.length_map]; omega) g bad ok
  rw [lr] at this
  exact this
theorem wrong_body {K : PySem.W.Frag} {b l p pw : Addr} {G H : Hp} {σ : L2.St} {D : Ends} {y ws : List V} {r : Nat} {o : V} (w : Wd b l G H) (e5 : σ[5]? = some (some (.ref p))) (e8 : σ[8]? = some (some (.int (r : Int)))) (e9 : σ[9]? = some (some o)) (e7 : σ[7]? = some (some (.ref pw)))
    (hp : G p = some (.lst y)) (hw : G pw = some (.lst ws)) (ly : y.length ≤ 1000) (lw : ws.length ≤ 1000)
    (h : ∀ (q : Addr) (G' H' : Hp), Same G G' → G q = none → G' q = some (.lst ((y.take r ++ [o]) ++ y.drop r)) → Wd b l (upd G' pw (.lst (ws ++ [.ref q]))) H' → D.nx σ H') :
    tDrop (tBM K "list" rAppend (tVar 7) (tCons (tOp rCat (tOp rCat (tSl (rSlL K) (tVar 5) tNoPart (tPart (tVar 8))) (tLst (tCons (tVar 9) tNil))) (tSl (rSlL K) (tVar 5) (tPart (tVar 8)) tNoPart)) tNil)) D σ H := by
  refine ⟨_, e7, .inl ⟨rfl, _, SqL.of (w.sm _ _ hw)⟩, _, e5, _, e8, (r : Int), rfl, p, y, rfl, SqL.of (w.sm _ _ hp), fun q1 n1 => ?_⟩
  rw [cutV_take y (by omega), show (r : Int).toNat = r by omega]
  have w1 := w.new (o := .lst (y.take r)) n1
  have s1 := w.sameG (o := .lst (y.take r)) n1
  have g1 : upd G q1 (.lst (y.take r)) q1 = some (.lst (y.take r)) := upd_same
  generalize upd G q1 (.lst (y.take r)) = G1 at w1 s1 g1
  generalize upd H q1 (.lst (y.take r)) = H1 at w1
  refine ⟨_, e9, (by show 1 ≤ sizeLine; decide), fun q2 n2 => ?_⟩
  have w2 := w1.new (o := .lst [o]) n2
  have s2 := w1.sameG (o := .lst [o]) n2
  have g2 : upd G1 q2 (.lst [o]) q2 = some (.lst [o]) := upd_same
  generalize upd G1 q2 (.lst [o]) = G2 at w2 s2 g2
  generalize upd H1 q2 (.lst [o]) = H2 at w2
  refine ⟨q1, q2, y.take r, [o], rfl, rfl, w2.sm _ _ (s2 _ _ g1), w2.sm _ _ g2, le_line (by rw [List.length_take]; show _ + 1 ≤ _; omega), fun q3 n3 => ?_⟩
  have w3 := w2.new (o := .lst (y.take r ++ [o])) n3
  have s3 := w2.sameG (o := .lst (y.take r ++ [o])) n3
  have g3 : upd G2 q3 (.lst (y.take r ++ [o])) q3 = some (.lst (y.take r ++ [o])) := upd_same
  generalize upd G2 q3 (.lst (y.take r ++ [o])) = G3 at w3 s3 g3
  generalize upd H2 q3 (.lst (y.take r ++ [o])) = H3 at w3
  have s13 := s1.trans (s2.trans s3)
  refine ⟨_, e5, _, e8, (r : Int), rfl, p, y, rfl, SqL.of (w3.sm _ _ (s13 _ _ hp)), fun q4 n4 => ?_⟩
  rw [cutV_dropN]
  have w4 := w3.new (o := .lst (y.drop r)) n4
  have s4 := w3.sameG (o := .lst (y.drop r)) n4
  have g4 : upd G3 q4 (.lst (y.drop r)) q4 = some (.lst (y.drop r)) := upd_same
  generalize upd G3 q4 (.lst (y.drop r)) = G4 at w4 s4 g4
  generalize upd H3 q4 (.lst (y.drop r)) = H4 at w4
  refine ⟨q3, q4, y.take r ++ [o], y.drop r, rfl, rfl, w4.sm _ _ (s4 _ _ g3), w4.sm _ _ g4, le_line (by rw [List.length_append, List.length_take, List.length_drop]; show _ + 1 + _ ≤ _; omega), fun q5 n5 => ?_⟩
  have w5 := w4.new (o := .lst ((y.take r ++ [o]) ++ y.drop r)) n5
  have s5 := w4.sameG (o := .lst ((y.take r ++ [o]) ++ y.drop r)) n5
  have g5 : upd G4 q5 (.lst ((y.take r ++ [o]) ++ y.drop r)) q5 = some (.lst ((y.take r ++ [o]) ++ y.drop r)) := upd_same
  have s15 := s13.trans (s4.trans s5)
  have gw := s15 _ _ hw
  exact ⟨pw, ws, .ref q5, rfl, rfl, w5.sm _ _ gw, lt_line (by omega), h q5 _ _ s15 ((s13.trans s4).free (w4.free n5)) g5 (w5.mut gw)⟩
/-- what the questions of a turn find -/
structure TurnA (K : PySem.W.Frag) (G : Hp) (fs : List Fld) (ts : List Tie) (t p1 p2 p3 psp pw : Addr) (i1 i2 i3 : Nat) (w1 w2 w3 : V) : Prop where
  tt : G t = some (.tup [.ref p1, .ref p2, .ref p3])
  c1 : ∃ y, G p1 = some (.lst y) ∧ DpAll K G y (fs.map dF)
  c2 : ∃ y, G p2 = some (.lst y) ∧ DpAll K G y (ts.map dTie)
  sp : G psp = some (.lst [.int (i1 : Int), .int (i2 : Int), .int (i3 : Int)])
  wp : G pw = some (.lst [w1, w2, w3])
  o1 : ∃ D, Dp K G w1 D ∧ Out dF GoodFs fieldD D (some i1)
  o2 : ∃ D, Dp K G w2 D ∧ Out dTie (GoodTs fs) (ansT fs) D (some i2)
  o3 : ∃ D, Dp K G w3 D ∧ Out dKnd (GoodKs fs) (ansK fs) D (some i3)
theorem TurnA.q1 {K : PySem.W.Frag} {G : Hp} {fs : List Fld} {ts : List Tie} {t p1 p2 p3 psp pw : Addr} {i1 i2 i3 : Nat} {w1 w2 w3 : V} (h : TurnA K G fs ts t p1 p2 p3 psp pw i1 i2 i3 w1 w2 w3) : DpS K G (.ref p1) (fs.map dF) := by
  obtain ⟨y, a, b⟩ := h.c1
  exact ⟨p1, y, rfl, .inl (SqL.of a), b⟩
theorem TurnA.q2 {K : PySem.W.Frag} {G : Hp} {fs : List Fld} {ts : List Tie} {t p1 p2 p3 psp pw : Addr} {i1 i2 i3 : Nat} {w1 w2 w3 : V} (h : TurnA K G fs ts t p1 p2 p3 psp pw i1 i2 i3 w1 w2 w3) : DpS K G (.ref p2) (ts.map dTie) := by
  obtain ⟨y, a, b⟩ := h.c2
  exact ⟨p2, y, rfl, .inl (SqL.of a), b⟩
theorem TurnA.ext {K : PySem.W.Frag} {G G' : Hp} {fs : List Fld} {ts : List Tie} {t p1 p2 p3 psp pw : Addr} {i1 i2 i3 : Nat} {w1 w2 w3 : V} (h : TurnA K G fs ts t p1 p2 p3 psp pw i1 i2 i3 w1 w2 w3) (e : ExtN G G') : TurnA K G' fs ts t p1 p2 p3 psp pw i1 i2 i3 w1 w2 w3 := by
  obtain ⟨D1, a1, b1⟩ := h.o1
  obtain ⟨D2, a2, b2⟩ := h.o2
  obtain ⟨D3, a3, b3⟩ := h.o3
  obtain ⟨x1, x2, x3⟩ := h.c1
  obtain ⟨y1, y2, y3⟩ := h.c2
  exact ⟨e _ _ h.tt (fun _ z => nomatch z), ⟨x1, e _ _ x2 (fun _ z => nomatch z), dpa_ext e x3⟩, ⟨y1, e _ _ y2 (fun _ z => nomatch z), dpa_ext e y3⟩, e _ _ h.sp (fun _ z => nomatch z), e _ _ h.wp (fun _ z => nomatch z), ⟨D1, dp_ext e a1, b1⟩, ⟨D2, dp_ext e a2, b2⟩, ⟨D3, dp_ext e a3, b3⟩⟩
section
variable {P : Program} {w : World} {K : PySem.W.Frag} {mg : Str → Option Value} {base : Heap} {cI pI : Addr} {TL : List (Addr × Str)}
abbrev dueA (i1 i2 i3 : Nat) : List (Str × Int) := [("InvalidField", i1), ("InvalidField", i1), ("InvalidTie", i2), ("InvalidTie", i2), ("InvalidKind", i3)]
theorem asks_turn (T : Top K mg) {R : RbC K mg} (M : RbM K mg R cI pI) (TB : TabB base mg cI pI) (mI : (pI, rbQ) ∈ TL) (uI : ∀ p ∈ TL, p.1 = pI → p.2 = rbQ) {H : Hp} {s0 s1 s2 s4 s5 s6 s8 s9 s10 s11 s12 : Option V} {fs : List Fld} {ts : List Tie} {t p1 p2 p3 psp pw : Addr} {i1 i2 i3 : Nat} {w1 w2 w3 : V}
    (b : TurnA K H fs ts t p1 p2 p3 psp pw i1 i2 i3 w1 w2 w3) (gf : GoodFs fs) (gt : GoodTs fs ts) (f1 : 1 ≤ fs.length) (f3 : fs.length ≤ 3) (t1 : 1 ≤ ts.length) :
    Paired (Ask K TL T.cBE T.cMS H [s0, s1, s2, some (.ref t), s4, s5, s6, some (.ref pw), s8, s9, s10, s11, s12]) (lksA (P := P) (w := w) (base := base) T M TB mI uI) (dueA i1 i2 i3) := by
  refine .cons (.inl ⟨_, (erc_all T (by simp)).1, (erc_all T (by simp)).2, fun H' E Q0 e t k => ?_⟩) (.cons (.inl ⟨_, (erc_all T (by simp)).1, (erc_all T (by simp)).2, fun H' E Q0 e t k => ?_⟩) (.cons (.inl ⟨_, (erc_all T (by simp)).1, (erc_all T (by simp)).2, fun H' E Q0 e t k => ?_⟩)
    (.cons (.inl ⟨_, (erc_all T (by simp)).1, (erc_all T (by simp)).2, fun H' E Q0 e t k => ?_⟩) (.cons (.inl ⟨_, (erc_all T (by simp)).1, (erc_all T (by simp)).2, fun H' E Q0 e t k => ?_⟩) .nil))))
  all_goals
    have b := b.ext e
    obtain ⟨D1, a1, b1⟩ := b.o1
    obtain ⟨D2, a2, b2⟩ := b.o2
    obtain ⟨D3, a3, b3⟩ := b.o3
    have ht : SqT K H' _ _ := SqT.of b.tt
    have hw : SqL K H' _ _ := SqL.of b.wp
  · refine ⟨_, rfl, pw, _, (0 : Int), w1, rfl, rfl, hw, at_nn (by decide) rfl, _, rfl, _, _, (1 : Int), .ref p2, rfl, rfl, ht, at_nn (by decide) rfl, _, rfl, _, _, (2 : Int), .ref p3, rfl, rfl, ht, at_nn (by decide) rfl, rfl, rfl, fun x dx nx nd ne => ?_⟩
    exact spb_of T (r := ("InvalidField", i1)) (.inl ⟨rfl, D1, i1, rfl, a1, b1⟩) t nx nd ne k
  · refine ⟨_, rfl, pw, _, (0 : Int), w1, rfl, rfl, hw, at_nn (by decide) rfl, Nat.zero_le _, fun u nu => ⟨rfl, rfl, fun x dx nx nd ne => ?_⟩⟩
    have s := same_new (o := .lst []) nu
    exact spb_of T (r := ("InvalidField", i1)) (.inl ⟨rfl, D1, i1, rfl, Dp.mono s a1, b1⟩) (t.ext s) nx nd ne fun dd H3 e3 t3 h3 => k dd H3 ((ExtN.of s).trans e3) t3 h3
  · refine ⟨_, rfl, _, _, (0 : Int), .ref p1, rfl, rfl, ht, at_nn (by decide) rfl, _, rfl, pw, _, (1 : Int), w2, rfl, rfl, hw, at_nn (by decide) rfl, _, rfl, _, _, (2 : Int), .ref p3, rfl, rfl, ht, at_nn (by decide) rfl, rfl, rfl, fun x dx nx nd ne => ?_⟩
    exact spb_of T (r := ("InvalidTie", i2)) (.inr ⟨fs, b.q1, gf, f1, by omega, .inl ⟨rfl, D2, i2, rfl, a2, b2⟩⟩) t nx nd ne k
  · refine ⟨_, rfl, _, _, (0 : Int), .ref p1, rfl, rfl, ht, at_nn (by decide) rfl, _, rfl, pw, _, (1 : Int), w2, rfl, rfl, hw, at_nn (by decide) rfl, Nat.zero_le _, fun u nu => ⟨rfl, rfl, fun x dx nx nd ne => ?_⟩⟩
    have s := same_new (o := .lst []) nu
    exact spb_of T (r := ("InvalidTie", i2)) (.inr ⟨fs, b.q1.mono s, gf, f1, by omega, .inl ⟨rfl, D2, i2, rfl, Dp.mono s a2, b2⟩⟩) (t.ext s) nx nd ne fun dd H3 e3 t3 h3 => k dd H3 ((ExtN.of s).trans e3) t3 h3
  · refine ⟨_, rfl, _, _, (0 : Int), .ref p1, rfl, rfl, ht, at_nn (by decide) rfl, _, rfl, _, _, (1 : Int), .ref p2, rfl, rfl, ht, at_nn (by decide) rfl, _, rfl, pw, _, (2 : Int), w3, rfl, rfl, hw, at_nn (by decide) rfl, rfl, rfl, fun x dx nx nd ne => ?_⟩
    exact spb_of T (r := ("InvalidKind", i3)) (.inr ⟨fs, b.q1, gf, f1, by omega, .inr ⟨ts, b.q2, gt, t1, rfl, D3, i3, rfl, a3, b3⟩⟩) t nx nd ne k
/-- one odd value in place of the parts -/
abbrev dOne : List PyData := [.none, .int 3, .str "a", .list [], .tuple []]
theorem out_one {α : Type} {enc : α → PyData} {good : List α → Prop} {ans : List α → PyData → Bool} : ∀ d ∈ dOne, Out enc good ans d (some 0) := by
  intro d hd
  simp only [List.mem_cons, List.not_mem_nil, or_false] at hd
  rcases hd with rfl | rfl | rfl | rfl | rfl
  · exact .no _ (by simp [tyN]) (by simp [tyN])
  · exact .no _ (by simp [tyN]) (by simp [tyN])
  · exact .no _ (by simp [tyN]) (by simp [tyN])
  · exact .nilL
  · exact .nilT
abbrev dueB : List (Str × Int) := [("InvalidField", 0), ("InvalidTie", 0), ("InvalidKind", 0)]
theorem asks_one' (T : Top K mg) {R : RbC K mg} (M : RbM K mg R cI pI) (TB : TabB base mg cI pI) (mI : (pI, rbQ) ∈ TL) (uI : ∀ p ∈ TL, p.1 = pI → p.2 = rbQ) {H : Hp} {s0 s1 s2 s4 s5 s6 s7 s8 s10 s11 s12 : Option V} {fs : List Fld} {ts : List Tie} {t p1 p2 p3 : Addr} {v : V} {d : PyData}
    (tt : H t = some (.tup [.ref p1, .ref p2, .ref p3])) (q1 : DpS K H (.ref p1) (fs.map dF)) (q2 : DpS K H (.ref p2) (ts.map dTie)) (hv : Dp K H v d) (hd : d ∈ dOne) (gf : GoodFs fs) (gt : GoodTs fs ts) (f1 : 1 ≤ fs.length) (f3 : fs.length ≤ 3) (t1 : 1 ≤ ts.length) :
    Paired (Ask K TL T.cBE T.cMS H [s0, s1, s2, some (.ref t), s4, s5, s6, s7, s8, some v, s10, s11, s12]) (lksB (P := P) (w := w) (base := base) T M TB mI uI) dueB := by
  refine .cons (.inl ⟨_, (erc_all T (by simp)).1, (erc_all T (by simp)).2, fun H' E Q0 e t k => ?_⟩) (.cons (.inl ⟨_, (erc_all T (by simp)).1, (erc_all T (by simp)).2, fun H' E Q0 e t k => ?_⟩) (.cons (.inl ⟨_, (erc_all T (by simp)).1, (erc_all T (by simp)).2, fun H' E Q0 e t k => ?_⟩) .nil))
  all_goals
    have tt := e _ _ tt (fun _ z => nomatch z)
    have q1 := q1.ext e
    have q2 := q2.ext e
    have hv := dp_ext e hv
    have ht : SqT K H' _ _ := SqT.of tt
  · refine ⟨_, rfl, _, rfl, _, rfl, rfl, rfl, fun x dx nx nd ne => ?_⟩
    exact spb_of T (r := ("InvalidField", 0)) (.inl ⟨rfl, d, 0, rfl, hv, out_one d hd⟩) t nx nd ne k
  · refine ⟨_, rfl, _, _, (0 : Int), .ref p1, rfl, rfl, ht, at_nn (by decide) rfl, _, rfl, _, rfl, rfl, rfl, fun x dx nx nd ne => ?_⟩
    exact spb_of T (r := ("InvalidTie", 0)) (.inr ⟨fs, q1, gf, f1, by omega, .inl ⟨rfl, d, 0, rfl, hv, out_one d hd⟩⟩) t nx nd ne k
  · refine ⟨_, rfl, _, _, (0 : Int), .ref p1, rfl, rfl, ht, at_nn (by decide) rfl, _, rfl, _, _, (1 : Int), .ref p2, rfl, rfl, ht, at_nn (by decide) rfl, _, rfl, rfl, rfl, fun x dx nx nd ne => ?_⟩
    exact spb_of T (r := ("InvalidKind", 0)) (.inr ⟨fs, q1, gf, f1, by omega, .inr ⟨ts, q2, gt, t1, rfl, d, 0, rfl, hv, out_one d hd⟩⟩) t nx nd ne k
end
end Bh

set_option Elab.async false
set_option linter.all false
set_option maxRecDepth 100000
set_option maxHeartbeats 4000000
set_option autoImplicit false
namespace Bh
open PySem PySem.Spec PyProof.Rows L2 LamX NdefX
abbrev lawQ : Str := "law.<locals>.<lambda>"
def spLaw0 (K : PySem.W.Frag) (TL : List (Addr × Str)) : Sp := fun vs H Q _ => ∃ (a : Addr) (ns : List Int), vs = [.ref a] ∧ SqL K H a (ns.map V.int) ∧ ns.length ≤ 63 ∧ Tabs TL H ∧ ∀ H', Q (.bl true) H'
theorem kp_ext {S : List Addr} {H H' : Hp} (e : ExtN H H') : Kp S H H' := fun a o h n _ => e a o h n
theorem ninE {p : Addr} : p ∉ ([] : List Addr) := fun h => nomatch h
theorem cat_dataN {K : PySem.W.Frag} {H : Hp} {a b : Addr} {xs ys : List V} {ds es : List PyData} {Q : VK} (h : H a = some (.lst xs)) (hd : DpAll K H xs ds) (h2 : H b = some (.lst ys)) (he : DpAll K H ys es) (l1 : ds.length ≤ 1000) (l2 : es.length ≤ 1000) (q : ∀ (p : Addr) (H' : Hp), H p = none → Same H H' → H' p = some (.lst (xs ++ ys)) → DpAll K H' (xs ++ ys) (ds ++ es) → Q (.ref p) H') : rCat (.ref a) (.ref b) H Q := by
  have e1 := DpAll.length hd
  have e2 := DpAll.length he
  refine ⟨a, b, xs, ys, rfl, rfl, h, h2, le_line (by omega), fun p np => ?_⟩
  have s := same_new (o := .lst (xs ++ ys)) np
  exact q p _ np s upd_same (dpa_app (DpAll.mono s hd) (DpAll.mono s he))
theorem rep2 {K : PySem.W.Frag} {σ : L2.St} {H : Hp} {Q : VK} {i : Nat} {nm : Str} {psp : Addr} {xs : List V} {k n : Int} (e : σ[i]? = some (some (.ref psp))) (hp : H psp = some (.lst xs)) (hk : atI xs k = some (.int n))
    (h : ∀ (H' : Hp) (l : Addr) (ys : List V), Same H H' → H' l = some (.lst ys) → DpAll K H' ys [dAsk (nm, n), dAsk (nm, n)] → Q (.ref l) H') :
    tOp rRep (tLst (tCons (tTup (tCons (tC (.str nm)) (tCons (tOp (rIxL K) (tVar i) (tC (.int k))) tNil))) tNil)) (tC (.int 2)) σ H Q := by
  refine ⟨_, e, psp, xs, k, .int n, rfl, rfl, SqL.of hp, hk, (by show 2 ≤ sizeLine; decide), fun u nu => ⟨(by show 1 ≤ sizeLine; decide), fun l nl => ?_⟩⟩
  have s1 := same_new (o := .tup [.str nm, .int n]) nu
  have s2 := s1.trans (same_new (o := .lst [.ref u]) nl)
  have eu : upd (upd H u (.tup [.str nm, .int n])) l (.lst [.ref u]) u = some (.tup [.str nm, .int n]) := same_new nl _ _ upd_same
  refine ⟨l, 2, [.ref u], rfl, rfl, upd_same, by decide, by decide, (by show 2 ≤ sizeLine; decide), fun p np => ?_⟩
  have s3 := s2.trans (same_new (o := .lst (List.replicate (2 : Int).toNat [.ref u]).flatten) np)
  have dd : Dp K (upd (upd (upd H u (.tup [.str nm, .int n])) l (.lst [.ref u])) p (.lst (List.replicate (2 : Int).toNat [.ref u]).flatten)) (.ref u) (dAsk (nm, n)) := .tup (SqT.of (same_new np _ _ eu)) (.cons (.str _) (.cons (.int _) .nil))
  exact h _ p _ s3 upd_same (.cons dd (.cons dd .nil))
theorem nx_step {D : Ends} {σ : L2.St} {H : Hp} (h : D.nx σ H) : tNext D σ H := h
theorem ifn_step {sp : Sp} {dvs : List V} {E : XK} {tc : TE} {ta : TA} {t u : TS} {D : Ends} {σ : L2.St} {H : Hp} (h : tc σ H fun x H1 => ta σ H1 fun xs H2 => sp (x :: xs ++ dvs) H2 (fun v H3 => ∃ c, v = .bl c ∧ if (!c) = true then t D σ H3 else u D σ H3) E) :
    tIfS (tNot (tB (tCall sp dvs E (tCons tc ta)))) t u D σ H := h
section
variable {P : Program} {w : World} {K : PySem.W.Frag} {mg : Str → Option Value} {base : Heap} {cI pI cS pS cL pL : Addr} {TL : List (Addr × Str)}
theorem ok_law {fL : Addr} {od an : Option Addr} {oc kV doc pm ct : Value} {osl : Array (Option Value)} (T : Top K mg) {R : RbC K mg} (M : RbM K mg R cI pI) (S : BdM K mg cS) (TB : TabB base mg cI pI) (TBS : TabB base mg cS pS) (TBL : TabB base mg cL pL)
    (mI : (pI, rbQ) ∈ TL) (uI : ∀ p ∈ TL, p.1 = pI → p.2 = rbQ) (mS : (pS, bdQ) ∈ TL) (uS : ∀ p ∈ TL, p.1 = pS → p.2 = bdQ) (mL0 : (pL, lawQ) ∈ TL) (uL0 : ∀ p ∈ TL, p.1 = pL → p.2 = lawQ)
    (lk : K.lookup fL = some ⟨oc, od, .func (PySem.W.fnOf "law" "law" (defArgs s_law) (defBody s_law) (defScope s_law) .none kV doc pm an (.ref cL) ct), osl⟩) (hcd : PySem.W.codeIn K (.ref cL) "law" = true) :
    FnOk P w K mg base CX0 18 fL (PySem.W.fnOf "law" "law" (defArgs s_law) (defBody s_law) (defScope s_law) .none kV doc pm an (.ref cL) ct) ["_law_script"] (spLaw0 K TL) := by
  have mL : (pL, ("law.<locals>." : Str) ++ "<lambda>") ∈ TL := by
    rw [show (("law.<locals>." : Str) ++ "<lambda>") = lawQ by decide +kernel]
    exact mL0
  have uL : ∀ p ∈ TL, p.1 = pL → p.2 = ("law.<locals>." : Str) ++ "<lambda>" := fun p hp e => (uL0 p hp e).trans (show lawQ = ("law.<locals>." : Str) ++ "<lambda>" by decide +kernel)
  have G_l_bag := ok_bag (P := P) (w := w) (base := base) T
  have G_l_draw := ok_draw (P := P) (w := w) (base := base) T
  have G_l_any := ok_any (P := P) (w := w) (base := base) T
  have G_l_book := ok_book5 (P := P) (w := w) (base := base) T
  have G_l_odd_field := ok_oddfield (P := P) (w := w) (base := base) T
  have G_l_odd_tie := ok_oddtie (P := P) (w := w) (base := base) T
  have G_l_odd_kind := ok_oddkind (P := P) (w := w) (base := base) T
  have G_l_bounds_so := ok_bounds (P := P) (w := w) (base := base) (TL := TL) T M S TB TBS mI uI mS uS
  have G_l_like := ok_like (P := P) (w := w) (base := base) T 10
  obtain ⟨oc2, od2, kV2, doc2, pm2, an2, cdvT, ct2, osl2, eT, lkT, hcT⟩ := T.d_l_try.F.ex
  have bT := T.d_l_try.b
  rw [eT] at bT lkT
  refine fn_of lk hcd sc_law (fun vs H Q E h => ?_) (fun A outer s H vs Q E hr h => ?_)
  · obtain ⟨a, ns, rfl, _⟩ := h
    rfl
  obtain ⟨a, ns, rfl, hS, hl, tb, q⟩ := h
  refine ⟨_, PSs.nox (pss_cons (ps_set (i := 1) sc_law.nd rfl (Or.inr rfl) (pe_call G_l_bag (hr.mono (by decide)) (by rfl) T.d_l_bag.g T.d_l_bag.kp T.d_l_bag.b .nil pass0 (pa_cons (pv 0) pa_nil)))
    (pss_cons (ps_for PassesOwn.never rfl (pi_range1 rfl T.b_range (pa_cons pe_int pa_nil)) (pg_name (i := 2) sc_law.nd rfl (Or.inl rfl))
      (pss_cons (ps_set (i := 3) sc_law.nd rfl (Or.inr rfl) (pe_call G_l_book (hr.mono (by decide)) (by rfl) T.d_l_book.g T.d_l_book.kp T.d_l_book.b .nil pass0 (pa_cons (pv 1) (pa_cons pe_int (pa_cons pe_int pa_nil)))))
      (pss_cons (ps_setLc (i := 4) (own := [("_law_part", 5)]) rfl sc_law.nd rfl rfl (sw_true rfl rfl rfl (by decide +kernel)) (pi_tup_K (K := K) (by rfl) (pv 3)) (blkOk_by (own := [("_law_part", 5)]) (N := ["_law_script", "_law_bag_here", "_law_turn", "_law_m", "_law_spots", "_law_part", "_law_bad", "_law_wrong", "_law_spot", "_law_odd", "_law_asks", "_law_due", "_law_ask"]) (sc := defScope s_law) (by decide +kernel)) (fun _ _ _ _ _ => by exact (pg_name (i := 5) sc_law.nd rfl (Or.inl rfl))) (fun _ _ _ _ _ => by exact pts_nil) (fun _ _ _ _ _ => by exact (pe_call G_l_draw (hr.mono (by decide)) (by rfl) T.d_l_draw.g T.d_l_draw.kp T.d_l_draw.b .nil pass0 (pa_cons (pv 1) (pa_cons (pe_op op_add (pe_callB (call_len_seq_K (K := K) (by rfl)) (by rfl) T.b_len PySem.boot_len (pa_cons (pv 5) pa_nil)) pe_int) pa_nil)))))
      (pss_cons (ps_set (i := 6) sc_law.nd rfl (Or.inl rfl) (pe_lst (pa_cons (pe_call G_l_odd_field (hr.mono (by decide)) (by rfl) T.d_l_odd_field.g T.d_l_odd_field.kp T.d_l_odd_field.b .nil pass0 (pa_cons (pv 1) (pa_cons (pe_ix (ix_tup_K (K := K) (by rfl)) (pv 3) pe_int (fun _ _ => rfl)) pa_nil))) (pa_cons (pe_call G_l_odd_tie (hr.mono (by decide)) (by rfl) T.d_l_odd_tie.g T.d_l_odd_tie.kp T.d_l_odd_tie.b .nil pass0 (pa_cons (pv 1) (pa_cons (pv 3) pa_nil))) (pa_cons (pe_call G_l_odd_kind (hr.mono (by decide)) (by rfl) T.d_l_odd_kind.g T.d_l_odd_kind.kp T.d_l_odd_kind.b .nil pass0 (pa_cons (pv 1) (pa_cons (pv 3) pa_nil))) pa_nil)))))
      (pss_cons (ps_set (i := 7) sc_law.nd rfl (Or.inr rfl) (pe_lst pa_nil))
      (pss_cons (ps_for PassesOwn.never rfl (pi_zip3 (K := K) (by rfl) (by rfl) T.b_zip (pa_cons (pv 3) (pa_cons (pv 4) (pa_cons (pv 6) pa_nil)))) (pg_tup_K (K := K) (by rfl) (n := 3) (by rfl) (pgs_cons (pg_name (i := 5) sc_law.nd rfl (Or.inl rfl)) (pgs_cons (pg_name (i := 8) sc_law.nd rfl (Or.inl rfl)) (pgs_cons (pg_name (i := 9) sc_law.nd rfl (Or.inr rfl)) pgs_nil))))
        (pss_one (ps_expr (pe_bm_K (K := K) (by rfl) PySem.F.plainAttrs_list PySem.F.slot_list_append PySem.F.type_list_append mt_append (pv 7) (pa_cons (pe_op op_cat (pe_op op_cat (pe_slice (sl_list_K (K := K) (by rfl)) (pv 5) po_none (po_some (pv 8))) (pe_lst (pa_cons (pv 9) pa_nil))) (pe_slice (sl_list_K (K := K) (by rfl)) (pv 5) (po_some (pv 8)) po_none)) pa_nil)))))
      (Evl.pss_cut (ps_if (pt_cmpR (op_eqP (K := K) (by rfl) hr.units) (pe_ix (ix_list_K (K := K) (by rfl)) (pv 6) pe_int (fun _ _ => rfl)) (pe_tup (pa_cons (pe_ix (ix_tup_K (K := K) (by rfl)) (pe_ix (ix_list_K (K := K) (by rfl)) (pe_ix (ix_tup_K (K := K) (by rfl)) (pv 3) pe_int (fun _ _ => rfl)) pe_int (fun _ _ => rfl)) pe_int (fun _ _ => rfl)) (pa_cons (pe_tup (pa_cons pe_str (pa_cons pe_str (pa_cons pe_str pa_nil)))) pa_nil))) (nomark _)) (pss_cons (ps_asg (pe_callB (call_len_seq_K (K := K) (by rfl)) (by rfl) T.b_len PySem.boot_len (pa_cons (pe_ix (ix_tup_K (K := K) (by rfl)) (pv 3) pe_int (fun _ _ => rfl)) pa_nil)) (pg_sub (pv 4) pe_int set_list))
        (pss_one (ps_asg (pe_op op_cat (pe_ix (ix_tup_K (K := K) (by rfl)) (pv 3) pe_int (fun _ _ => rfl)) (pe_lst (pa_cons (pe_ix (ix_list_K (K := K) (by rfl)) (pv 6) pe_int (fun _ _ => rfl)) pa_nil))) (pg_sub (pv 7) pe_int set_list)))) pss_nil)
      (pss_cons (ps_set (i := 10) sc_law.nd rfl (Or.inl rfl) (pe_lst (pa_cons (pe_stl0L (L := lam0) (T := TL) rfl TBL rfl mL uL rfl (ndef_free (sc := defScope s_law) (fr := ["_law_wrong", "_law_m"]) (by decide +kernel))) pa_nil)))
      (pss_cons (ps_expr (pe_bm_K (K := K) (by rfl) PySem.F.plainAttrs_list PySem.F.slot_list_append PySem.F.type_list_append mt_append (pv 10) (pa_cons (pe_stl0L (L := lam1) (T := TL) rfl TBL rfl mL uL rfl (ndef_free (sc := defScope s_law) (fr := ["_law_wrong"]) (by decide +kernel))) pa_nil)))
      (pss_cons (ps_expr (pe_bm_K (K := K) (by rfl) PySem.F.plainAttrs_list PySem.F.slot_list_append PySem.F.type_list_append mt_append (pv 10) (pa_cons (pe_stl0L (L := lam2) (T := TL) rfl TBL rfl mL uL rfl (ndef_free (sc := defScope s_law) (fr := ["_law_m", "_law_wrong"]) (by decide +kernel))) pa_nil)))
      (pss_cons (ps_expr (pe_bm_K (K := K) (by rfl) PySem.F.plainAttrs_list PySem.F.slot_list_append PySem.F.type_list_append mt_append (pv 10) (pa_cons (pe_stl0L (L := lam3) (T := TL) rfl TBL rfl mL uL rfl (ndef_free (sc := defScope s_law) (fr := ["_law_m", "_law_wrong"]) (by decide +kernel))) pa_nil)))
      (pss_cons (ps_expr (pe_bm_K (K := K) (by rfl) PySem.F.plainAttrs_list PySem.F.slot_list_append PySem.F.type_list_append mt_append (pv 10) (pa_cons (pe_stl0L (L := lam4) (T := TL) rfl TBL rfl mL uL rfl (ndef_free (sc := defScope s_law) (fr := ["_law_m", "_law_wrong"]) (by decide +kernel))) pa_nil)))
      (pss_cons (ps_set (i := 11) sc_law.nd rfl (Or.inl rfl) (pe_op op_cat (pe_op op_rep (pe_lst (pa_cons (pe_tup (pa_cons pe_str (pa_cons (pe_ix (ix_list_K (K := K) (by rfl)) (pv 4) pe_int (fun _ _ => rfl)) pa_nil))) pa_nil)) pe_int) (pe_op op_rep (pe_lst (pa_cons (pe_tup (pa_cons pe_str (pa_cons (pe_ix (ix_list_K (K := K) (by rfl)) (pv 4) pe_int (fun _ _ => rfl)) pa_nil))) pa_nil)) pe_int)))
      (pss_cons (ps_expr (pe_bm_K (K := K) (by rfl) PySem.F.plainAttrs_list PySem.F.slot_list_append PySem.F.type_list_append mt_append (pv 11) (pa_cons (pe_tup (pa_cons pe_str (pa_cons (pe_ix (ix_list_K (K := K) (by rfl)) (pv 4) pe_int (fun _ _ => rfl)) pa_nil))) pa_nil)))
      (pss_cons (ps_if (pt_not (pt_val (pe_call G_l_like (hr.mono (by decide)) (by rfl) T.d_l_like.g T.d_l_like.kp T.d_l_like.b .nil pass0 (pa_cons (pe_lcTry (own := [("_law_ask", 12)]) (i := 12) (lksAB T M TB mI uI) rfl sc_law.nd (pi_list_K (K := K) (by rfl) (pv 10)) (blkOk_by (own := [("_law_ask", 12)]) (N := ["_law_script", "_law_bag_here", "_law_turn", "_law_m", "_law_spots", "_law_part", "_law_bad", "_law_wrong", "_law_spot", "_law_odd", "_law_asks", "_law_due", "_law_ask"]) (sc := defScope s_law) (by decide +kernel)) (fun _ _ _ _ _ => by exact (pg_name (i := 12) sc_law.nd rfl (Or.inl rfl))) (fun _ _ _ _ _ => by rfl) T.d_l_try.g T.d_l_try.kp lkT hcT bT sc_l_try rfl (.inl (by rfl)) (try_gives T cdvT) (hr.mono (by decide)) rfl (fun _ _ => .inl rfl)) (pa_cons (pv 11) pa_nil))))) (pss_one (ps_ret pe_bl)) pss_nil)
      (pss_cons (ps_set (i := 9) sc_law.nd rfl (Or.inr rfl) (pe_call G_l_any (hr.mono (by decide)) (by rfl) T.d_l_any.g T.d_l_any.kp T.d_l_any.b .nil pass0 (pa_cons (pv 1) (pa_cons (pe_lst (pds_cons (K := K) pd_non (pds_cons pd_int (pds_cons pd_str (pds_cons (pd_lst pds_nil) (pds_cons (pd_tup pds_nil) pds_nil)))))) pa_nil))))
      (pss_cons (ps_set (i := 10) sc_law.nd rfl (Or.inl rfl) (pe_lst (pa_cons (pe_stl0L (L := lam5) (T := TL) rfl TBL rfl mL uL rfl (ndef_free (sc := defScope s_law) (fr := ["_law_odd"]) (by decide +kernel))) pa_nil)))
      (pss_cons (ps_expr (pe_bm_K (K := K) (by rfl) PySem.F.plainAttrs_list PySem.F.slot_list_append PySem.F.type_list_append mt_append (pv 10) (pa_cons (pe_stl0L (L := lam6) (T := TL) rfl TBL rfl mL uL rfl (ndef_free (sc := defScope s_law) (fr := ["_law_m", "_law_odd"]) (by decide +kernel))) pa_nil)))
      (pss_cons (ps_expr (pe_bm_K (K := K) (by rfl) PySem.F.plainAttrs_list PySem.F.slot_list_append PySem.F.type_list_append mt_append (pv 10) (pa_cons (pe_stl0L (L := lam7) (T := TL) rfl TBL rfl mL uL rfl (ndef_free (sc := defScope s_law) (fr := ["_law_m", "_law_odd"]) (by decide +kernel))) pa_nil)))
      (pss_cons (ps_set (i := 11) sc_law.nd rfl (Or.inl rfl) (pe_lst (pds_cons (K := K) (pd_tup (pds_cons pd_str (pds_cons pd_int pds_nil))) (pds_cons (pd_tup (pds_cons pd_str (pds_cons pd_int pds_nil))) (pds_cons (pd_tup (pds_cons pd_str (pds_cons pd_int pds_nil))) pds_nil)))))
      (pss_one (ps_if (pt_not (pt_val (pe_call G_l_like (hr.mono (by decide)) (by rfl) T.d_l_like.g T.d_l_like.kp T.d_l_like.b .nil pass0 (pa_cons (pe_lcTry (own := [("_law_ask", 12)]) (i := 12) (lksAB T M TB mI uI) rfl sc_law.nd (pi_list_K (K := K) (by rfl) (pv 10)) (blkOk_by (own := [("_law_ask", 12)]) (N := ["_law_script", "_law_bag_here", "_law_turn", "_law_m", "_law_spots", "_law_part", "_law_bad", "_law_wrong", "_law_spot", "_law_odd", "_law_asks", "_law_due", "_law_ask"]) (sc := defScope s_law) (by decide +kernel)) (fun _ _ _ _ _ => by exact (pg_name (i := 12) sc_law.nd rfl (Or.inl rfl))) (fun _ _ _ _ _ => by rfl) T.d_l_try.g T.d_l_try.kp lkT hcT bT sc_l_try rfl (.inl (by rfl)) (try_gives T cdvT) (hr.mono (by decide)) rfl (fun _ _ => .inl rfl)) (pa_cons (pv 11) pa_nil))))) (pss_one (ps_ret pe_bl)) pss_nil))))))))))))))))))))))
    (pss_one (ps_ret (pe_call0 G_l_bounds_so (hr.mono (by decide)) (by rfl) S.g S.kp S.b .nil pass0))))), ?_⟩
  refine ⟨_, rfl, a, ns, rfl, hS, hl, fun b l H1 nb nl s1 hb => ?_⟩
  have tb1 := tb.ext s1
  refine ⟨_, rfl, by omega, by omega, ?_⟩
  refine for_it walk_range (fun i σ H' => ∃ x2 x3 x4 x5 x6 x7 x8 x9 x10 x11 x12, σ = [some (.ref a), some (.ref b), x2, x3, x4, x5, x6, x7, x8, x9, x10, x11, x12] ∧ BagAt b l H' ∧ Tabs TL H')
    ⟨none, none, none, none, none, none, none, none, none, none, none, rfl, hb, tb1⟩ (fun _ _ _ _ _ => True.intro) ?_ ?_
  · clear hS hl tb tb1 hb s1 nb nl
    rintro iT vT σ H0 H0' hiT ⟨x2, x3, x4, x5, x6, x7, x8, x9, x10, x11, x12, rfl, hb, tb⟩ ⟨rfl, rfl⟩
    refine ⟨_, rfl, b, l, noBag b l H0', 6, 2, rfl, by decide, by decide, by decide, by decide, hb.wd, fun G1 H1 t p1 p2 p3 y1 y2 y3 fs ts ks s1 w1 g0 g1 g2 g3 d1 d2 d3 ok5 ok => ?_⟩
    have tb0 : Tabs TL (noBag b l H0') := fun x hx => tab_noBag (tb x hx) hb
    have tb1 := tb0.ext s1
    clear tb0 tb hb s1
    refine gn_step ?_
    dsimp only [List.set]
    have ht1 : SqT K H1 t [.ref p1, .ref p2, .ref p3] := SqT.of (w1.sm _ _ g0)
    refine sq_asg ?_
    refine ⟨_, rfl, t, rfl, ⟨_, ht1⟩, fun psp nsp => ?_⟩
    have gsp := w1.free nsp
    have parts : ∀ i : Nat, i < 3 → ∃ (p : Addr) (y : List V) (n : Nat), [V.ref p1, V.ref p2, V.ref p3][i]? = some (.ref p) ∧ G1 p = some (.lst y) ∧ y.length = n ∧ [fs.length, ts.length, ks.length][i]? = some n := fun i hi => by
      match i, hi with
      | 0, _ => exact ⟨p1, y1, _, rfl, g1, fds_len d1, rfl⟩
      | 1, _ => exact ⟨p2, y2, _, rfl, g2, by rw [DpAll.length d2, List.length_map], rfl⟩
      | 2, _ => exact ⟨p3, y3, _, rfl, g3, by rw [DpAll.length d3, List.length_map], rfl⟩
    refine lc_it walk_tup (fun i H' => ∃ (G' : Hp) (rs : List Int), Same G1 G' ∧ Wd b l G' H' ∧ G' psp = some (.lst (rs.map V.int)) ∧ rs.length = i ∧ ∀ (j : Nat) (r : Int), rs[j]? = some r → 0 ≤ r ∧ ∃ n : Nat, [fs.length, ts.length, ks.length][j]? = some n ∧ r ≤ n)
      ⟨_, [], w1.sameG nsp, w1.new nsp, upd_same, rfl, fun j r e => by simp at e⟩ (fun i H' _ ⟨G', _, sg, w2, _⟩ => SqT.of (w2.sm _ _ (sg _ _ g0))) ?_ ?_
    · rintro i x H' H'' hi ⟨G', rs, sg, w2, hD, lr, hr'⟩ ⟨rfl, ex⟩
      obtain ⟨p, y, n, ep, gp, ly, en⟩ := parts i hi
      rw [ep] at ex
      cases ex
      have l3 : n ≤ 4 := by
        have a1 := ok.f2
        have a2 := ok.t2
        have a3 := ok.k2
        match i, hi, en with
        | 0, _, en => cases en; omega
        | 1, _, en => cases en; omega
        | 2, _, en => cases en; omega
      refine ⟨rfl, _, rfl, _, rfl, p, y, rfl, .inl (SqL.of (w2.sm _ _ (sg _ _ gp))), _, _, rfl, rfl, b, l, G', _, rfl, by omega, by omega, w2, fun r H3 r0 r1 w3 => ?_⟩
      refine ⟨rs.map V.int, w3.sm _ _ hD, lt_line (by have hi3 : i < 3 := hi; rw [List.length_map]; omega), _, rs ++ [r], same_mut sg gsp, w3.mut hD, ?_, by rw [List.length_append, lr]; rfl, fun j r' e => ?_⟩
      · rw [upd_same, List.map_append]
        rfl
      · by_cases hj : j < rs.length
        · rw [List.getElem?_append_left hj] at e
          exact hr' j r' e
        · have lj : j = i := by
            have := (List.getElem?_eq_some_iff.mp e).1
            rw [List.length_append] at this
            have : j < rs.length + 1 := this
            omega
          subst lj
          rw [List.getElem?_append_right (by omega), lr, Nat.sub_self] at e
          cases e
          exact ⟨r0, n, en, by omega⟩
    rintro H2 ⟨G2, rs, s12, w2, hsp, lrs, hrs⟩
    obtain ⟨r1, r2, r3, rfl⟩ : ∃ r1 r2 r3, rs = [r1, r2, r3] := by
      match rs, lrs with
      | [r1, r2, r3], _ => exact ⟨r1, r2, r3, rfl⟩
    obtain ⟨i1, rfl, l1⟩ : ∃ n : Nat, r1 = n ∧ n ≤ fs.length := by
      obtain ⟨a0, n, en, a1⟩ := hrs 0 r1 rfl
      cases en
      exact ⟨r1.toNat, by omega, by omega⟩
    obtain ⟨i2, rfl, l2⟩ : ∃ n : Nat, r2 = n ∧ n ≤ ts.length := by
      obtain ⟨a0, n, en, a1⟩ := hrs 1 r2 rfl
      cases en
      exact ⟨r2.toNat, by omega, by omega⟩
    obtain ⟨i3, rfl, l3⟩ : ∃ n : Nat, r3 = n ∧ n ≤ ks.length := by
      obtain ⟨a0, n, en, a1⟩ := hrs 2 r3 rfl
      cases en
      exact ⟨r3.toNat, by omega, by omega⟩
    clear hrs lrs
    refine gn_step ?_
    dsimp only [List.set]
    have oF1 := ok.f1
    have oF2 := ok.f2
    have oT1 := ok.t1
    have oT2 := ok.t2
    have oK2 := ok.k2
    obtain ⟨f, ef⟩ : ∃ f, fs[0]? = some f := ⟨_, List.getElem?_eq_getElem (by omega)⟩
    have mf := List.mem_of_getElem? ef
    obtain ⟨o, eo⟩ : ∃ o, f.2[0]? = some o := ⟨_, List.getElem?_eq_getElem (by have := (ok5.ok.os f mf).2.1; omega)⟩
    obtain ⟨c, ec⟩ : ∃ c, ts[0]? = some c := ⟨_, List.getElem?_eq_getElem (by omega)⟩
    have okc := ok.tok c (List.mem_of_getElem? ec)
    obtain ⟨v, ev⟩ : ∃ v, (vals fs)[0]? = some v := ⟨_, List.getElem?_eq_getElem (by have := vals_pre ok5.pos 0; rw [List.take_zero] at this; exact this)⟩
    have fv := vals_ok (fs := fs) v (List.mem_of_getElem? ev)
    have v1 : 1 ≤ v.length := by rw [fv.1]; exact oF1
    have v3 : v.length ≤ 3 := by rw [fv.1]; exact oF2
    have six : ∀ g ∈ fs, g.2.length ≤ 6 := fun g hg => (ok5.ok.os g hg).2.2.1
    refine sq_asg ?_
    have htG : ∀ {G' H' : Hp}, Same G1 G' → Wd b l G' H' → SqT K H' t [.ref p1, .ref p2, .ref p3] := fun s w => SqT.of (w.sm _ _ (s _ _ g0))
    refine ⟨_, rfl, _, rfl, t, _, (0 : Int), .ref p1, rfl, rfl, htG s12 w2, at_nn (by decide) rfl, b, l, p1, G2, y1, fs, f, rfl, SqL.of (s12 _ _ g1), fds_mono s12 d1, ef, w2, fun G3 H3 v1' e1 s3 w3 hv1 m1 => ?_⟩
    have s13 := s12.trans s3
    refine ⟨_, rfl, _, rfl, b, l, t, p1, p2, p3, G3, y1, y2, fs, ts, f, o, c, rfl, s13 _ _ g0, s13 _ _ g1, s13 _ _ g2, fds_mono s13 d1, DpAll.mono s13 d2, ef, eo, ec, okc.2.lo, okc.2.hi, w3, fun G4 H4 v2' e2 s4 w4 hv2 m2 => ?_⟩
    have s14 := s13.trans s4
    refine ⟨_, rfl, _, rfl, b, l, t, p1, p2, p3, G4, y1, fs, f, o, v, rfl, s14 _ _ g0, s14 _ _ g1, fds_mono s14 d1, ef, eo, oF2, six, ev, v1, v3, w4, fun G5 H5 v3' e3 c3 s5 w5 hv3 mc m3 => ?_⟩
    have s15 := s14.trans s5
    have X3 : Three fs ts ks f e1 e2 e3 := three_of ok5 ef eo okc.2 fv v1 m1 m2 mc m3
    have hsp5 := (s3.trans (s4.trans s5)) _ _ hsp
    have hv1 := Dp.mono (s4.trans s5) hv1
    have hv2 := Dp.mono s5 hv2
    clear m1 m2 mc m3 s3 s4 s5 s12 s13 s14 w2 w3 w4 hsp ev eo ec
    refine ⟨(by show 3 ≤ sizeLine; decide), fun pb npb => ?_⟩
    have npbs : psp ≠ pb := ne_of_none hsp5 (w5.free npb)
    have w6 := w5.new (o := .lst [v1', v2', v3']) npb
    have s6 := w5.sameG (o := .lst [v1', v2', v3']) npb
    have hpb : upd G5 pb (.lst [v1', v2', v3']) pb = some (.lst [v1', v2', v3']) := upd_same
    have s16 := s15.trans s6
    have hsp6 := s6 _ _ hsp5
    have hv1 := Dp.mono s6 hv1
    have hv2 := Dp.mono s6 hv2
    have hv3 := Dp.mono s6 hv3
    generalize upd G5 pb (.lst [v1', v2', v3']) = G6 at w6 s6 hpb s16 hsp6 hv1 hv2 hv3
    generalize upd H5 pb (.lst [v1', v2', v3']) = H6 at w6
    clear s6 s15 w5 npb hsp5
    refine gn_step ?_
    dsimp only [List.set]
    refine sq_asg ?_
    refine ⟨Nat.zero_le _, fun pw npw => ?_⟩
    have gpw := w6.free npw
    have w7 := w6.new (o := .lst []) npw
    have e7 : upd G6 pw (.lst []) pw = some (.lst []) := upd_same
    have s7 : Same G6 (hid pw (upd G6 pw (.lst []))) := hid_of (w6.sameG npw) gpw
    refine gn_step ?_
    dsimp only [List.set]
    have b1 : Same G1 (hid psp G6) := hid_of s16 gsp
    have yd1 := DpAll.mono b1 (fds_dp d1)
    have yd2 := DpAll.mono b1 d2
    have yd3 := DpAll.mono b1 d3
    have od1 : Dp K (hid psp G6) v1' e1 := Dp.hidI hsp6 X3.n1 hv1
    have od2 : Dp K (hid psp G6) v2' e2 := Dp.hidI hsp6 X3.n2 hv2
    have od3 : Dp K (hid psp G6) v3' e3 := Dp.hidI hsp6 X3.n3 hv3
    have parts6 : ∀ i : Nat, i < 3 → ∃ (p : Addr) (y : List V) (D : List PyData) (r : Nat) (oo : V) (d : PyData), [V.ref p1, V.ref p2, V.ref p3][i]? = some (.ref p) ∧ (List.map V.int [(i1 : Int), i2, i3])[i]? = some (.int (r : Int)) ∧ [v1', v2', v3'][i]? = some oo ∧ G6 p = some (.lst y) ∧ y.length ≤ 4 ∧
        DpAll K (hid psp G6) y D ∧ Dp K (hid psp G6) oo d ∧ [insD (fs.map dF) i1 e1, insD (ts.map dTie) i2 e2, insD (ks.map dKnd) i3 e3][i]? = some (insD D r d) := fun i hi => by
      match i, hi with
      | 0, _ => exact ⟨p1, y1, _, i1, v1', e1, rfl, rfl, rfl, s16 _ _ g1, by rw [fds_len d1]; omega, yd1, od1, rfl⟩
      | 1, _ => exact ⟨p2, y2, _, i2, v2', e2, rfl, rfl, rfl, s16 _ _ g2, by rw [DpAll.length d2, List.length_map]; omega, yd2, od2, rfl⟩
      | 2, _ => exact ⟨p3, y3, _, i3, v3', e3, rfl, rfl, rfl, s16 _ _ g3, by rw [DpAll.length d3, List.length_map]; omega, yd3, od3, rfl⟩
    refine ⟨_, rfl, _, rfl, _, rfl, t, psp, pb, _, _, _, 3, rfl, htG (s16.trans (w6.sameG npw)) w7, SqL.of (w7.sm _ _ ((w6.sameG npw) _ _ hsp6)), SqL.of (w7.sm _ _ ((w6.sameG npw) _ _ hpb)), rfl, rfl, rfl, fun J wk => for_it wk (fun i σ H' => ∃ (z5 z8 z9 : Option V) (G' : Hp) (ws : List V), σ = [some (.ref a), some (.ref b), some (.int (0 + (iT : Int))), some (.ref t), some (.ref psp), z5, some (.ref pb), some (.ref pw), z8, z9, x10, x11, x12] ∧ Same G6 (hid pw G') ∧ Wd b l G' H' ∧ G' pw = some (.lst ws) ∧ ws.length = i ∧
        DpAll K (hid psp (hid pw G')) ws (([insD (fs.map dF) i1 e1, insD (ts.map dTie) i2 e2, insD (ks.map dKnd) i3 e3].take i).map PyData.list))
      ⟨_, _, _, _, [], rfl, s7, w7, e7, rfl, .nil⟩ (fun i σ H' _ ⟨_, _, _, G', _, _, sg, w8, _⟩ => ?_) ?_ ?_⟩
    · have sh : Same G6 H' := sg.trans (hid_le.trans w8.sm)
      exact ⟨SqT.of (sh _ _ (s16 _ _ g0)), SqL.of (sh _ _ hsp6), SqL.of (sh _ _ hpb)⟩
    · rintro i y0 σ H' H'' hi ⟨z5, z8, z9, G', ws, rfl, sg, w8, hw, lws, dws⟩ ⟨T3, xx, yy, zz, rfl, nT, rfl, ex, ey, ez⟩
      obtain ⟨p, y, D, r, oo, d, ep, er, eo, gp, ly, yD, oD, ew⟩ := parts6 i hi
      rw [ep] at ex
      rw [er] at ey
      rw [eo] at ez
      cases ex
      cases ey
      cases ez
      have gT := w8.free nT
      have w9 := w8.new (o := .tup [.ref p, .int (r : Int), zz]) nT
      have s9 := w8.sameG (o := .tup [.ref p, .int (r : Int), zz]) nT
      refine ⟨T3, _, rfl, SqT.of upd_same, rfl, _, _, rfl, _, _, rfl, _, _, rfl, rfl, ?_⟩
      have hi3 : i < 3 := hi
      refine wrong_body (p := p) (pw := pw) (y := y) (ws := ws) (r := r) (o := zz) w9 rfl rfl rfl rfl (s9 _ _ (hid_le _ _ (sg _ _ gp))) (s9 _ _ hw) (by omega) (by omega) fun q G'' H3 sq nq eq w10 => ?_
      have s10 := s9.trans sq
      have sB : Same G6 (hid pw G'') := sg.trans (hid_same s10)
      have qp : q ≠ psp := fun e => by
        rw [e, s9 _ _ (hid_le _ _ (sg _ _ hsp6))] at nq
        cases nq
      have qw : q ≠ pw := fun e => by
        rw [e, s9 _ _ hw] at nq
        cases nq
      refine ⟨_, _, _, _, ws ++ [.ref q], rfl, by rw [hid_upd]; exact sB, w10, upd_same, by rw [List.length_append, lws]; rfl, ?_⟩
      rw [hid_upd, List.take_add_one, ew, List.map_append]
      refine DpAll.append (DpAll.mono (hid_same (hid_same s10)) dws) (.cons (.lst (SqL.of ((hid_ne qp).trans ((hid_ne qw).trans eq))) ?_) .nil)
      have yD' := DpAll.mono (hid_same sB) yD
      exact dpa_app (dpa_app (DpAll.take r yD') (.cons (Dp.mono (hid_same sB) oD) .nil)) (DpAll.drop r yD')
    rintro σ H' ⟨z5, z8, z9, G7, ws, rfl, sg, w7', hw, lws, dws⟩
    obtain ⟨u1, u2, u3, rfl⟩ : ∃ u1 u2 u3, ws = [u1, u2, u3] := by
      match ws, lws with
      | [u1, u2, u3], _ => exact ⟨u1, u2, u3, rfl⟩
    have dws : DpAll K (hid psp (hid pw G7)) [u1, u2, u3] [.list (insD (fs.map dF) i1 e1), .list (insD (ts.map dTie) i2 e2), .list (insD (ks.map dKnd) i3 e3)] := dws
    obtain ⟨_, _, z1, du1, dws⟩ := dpa_cons dws
    cases z1
    obtain ⟨_, _, z1, du2, dws⟩ := dpa_cons dws
    cases z1
    obtain ⟨_, _, z1, du3, dws⟩ := dpa_cons dws
    cases z1
    have nb1 : p1 ∉ [b, l] := by
      simp only [List.mem_cons, List.not_mem_nil, or_false, not_or]
      exact ⟨ne_of_none g1 w1.nb, ne_of_none g1 w1.nl⟩
    have nb2 : p2 ∉ [b, l] := by
      simp only [List.mem_cons, List.not_mem_nil, or_false, not_or]
      exact ⟨ne_of_none g2 w1.nb, ne_of_none g2 w1.nl⟩
    clear parts6 wk w7 e7 s7 npw w6 lws dws od2 od3 yd2 yd3 hv2 hv3
    try dsimp only
    have bb : ∀ {G' : Hp}, Same G6 (hid pw G') → Same G1 (hid psp (hid pw G')) := fun s => b1.trans (hid_same s)
    have gf := goodFs_of ok5
    have gt : GoodTs fs ts := ⟨oT2, ok.tnd, ok.tok⟩
    have gk : GoodKs fs ks := ⟨oK2, ok.knd, ok.kok⟩
    have lt : ∀ {G' : Hp}, Same (hid psp (hid pw G')) G' := hid_le.trans hid_le
    have mk : ∀ {G' : Hp} {j1 : Nat} {w1 : V}, Same G1 (hid psp (hid pw G')) → Same (hid psp (hid pw G7)) (hid psp (hid pw G')) → G' psp = some (.lst [.int (j1 : Int), .int (i2 : Int), .int (i3 : Int)]) → G' pw = some (.lst [w1, u2, u3]) → (∃ D, Dp K G' w1 D ∧ Out dF GoodFs fieldD D (some j1)) → TurnA K G' fs ts t p1 p2 p3 psp pw j1 i2 i3 w1 u2 u3 := fun s s' h1 h2 h3 =>
      ⟨lt _ _ (s _ _ g0), ⟨y1, lt _ _ (s _ _ g1), DpAll.mono (s.trans lt) (fds_dp d1)⟩, ⟨y2, lt _ _ (s _ _ g2), DpAll.mono (s.trans lt) d2⟩, h1, h2, h3,
        ⟨_, Dp.mono (s'.trans lt) du2, out_ins (goodTs_take ts i2 gt) (X3.t2 _) X3.o2 l2 (by omega)⟩, ⟨_, Dp.mono (s'.trans lt) du3, out_ins (goodKs_take ks i3 gk) (X3.k3 _) X3.o3 l3 (by omega)⟩⟩
    have sg1 := bb sg
    refine ⟨fun σ' H' => ∃ (z5 z8 z9 : Option V) (G' : Hp) (j1 : Nat) (w1 : V), σ' = [some (.ref a), some (.ref b), some (.int (0 + (iT : Int))), some (.ref t), some (.ref psp), z5, some (.ref pb), some (.ref pw), z8, z9, x10, x11, x12] ∧ Wd b l G' H' ∧ Tabs TL G' ∧ TurnA K G' fs ts t p1 p2 p3 psp pw j1 i2 i3 w1 u2 u3, ?_, ?_⟩
    · have hpb7 : G7 pb = some (.lst [v1', v2', v3']) := hid_le _ _ (sg _ _ hpb)
      have hsp7 : G7 psp = some (.lst [.int (i1 : Int), .int (i2 : Int), .int (i3 : Int)]) := hid_le _ _ (sg _ _ hsp6)
      have g10 := lt _ _ (sg1 _ _ g0)
      have g11 := lt _ _ (sg1 _ _ g1)
      obtain ⟨xf, exf, tf, oo, rfl, kf1, kf2⟩ := fds_get d1 ef
      have kf := Same.tup (sg1.trans lt) kf1
      have od1' := Dp.mono ((hid_same sg).trans lt) od1
      refine ⟨_, rfl, pb, _, (0 : Int), v1', rfl, rfl, SqL.of (w7'.sm _ _ hpb7), at_nn (by decide) rfl, _, rfl, t, _, (0 : Int), .ref p1, rfl, rfl, SqT.of (w7'.sm _ _ g10), at_nn (by decide) rfl, p1, y1, (0 : Int), .ref tf, rfl, rfl, SqL.of (w7'.sm _ _ g11), at_nn (by decide) exf, tf, _, (0 : Int), .str f.1, rfl, rfl, Same.tup w7'.sm kf, at_nn (by decide) rfl, (by show 3 ≤ sizeLine; decide), fun m1 nm1 => ⟨(by show 2 ≤ sizeLine; decide), fun m2 nm2 => ?_⟩⟩
      have w8 := w7'.new (o := .tup [.str "0", .str "1", .str "2"]) nm1
      have s8 := w7'.sameG (o := .tup [.str "0", .str "1", .str "2"]) nm1
      have k8 : upd G7 m1 (.tup [.str "0", .str "1", .str "2"]) m1 = some (.tup [.str "0", .str "1", .str "2"]) := upd_same
      generalize upd G7 m1 (.tup [.str "0", .str "1", .str "2"]) = G8 at w8 s8 k8
      generalize upd H' m1 (.tup [.str "0", .str "1", .str "2"]) = H8 at w8 nm2
      have w9 := w8.new (o := .tup [.str f.1, .ref m1]) nm2
      have s9 := w8.sameG (o := .tup [.str f.1, .ref m1]) nm2
      have k9 : upd G8 m2 (.tup [.str f.1, .ref m1]) m2 = some (.tup [.str f.1, .ref m1]) := upd_same
      have k89 := s9 _ _ k8
      generalize upd G8 m2 (.tup [.str f.1, .ref m1]) = G9 at w9 s9 k9 k89
      generalize upd H8 m2 (.tup [.str f.1, .ref m1]) = H9 at w9
      have s79 := s8.trans s9
      refine ⟨e1, .tuple [.str f.1, .tuple [.str "0", .str "1", .str "2"]], Dp.mono (s79.trans w9.sm) od1', .tup (SqT.of (w9.sm _ _ k9)) (.cons (.str _) (.cons (.tup (SqT.of (w9.sm _ _ k89)) (.cons (.str _) (.cons (.str _) (.cons (.str _) .nil)))) .nil)), Nat.le_trans (Nat.min_le_right _ _) (Nat.le_of_ble_eq_true rfl), _, rfl, iteB (fun z => ?_) (fun z => ?_)⟩
      · have ht9 : SqT K H9 t [.ref p1, .ref p2, .ref p3] := SqT.of (w9.sm _ _ (s79 _ _ g10))
        have hsp9 := s79 _ _ hsp7
        refine ⟨_, rfl, t, _, (0 : Int), .ref p1, rfl, rfl, ht9, at_nn (by decide) rfl, p1, y1, rfl, .inl (SqL.of (w9.sm _ _ (s79 _ _ g11))), _, rfl, psp, _, (0 : Int), 0, rfl, rfl, w9.sm _ _ hsp9, rfl, ?_⟩
        have lf := fds_len d1
        have w10 := w9.mut (o' := .lst [.int (y1.length : Int), .int (i2 : Int), .int (i3 : Int)]) hsp9
        have hb9 : Same (hid psp (hid pw G7)) (hid psp (hid pw (upd G9 psp (.lst [.int (y1.length : Int), .int (i2 : Int), .int (i3 : Int)])))) := by
          rw [hid_comm (p := psp) (q := pw) (G := upd G9 psp _), hid_upd, hid_comm (p := pw) (q := psp)]
          exact hid_same (hid_same s79)
        have k10 : upd G9 psp (.lst [.int (y1.length : Int), .int (i2 : Int), .int (i3 : Int)]) psp = some (.lst [.int (y1.length : Int), .int (i2 : Int), .int (i3 : Int)]) := upd_same
        have npp : pw ≠ psp := fun e => by
          rw [e, hsp6] at gpw
          cases gpw
        have kw10 : upd G9 psp (.lst [.int (y1.length : Int), .int (i2 : Int), .int (i3 : Int)]) pw = some (.lst [u1, u2, u3]) := (upd_ne npp).trans (s79 _ _ hw)
        generalize upd G9 psp (.lst [.int (y1.length : Int), .int (i2 : Int), .int (i3 : Int)]) = G10 at w10 hb9 k10 kw10
        have w10 : Wd b l G10 (upd H9 psp (.lst ([.int (i1 : Int), .int (i2 : Int), .int (i3 : Int)].set 0 (.int (y1.length : Int))))) := w10
        generalize upd H9 psp (.lst ([.int (i1 : Int), .int (i2 : Int), .int (i3 : Int)].set 0 (.int (y1.length : Int)))) = H10 at w10
        have sg10 := sg1.trans hb9
        have t10 := lt _ _ (sg10 _ _ g0)
        have p10 := lt _ _ (sg10 _ _ g1)
        have pb10 : G10 pb = some (.lst [v1', v2', v3']) := by
          exact lt _ _ (hb9 _ _ ((hid_ne npbs.symm).trans (sg _ _ hpb)))
        refine ⟨_, rfl, t, _, (0 : Int), .ref p1, rfl, rfl, SqT.of (w10.sm _ _ t10), at_nn (by decide) rfl, _, rfl, pb, _, (0 : Int), v1', rfl, rfl, SqL.of (w10.sm _ _ pb10), at_nn (by decide) rfl, (by show 1 ≤ sizeLine; decide), fun q1 nq1 => ?_⟩
        have w11 := w10.new (o := .lst [v1']) nq1
        have s11 := w10.sameG (o := .lst [v1']) nq1
        have k11 : upd G10 q1 (.lst [v1']) q1 = some (.lst [v1']) := upd_same
        generalize upd G10 q1 (.lst [v1']) = G11 at w11 s11 k11
        generalize upd H10 q1 (.lst [v1']) = H11 at w11
        refine ⟨p1, q1, y1, [v1'], rfl, rfl, w11.sm _ _ (s11 _ _ p10), w11.sm _ _ k11, le_line (by show y1.length + 1 ≤ _; omega), fun q2 nq2 => ?_⟩
        have gq2 := w11.free nq2
        have w12 := w11.new (o := .lst (y1 ++ [v1'])) nq2
        have s12 := w11.sameG (o := .lst (y1 ++ [v1'])) nq2
        have k12 : upd G11 q2 (.lst (y1 ++ [v1'])) q2 = some (.lst (y1 ++ [v1'])) := upd_same
        generalize upd G11 q2 (.lst (y1 ++ [v1'])) = G12 at w12 s12 k12
        generalize upd H11 q2 (.lst (y1 ++ [v1'])) = H12 at w12
        have s1012 := s11.trans s12
        have kw12 := s1012 _ _ kw10
        have ksp12 := s1012 _ _ k10
        refine ⟨_, rfl, pw, _, (0 : Int), 0, rfl, rfl, w12.sm _ _ kw12, rfl, ?_⟩
        have w13 := w12.mut (o' := .lst [.ref q2, u2, u3]) kw12
        have hb12 : Same (hid psp (hid pw G7)) (hid psp (hid pw (upd G12 pw (.lst [.ref q2, u2, u3])))) := by
          rw [hid_upd]
          exact hb9.trans (hid_same (hid_same s1012))
        have sgE := sg1.trans hb12
        have q2p : q2 ≠ pw := fun e => by
          rw [e, s11 _ _ kw10] at gq2
          cases gq2
        have dq : DpAll K (upd G12 pw (.lst [.ref q2, u2, u3])) (y1 ++ [v1']) (fs.map dF ++ [e1]) := dpa_app (DpAll.mono (sgE.trans lt) (fds_dp d1)) (.cons (Dp.mono (((hid_same sg).trans hb12).trans lt) od1) .nil)
        have bad : fieldD fs e1 = false := by
          rcases X3.f1 with e | e
          · rw [e]
            exact fieldD_in (List.mem_map.mpr ⟨f, mf, rfl⟩)
          · exact e fs
        refine ⟨_, _, _, _, y1.length, .ref q2, rfl, w13, (tb1.ext sgE).ext lt, mk sgE hb12 ((upd_ne (Ne.symm npp)).trans ksp12) upd_same ⟨.list (fs.map dF ++ [e1]), .lst (SqL.of ((upd_ne q2p).trans k12)) dq, ?_⟩⟩
        rw [lf]
        exact .wrong fs e1 [] _ (.inl rfl) (by show fs.length + 1 + 0 ≤ 1000; omega) gf bad X3.o1
      · have hb' : Same (hid psp (hid pw G7)) (hid psp (hid pw G9)) := hid_same (hid_same s79)
        have ne : ∀ fs', fieldD fs' e1 = false := X3.f1.resolve_left fun e => by
          rw [e] at z
          simp [PyData.eqv, PyData.eqvAll] at z
        refine ⟨_, _, _, G9, i1, u1, rfl, w9, (tb1.ext (sg1.trans hb')).ext lt, mk (sg1.trans hb') hb' (s79 _ _ hsp7) (s79 _ _ hw) ⟨_, Dp.mono (hb'.trans lt) du1, out_ins (goodFs_take fs i1 gf) (ne _) X3.o1 l1 (by omega)⟩⟩
    · rintro σ' HA ⟨z5, z8, z9, GA, j1, w1', rfl, wA, tA, TA⟩
      have hbA := wA.bag
      have TH := TA.ext (ExtN.of wA.sm)
      have tH := tA.ext wA.sm
      clear mk lt bb sg1 sg hw dws du1 du2 du3 b1 yd1 od1 X3 w7' tA TA
      refine sq_asg ?_
      refine asks_one (κ := (lk0 (P := P) (w := w) (base := base) T M TB mI uI)) tH fun J0 pa A1 => ?_
      refine gn_step ?_
      dsimp only [List.set]
      refine seq_ex ?_
      refine asks_add (κ := (lk1 (P := P) (w := w) (base := base) T M TB mI uI)) A1 (by show 1 < 100; decide) rfl fun J1 A2 => ?_
      clear A1
      try dsimp only
      refine seq_ex ?_
      refine asks_add (κ := (lk2 (P := P) (w := w) (base := base) T M TB mI uI)) A2 (by show 2 < 100; decide) rfl fun J2 A3 => ?_
      clear A2
      try dsimp only
      refine seq_ex ?_
      refine asks_add (κ := (lk3 (P := P) (w := w) (base := base) T M TB mI uI)) A3 (by show 3 < 100; decide) rfl fun J3 A4 => ?_
      clear A3
      try dsimp only
      refine seq_ex ?_
      refine asks_add (κ := (lk4 (P := P) (w := w) (base := base) T M TB mI uI)) A4 (by show 4 < 100; decide) rfl fun J4 A5 => ?_
      clear A4
      try dsimp only
      have tbA := A5.tb
      have TA := TH.ext A5.ex
      have hb1 := hbA.kp (kp_ext (S := []) A5.ex) ninE ninE
      obtain ⟨vsA, lsA, pA⟩ := A5.ls
      clear A5 TH tH hbA wA
      refine sq_asg ?_
      refine rep2 (nm := "InvalidField") (k := 0) (n := j1) rfl TA.sp rfl fun K1 q1 z1 k1 c1 e1' => ?_
      refine rep2 (nm := "InvalidTie") (k := 1) (n := i2) rfl (k1 _ _ TA.sp) rfl fun K2 q2 z2 k2 c2 e2' => ?_
      refine cat_dataN (k2 _ _ c1) (DpAll.mono k2 e1') c2 e2' (Nat.le_of_ble_eq_true rfl) (Nat.le_of_ble_eq_true rfl) fun q3 K3 nq3 k3 c3 e3' => ?_
      have k13 := k1.trans (k2.trans k3)
      refine gn_step ?_
      dsimp only [List.set]
      refine seq_ex ?_
      have sp3 := k13 _ _ TA.sp
      refine ⟨_, rfl, .inl ⟨rfl, _, SqL.of c3⟩, _, rfl, psp, _, (2 : Int), .int (i3 : Int), rfl, rfl, SqL.of sp3, at_nn (by decide) rfl, (by show 2 ≤ sizeLine; decide), fun u nu => ?_⟩
      have k4 := same_new (o := .tup [.str "InvalidKind", .int (i3 : Int)]) nu
      have c4 := k4 _ _ c3
      have c4u : upd K3 u (.tup [.str "InvalidKind", .int (i3 : Int)]) u = some (.tup [.str "InvalidKind", .int (i3 : Int)]) := upd_same
      refine ⟨q3, z1 ++ z2, .ref u, rfl, rfl, c4, lt_line (by have := DpAll.length e3'; rw [this]; exact Nat.le_of_ble_eq_true rfl), ?_⟩
      have c5 : upd (upd K3 u (.tup [.str "InvalidKind", .int (i3 : Int)])) q3 (.lst ((z1 ++ z2) ++ [.ref u])) q3 = some (.lst ((z1 ++ z2) ++ [.ref u])) := upd_same
      have im := imm_upd (o := .lst ((z1 ++ z2) ++ [.ref u])) c4
      have x5 : ExtN J4 (upd (upd K3 u (.tup [.str "InvalidKind", .int (i3 : Int)])) q3 (.lst ((z1 ++ z2) ++ [.ref u]))) := extn_mutT ((ExtN.of (k13.trans k4))) (fun o z => by rw [(k1.trans k2).free nq3] at z; cases z)
      have t5 : Tabs TL (upd (upd K3 u (.tup [.str "InvalidKind", .int (i3 : Int)])) q3 (.lst ((z1 ++ z2) ++ [.ref u]))) := tabs_updL (tbA.ext (k13.trans k4)) c4
      have e5 : DpAll K (upd (upd K3 u (.tup [.str "InvalidKind", .int (i3 : Int)])) q3 (.lst ((z1 ++ z2) ++ [.ref u]))) ((z1 ++ z2) ++ [.ref u]) ((dueA j1 i2 i3).map dAsk) := by
        have a1 : DpAll K _ (z1 ++ z2) [dAsk ("InvalidField", (j1 : Int)), dAsk ("InvalidField", (j1 : Int)), dAsk ("InvalidTie", (i2 : Int)), dAsk ("InvalidTie", (i2 : Int))] := DpAll.imm im (by rfl) (DpAll.mono k4 e3')
        exact DpAll.append a1 (.cons (.tup (SqT.of (im _ _ c4u (fun _ z => nomatch z))) (.cons (.str _) (.cons (.int _) .nil))) .nil)
      generalize upd (upd K3 u (.tup [.str "InvalidKind", .int (i3 : Int)])) q3 (.lst ((z1 ++ z2) ++ [.ref u])) = K5 at c5 x5 t5 e5 im
      clear im c4u c4 k4 nu sp3 c3 e3' k13 k3 nq3 c1 c2 e1' e2' k1 k2
      try dsimp only
      have TB5 := TA.ext x5
      have hb5 := hb1.kp (kp_ext (S := []) x5) ninE ninE
      refine seq_ex ?_
      refine ifn_step ?_
      refine lc_asksL rfl (x5 _ _ lsA (fun _ z => nomatch z)) (paired_imp pA fun v κ r => r.ext x5) (asks_turn T M TB mI uI TB5 gf gt oF1 oF2 oT1) (by show 5 ≤ 100; decide) (fun κ h => List.mem_append_left _ h) t5 fun K6 D6 y6 x6 t6 c6 e6 => ?_
      refine ⟨_, rfl, .ref D6, .ref q3, .list ((dueA j1 i2 i3).map dAsk), rfl, .lst (SqL.of c6) e6, .lst (SqL.of (x6 _ _ c5 (fun _ z => nomatch z))) (dpa_ext x6 e5), sh_asks _ (Nat.le_of_ble_eq_true rfl), fun K7 s7 => ⟨_, rfl, iteF ?_⟩⟩
      have t7 := t6.ext s7
      have x57 := x6.trans (ExtN.of s7)
      have hb7 := hb5.kp (kp_ext (S := []) x57) ninE ninE
      have T7 := TB5.ext x57
      clear x57 e6 c6 x6 t6 s7 e5 c5 x5 t5 hb5 TB5 pA lsA TA hb1 tbA
      try dsimp only
      have wN := hb7.wd
      have kN := hb7.kpB
      have tN : Tabs TL (noBag b l K7) := fun x hx => tab_noBag (t7 x hx) hb7
      obtain ⟨ya, ya1, ya2⟩ := T7.c1
      obtain ⟨yb, yb1, yb2⟩ := T7.c2
      have m1 := kN.lst ya1 nb1
      have m2 := kN.dps noL_dF ya2
      have m3 := kN.lst yb1 nb2
      have m4 := kN.dps noL_dTie yb2
      have m0 := kN.tup T7.tt
      generalize noBag b l K7 = GN at wN tN m1 m2 m3 m4 m0
      clear kN ya1 ya2 yb1 yb2 T7 hb7 t7
      refine nx_step ?_
      try dsimp only
      refine sq_asg ?_
      refine ⟨_, rfl, ?_⟩
      refine dlst_step (W := Wd b l) (fun _ => .none) (wo_wd b l) wN ?_ (Nat.le_of_ble_eq_true rfl) (fun po zo G8 H8 s8 w8 n8 h8 d8 => ?_)
      · repeat' (first | exact acc_nil | refine acc_app ?_ ?_)
      refine any_of w8 h8 d8 (Nat.le_of_ble_eq_true rfl) (Nat.le_of_ble_eq_true rfl) fun vo do_ H9 w9 hvo mo => ?_
      have sz := s8.trans w9.sm
      have t9 := tN.ext sz
      have hb9 := w9.bag
      have n1 := sz _ _ m1
      have n2 := DpAll.mono sz m2
      have n3 := sz _ _ m3
      have n4 := DpAll.mono sz m4
      have n0 := sz _ _ m0
      have hvo := Dp.mono w9.sm hvo
      clear sz w9 w8 s8 h8 d8 n8 m1 m2 m3 m4 m0 tN wN
      refine gn_step ?_
      dsimp only [List.set]
      refine sq_asg ?_
      refine asks_one (κ := (lk5 (P := P) (w := w) (base := base) T M TB mI uI)) t9 fun J0 pa2 A1 => ?_
      refine gn_step ?_
      dsimp only [List.set]
      refine seq_ex ?_
      refine asks_add (κ := (lk6 (P := P) (w := w) (base := base) T M TB mI uI)) A1 (by show 1 < 100; decide) rfl fun J1 A2 => ?_
      clear A1
      try dsimp only
      refine seq_ex ?_
      refine asks_add (κ := (lk7 (P := P) (w := w) (base := base) T M TB mI uI)) A2 (by show 2 < 100; decide) rfl fun J2 A3 => ?_
      clear A2
      try dsimp only
      have tbA := A3.tb
      have xA := A3.ex
      obtain ⟨vsA, lsA, pA⟩ := A3.ls
      clear A3
      have hbA := hb9.kp (kp_ext (S := []) xA) ninE ninE
      refine sq_asg ?_
      refine dlst_step (fun _ => .none) wo_eq rfl ?_ (Nat.le_of_ble_eq_true rfl) (fun pd xd HB HX sB ee nB hB dB => ?_)
      · repeat' (first | exact acc_nil | refine acc_app ?_ ?_)
      obtain rfl := ee
      have xB := xA.trans (ExtN.of sB)
      refine gn_step ?_
      dsimp only [List.set]
      refine ifn_step ?_
      refine lc_asksL rfl (sB _ _ lsA) (paired_imp pA fun v κ r => r.ext (ExtN.of sB)) (asks_one' T M TB mI uI (xB _ _ n0 (fun _ z => nomatch z)) ⟨p1, ya, rfl, .inl (SqL.of (xB _ _ n1 (fun _ z => nomatch z))), dpa_ext xB n2⟩ ⟨p2, yb, rfl, .inl (SqL.of (xB _ _ n3 (fun _ z => nomatch z))), dpa_ext xB n4⟩ (dp_ext xB hvo) mo gf gt oF1 oF2 oT1) (by show 3 ≤ 100; decide) (fun κ h => List.mem_append_right (lksA (P := P) (w := w) (base := base) T M TB mI uI) h) (tbA.ext sB) fun HC DC yC xC tC kC dC' => ?_
      refine ⟨_, rfl, .ref DC, .ref pd, .list (dueB.map dAsk), rfl, .lst (SqL.of kC) dC', .lst (SqL.of (xC _ _ hB (fun _ z => nomatch z))) (dpa_ext xC dB), sh_asks _ (by decide), fun HD sD => ⟨_, rfl, iteF ?_⟩⟩
      exact ⟨_, _, _, _, _, _, _, _, _, _, _, rfl, (hbA.kp (kp_ext (S := []) ((ExtN.of sB).trans (xC.trans (ExtN.of sD)))) ninE ninE), tC.ext sD⟩
  · rintro σ H' ⟨x2, x3, x4, x5, x6, x7, x8, x9, x10, x11, x12, rfl, hb, tb⟩
    exact ⟨rfl, tb, fun H' => q H'⟩
end
end Bh

set_option Elab.async false
set_option linter.all false
set_option maxRecDepth 100000
set_option maxHeartbeats 2000000
namespace Bh
open PySem PySem.Spec PyProof.Rows L2
/-! ### the end of a law by one run of the top: facts out of a Hook -/
section
variable {K : PySem.W.Frag} {h : Heap} {mg : Str → Option Value} {fa : List He.Fa} {fn : List He.DefD}
theorem funD_none {x q : Str} {ar : Arguments} {bd : List Stmt} {sc : Scope} {f : Addr} {fd : FuncData} (F : FunD K x q ar bd sc [] [] f fd) :
    ∃ (oc : Value) (od : Option Addr) (kV doc pm : Value) (an : Option Addr) (cdv ct : Value) (osl : Array (Option Value)), fd = PySem.W.fnOf x q ar bd sc .none kV doc pm an cdv ct ∧ K.lookup f = some ⟨oc, od, .func fd, osl⟩ ∧ PySem.W.codeIn K cdv q = true := by
  obtain ⟨oc, od, dV, kV, doc, pm, an, cdv, ct, osl, e, lk, hc, hd, _⟩ := F.ex
  rcases hd with ⟨_, e2⟩ | ⟨e2, _⟩
  · rw [e2] at e
    exact ⟨oc, od, kV, doc, pm, an, cdv, ct, osl, e, lk, hc⟩
  · exact absurd rfl e2
theorem fun_ofD {x q : Str} {st : Stmt} {f : Addr} {fd : FuncData} (F : FunD K x q (defArgs st) (defBody st) (defScope st) [] [] f fd) : Fun K x q st f fd := ⟨funD_none F, F.kp⟩
abbrev BindsAs (x q : Str) (st : Stmt) (ps : List Str) : Prop := ∀ (kV doc pm : Value) (an : Option Addr) (cdv ct : Value) (us : List Value), us.length = ps.length → bindArgs (PySem.W.fnOf x q (defArgs st) (defBody st) (defScope st) .none kV doc pm an cdv ct) ⟨us, []⟩ = pure (ps.zip us)
theorem df_of (c : He.SaysD fa fn K) (X : K.In h) (G : h.Ns mainGlobals mg) {x : Str} {st : Stmt} {ps : List Str} (i j : Nat) (hb : BindsAs x x st ps) (h1 : fn[i]? = some (dd x st)) (h2 : fa[j]? = some (.glo x)) : ∃ fd, Df K mg x st ps (He.ga K x) fd := by
  obtain ⟨fd, F⟩ := c.def_ i (d := dd x st) h1
  have F2 : Fun K x x st (He.ga K x) fd := fun_ofD F
  exact ⟨fd, F2, He.glo_ok X G (c.fact j h2), F2.binds hb⟩
theorem meth_of (c : He.SaysD fa fn K) {C m q : Str} {st : Stmt} {ps : List Str} (i j : Nat) (hb : BindsAs m q st ps) (h1 : fn[i]? = some (dm C m q st)) (h2 : fa[j]? = some (.meth C m)) :
    ∃ fd, Fun K m q st (He.ma K (He.ga K C) m) fd ∧ Meth K (He.ga K C) m (He.ma K (He.ga K C) m) ∧ Binds K fd ps [] := by
  obtain ⟨fd, F⟩ := c.def_ i (d := dm C m q st) h1
  have F2 : Fun K m q st (He.ma K (He.ga K C) m) fd := fun_ofD F
  exact ⟨fd, F2, He.meth_ok (c.fact j h2), F2.binds hb⟩
/-- a def whose table of code objects is wanted -/
theorem tab_def (c : He.SaysD fa fn K) {d : He.DefD} (i : Nat) (h1 : fn[i]? = some d) (hd : d.dfl = []) (hk : d.kwd = []) :
    ∃ (oc : Value) (od : Option Addr) (kV doc pm : Value) (an : Option Addr) (ct : Value) (osl : Array (Option Value)), K.lookup (He.fAd K d.at_) = some ⟨oc, od, .func (PySem.W.fnOf d.name d.qual d.params d.body d.scope .none kV doc pm an (.ref (He.cT K d.at_).1) ct), osl⟩ ∧ PySem.W.codeIn K (.ref (He.cT K d.at_).1) d.qual = true := by
  obtain ⟨fd, F⟩ := c.def_ i (d := d) h1
  have e1 : d.dvs K = [] := by unfold He.DefD.dvs; rw [hd]; rfl
  have e2 : d.kws K = [] := by unfold He.DefD.kws; rw [hk]; rfl
  rw [e1, e2] at F
  obtain ⟨oc, od, kV, doc, pm, an, cdv, ct, osl, e, lk, hc⟩ := funD_none F
  obtain ⟨cc, rfl⟩ := He.codeIn_ref hc
  have k := He.codeOf_eq lk (by rw [e])
  refine ⟨oc, od, kV, doc, pm, an, ct, osl, ?_, ?_⟩
  · show K.lookup (He.fAd K d.at_) = some ⟨oc, od, .func (PySem.W.fnOf d.name d.qual d.params d.body d.scope .none kV doc pm an (.ref (He.codeOf K d.at_)) ct), osl⟩
    rw [k, ← e]
    exact lk
  · show PySem.W.codeIn K (.ref (He.codeOf K d.at_)) d.qual = true
    rw [k]
    exact hc
/-! ### own exceptions -/
theorem fam_of {C : Addr} {B newId initId : String} {bmB : List Value} (FB : ExcBaseFacts B newId initId bmB) (SF : StoreFacts B bmB "object.__setattr__" "object") (q : PySem.W.excInitIn K C bmB newId = true) (ov : PySem.W.excOver K C bmB = true) (hd : PySem.W.hasDictIn K C = true) :
    ∃ (B newId initId : String) (bmB : List Value), ExcBaseFacts B newId initId bmB ∧ StoreFacts B bmB "object.__setattr__" "object" ∧ PySem.W.excOver K C bmB = true ∧
    ∃ nm q N bs bm sn sub ab col dd k0 k1 k2 k3 k5, K.lookup C = some (excClassObj nm q C N bs bm true sn sub ab col dd k0 k1 k2 k3 k5 newId) ∧ ∀ Y : String, bm.contains (.type Y) = bmB.contains (.type Y) := by
  refine ⟨B, newId, initId, bmB, FB, SF, ov, ?_⟩
  unfold PySem.W.excInitIn at q
  split at q
  · rename_i d1 cd1 sl1 look
    split at q
    · rename_i C2 bm2 z0 z1 z2 z3 n z5 em es
      rw [Bool.and_eq_true, Bool.and_eq_true, Bool.and_eq_true, beq_iff_eq, beq_iff_eq, Bool.not_eq_true'] at q
      obtain ⟨⟨⟨e1, e2⟩, e3⟩, tl⟩ := q
      subst e1 e2
      have hh : (PySem.W.clsIn K C2).any (·.hasDict) = true := hd
      unfold PySem.W.clsIn at hh
      rw [look] at hh
      obtain ⟨a1, a2, a3, a4, a5, a6, a7, a8, a9, a10, a11⟩ := cd1
      have h6 : a6 = true := hh
      have em2 : a3 = .ref C2 :: bm2 := em
      have e32 : a11 = false := e3
      subst h6 em2 e32
      have e6 : sl1 = #[z0, z1, z2, z3, some (.builtin n), z5] := by
        exact Array.ext' es
      subst e6
      exact ⟨_, _, _, _, _, _, _, _, _, _, _, _, _, _, _, look, fun Y => PySem.W.excTail_contains Y _ tl⟩
    · cases q
  · cases q
theorem exg_of {x : Str} {B newId initId : String} {bmB : List Value} (FB : ExcBaseFacts B newId initId bmB) (SF : StoreFacts B bmB "object.__setattr__" "object") (p : ExcP K x bmB newId) : ExG K (He.ga K x) :=
  ⟨fam_of FB SF p.1 p.2.1 p.2.2.1, p.2.2.2.1, p.2.2.2.2.2.2.2.2.2.2.2.1, p.2.2.2.2.2.2.2.2.2.2.2.2, p.2.2.2.2.2.2.2.2.2.2.1, p.2.2.1⟩
theorem xfc_of {x : Str} {newId : String} {bmB : List Value} (p : ExcP K x bmB newId) : XfC K (He.ga K x) :=
  ⟨p.2.2.2.2.1, p.2.2.2.2.2.1, p.2.2.2.2.2.2.2.2.2.2.2.1, p.2.2.1⟩
theorem excc_of {x : Str} {newId : String} {bmB : List Value} (p : ExcP K x bmB newId) : ExcC K (He.ga K x) :=
  ⟨p.2.2.2.2.1, p.2.2.2.2.2.1, p.2.2.2.2.2.2.2.2.2.2.2.1, p.2.2.1, p.2.2.2.2.2.2.1, p.2.2.2.2.2.2.2.2.1, p.2.2.2.2.2.2.2.2.2.1, p.2.2.2.2.2.2.2.1⟩
theorem exr_of (c : He.SaysD fa fn K) (X : K.In h) (G : h.Ns mainGlobals mg) {x q : Str} {st : Stmt} {ps at_ : List Str} {B newId initId : String} {bmB : List Value} (FB : ExcBaseFacts B newId initId bmB) (SF : StoreFacts B bmB "object.__setattr__" "object") (i j : Nat)
    (p : ExcP K x bmB newId) (p2 : ExcI K x) (p3 : NoAt K x at_) (hb : BindsAs "__init__" q st ps) (h1 : fn[i]? = some (dm x "__init__" q st)) (h2 : fa[j]? = some (.glo x)) : ∃ r : ExR K mg x q st ps at_, r.c = He.ga K x := by
  obtain ⟨fd, F⟩ := c.def_ i (d := dm x "__init__" q st) h1
  have F2 : Fun K "__init__" q st (He.ma K (He.ga K x) "__init__") fd := fun_ofD F
  exact ⟨⟨He.ga K x, He.ma K (He.ga K x) "__init__", fd, F2, F2.binds hb, He.glo_ok X G (c.fact j h2), exg_of FB SF p, p2.1, p2.2, p3, xfc_of p, excc_of p⟩, rfl⟩
theorem erc_of {x y1 y2 f : Str} {newId : String} {bmB : List Value} (p : ExcP K x bmB newId) (p3 : NoAt K x ["code", f]) (h1 : PySem.W.exmAny K (.ref (He.ga K x)) [.ref (He.ga K y1), .ref (He.ga K y2)] = some true) : ErC K (He.ga K y1) (He.ga K y2) (He.ga K x) x f :=
  ⟨xfc_of p, p3 _ (List.mem_cons_self ..), p3 _ (List.mem_cons_of_mem _ (List.mem_cons_self ..)), h1⟩
/-! ### classes -/
theorem callO_of {x : Str} (p : CallP K x) (m : Meth K (He.ga K x) "__call__" (He.ma K (He.ga K x) "__call__")) : StX.CallO K (He.ga K x) (He.ma K (He.ga K x) "__call__") := ⟨m.at_, m.fn, p⟩
end
end Bh

set_option Elab.async false
set_option linter.all false
set_option maxRecDepth 100000
set_option maxHeartbeats 4000000
set_option synthInstance.maxSize 10000
set_option synthInstance.maxHeartbeats 400000
namespace Bh
open PySem PySem.Spec PyProof.Rows L2
open LamX NdefX
theorem law_at {l : PySem.W.OpenLaw} {w : World} {K : PySem.W.Frag} {h : Heap} {mg : Str → Option Value} {fa : Addr} (X : K.In h) (G : h.Ns mainGlobals mg) (hfa : mg "law" = some (.ref fa)) (c : He.SaysX hFa hFn [] hTf hEx w h K) :
    LamX.LawAtS l w K CX0 18 63 "_law_script" mg fa h := by
  have D := c.t.d
  obtain ⟨⟨E0, E1, E2, E3, E4, E5, E6, E7, E8, E9, E10, E11⟩, ⟨E12, E13, E14, E15, E16, E17, E18, E19, E20⟩⟩ := hEx_of c.more
  obtain ⟨f_copy_of, d_copy_of⟩ := df_of (ps := ["value"]) D X G 0 0 (fun _ _ _ _ _ _ us hl => match us, hl with | [_], _ => rfl) rfl rfl
  obtain ⟨f_is_name, d_is_name⟩ := df_of (ps := ["value"]) D X G 1 1 (fun _ _ _ _ _ _ us hl => match us, hl with | [_], _ => rfl) rfl rfl
  obtain ⟨f_is_option, d_is_option⟩ := df_of (ps := ["value"]) D X G 2 2 (fun _ _ _ _ _ _ us hl => match us, hl with | [_], _ => rfl) rfl rfl
  obtain ⟨f_is_word, d_is_word⟩ := df_of (ps := ["value", "characters"]) D X G 3 3 (fun _ _ _ _ _ _ us hl => match us, hl with | [_, _], _ => rfl) rfl rfl
  obtain ⟨f_field_fits, d_field_fits⟩ := df_of (ps := ["before", "field"]) D X G 4 4 (fun _ _ _ _ _ _ us hl => match us, hl with | [_, _], _ => rfl) rfl rfl
  obtain ⟨f_tie_fits, d_tie_fits⟩ := df_of (ps := ["fields", "before", "tie"]) D X G 5 5 (fun _ _ _ _ _ _ us hl => match us, hl with | [_, _, _], _ => rfl) rfl rfl
  obtain ⟨f_kind_fits, d_kind_fits⟩ := df_of (ps := ["fields", "before", "kind"]) D X G 6 6 (fun _ _ _ _ _ _ us hl => match us, hl with | [_, _, _], _ => rfl) rfl rfl
  obtain ⟨f_name_fits, d_name_fits⟩ := df_of (ps := ["before", "name", "most"]) D X G 7 7 (fun _ _ _ _ _ _ us hl => match us, hl with | [_, _, _], _ => rfl) rfl rfl
  obtain ⟨f_names_of, d_names_of⟩ := df_of (ps := ["items"]) D X G 8 8 (fun _ _ _ _ _ _ us hl => match us, hl with | [_], _ => rfl) rfl rfl
  obtain ⟨f_is_program, d_is_program⟩ := df_of (ps := ["fields", "value"]) D X G 9 9 (fun _ _ _ _ _ _ us hl => match us, hl with | [_, _], _ => rfl) rfl rfl
  obtain ⟨f_is_case, d_is_case⟩ := df_of (ps := ["fields", "value"]) D X G 10 10 (fun _ _ _ _ _ _ us hl => match us, hl with | [_, _], _ => rfl) rfl rfl
  obtain ⟨f_is_holding, d_is_holding⟩ := df_of (ps := ["fields", "value"]) D X G 11 11 (fun _ _ _ _ _ _ us hl => match us, hl with | [_, _], _ => rfl) rfl rfl
  obtain ⟨f_is_value, d_is_value⟩ := df_of (ps := ["fields", "value"]) D X G 12 12 (fun _ _ _ _ _ _ us hl => match us, hl with | [_, _], _ => rfl) rfl rfl
  obtain ⟨f_values_of, d_values_of⟩ := df_of (ps := ["fields"]) D X G 13 13 (fun _ _ _ _ _ _ us hl => match us, hl with | [_], _ => rfl) rfl rfl
  obtain ⟨f_is_tuple, d_is_tuple⟩ := df_of (ps := ["value", "least", "most"]) D X G 14 14 (fun _ _ _ _ _ _ us hl => match us, hl with | [_, _, _], _ => rfl) rfl rfl
  obtain ⟨f_are_options, d_are_options⟩ := df_of (ps := ["value"]) D X G 15 15 (fun _ _ _ _ _ _ us hl => match us, hl with | [_], _ => rfl) rfl rfl
  obtain ⟨f_are_keys, d_are_keys⟩ := df_of (ps := ["fields", "value"]) D X G 16 16 (fun _ _ _ _ _ _ us hl => match us, hl with | [_, _], _ => rfl) rfl rfl
  obtain ⟨f_is_key, d_is_key⟩ := df_of (ps := ["fields", "value"]) D X G 17 17 (fun _ _ _ _ _ _ us hl => match us, hl with | [_, _], _ => rfl) rfl rfl
  obtain ⟨f_is_test, d_is_test⟩ := df_of (ps := ["fields", "value"]) D X G 18 18 (fun _ _ _ _ _ _ us hl => match us, hl with | [_, _], _ => rfl) rfl rfl
  obtain ⟨f_is_step, d_is_step⟩ := df_of (ps := ["fields", "value"]) D X G 19 19 (fun _ _ _ _ _ _ us hl => match us, hl with | [_, _], _ => rfl) rfl rfl
  obtain ⟨f_options_of, d_options_of⟩ := df_of (ps := ["fields", "name"]) D X G 20 20 (fun _ _ _ _ _ _ us hl => match us, hl with | [_, _], _ => rfl) rfl rfl
  obtain ⟨f_first_wrong, d_first_wrong⟩ := df_of (ps := ["items", "fits"]) D X G 21 21 (fun _ _ _ _ _ _ us hl => match us, hl with | [_, _], _ => rfl) rfl rfl
  obtain ⟨f_l_bag, d_l_bag⟩ := df_of (ps := ["_law_script"]) D X G 22 22 (fun _ _ _ _ _ _ us hl => match us, hl with | [_], _ => rfl) rfl rfl
  obtain ⟨f_l_draw, d_l_draw⟩ := df_of (ps := ["_law_bag_here", "_law_many"]) D X G 23 23 (fun _ _ _ _ _ _ us hl => match us, hl with | [_, _], _ => rfl) rfl rfl
  obtain ⟨f_l_any, d_l_any⟩ := df_of (ps := ["_law_bag_here", "_law_row"]) D X G 24 24 (fun _ _ _ _ _ _ us hl => match us, hl with | [_, _], _ => rfl) rfl rfl
  obtain ⟨f_l_mixed, d_l_mixed⟩ := df_of (ps := ["_law_bag_here", "_law_row"]) D X G 25 25 (fun _ _ _ _ _ _ us hl => match us, hl with | [_, _], _ => rfl) rfl rfl
  obtain ⟨f_l_like, d_l_like⟩ := df_of (ps := ["_law_found", "_law_due"]) D X G 26 26 (fun _ _ _ _ _ _ us hl => match us, hl with | [_, _], _ => rfl) rfl rfl
  obtain ⟨f_l_given, d_l_given⟩ := df_of (ps := ["_law_e"]) D X G 27 27 (fun _ _ _ _ _ _ us hl => match us, hl with | [_], _ => rfl) rfl rfl
  obtain ⟨f_l_try, d_l_try⟩ := df_of (ps := ["_law_ask"]) D X G 28 28 (fun _ _ _ _ _ _ us hl => match us, hl with | [_], _ => rfl) rfl rfl
  obtain ⟨f_l_words, d_l_words⟩ := df_of (ps := ["_law_bag_here", "_law_many"]) D X G 29 29 (fun _ _ _ _ _ _ us hl => match us, hl with | [_, _], _ => rfl) rfl rfl
  obtain ⟨f_l_options, d_l_options⟩ := df_of (ps := ["_law_bag_here", "_law_many"]) D X G 30 30 (fun _ _ _ _ _ _ us hl => match us, hl with | [_, _], _ => rfl) rfl rfl
  obtain ⟨f_l_fields, d_l_fields⟩ := df_of (ps := ["_law_bag_here", "_law_room"]) D X G 31 31 (fun _ _ _ _ _ _ us hl => match us, hl with | [_, _], _ => rfl) rfl rfl
  obtain ⟨f_l_case, d_l_case⟩ := df_of (ps := ["_law_bag_here", "_law_fields_here"]) D X G 32 32 (fun _ _ _ _ _ _ us hl => match us, hl with | [_, _], _ => rfl) rfl rfl
  obtain ⟨f_l_program, d_l_program⟩ := df_of (ps := ["_law_bag_here", "_law_fields_here", "_law_most"]) D X G 33 33 (fun _ _ _ _ _ _ us hl => match us, hl with | [_, _, _], _ => rfl) rfl rfl
  obtain ⟨f_l_value, d_l_value⟩ := df_of (ps := ["_law_bag_here", "_law_fields_here"]) D X G 34 34 (fun _ _ _ _ _ _ us hl => match us, hl with | [_, _], _ => rfl) rfl rfl
  obtain ⟨f_l_keys, d_l_keys⟩ := df_of (ps := ["_law_bag_here", "_law_fields_here"]) D X G 35 35 (fun _ _ _ _ _ _ us hl => match us, hl with | [_, _], _ => rfl) rfl rfl
  obtain ⟨f_l_kinds, d_l_kinds⟩ := df_of (ps := ["_law_bag_here", "_law_fields_here", "_law_most"]) D X G 36 36 (fun _ _ _ _ _ _ us hl => match us, hl with | [_, _, _], _ => rfl) rfl rfl
  obtain ⟨f_l_book, d_l_book⟩ := df_of (ps := ["_law_bag_here", "_law_room", "_law_most"]) D X G 37 37 (fun _ _ _ _ _ _ us hl => match us, hl with | [_, _, _], _ => rfl) rfl rfl
  obtain ⟨f_l_values, d_l_values⟩ := df_of (ps := ["_law_fields_here"]) D X G 38 38 (fun _ _ _ _ _ _ us hl => match us, hl with | [_], _ => rfl) rfl rfl
  obtain ⟨f_l_odd_field, d_l_odd_field⟩ := df_of (ps := ["_law_bag_here", "_law_fields_here"]) D X G 39 39 (fun _ _ _ _ _ _ us hl => match us, hl with | [_, _], _ => rfl) rfl rfl
  obtain ⟨f_l_odd_case, d_l_odd_case⟩ := df_of (ps := ["_law_bag_here", "_law_fields_here"]) D X G 40 40 (fun _ _ _ _ _ _ us hl => match us, hl with | [_, _], _ => rfl) rfl rfl
  obtain ⟨f_l_odd_tie, d_l_odd_tie⟩ := df_of (ps := ["_law_bag_here", "_law_m"]) D X G 41 41 (fun _ _ _ _ _ _ us hl => match us, hl with | [_, _], _ => rfl) rfl rfl
  obtain ⟨f_l_odd_kind, d_l_odd_kind⟩ := df_of (ps := ["_law_bag_here", "_law_m"]) D X G 42 42 (fun _ _ _ _ _ _ us hl => match us, hl with | [_, _], _ => rfl) rfl rfl
  obtain ⟨f_l_bounds_so, d_l_bounds_so⟩ := df_of (ps := []) D X G 43 43 (fun _ _ _ _ _ _ us hl => match us, hl with | [], _ => rfl) rfl rfl
  have n_InvalidField : NoAt K "InvalidField" ["code", "position"] := (fun y hy => by
    rcases List.mem_cons.mp hy with e | hy
    · rw [e]; exact E4
    · rw [List.mem_singleton.mp hy]; exact E5)
  obtain ⟨r_InvalidField, hr_InvalidField⟩ := exr_of (ps := ["self", "position"]) D X G PySem.F.excBase_ValueError PySem.F.store_ValueError 45 76 E2 E3 n_InvalidField (fun _ _ _ _ _ _ us hl => match us, hl with | [_, _], _ => rfl) rfl rfl
  have n_InvalidTie : NoAt K "InvalidTie" ["code", "position"] := (fun y hy => by
    rcases List.mem_cons.mp hy with e | hy
    · rw [e]; exact E9
    · rw [List.mem_singleton.mp hy]; exact E10)
  obtain ⟨r_InvalidTie, hr_InvalidTie⟩ := exr_of (ps := ["self", "position"]) D X G PySem.F.excBase_ValueError PySem.F.store_ValueError 46 77 E7 E8 n_InvalidTie (fun _ _ _ _ _ _ us hl => match us, hl with | [_, _], _ => rfl) rfl rfl
  have n_InvalidKind : NoAt K "InvalidKind" ["code", "position"] := (fun y hy => by
    rcases List.mem_cons.mp hy with e | hy
    · rw [e]; exact E14
    · rw [List.mem_singleton.mp hy]; exact E15)
  obtain ⟨r_InvalidKind, hr_InvalidKind⟩ := exr_of (ps := ["self", "position"]) D X G PySem.F.excBase_ValueError PySem.F.store_ValueError 47 78 E12 E13 n_InvalidKind (fun _ _ _ _ _ _ us hl => match us, hl with | [_, _], _ => rfl) rfl rfl
  have T : Top K mg := {
    a_copy_of := _, fd_copy_of := f_copy_of, d_copy_of := d_copy_of,
    a_is_name := _, fd_is_name := f_is_name, d_is_name := d_is_name,
    a_is_option := _, fd_is_option := f_is_option, d_is_option := d_is_option,
    a_is_word := _, fd_is_word := f_is_word, d_is_word := d_is_word,
    a_field_fits := _, fd_field_fits := f_field_fits, d_field_fits := d_field_fits,
    a_tie_fits := _, fd_tie_fits := f_tie_fits, d_tie_fits := d_tie_fits,
    a_kind_fits := _, fd_kind_fits := f_kind_fits, d_kind_fits := d_kind_fits,
    a_name_fits := _, fd_name_fits := f_name_fits, d_name_fits := d_name_fits,
    a_names_of := _, fd_names_of := f_names_of, d_names_of := d_names_of,
    a_is_program := _, fd_is_program := f_is_program, d_is_program := d_is_program,
    a_is_case := _, fd_is_case := f_is_case, d_is_case := d_is_case,
    a_is_holding := _, fd_is_holding := f_is_holding, d_is_holding := d_is_holding,
    a_is_value := _, fd_is_value := f_is_value, d_is_value := d_is_value,
    a_values_of := _, fd_values_of := f_values_of, d_values_of := d_values_of,
    a_is_tuple := _, fd_is_tuple := f_is_tuple, d_is_tuple := d_is_tuple,
    a_are_options := _, fd_are_options := f_are_options, d_are_options := d_are_options,
    a_are_keys := _, fd_are_keys := f_are_keys, d_are_keys := d_are_keys,
    a_is_key := _, fd_is_key := f_is_key, d_is_key := d_is_key,
    a_is_test := _, fd_is_test := f_is_test, d_is_test := d_is_test,
    a_is_step := _, fd_is_step := f_is_step, d_is_step := d_is_step,
    a_options_of := _, fd_options_of := f_options_of, d_options_of := d_options_of,
    a_first_wrong := _, fd_first_wrong := f_first_wrong, d_first_wrong := d_first_wrong,
    a_l_bag := _, fd_l_bag := f_l_bag, d_l_bag := d_l_bag,
    a_l_draw := _, fd_l_draw := f_l_draw, d_l_draw := d_l_draw,
    a_l_any := _, fd_l_any := f_l_any, d_l_any := d_l_any,
    a_l_mixed := _, fd_l_mixed := f_l_mixed, d_l_mixed := d_l_mixed,
    a_l_like := _, fd_l_like := f_l_like, d_l_like := d_l_like,
    a_l_given := _, fd_l_given := f_l_given, d_l_given := d_l_given,
    a_l_try := _, fd_l_try := f_l_try, d_l_try := d_l_try,
    a_l_words := _, fd_l_words := f_l_words, d_l_words := d_l_words,
    a_l_options := _, fd_l_options := f_l_options, d_l_options := d_l_options,
    a_l_fields := _, fd_l_fields := f_l_fields, d_l_fields := d_l_fields,
    a_l_case := _, fd_l_case := f_l_case, d_l_case := d_l_case,
    a_l_program := _, fd_l_program := f_l_program, d_l_program := d_l_program,
    a_l_value := _, fd_l_value := f_l_value, d_l_value := d_l_value,
    a_l_keys := _, fd_l_keys := f_l_keys, d_l_keys := d_l_keys,
    a_l_kinds := _, fd_l_kinds := f_l_kinds, d_l_kinds := d_l_kinds,
    a_l_book := _, fd_l_book := f_l_book, d_l_book := d_l_book,
    a_l_values := _, fd_l_values := f_l_values, d_l_values := d_l_values,
    a_l_odd_field := _, fd_l_odd_field := f_l_odd_field, d_l_odd_field := d_l_odd_field,
    a_l_odd_case := _, fd_l_odd_case := f_l_odd_case, d_l_odd_case := d_l_odd_case,
    a_l_odd_tie := _, fd_l_odd_tie := f_l_odd_tie, d_l_odd_tie := d_l_odd_tie,
    a_l_odd_kind := _, fd_l_odd_kind := f_l_odd_kind, d_l_odd_kind := d_l_odd_kind,
    b_all := He.free_ok X G (D.fact 45 rfl),
    b_dict := He.free_ok X G (D.fact 46 rfl),
    b_isinstance := He.free_ok X G (D.fact 47 rfl),
    b_len := He.free_ok X G (D.fact 48 rfl),
    b_list := He.free_ok X G (D.fact 49 rfl),
    b_max := He.free_ok X G (D.fact 50 rfl),
    b_min := He.free_ok X G (D.fact 51 rfl),
    b_range := He.free_ok X G (D.fact 52 rfl),
    b_sorted := He.free_ok X G (D.fact 53 rfl),
    b_tuple := He.free_ok X G (D.fact 54 rfl),
    b_int := He.free_ok X G (D.fact 55 rfl),
    b_zip := He.free_ok X G (D.fact 56 rfl),
    b_bool := He.free_ok X G (D.fact 57 rfl),
    b_str := He.free_ok X G (D.fact 58 rfl),
    b_set := He.free_ok X G (D.fact 59 rfl),
    b_enumerate := He.free_ok X G (D.fact 60 rfl),
    b_repr := He.free_ok X G (D.fact 61 rfl),
    g_LETTERS := He.str_ok X G (D.fact 62 rfl),
    g_LETTERS_AND_DIGITS := He.str_ok X G (D.fact 63 rfl),
    g_LONGEST := He.int_ok X G (D.fact 64 rfl),
    a_SIGNS := _, g_SIGNS := He.glo_ok X G (D.fact 65 rfl), k_SIGNS := He.tupB_ok E0,
    g_NEXT := He.str_ok X G (D.fact 66 rfl),
    g_MOST_ITEMS := He.int_ok X G (D.fact 67 rfl),
    g_LEAST_OPTIONS := He.int_ok X G (D.fact 68 rfl),
    g_MOST_OPTIONS := He.int_ok X G (D.fact 69 rfl),
    g_MOST_FIELDS := He.int_ok X G (D.fact 70 rfl),
    g_MOST_VALUES := He.int_ok X G (D.fact 71 rfl),
    g_MOST_CASES := He.int_ok X G (D.fact 72 rfl),
    g_MOST_TIES := He.int_ok X G (D.fact 73 rfl),
    g_MOST_KINDS := He.int_ok X G (D.fact 74 rfl),
    a_DIRECTIONS := _, g_DIRECTIONS := He.glo_ok X G (D.fact 75 rfl), k_DIRECTIONS := He.tupB_ok E1,
    r_InvalidField := r_InvalidField,
    e_InvalidField := (by rw [hr_InvalidField]; exact erc_of E2 n_InvalidField E6),
    r_InvalidTie := r_InvalidTie,
    e_InvalidTie := (by rw [hr_InvalidTie]; exact erc_of E7 n_InvalidTie E11),
    r_InvalidKind := r_InvalidKind,
    e_InvalidKind := (by rw [hr_InvalidKind]; exact erc_of E12 n_InvalidKind E16),
    cBE := He.ga K "BestError", cMS := He.ga K "Missing", gBE := He.glo_ok X G (D.fact 79 rfl), gMS := He.glo_ok X G (D.fact 80 rfl) }
  obtain ⟨f_Rulebook_all_values, F_Rulebook_all_values, M_Rulebook_all_values, B_Rulebook_all_values⟩ := meth_of (ps := ["self"]) D 48 87 (fun _ _ _ _ _ _ us hl => match us, hl with | [_], _ => rfl) rfl rfl
  obtain ⟨oc_0, od_0, kV_0, dc_0, pm_0, an_0, ct_0, sl_0, lk_0, hc_0⟩ := tab_def D 49 rfl rfl rfl
  obtain ⟨oc_1, od_1, kV_1, dc_1, pm_1, an_1, ct_1, sl_1, lk_1, hc_1⟩ := tab_def D 43 rfl rfl rfl
  obtain ⟨oc_2, od_2, kV_2, dc_2, pm_2, an_2, ct_2, sl_2, lk_2, hc_2⟩ := tab_def D 44 rfl rfl rfl
  have e0 := hfa.symm.trans (He.glo_ok X G (D.fact 44 rfl))
  cases e0
  let R : RbC K mg := { C := He.ga K "Rulebook", g := He.glo_ok X G (D.fact 81 rfl), cl := He.cls_ok (D.fact 82 rfl), n1 := He.noat_ok (D.fact 84 rfl), n2 := He.noat_ok (D.fact 85 rfl), n3 := He.noat_ok (D.fact 86 rfl), ha := E17.1, hn := E17.2.1, ht := E17.2.2.1, hm := E17.2.2.2.1, k1 := E17.2.2.2.2.1, k2 := E17.2.2.2.2.2 }
  have M : RbM K mg R (He.cT K ("Rulebook", some "__init__")).1 (He.cT K ("Rulebook", some "__init__")).2 := {
    fI := _, od := od_0, an := an_0, oc := oc_0, kV := kV_0, doc := dc_0, pm := pm_0, ct := ct_0, osl := sl_0, lk := lk_0, hcd := hc_0, mkr := He.mkr_ok (D.fact 83 rfl),
    all_values := ⟨_, f_Rulebook_all_values, F_Rulebook_all_values, M_Rulebook_all_values, B_Rulebook_all_values⟩ }
  have S : BdM K mg (He.cT K ("_law_bounds_so", none)).1 := { f := _, od := od_1, an := an_1, oc := oc_1, kV := kV_1, doc := dc_1, pm := pm_1, ct := ct_1, osl := sl_1, lk := lk_1, hcd := hc_1, g := He.glo_ok X G (D.fact 43 rfl), kp := d_l_bounds_so.F.kp, b := (fun_mk (st := s_l_bounds_so) lk_1 hc_1 d_l_bounds_so.F.kp).binds (ps := []) (fun _ _ _ _ _ _ us hl => match us, hl with | [], _ => rfl) }
  have q1 : He.cT K ("Rulebook", some "__init__") ∈ hTf.map (He.cT K) := List.mem_map_of_mem (a := (("Rulebook", some "__init__") : He.Defn)) (List.mem_cons_self ..)
  have q2 : He.cT K ("_law_bounds_so", none) ∈ hTf.map (He.cT K) := List.mem_map_of_mem (a := (("_law_bounds_so", none) : He.Defn)) (List.mem_cons_of_mem _ (List.mem_cons_self ..))
  have q3 : He.cT K ("law", none) ∈ hTf.map (He.cT K) := List.mem_map_of_mem (a := (("law", none) : He.Defn)) (List.mem_cons_of_mem _ (List.mem_cons_of_mem _ (List.mem_singleton.mpr rfl)))
  have tl : ∀ p ∈ [((He.cT K ("Rulebook", some "__init__")).2, rbQ), ((He.cT K ("_law_bounds_so", none)).2, bdQ), ((He.cT K ("law", none)).2, lawQ)], (p.1 = (He.cT K ("Rulebook", some "__init__")).2 → p.2 = rbQ) ∧ (p.1 = (He.cT K ("_law_bounds_so", none)).2 → p.2 = bdQ) ∧ (p.1 = (He.cT K ("law", none)).2 → p.2 = lawQ) := fun p hp => by
    simp only [List.mem_cons, List.not_mem_nil, or_false] at hp
    rcases hp with rfl | rfl | rfl
    · exact ⟨fun _ => rfl, fun e => absurd e E18, fun e => absurd e E19⟩
    · exact ⟨fun e => absurd e.symm E18, fun _ => rfl, fun e => absurd e E20⟩
    · exact ⟨fun e => absurd e.symm E19, fun e => absurd e.symm E20, fun _ => rfl⟩
  refine ⟨_, hTf.map (He.cT K), spLaw0 K [((He.cT K ("Rulebook", some "__init__")).2, rbQ), ((He.cT K ("_law_bounds_so", none)).2, bdQ), ((He.cT K ("law", none)).2, lawQ)], fun p hp => ?_, fun p hp => ?_, fun p hp => ?_, fun s u => .of_eq rfl, fun H a ns hl _ hH hS => ⟨a, ns, rfl, hS, hl, fun p hp => ?_, fun _ => rfl⟩,
    fun base _ _ hTB => ok_law T M S (hTB _ q1) (hTB _ q2) (hTB _ q3) (List.mem_cons_self ..) (fun p hp => (tl p hp).1) (List.mem_cons_of_mem _ (List.mem_cons_self ..)) (fun p hp => (tl p hp).2.1) (List.mem_cons_of_mem _ (List.mem_cons_of_mem _ (List.mem_singleton.mpr rfl))) (fun p hp => (tl p hp).2.2) lk_2 hc_2⟩
  · obtain ⟨z, hz, rfl⟩ := List.mem_map.mp hp
    exact c.empty z hz
  · obtain ⟨z, hz, rfl⟩ := List.mem_map.mp hp
    exact c.out z hz
  · obtain ⟨z, hz, rfl⟩ := List.mem_map.mp hp
    exact PySem.W.codeHd_of_K X (c.hd z hz)
  · simp only [List.mem_cons, List.not_mem_nil, or_false] at hp
    rcases hp with rfl | rfl | rfl
    · exact TabS.nil (hH _ q1)
    · exact TabS.nil (hH _ q2)
    · exact TabS.nil (hH _ q3)
end Bh

open PySem PySem.W PySem.Calls PyProof.Rows in
set_option maxRecDepth 100000 in
set_option maxHeartbeats 0 in
theorem PySem.Challenge.cw_bestheard_k06_rulebooks_refused_holds : PySem.Challenge.rw_bestheard_k06_rulebooks_refused.Holds := by
  w_on; o_law
  refine HandSHeadRun.head_any (r := OpenLaw.row PySem.Challenge.rw_bestheard_k06_rulebooks_refused) (q := view (OpenLaw.row PySem.Challenge.rw_bestheard_k06_rulebooks_refused).prog [97]) (H := Bh.hHk) (ob := Bh.hOb) (M := 7000) (loose := Bh.hLo) (d := HandSHeadRun.topDef (OpenLaw.row PySem.Challenge.rw_bestheard_k06_rulebooks_refused).prog 97) (kwd := []) Bh.hOb_eq
    (by kernel_rfl) (fun s => by kernel_rfl) Bh.hRun (by kernel_rfl) (by kernel_rfl) (by kernel_rfl) (by rfl) (by first | assumption | decide +kernel) (by decide +kernel) ⟨rfl, rfl, rfl, rfl, rfl, by decide +kernel⟩ ?hw ?hc
  case hw => w_witness2
  case hc =>
    refine LamX.walk_ofTsE (l := PySem.Challenge.rw_bestheard_k06_rulebooks_refused) (n := 63) (k := 18) (x := "_law_script") (CX := fun _ => L2.CX0) rfl (by decide) (by kernel_rfl) ⟨rfl, by decide, by decide⟩ ?F (fun _ _ _ _ _ z => z)
    intro w mg fa h Y G hmg0
    obtain ⟨K, KX, c⟩ := Y
    have hmg : mg ("law" : PySem.Str) = some (.ref fa) := by
      have e : (HandSHeadRun.topDef (OpenLaw.row PySem.Challenge.rw_bestheard_k06_rulebooks_refused).prog 97).name = ("law" : PySem.Str) := by kernel_rfl
      rw [← e]
      exact hmg0
    exact ⟨K, KX, Bh.law_at KX G hmg c⟩
