import PyProof.Rows.All
import Wide.All
import OpenK.AllK
import Wide.FinOn
import KE.KStateDown
import KE.KExcInit
import HandS.ForMost
import HandS.Walk
import HandS.Defaults
import HandS.Head2
import HandS.HeadEnd
import HandS.HeadHook4
import HandS.HeadWalk
import PyProof.InstNe
import PySem.Challenge.RW_bestheard_k12_networks_built
import HandS.IsInst
import HandS.Deep
import HandS.Evl
import HandS.Steps
import HandS.More
import HandS.Zip
import HandS.Strs
import HandS.TupAny
import HandS.TupMul
import HandS.StrMore
import HandS.Style
import KE.DataEq
import HandS.Nested
import HandS.NestedK
import HandS.CallLocal
import HandS.StrSplit
import HandS.Star
import HandS.ExcField
import HandS.ExcInit
import HandS.ExcIs
import KE.KTryMore
import KE.KExcIs
import HandS.HotCalls
import HandS.Lambda
import HandS.EndTab
import HandS.MakeKwOnly
import HandS.WordsExc
import HandS.OwnEq
import HandS.Dict
import HandS.DictComp
import PyProof.DictMoreH
import OpenK.KOps
import KE.KOpsOwn
import PyProof.SeqIndex
import HandS.DictEq
import HandS.Text
import KE.KxPercentT
import PyProof.MeetsSeq2
import PyProof.Tail
import HandS.MethStar
import HandS.ClsMeth
import HandS.FStr
import HandS.Conv
import HandS.WordsDict
import HandS.TupLen
set_option Elab.async false
set_option linter.all false
set_option maxRecDepth 100000
set_option maxHeartbeats 2000000
namespace Bh
open PySem PySem.Spec PyProof.Rows L2
/-! ### the end of a law by one run of the top: what the Hook looks at -/
/-- a def of the top; a method -/
def dd (x : Str) (st : Stmt) : He.DefD := ⟨(x, none), x, x, defArgs st, defBody st, defScope st, [], []⟩
def dm (C m q : Str) (st : Stmt) : He.DefD := ⟨(C, some m), m, q, defArgs st, defBody st, defScope st, [], []⟩
abbrev ExcP (K : PySem.W.Frag) (x : Str) (bmB : List Value) (newId : String) : Prop :=
  PySem.W.excInitIn K (He.ga K x) bmB newId = true ∧ PySem.W.excOver K (He.ga K x) bmB = true ∧ PySem.W.hasDictIn K (He.ga K x) = true ∧ PySem.W.findIn K (.ref (He.ga K x)) "__setattr__" = some (some (.builtin "object.__setattr__")) ∧
  PySem.W.findIn K (.ref (He.ga K x)) "__getattribute__" = some (some (.builtin "BaseException.__getattribute__")) ∧ PySem.W.findIn K (.ref (He.ga K x)) "__getattr__" = some none ∧
  PySem.W.findIn K (.ref (He.ga K x)) "__class__" = some (some (.builtin "object.__class__")) ∧ PySem.W.mroIn K (He.ga K x) (.type "object") = some true ∧
  PySem.W.specialIn K (.builtin "object.__class__") "__get__" = some (some (.builtin "getset_descriptor.__get__")) ∧ PySem.W.takesIn K (.builtin "object.__class__") = some true ∧
  PySem.W.keepIn K (.ref (He.ga K x)) = true ∧ PySem.W.subIn K (.ref (He.ga K x)) (.type "BaseException") = some true ∧ PySem.W.typeIn K (.ref (He.ga K x)) = some (.type "type")
abbrev ExcI (K : PySem.W.Frag) (x : Str) : Prop := PySem.W.findIn K (.ref (He.ga K x)) "__init__" = some (some (.ref (He.ma K (He.ga K x) "__init__"))) ∧ PySem.W.typeIn K (.ref (He.ma K (He.ga K x) "__init__")) = some (.type "function")
abbrev NoAt (K : PySem.W.Frag) (x : Str) (ys : List Str) : Prop := ∀ y ∈ ys, PySem.W.findIn K (.ref (He.ga K x)) y = some none
abbrev ClsP (K : PySem.W.Frag) (x : Str) : Prop :=
  PySem.W.findIn K (.ref (He.ga K x)) "__class__" = some (some (.builtin "object.__class__")) ∧ PySem.W.specialIn K (.builtin "object.__class__") "__get__" = some (some (.builtin "getset_descriptor.__get__")) ∧ PySem.W.takesIn K (.builtin "object.__class__") = some true ∧
  PySem.W.mroIn K (He.ga K x) (.type "object") = some true ∧ PySem.W.kitOne K (.ref (He.ga K x)) (.ref (He.ga K x)) = some true ∧ PySem.W.kitOne K (.type "tuple") (.ref (He.ga K x)) = some false
abbrev CallP (K : PySem.W.Frag) (x : Str) : Prop := PySem.W.fnIn K (He.ma K (He.ga K x) "__call__") = true
abbrev veB : List Value := [.type "ValueError", .type "Exception", .type "BaseException", .type "object"]
abbrev leB : List Value := [.type "LookupError", .type "Exception", .type "BaseException", .type "object"]
/-! ### a Hook over fewer objects: what the module's names hold, the classes' own names, the code objects -/
def pickO (o : Obj) : List Addr := match o.data with
  | .dict es _ => es.toList.flatMap fun e => He.refV e.val
  | .func fd => He.refV fd.code ++ He.refV fd.defaults ++ He.refV fd.kwdefaults
  | .cls cd => [cd.ns]
  | _ => []
def nextA (g : Addr → Option Obj) (as : List Addr) : List Addr := as.flatMap fun a => match g a with
  | some o => pickO o
  | none => []
def asY (g : Addr → Option Obj) : List Addr := mainGlobals :: (nextA g [mainGlobals] ++ (nextA g (nextA g [mainGlobals]) ++ (nextA g (nextA g (nextA g [mainGlobals])) ++ nextA g (nextA g (nextA g (nextA g [mainGlobals]))) ++ nextA g (nextA g (nextA g (nextA g (nextA g [mainGlobals])))))))
def obsY (fa : List He.Fa) (fn : List He.DefD) (ts : List He.Tab) (tf : List He.Defn) (ex : PySem.W.Frag → Bool) (g : Addr → Option Obj) : He.AlX := (He.obsT fa fn ts (He.frT g (asY g)), ex (He.frT g (asY g)) && He.tabsB g tf (He.frT g (asY g)))
theorem says_any {fa : List He.Fa} {fn : List He.DefD} {ts : List He.Tab} {tf : List He.Defn} {ex : PySem.W.Frag → Bool} {w : World} {h : Heap} {K : PySem.W.Frag} (e1 : He.obsT fa fn ts K = He.valT fn ts w) (e2 : (ex K && He.tabsB h.get? tf K) = true)
    (no : ∀ a o, h.get? a = some o → He.emptyTab o = true → K.lookup a = none) : He.SaysX fa fn ts tf ex w h K := by
  obtain ⟨m1, m2⟩ := He.ba e2
  have all : ∀ p ∈ tf, PySem.W.codeHdIn K (He.cT K p).1 (He.cT K p).2 = true ∧ ∃ o, h.get? (He.cT K p).2 = some o ∧ He.emptyTab o = true := by
    intro p hp
    have z := He.ba (List.all_eq_true.mp m2 p hp)
    refine ⟨z.1, ?_⟩
    have z2 := z.2
    revert z2
    cases h.get? (He.cT K p).2 with
    | none => exact fun c => nomatch c
    | some o => exact fun c => ⟨o, rfl, c⟩
  refine { t := e1, more := m1, hd := fun p hp => (all p hp).1, out := fun p hp => ?_, empty := fun p hp => ?_ }
  · obtain ⟨o, g1, g2⟩ := (all p hp).2
    exact no _ o g1 g2
  · obtain ⟨o, g1, g2⟩ := (all p hp).2
    rw [g1, He.emptyTab_eq g2]
def hookY (fa : List He.Fa) (fn : List He.DefD) (ts : List He.Tab) (tf : List He.Defn) (ex : PySem.W.Frag → Bool) : PySem.W.Hook where
  α := He.AlX
  obs s := obsY fa fn ts tf ex s.heap.get?
  val w := He.valX fn ts w
  says w h := ∃ K : PySem.W.Frag, K.In h ∧ He.SaysX fa fn ts tf ex w h K
  of w s e := ⟨_, He.frT_in, says_any (congrArg (fun z : He.AlX => z.1) e) (congrArg (fun z : He.AlX => z.2) e) fun _ _ => He.frT_none⟩
  keeps w h h' := fun ⟨K, k1, k2⟩ k => ⟨K, PySem.W.Frag.In.keeps k1 k, { t := k2.t, more := k2.more, hd := k2.hd, out := k2.out, empty := fun p hp => k _ _ (k2.empty p hp) }⟩
theorem obsY_eq {fa : List He.Fa} {fn : List He.DefD} {ts : List He.Tab} {tf : List He.Defn} {ex : PySem.W.Frag → Bool} {g : Addr → Option Obj} {s : Shared} (e : ∀ a, g a = s.heap.get? a) : obsY fa fn ts tf ex g = (hookY fa fn ts tf ex).obs s := by
  rw [show g = s.heap.get? from funext e]
  rfl
end Bh

set_option Elab.async false
set_option linter.all false
set_option maxRecDepth 100000
set_option maxHeartbeats 2000000
namespace Bh
open PySem PySem.Spec PyProof.Rows L2
/-! ### what the Hook looks at besides: a class over object alone, defaults that are objects -/
def nsB2 (K : PySem.W.Frag) (N f : Addr) : Bool := match K.lookup N with
  | some ⟨_, _, .dict es _, _⟩ => (es.toList.all fun e => match e.key with
      | .str _ _ => true
      | _ => false) && (decide (nsFind es "__eq__" = some (.ref f)) && decide (nsFind es "__ne__" = none))
  | _ => false
def neB (K : PySem.W.Frag) (C f : Addr) : Bool := match K.lookup C with
  | some ⟨.type "type", _, .cls cd, sl⟩ => (match cd.mro, sl.toList with
    | [.ref C', .type o], [_, _, _, _, some (.builtin _), _] => C' == C && (decide (o = "object") && (!cd.hasDel && (cd.hasDict && nsB2 K cd.ns f)))
    | _, _ => false)
  | _ => false
def fnB (K : PySem.W.Frag) (f : Addr) : Bool := match K.lookup f with
  | some ⟨.type c, _, _, _⟩ => decide (c = "function")
  | _ => false
/-- a keyword-only default that is an object -/
def kwAd (C m k : Str) (K : PySem.W.Frag) : Addr := match K.lookup (He.fAd K (C, some m)) with
  | some ⟨_, _, .func fd, _⟩ => (match fd.kwdefaults with
    | .ref D => (match PySem.W.nsIn K D k with
      | some (some (.ref a)) => a
      | _ => 0)
    | _ => 0)
  | _ => 0
def tupE (K : PySem.W.Frag) (z : Addr) : Bool := match K.lookup z with
  | some ⟨.type c, _, .seq its _, _⟩ => decide (c = "tuple") && decide (its.toList = [])
  | _ => false
end Bh

set_option Elab.async false
set_option linter.all false
set_option maxRecDepth 100000
set_option maxHeartbeats 1000000
namespace Bh
open PySem PySem.Spec PyProof.Rows L2
def topS (i : Nat) : Stmt := PySem.Challenge.pw_bestheard_k12_networks_built.main.body.getD i (.Pass ⟨0, 0, 0, 0⟩)
abbrev s_is_name : Stmt := topS 16
theorem sc_is_name : FnScope ["value"] ["value"] (defScope s_is_name) := ⟨rfl, rfl, rfl, by decide +kernel, rfl, by decide +kernel, by decide +kernel⟩
abbrev s_is_word : Stmt := topS 17
theorem sc_is_word : FnScope ["value", "characters", "character"] ["value", "characters"] (defScope s_is_word) := ⟨rfl, rfl, rfl, by decide +kernel, rfl, by decide +kernel, by decide +kernel⟩
abbrev s_Network__init : Stmt := inClass (topS 20) 0
theorem sc_Network__init : FnScope ["self", "cells", "ties"] ["self", "cells", "ties"] (defScope s_Network__init) := ⟨rfl, rfl, rfl, by decide +kernel, rfl, by decide +kernel, by decide +kernel⟩
abbrev s_Network_add_cell : Stmt := inClass (topS 20) 3
theorem sc_Network_add_cell : FnScope ["self", "name", "kind"] ["self", "name", "kind"] (defScope s_Network_add_cell) := ⟨rfl, rfl, rfl, by decide +kernel, rfl, by decide +kernel, by decide +kernel⟩
abbrev s_Network_add_tie : Stmt := inClass (topS 20) 4
theorem sc_Network_add_tie : FnScope ["self", "tie", "source", "target"] ["self", "tie", "source", "target"] (defScope s_Network_add_tie) := ⟨rfl, rfl, rfl, by decide +kernel, rfl, by decide +kernel, by decide +kernel⟩
abbrev s_Network_cut : Stmt := inClass (topS 20) 5
theorem sc_Network_cut : FnScope ["self", "tie", "source", "target", "words", "word"] ["self", "tie", "source", "target"] (defScope s_Network_cut) := ⟨rfl, rfl, rfl, by decide +kernel, rfl, by decide +kernel, by decide +kernel⟩
abbrev s_Network_drop : Stmt := inClass (topS 20) 6
theorem sc_Network_drop : FnScope ["self", "name", "tie"] ["self", "name"] (defScope s_Network_drop) := ⟨rfl, rfl, rfl, by decide +kernel, rfl, by decide +kernel, by decide +kernel⟩
abbrev s_Network_cells : Stmt := inClass (topS 20) 7
theorem sc_Network_cells : FnScope ["self"] ["self"] (defScope s_Network_cells) := ⟨rfl, rfl, rfl, by decide +kernel, rfl, by decide +kernel, by decide +kernel⟩
abbrev s_Network_ties : Stmt := inClass (topS 20) 8
theorem sc_Network_ties : FnScope ["self"] ["self"] (defScope s_Network_ties) := ⟨rfl, rfl, rfl, by decide +kernel, rfl, by decide +kernel, by decide +kernel⟩
abbrev s_Network_ties_into : Stmt := inClass (topS 20) 9
theorem sc_Network_ties_into : FnScope ["self", "name", "tie"] ["self", "name"] (defScope s_Network_ties_into) := ⟨rfl, rfl, rfl, by decide +kernel, rfl, by decide +kernel, by decide +kernel⟩
abbrev s_Network_ties_from : Stmt := inClass (topS 20) 10
theorem sc_Network_ties_from : FnScope ["self", "name", "tie"] ["self", "name"] (defScope s_Network_ties_from) := ⟨rfl, rfl, rfl, by decide +kernel, rfl, by decide +kernel, by decide +kernel⟩
abbrev s_Network__getitem : Stmt := inClass (topS 20) 11
theorem sc_Network__getitem : FnScope ["self", "name"] ["self", "name"] (defScope s_Network__getitem) := ⟨rfl, rfl, rfl, by decide +kernel, rfl, by decide +kernel, by decide +kernel⟩
abbrev s_Network__setitem : Stmt := inClass (topS 20) 12
theorem sc_Network__setitem : FnScope ["self", "name", "kind"] ["self", "name", "kind"] (defScope s_Network__setitem) := ⟨rfl, rfl, rfl, by decide +kernel, rfl, by decide +kernel, by decide +kernel⟩
abbrev s_Network_set_kind : Stmt := inClass (topS 20) 13
theorem sc_Network_set_kind : FnScope ["self", "name", "kind"] ["self", "name", "kind"] (defScope s_Network_set_kind) := ⟨rfl, rfl, rfl, by decide +kernel, rfl, by decide +kernel, by decide +kernel⟩
abbrev s_Network__contains : Stmt := inClass (topS 20) 15
theorem sc_Network__contains : FnScope ["self", "name"] ["self", "name"] (defScope s_Network__contains) := ⟨rfl, rfl, rfl, by decide +kernel, rfl, by decide +kernel, by decide +kernel⟩
abbrev s_Network__len : Stmt := inClass (topS 20) 16
theorem sc_Network__len : FnScope ["self"] ["self"] (defScope s_Network__len) := ⟨rfl, rfl, rfl, by decide +kernel, rfl, by decide +kernel, by decide +kernel⟩
abbrev s_Network__eq : Stmt := inClass (topS 20) 17
theorem sc_Network__eq : FnScope ["self", "other"] ["self", "other"] (defScope s_Network__eq) := ⟨rfl, rfl, rfl, by decide +kernel, rfl, by decide +kernel, by decide +kernel⟩
abbrev s_Network__repr : Stmt := inClass (topS 20) 24
theorem sc_Network__repr : FnScope ["self"] ["self"] (defScope s_Network__repr) := ⟨rfl, rfl, rfl, by decide +kernel, rfl, by decide +kernel, by decide +kernel⟩
abbrev s_Network_check_known : Stmt := inClass (topS 20) 25
theorem sc_Network_check_known : FnScope ["self", "name"] ["self", "name"] (defScope s_Network_check_known) := ⟨rfl, rfl, rfl, by decide +kernel, rfl, by decide +kernel, by decide +kernel⟩
abbrev s_kinds_of : Stmt := topS 21
theorem sc_kinds_of : FnScope ["cells", "kinds", "name", "kind"] ["cells"] (defScope s_kinds_of) := ⟨rfl, rfl, rfl, by decide +kernel, rfl, by decide +kernel, by decide +kernel⟩
abbrev s_ties_between : Stmt := topS 22
theorem sc_ties_between : FnScope ["kinds", "ties", "found", "tie", "source", "target"] ["kinds", "ties"] (defScope s_ties_between) := ⟨rfl, rfl, rfl, by decide +kernel, rfl, by decide +kernel, by decide +kernel⟩
abbrev s_check_cell : Stmt := topS 23
theorem sc_check_cell : FnScope ["kinds", "name", "kind"] ["kinds", "name", "kind"] (defScope s_check_cell) := ⟨rfl, rfl, rfl, by decide +kernel, rfl, by decide +kernel, by decide +kernel⟩
abbrev s_check_tie : Stmt := topS 24
theorem sc_check_tie : FnScope ["kinds", "ties", "tie", "source", "target", "name"] ["kinds", "ties", "tie", "source", "target"] (defScope s_check_tie) := ⟨rfl, rfl, rfl, by decide +kernel, rfl, by decide +kernel, by decide +kernel⟩
abbrev s_is_kind : Stmt := topS 25
theorem sc_is_kind : FnScope ["value"] ["value"] (defScope s_is_kind) := ⟨rfl, rfl, rfl, by decide +kernel, rfl, by decide +kernel, by decide +kernel⟩
abbrev s_l_bag : Stmt := topS 27
theorem sc_l_bag : FnScope ["_law_script", "_law_seed", "_law_cell"] ["_law_script"] (defScope s_l_bag) := ⟨rfl, rfl, rfl, by decide +kernel, rfl, by decide +kernel, by decide +kernel⟩
abbrev s_l_draw : Stmt := topS 28
theorem sc_l_draw : FnScope ["_law_bag_here", "_law_many", "_law_cell", "_law_found", "_law_old"] ["_law_bag_here", "_law_many"] (defScope s_l_draw) := ⟨rfl, rfl, rfl, by decide +kernel, rfl, by decide +kernel, by decide +kernel⟩
abbrev s_l_any : Stmt := topS 29
theorem sc_l_any : FnScope ["_law_bag_here", "_law_row"] ["_law_bag_here", "_law_row"] (defScope s_l_any) := ⟨rfl, rfl, rfl, by decide +kernel, rfl, by decide +kernel, by decide +kernel⟩
abbrev s_l_like : Stmt := topS 30
theorem sc_l_like : FnScope ["_law_found", "_law_due", "_law_key", "_law_one", "_law_other"] ["_law_found", "_law_due"] (defScope s_l_like) := ⟨rfl, rfl, rfl, by decide +kernel, rfl, by decide +kernel, by decide +kernel⟩
abbrev s_l_words : Stmt := topS 31
theorem sc_l_words : FnScope ["_law_bag_here", "_law_many", "_law_tail", "_law_at", "_law_start", "_law_letters", "_law_k"] ["_law_bag_here", "_law_many"] (defScope s_l_words) := ⟨rfl, rfl, rfl, by decide +kernel, rfl, by decide +kernel, by decide +kernel⟩
abbrev s_l_kind_word : Stmt := topS 32
theorem sc_l_kind_word : FnScope ["_law_bag_here", "_law_word"] ["_law_bag_here"] (defScope s_l_kind_word) := ⟨rfl, rfl, rfl, by decide +kernel, rfl, by decide +kernel, by decide +kernel⟩
abbrev s_l_grow : Stmt := topS 33
theorem sc_l_grow : FnScope ["_law_bag_here", "_law_web", "_law_names", "_law_cells_z", "_law_ties_z", "_law_way", "_law_fresh", "_law_name_z", "_law_kind", "_law_there", "_law_row", "_law_kept", "_law_cell", "_law_tie", "_law_old"] ["_law_bag_here", "_law_web", "_law_names", "_law_cells_z", "_law_ties_z"] (defScope s_l_grow) := ⟨rfl, rfl, rfl, by decide +kernel, rfl, by decide +kernel, by decide +kernel⟩
abbrev s_l_web_so : Stmt := topS 34
theorem sc_l_web_so : FnScope ["_law_web", "_law_cells_z", "_law_ties_z", "_law_found", "_law_rows", "_law_cell", "_law_kind", "_law_into", "_law_away", "_law_due", "_law_face", "_law_row"] ["_law_web", "_law_cells_z", "_law_ties_z"] (defScope s_l_web_so) := ⟨rfl, rfl, rfl, by decide +kernel, rfl, by decide +kernel, by decide +kernel⟩
abbrev s_law : Stmt := topS 35
theorem sc_law : FnScope ["_law_script", "_law_bag_here", "_law_names", "_law_web", "_law_cells_z", "_law_ties_z", "_law_step", "_law_handed", "_law_twin", "_law_odd", "_law_one"] ["_law_script"] (defScope s_law) := ⟨rfl, rfl, rfl, by decide +kernel, rfl, by decide +kernel, by decide +kernel⟩
end Bh

set_option Elab.async false
set_option linter.all false
set_option maxRecDepth 100000
set_option maxHeartbeats 4000000
set_option synthInstance.maxSize 10000
set_option synthInstance.maxHeartbeats 400000
namespace Bh
open PySem PySem.Spec PyProof.Rows L2
def hFn0 : List He.DefD := [dd "is_name" s_is_name, dd "_is_word" s_is_word, dd "_kinds_of" s_kinds_of, dd "_ties_between" s_ties_between, dd "_check_cell" s_check_cell, dd "_check_tie" s_check_tie, dd "_is_kind" s_is_kind, dd "_law_bag" s_l_bag, dd "_law_draw" s_l_draw, dd "_law_any" s_l_any, dd "_law_like" s_l_like, dd "_law_words" s_l_words, dd "_law_kind_word" s_l_kind_word, dd "_law_grow" s_l_grow, dd "_law_web_so" s_l_web_so, dd "law" s_law, dm "Network" "add_cell" "Network.add_cell" s_Network_add_cell, dm "Network" "add_tie" "Network.add_tie" s_Network_add_tie]
def hFn1 : List He.DefD := [dm "Network" "cut" "Network.cut" s_Network_cut, dm "Network" "drop" "Network.drop" s_Network_drop, dm "Network" "cells" "Network.cells" s_Network_cells, dm "Network" "ties" "Network.ties" s_Network_ties, dm "Network" "ties_into" "Network.ties_into" s_Network_ties_into, dm "Network" "ties_from" "Network.ties_from" s_Network_ties_from, dm "Network" "__getitem__" "Network.__getitem__" s_Network__getitem, dm "Network" "__setitem__" "Network.__setitem__" s_Network__setitem, dm "Network" "set_kind" "Network.set_kind" s_Network_set_kind, dm "Network" "__contains__" "Network.__contains__" s_Network__contains, dm "Network" "__len__" "Network.__len__" s_Network__len, dm "Network" "__eq__" "Network.__eq__" s_Network__eq, dm "Network" "__repr__" "Network.__repr__" s_Network__repr, dm "Network" "_check_known" "Network._check_known" s_Network_check_known, ⟨("Network", some "__init__"), "__init__", "Network.__init__", defArgs s_Network__init, defBody s_Network__init, defScope s_Network__init, [], [("cells", .adr (kwAd "Network" "__init__" "cells")), ("ties", .adr (kwAd "Network" "__init__" "ties"))]⟩]
def hFn : List He.DefD := hFn0 ++ hFn1
def hFa0 : List He.Fa := [.glo "is_name", .glo "_is_word", .glo "_kinds_of", .glo "_ties_between", .glo "_check_cell", .glo "_check_tie", .glo "_is_kind", .glo "_law_bag", .glo "_law_draw", .glo "_law_any", .glo "_law_like", .glo "_law_words", .glo "_law_kind_word", .glo "_law_grow", .glo "_law_web_so", .glo "law", .free "all", .free "dict"]
def hFa1 : List He.Fa := [.free "isinstance", .free "len", .free "list", .free "range", .free "sorted", .free "tuple", .free "int", .free "zip", .free "bool", .free "str", .free "repr", .str "LETTERS" "abcdefghijklmnopqrstuvwxyz", .int "LONGEST" 8, .glo "NUMBERS", .glo "Network", .cls "Network", .mkr "Network", .noat "Network" "_cells"]
def hFa2 : List He.Fa := [.noat "Network" "_ties", .meth "Network" "add_cell", .meth "Network" "add_tie", .meth "Network" "cut", .meth "Network" "drop", .meth "Network" "cells", .meth "Network" "ties", .meth "Network" "ties_into", .meth "Network" "ties_from", .meth "Network" "__getitem__", .meth "Network" "__setitem__", .meth "Network" "set_kind", .meth "Network" "__contains__", .meth "Network" "__len__", .meth "Network" "__eq__", .meth "Network" "__repr__", .meth "Network" "_check_known"]
def hFa : List He.Fa := hFa0 ++ hFa1 ++ hFa2
def hTf : List He.Defn := []
abbrev ExF0 (K : PySem.W.Frag) : Prop := (He.tupB K "NUMBERS" [.str ".0", .str ".1", .str ".2"] = true) ∧
  (ClsP K "Network") ∧
  (PySem.W.noSeq K (He.ga K "Network") = true) ∧
  (PySem.W.subIn K (.type "tuple") (.ref (He.ga K "Network")) = some false) ∧
  (PySem.W.fnIn K (He.ma K (He.ga K "Network") "__getitem__") = true) ∧
  (neB K (He.ga K "Network") (He.ma K (He.ga K "Network") "__eq__") = true) ∧
  (fnB K (He.ma K (He.ga K "Network") "__eq__") = true) ∧
  (tupE K (kwAd "Network" "__init__" "cells" K) = true) ∧
  (tupE K (kwAd "Network" "__init__" "ties" K) = true)
def hEx (K : PySem.W.Frag) : Bool := decide (ExF0 K)
theorem hEx_of {K : PySem.W.Frag} (e : hEx K = true) : ExF0 K := of_decide_eq_true e
abbrev hR : PySem.W.OpenRow := PySem.W.OpenLaw.row PySem.Challenge.rw_bestheard_k12_networks_built
abbrev hHk : PySem.W.Hook := hookY hFa hFn [] hTf hEx
def hOb (s : PySem.W.SharedT) : He.AlX := obsY hFa hFn [] hTf hEx (HandSHeadRun.getT s)
theorem hOb_eq (s : PySem.W.SharedT) : hOb s = hHk.obs s.abs := obsY_eq (HandSHeadRun.getT_eq s)
def hLo0 : List Str := ["_wall", "__name__", "copy_of", "__name__", "BestError", "Missing", "InvalidName", "InvalidNetwork", "DuplicateCell", "DuplicateTie", "KindsDiffer", "UnknownCell", "MissingTie", "__name__", "LETTERS", "LONGEST", "is_name", "_is_word"]
def hLo1 : List Str := ["__name__", "NUMBERS", "Network", "_kinds_of", "_ties_between", "_check_cell", "_check_tie", "_is_kind", "__name__", "_law_bag", "_law_draw", "_law_any", "_law_like", "_law_words", "_law_kind_word", "_law_grow", "_law_web_so"]
def hLo : List Str := hLo0 ++ hLo1
set_option maxHeartbeats 0 in
theorem hRun (w : World) : HandSHeadRun.RunEq hR (PySem.W.view hR.prog [35]) hHk hOb 7000 hLo w := by
  intro os
  kernel_rfl
end Bh

set_option Elab.async false
set_option linter.all false
set_option maxRecDepth 100000
namespace Bh
open PySem PySem.Spec PyProof.Rows L2
/-! ### what the laws of this set have in common: constants, defs of the top, the drawing bag -/
section
variable {X : Cx} {x z : Str} {i : Int} {a : Addr} {pos : Pos}
theorem pe_gS (hg : Gl X x) (hm : ∃ t, X.mg x = some (.str z t)) (hd : (x == ("__debug__" : Str)) = false := by decide) : PE X (.Name x pos) (tC (.str z)) := by
  obtain ⟨t, hm⟩ := hm
  exact pe_glob hg hm ⟨t, rfl⟩ hd
theorem pe_gI (hg : Gl X x) (hm : ∃ t, X.mg x = some (.int i t)) (hd : (x == ("__debug__" : Str)) = false := by decide) : PE X (.Name x pos) (tC (.int i)) := by
  obtain ⟨t, hm⟩ := hm
  exact pe_glob hg hm ⟨t, rfl⟩ hd
theorem pe_gR (hg : Gl X x) (hm : X.mg x = some (.ref a)) (hd : (x == ("__debug__" : Str)) = false := by decide) : PE X (.Name x pos) (tC (.ref a)) :=
  pe_glob hg hm rfl hd
end
theorem pe_tyN {X : Cx} {x : Str} {pos : Pos} (n : String) (hg : Gl X x) (hm : X.mg x = none) (hv : bootBuiltins x = some (.type n)) (hnn : x ≠ "__name__" := by decide) (hdb : (x == ("__debug__" : Str)) = false := by decide) : PE X (.Name x pos) (tC (.ty n)) := pe_bltn hg hm hv rfl hnn hdb
/-- a def of the top: where it stands, what its name holds, how it binds -/
structure Df (K : PySem.W.Frag) (mg : Str → Option Value) (x : Str) (st : Stmt) (ps : List Str) (f : Addr) (fd : FuncData) : Prop where
  F : Fun K x x st f fd
  g : mg x = some (.ref f)
  b : Binds K fd ps []
theorem Df.kp {K : PySem.W.Frag} {mg : Str → Option Value} {x : Str} {st : Stmt} {ps : List Str} {f : Addr} {fd : FuncData} (d : Df K mg x st ps f fd) : PySem.W.keepIn K (.ref f) = true := d.F.kp
theorem same_new {H : Hp} {p : Addr} {o : HO} (h : H p = none) : Same H (upd H p o) := fun b u e => by
  rw [upd_ne (ne_of_none e h)]
  exact e
theorem Same.tup {K : PySem.W.Frag} {H H' : Hp} {a : Addr} {xs : List V} (e : Same H H') (h : SqT K H a xs) : SqT K H' a xs := by
  rcases h with (h | ⟨o, h⟩) | h
  · exact .inl (.inl (e _ _ h))
  · exact .inl (.inr ⟨o, e _ _ h⟩)
  · exact .inr h
/-- the bag of a law: the script's ints at l, how many are taken, what is left of a great one, the seed -/
def BagAt (b l : Addr) (H : Hp) : Prop := ∃ (ns : List Int) (i c s : Int), H b = some (.lst [.ref l, .int i, .int c, .int s]) ∧ H l = some (.lst (ns.map V.int)) ∧ ns.length ≤ 63 ∧ 0 ≤ i ∧ i ≤ (ns.length : Int) ∧ 0 ≤ c ∧ 0 ≤ s ∧ s < 2147483647
/-- G: all that is known apart from the bag at b, l -/
structure Wd (b l : Addr) (G H : Hp) : Prop where
  nb : G b = none
  nl : G l = none
  sm : Same G H
  bag : BagAt b l H
section
variable {b l p q : Addr} {G G' H H' : Hp} {o o' : HO}
theorem BagAt.b_some (h : BagAt b l H) : ∃ o, H b = some o := by
  obtain ⟨_, _, _, _, h, _⟩ := h
  exact ⟨_, h⟩
theorem BagAt.l_some (h : BagAt b l H) : ∃ o, H l = some o := by
  obtain ⟨_, _, _, _, _, h, _⟩ := h
  exact ⟨_, h⟩
theorem BagAt.same (h : BagAt b l H) (e : Same H H') : BagAt b l H' := by
  obtain ⟨ns, i, c, s, h1, h2, r⟩ := h
  exact ⟨ns, i, c, s, e _ _ h1, e _ _ h2, r⟩
theorem Wd.b_ne (w : Wd b l G H) (hp : H p = none) : p ≠ b := fun z => by
  obtain ⟨o, e⟩ := w.bag.b_some
  rw [← z, hp] at e
  cases e
theorem Wd.l_ne (w : Wd b l G H) (hp : H p = none) : p ≠ l := fun z => by
  obtain ⟨o, e⟩ := w.bag.l_some
  rw [← z, hp] at e
  cases e
theorem Wd.same (w : Wd b l G H) (e : Same H H') : Wd b l G H' := ⟨w.nb, w.nl, w.sm.trans e, w.bag.same e⟩
/-- a new object -/
theorem Wd.new (w : Wd b l G H) (hp : H p = none) : Wd b l (upd G p o) (upd H p o) := by
  refine ⟨?_, ?_, fun a u e => ?_, w.bag.same (same_new hp)⟩
  · rw [upd_ne (w.b_ne hp).symm]
    exact w.nb
  · rw [upd_ne (w.l_ne hp).symm]
    exact w.nl
  · by_cases h : a = p
    · rw [h, upd_same] at e ⊢
      exact e
    · rw [upd_ne h] at e ⊢
      exact w.sm _ _ e
theorem Wd.free (w : Wd b l G H) (hp : H p = none) : G p = none := w.sm.free hp
theorem Wd.sameG (w : Wd b l G H) (hp : H p = none) : Same G (upd G p o) := same_new (w.free hp)
/-- an object that is known changes -/
theorem Wd.mut (w : Wd b l G H) (hq : G q = some o) : Wd b l (upd G q o') (upd H q o') := by
  have nb : q ≠ b := fun z => by
    rw [z, w.nb] at hq
    cases hq
  have nl : q ≠ l := fun z => by
    rw [z, w.nl] at hq
    cases hq
  obtain ⟨ns, i, c, s, h1, h2, r⟩ := w.bag
  refine ⟨?_, ?_, fun a u e => ?_, ns, i, c, s, ?_, ?_, r⟩
  · rw [upd_ne nb.symm]
    exact w.nb
  · rw [upd_ne nl.symm]
    exact w.nl
  · by_cases h : a = q
    · rw [h, upd_same] at e ⊢
      exact e
    · rw [upd_ne h] at e ⊢
      exact w.sm _ _ e
  · rw [upd_ne nb.symm]
    exact h1
  · rw [upd_ne nl.symm]
    exact h2
/-- what a def leaves that knows nothing of the bag: G' has more, new things -/
theorem Wd.grow (w : Wd b l G H) (e : Same H H') (g : Same G' H') (n : ∀ a o, G' a = some o → G a = none → H a = none) : Wd b l G' H' := by
  have key : ∀ a, G a = none → (∃ o, H a = some o) → G' a = none := fun a ha ⟨o, ho⟩ => by
    cases q : G' a with
    | none => rfl
    | some u =>
      have z := n a u q ha
      rw [ho] at z
      cases z
  exact ⟨key _ w.nb w.bag.b_some, key _ w.nl w.bag.l_some, g, w.bag.same e⟩
/-- the bag alone changes -/
theorem Wd.bagged (w : Wd b l G H) (h : BagAt b l (upd H b o)) : Wd b l G (upd H b o) := by
  refine ⟨w.nb, w.nl, fun a u e => ?_, h⟩
  rw [upd_ne (ne_of_none e w.nb)]
  exact w.sm _ _ e
end
theorem p31 : (0 : Int) < 2147483647 := by decide
theorem p8117 : (0 : Int) < 8117 := by decide
/-! ### the promises of the bag's defs -/
def spBag (K : PySem.W.Frag) : Sp := fun vs H Q _ => ∃ (a : Addr) (ns : List Int), vs = [.ref a] ∧ SqL K H a (ns.map V.int) ∧ ns.length ≤ 63 ∧ ∀ (b l : Addr) (H' : Hp), H b = none → H l = none → Same H H' → BagAt b l H' → Q (.ref b) H'
def spDraw : Sp := fun vs H Q _ => ∃ (b l : Addr) (G : Hp) (n : Int), vs = [.ref b, .int n] ∧ 0 < n ∧ n < 1073741824 ∧ Wd b l G H ∧ ∀ (r : Int) (H' : Hp), 0 ≤ r → r < n → Wd b l G H' → Q (.int r) H'
/-- the same, by what any def that draws may lean on -/
theorem wd_start {b l : Addr} {H H' : Hp} (hb : H b = none) (hl : H l = none) (e : Same H H') (h : BagAt b l H') : Wd b l H H' := ⟨hb, hl, e, h⟩
theorem get_map {ns : List Int} {i : Nat} {v : V} (h : (ns.map V.int)[i]? = some v) : ∃ z, ns[i]? = some z ∧ v = .int z := by
  rw [List.getElem?_map] at h
  cases e : ns[i]? with
  | none =>
    rw [e] at h
    cases h
  | some z =>
    rw [e] at h
    exact ⟨z, rfl, (Option.some.inj h).symm⟩
theorem at_nn {α : Type} {xs : List α} {i : Int} {v : α} (h0 : 0 ≤ i) (h : xs[i.toNat]? = some v) : atI xs i = some v := by
  have e : i = ((i.toNat : Nat) : Int) := by omega
  rw [e]
  exact atI_nat h
theorem at_lt {α : Type} {xs : List α} {i : Int} (h0 : 0 ≤ i) (h1 : i < (xs.length : Int)) : ∃ v, atI xs i = some v ∧ v ∈ xs := by
  have h : i.toNat < xs.length := by omega
  exact ⟨xs[i.toNat], at_nn h0 (List.getElem?_eq_getElem h), List.getElem_mem h⟩
end Bh

set_option Elab.async false
set_option linter.all false
set_option maxRecDepth 100000
namespace Bh
open PySem PySem.Spec PyProof.Rows L2
/-! ### one of two rules -/
section
variable {X : Cx}
theorem pe_or {e : Expr} {t u : TE} (h1 : PE X e t) (h2 : PE X e u) : PE X e (fun σ H Q => t σ H Q ∨ u σ H Q) :=
  ⟨fun pins s σ H Q I h => h.elim (h1.run pins s σ H Q I) (h2.run pins s σ H Q I)⟩
theorem pi_or {tg it : Expr} {w v : TI} (h1 : PI X tg it w) (h2 : PI X tg it v) : PI X tg it (fun σ H R => w σ H R ∨ v σ H R) :=
  ⟨fun pins s σ H R I h => h.elim (h1.run pins s σ H R I) (h2.run pins s σ H R I)⟩
/-- a list or a tuple -/
theorem pi_seq {tg l : Expr} {tl : TE} (hl : PE X l tl) : PI X tg l (fun σ H R => iList X.K tl σ H R ∨ iTup X.K tl σ H R) := pi_or (pi_list hl) (pi_tup hl)
/-- f(k = v, ..) -/
theorem pe_callN0 {CX : CXT} {k : Nat} {f : Addr} {fd : FuncData} {ps ks : List Str} {sp : Sp} {E : XK} {x : Str} {p pos : Pos} {kws : List Keyword} {tk : TA} {g : List Value → List Value → List Value} {gV : List V → List V → List V}
    (F : FnOk X.prog X.w X.K X.mg X.base CX k f fd ps sp) (hr : Room k X.A) (hg : Gl X x) (hm : X.mg x = some (.ref f)) (hk : PySem.W.keepIn X.K (.ref f) = true) (hb : KBn X.K fd ps 0 ks g gV) (hx : Passes CX X E)
    (hkw : PK X kws tk) (hall : (backToKw pos (keywordEach kws X.env)).all (·.1.isSome) = true := by rfl) (hks : (backToKw pos (keywordEach kws X.env)).filterMap (·.1) = ks := by rfl)
    (hdb : (x == ("__debug__" : Str)) = false := by decide) (hpl : ((backTo pos (starEach [] X.env)).any (·.1) || (backToKw pos (keywordEach kws X.env)).any (·.1.isNone)) = false := by rfl) :
    PE X (.Call (.Name x p) [] kws pos) (tCallN 0 ks.length sp gV E tNil tk) := by
  refine ⟨fun pins s σ H Q I h => ?_⟩
  refine wpAny_Call_Name_kw (ld_glob I hg hm ?_ hdb)
  refine PySem.W.callWith_KW0 (h₀ := X.base) I.ok.mod.kin hk hall ?_ hpl
  refine thn (hkw.run pos pins s σ H _ I h) fun ws s2 ⟨zs, H2, I2, rz, l1, l2, q2⟩ => ⟨I2.kIn, ?_⟩
  rw [hks]
  exact run_fnN (us := []) (vs := []) F hr hb hx I2 .nil rz rfl l2 q2
end
/-! ### data of any depth -/
section
variable {K : PySem.W.Frag} {H H' : Hp} {v x y : V} {xs ys : List V} {d e : PyData} {ds es : List PyData} {a : Addr}
mutual
theorem Dp.mono (g : Same H H') : ∀ {v : V} {d : PyData}, Dp K H v d → Dp K H' v d
  | _, _, .non => .non
  | _, _, .bl b => .bl b
  | _, _, .int i => .int i
  | _, _, .str x => .str x
  | _, _, .lst h all => .lst (g.seq h) (DpAll.mono g all)
  | _, _, .tup h all => .tup (Same.tup g h) (DpAll.mono g all)
theorem DpAll.mono (g : Same H H') : ∀ {vs : List V} {ds : List PyData}, DpAll K H vs ds → DpAll K H' vs ds
  | _, _, .nil => .nil
  | _, _, .cons h t => .cons (Dp.mono g h) (DpAll.mono g t)
end
theorem DpAll.length : ∀ {xs : List V} {ds : List PyData}, DpAll K H xs ds → xs.length = ds.length
  | _, _, .nil => rfl
  | _, _, .cons _ t => congrArg Nat.succ (DpAll.length t)
theorem DpAll.get : ∀ {xs : List V} {ds : List PyData} {i : Nat} {x : V}, DpAll K H xs ds → xs[i]? = some x → ∃ d, ds[i]? = some d ∧ Dp K H x d
  | _, _, _, _, .nil, e => by simp at e
  | _, _, 0, _, .cons h _, e => by
    simp at e
    subst e
    exact ⟨_, rfl, h⟩
  | _, _, i + 1, x, .cons _ t, e => by
    obtain ⟨d, h1, h2⟩ := DpAll.get (i := i) (x := x) t (by simpa using e)
    exact ⟨d, by simpa using h1, h2⟩
theorem DpAll.getD : ∀ {xs : List V} {ds : List PyData} {i : Nat} {d : PyData}, DpAll K H xs ds → ds[i]? = some d → ∃ x, xs[i]? = some x ∧ Dp K H x d
  | _, _, _, _, .nil, e => by simp at e
  | _, _, 0, _, .cons h _, e => by
    simp at e
    subst e
    exact ⟨_, rfl, h⟩
  | _, _, i + 1, x, .cons _ t, e => by
    obtain ⟨d, h1, h2⟩ := DpAll.getD (i := i) (d := x) t (by simpa using e)
    exact ⟨d, by simpa using h1, h2⟩
theorem DpAll.append : ∀ {xs ys : List V} {ds es : List PyData}, DpAll K H xs ds → DpAll K H ys es → DpAll K H (xs ++ ys) (ds ++ es)
  | _, _, _, _, .nil, k => k
  | _, _, _, _, .cons h t, k => .cons h (DpAll.append t k)
theorem DpAll.take : ∀ {xs : List V} {ds : List PyData} (n : Nat), DpAll K H xs ds → DpAll K H (xs.take n) (ds.take n)
  | _, _, 0, _ => .nil
  | _, _, _ + 1, .nil => .nil
  | _, _, n + 1, .cons h t => .cons h (DpAll.take n t)
theorem DpAll.drop : ∀ {xs : List V} {ds : List PyData} (n : Nat), DpAll K H xs ds → DpAll K H (xs.drop n) (ds.drop n)
  | _, _, 0, h => h
  | _, _, _ + 1, .nil => .nil
  | _, _, n + 1, .cons _ t => DpAll.drop n t
theorem dp_strs : ∀ {xs : List V} {zs : List Str}, DpAll K H xs (zs.map PyData.str) → xs = zs.map V.str
  | _, [], .nil => rfl
  | _, z :: zs, .cons h t => by
    cases h
    rw [dp_strs t]
    rfl
theorem strs_dp : ∀ (zs : List Str), DpAll K H (zs.map V.str) (zs.map PyData.str)
  | [] => .nil
  | z :: zs => .cons (.str z) (strs_dp zs)
theorem dp_str {z : Str} (h : Dp K H v (.str z)) : v = .str z := by
  cases h
  rfl
theorem dp_non (h : Dp K H v .none) : v = .non := by
  cases h
  rfl
theorem dp_tup (h : Dp K H v (.tuple ds)) : ∃ a xs, v = .ref a ∧ SqT K H a xs ∧ DpAll K H xs ds := by
  cases h with
  | tup h1 h2 => exact ⟨_, _, rfl, h1, h2⟩
theorem dp_lst (h : Dp K H v (.list ds)) : ∃ a xs, v = .ref a ∧ SqL K H a xs ∧ DpAll K H xs ds := by
  cases h with
  | lst h1 h2 => exact ⟨_, _, rfl, h1, h2⟩
theorem dpa_cons (h : DpAll K H xs (d :: ds)) : ∃ x r, xs = x :: r ∧ Dp K H x d ∧ DpAll K H r ds := by
  cases h with
  | cons h1 h2 => exact ⟨_, _, rfl, h1, h2⟩
theorem dpa_nil (h : DpAll K H xs []) : xs = [] := by
  cases h
  rfl
/-- a list or a tuple of these -/
def DpS (K : PySem.W.Frag) (H : Hp) (v : V) (ds : List PyData) : Prop := ∃ a xs, v = .ref a ∧ (SqL K H a xs ∨ SqT K H a xs) ∧ DpAll K H xs ds
theorem DpS.mono (g : Same H H') (h : DpS K H v ds) : DpS K H' v ds := by
  obtain ⟨a, xs, e, h1, h2⟩ := h
  exact ⟨a, xs, e, h1.imp g.seq (Same.tup g), DpAll.mono g h2⟩
theorem DpS.ofT (h : Dp K H v (.tuple ds)) : DpS K H v ds := by
  obtain ⟨a, xs, e, h1, h2⟩ := dp_tup h
  exact ⟨a, xs, e, .inr h1, h2⟩
theorem DpS.ofL (h : Dp K H v (.list ds)) : DpS K H v ds := by
  obtain ⟨a, xs, e, h1, h2⟩ := dp_lst h
  exact ⟨a, xs, e, .inl h1, h2⟩
/-- how deep data are -/
inductive Sh : Nat → PyData → Prop
  | non {n : Nat} : Sh n .none
  | bl {n : Nat} {b : Bool} : Sh n (.bool b)
  | int {n : Nat} {i : Int} : Sh n (.int i)
  | str {n : Nat} {z : Str} : Sh n (.str z)
  | lst {n : Nat} {ds : List PyData} (hl : ds.length ≤ 100000) (h : ∀ d ∈ ds, Sh n d) : Sh (n + 1) (.list ds)
  | tup {n : Nat} {ds : List PyData} (hl : ds.length ≤ 100000) (h : ∀ d ∈ ds, Sh n d) : Sh (n + 1) (.tuple ds)
theorem tyL (h : SqL K H a xs) : TyX K H (.ref a) (.type "list") := by
  rcases h with (h | ⟨o, h⟩) | ⟨o, its, n, h1, h2, _⟩
  · exact .base (.lst h)
  · exact .base (.frz h)
  · exact .kList h1 h2
theorem tyT (h : SqT K H a xs) : TyX K H (.ref a) (.type "tuple") := by
  rcases h with (h | ⟨o, h⟩) | ⟨o, its, n, h1, h2, _⟩
  · exact .base (.tup h)
  · exact .fTuple h
  · exact .kTuple h1 h2
/-- the type of data, by its name -/
def tyN : PyData → String
  | .none => "NoneType"
  | .bool _ => "bool"
  | .int _ => "int"
  | .str _ => "str"
  | .list _ => "list"
  | .tuple _ => "tuple"
  | .dict _ => "dict"
theorem tyD (h : Dp K H v d) : TyX K H v (.type (tyN d)) := by
  cases h with
  | non => exact .base .non
  | bl b => exact .base (.bl b)
  | int i => exact .base (.int i)
  | str x => exact .base (.str x)
  | lst h1 h2 => exact tyL h1
  | tup h1 h2 => exact tyT h1
end
/-! ### zip of two tuples, as a walk -/
theorem walk_zipT {K : PySem.W.Frag} {a b : Addr} {xs ys : List V} {n : Nat} (hn : n = min xs.length ys.length) : Walk (RZ.ItzT K a b) n (fun H => SqT K H a xs ∧ SqT K H b ys) (YPair (fun i => xs[i]?) (fun i => ys[i]?)) := by
  subst hn
  refine ⟨fun i _ hi q => ?_, fun _ q => ⟨xs, ys, q.1, q.2, by omega⟩, fun i H v H' _ q y => ?_⟩
  · have h1 : i < xs.length := by omega
    have h2 : i < ys.length := by omega
    exact ⟨xs, ys, xs[i], ys[i], q.1, q.2, by simp [h1], by simp [h2]⟩
  · obtain ⟨T, x, z, h1, h2, h3, h4, h5⟩ := y
    exact ⟨T, x, z, h1, h2, h3, h4 xs q.1, h5 ys q.2⟩
end Bh
namespace Bh
open PySem PySem.Spec PyProof.Rows L2
theorem iteN {p A B : Prop} [Decidable p] (h : ¬ p) (b : B) : if decide p = true then A else B := by
  rw [decide_eq_false h]
  exact iteF b
theorem iteY {p A B : Prop} [Decidable p] (h : p) (a : A) : if decide p = true then A else B := by
  rw [decide_eq_true h]
  exact iteT a
theorem ite3 {p A B : Prop} [Decidable p] (h1 : p → A) (h2 : ¬ p → B) : if decide p = true then A else B := by
  by_cases h : p
  · exact iteY h (h1 h)
  · exact iteN h (h2 h)
/-- the promise of the laws' comparison: both sides are the same data (n: how deep, one more) -/
def spLk (K : PySem.W.Frag) : Nat → Sp
  | 0 => fun _ _ _ _ => False
  | n + 1 => fun vs H Q _ => ∃ (x y : V) (d : PyData), vs = [x, y] ∧ Dp K H x d ∧ Dp K H y d ∧ Sh n d ∧ ∀ H', Same H H' → Q (.bl true) H'
theorem bls_true (n : Nat) : (List.replicate n true).all id = true := by
  induction n with
  | zero => rfl
  | succ n ih => rw [List.replicate_succ, List.all_cons, ih]; rfl
end Bh

set_option Elab.async false
set_option linter.all false
set_option maxRecDepth 100000
namespace Bh
open PySem PySem.Spec PyProof.Rows L2
/-! ### the rules that lean on the written part, told over a named one -/
def rLenS (K : PySem.W.Frag) : List V → Hp → VK → Prop := fun xs H Q => ∃ p ys, xs = [.ref p] ∧ (SqL K H p ys ∨ SqT K H p ys) ∧ Q (.int ys.length) H
def rListOf (K : PySem.W.Frag) : List V → Hp → VK → Prop := fun xs H Q => ∃ p ys, xs = [.ref p] ∧ (SqL K H p ys ∨ SqT K H p ys) ∧ ∀ l, H l = none → Q (.ref l) (upd H l (.lst ys))
def rTupOf (K : PySem.W.Frag) : List V → Hp → VK → Prop := fun xs H Q => ∃ p ys, xs = [.ref p] ∧ ((SqL K H p ys ∧ ∀ l, H l = none → Q (.ref l) (upd H l (.tup ys))) ∨ (SqT K H p ys ∧ Q (.ref p) H))
def rTupIx (K : PySem.W.Frag) : V → List V → Hp → VK → Prop := fun x xs H Q => ∃ p, ∃ ys : List Str, ∃ z j, x = .ref p ∧ xs = [.str z] ∧ SqT K H p (ys.map V.str) ∧ ys[j]? = some z ∧ (∀ m, m < j → ys[m]? ≠ some z) ∧ Q (.int (j : Nat)) H
def rJoin (K : PySem.W.Frag) : V → List V → Hp → VK → Prop := fun x xs H Q => ∃ a p, ∃ ys : List Str, x = .str a ∧ xs = [.ref p] ∧ (SqL K H p (ys.map V.str) ∨ SqT K H p (ys.map V.str)) ∧ (ys.map (·.length)).sum + ys.length * a.length ≤ 16777216 ∧ Q (.str (Txt.join a ys)) H
def iSeq (K : PySem.W.Frag) (tl : TE) : TI := fun σ H R => iList K tl σ H R ∨ iTup K tl σ H R
section
variable {X : Cx} {K : PySem.W.Frag} (hK : X.K = K)
include hK
theorem pg_tup_K {es : List Expr} {k : Nat} {t : TGs} {n : Nat} {pos : Pos} (hc : X.calm = true) (h : PGs X es t) (hn : (assignEach es X.env).length = n := by rfl) (hst : (assignEach es X.env).findIdx? (·.1) = none := by rfl) : PG X (.Tuple es k pos) (gTup K n t) := by
  subst hK
  exact pg_tup hc h hn hst
theorem pi_list_K {tg l : Expr} {tl : TE} (hl : PE X l tl) : PI X tg l (iList K tl) := by subst hK; exact pi_list hl
theorem pi_tup_K {tg l : Expr} {tl : TE} (hl : PE X l tl) : PI X tg l (iTup K tl) := by subst hK; exact pi_tup hl
theorem pi_seq_K {tg l : Expr} {tl : TE} (hl : PE X l tl) : PI X tg l (iSeq K tl) := by subst hK; exact pi_seq hl
theorem pi_zipA_K {e e2 : Expr} {ta : TA} {p pos tpos : Pos} {elts : List Expr} {kk : Nat} (hg : Gl X "zip") (hm : X.mg "zip" = none) (ha : PA X [e, e2] ta)
    (hs : starEach [e, e2] X.env = (false, eval e X.env) :: starEach [e2] X.env := by rfl) (hpl : (backTo pos (starEach [e2] X.env)).any (·.1) = false := by rfl) :
    PI X (.Tuple elts kk tpos) (.Call (.Name "zip" p) [e, e2] [] pos) (RZ.iZipA K ta) := by subst hK; exact RZ.pi_zipA hg hm ha hs hpl
theorem call_len_seq_K : CallR X (.builtin "len") (rLenS K) := by subst hK; exact call_len_seq
theorem call_list_of_K : CallR X (.type "list") (rListOf K) := by subst hK; exact call_list_of
theorem call_tuple_of_K : CallR X (.type "tuple") (rTupOf K) := by subst hK; exact call_tuple_of
theorem ix_list_K : IxR X (rIxL K) := by subst hK; exact ix_list
theorem ix_tup_K : IxR X (rIxT K) := by subst hK; exact ix_tup
theorem ix_seq_K : IxR X (rIx K) := by subst hK; exact ix_seq
theorem sl_list_K : SlR X (rSlL K) := by subst hK; exact sl_list
theorem sl_tupA_K : SlR X (rSlA K) := by subst hK; exact sl_tupA
theorem cr_all_K (hc : X.calm = true) : CallR X (.builtin "all") (rAll K) := by subst hK; exact cr_all hc
theorem cr_any_K (hc : X.calm = true) : CallR X (.builtin "any") (rAny K) := by subst hK; exact cr_any hc
theorem op_in_seq_K : OpR X (compareOp .In) (rIn K false) := by subst hK; exact op_in_seq
theorem op_notIn_seq_K : OpR X (compareOp .NotIn) (rIn K true) := by subst hK; exact op_notIn_seq
theorem op_catA_K : OpR X (binaryOp .Add) (rCatA K) := by subst hK; exact op_catA
theorem op_repT_K : OpR X (binaryOp .Mult) (rRepT K) := by subst hK; exact op_repT
theorem mt_index_K : MtR X "list.index" (rIndex K) := by subst hK; exact mt_index
theorem mt_tup_index_K : MtR X "tuple.index" (rTupIx K) := by subst hK; exact mt_tup_index
theorem mt_join_K : MtR X "str.join" (rJoin K) := by subst hK; exact mt_join
theorem call_isi_K : CallR X (.builtin "isinstance") (rIsi K) := by subst hK; exact call_isi
theorem call_isiT_K : CallR X (.builtin "isinstance") (rIsiT K) := by subst hK; exact call_isiT
theorem op_eqD_K (hu : X.A.units + 64 < cLine) : OpR X (compareOp .Eq) (rEqD K) := by subst hK; exact op_eqD hu
theorem op_neD_K (hu : X.A.units + 64 < cLine) : OpR X (compareOp .NotEq) (rNeD K) := by subst hK; exact op_neD hu
theorem pe_bm_K {o e : Expr} {es : List Expr} {to : TE} {t : TA} {name : Str} {apos cpos : Pos} {T id : String} {r : V → List V → Hp → VK → Prop}
    (pa : PlainAttrs T) (slot : Slot T name id) (hty : typeOf (.builtin id) = pure (.type "method_descriptor")) (hm : MtR X id r) (ho : PE X o to) (ha : PA X (e :: es) t)
    (hbase : attributeBase o name X.env (eval o X.env) = eval o X.env := by rfl)
    (hfew : ((backTo cpos (starEach (e :: es) X.env)).all (fun x => !x.1) && (backToKw cpos (keywordEach [] X.env)).all (fun x => x.1.isSome)
      && decide ((e :: es).length + ([] : List Keyword).length + (if ([] : List Keyword).isEmpty then 0 else 1) < 30)) = true := by rfl)
    (hline : (apos.endLine == cpos.line) = true := by rfl) (hs : starEach (e :: es) X.env = (false, eval e X.env) :: starEach es X.env := by rfl) (hplain : (backTo cpos (starEach es X.env)).any (·.1) = false := by rfl) :
    PE X (.Call (.Attribute o name apos) (e :: es) [] cpos) (tBM K T r to t) := by subst hK; exact pe_bm pa slot hty hm ho ha hbase hfew hline hs hplain
end
section
variable {X : Cx} {K : PySem.W.Frag} {o e : Expr} {to te : TE}
theorem pe_join_K (hK : X.K = K) {apos pos : Pos} (ho : PE X o to) (he : PE X e te) (hs : starEach [e] X.env = [(false, eval e X.env)] := by rfl) (hbase : attributeBase o "join" X.env (eval o X.env) = eval o X.env := by rfl) (hline : (apos.endLine == pos.line) = true := by rfl) :
    PE X (.Call (.Attribute o "join" apos) [e] [] pos) (tM1 (rJoin K) to te) := pe_m1 PySem.F.slot_str_join PySem.F.type_str_join (mt_join_K hK) ho he hs hbase hline
end
end Bh
namespace Bh
open PySem PySem.Spec PyProof.Rows L2
theorem q_eq {x : V} {Q : VK} {H : Hp} (h : Q (.bl true) H) : Q (.bl (decide (x = x))) H := by
  rw [decide_eq_true rfl]
  exact h
theorem dpa_at {K : PySem.W.Frag} {H : Hp} {xs ys : List V} {ds : List PyData} {i : Nat} {x y : V} (hx : DpAll K H xs ds) (hy : DpAll K H ys ds) (ex : xs[i]? = some x) (ey : ys[i]? = some y) : ∃ d ∈ ds, Dp K H x d ∧ Dp K H y d := by
  obtain ⟨d, h1, h2⟩ := DpAll.get hx ex
  obtain ⟨e, h3, h4⟩ := DpAll.get hy ey
  rw [h1] at h3
  cases h3
  exact ⟨d, List.mem_of_getElem? h1, h2, h4⟩
theorem rep_snoc (n : Nat) (v : V) : List.replicate n v ++ [v] = List.replicate (n + 1) v := List.replicate_succ'.symm
theorem lt_line {n : Nat} (h : n ≤ 100000) : n < sizeLine := Nat.lt_of_le_of_lt h (by decide)
theorem le_line {n : Nat} (h : n ≤ 100000) : n ≤ sizeLine := Nat.le_of_lt (lt_line h)
end Bh
namespace Bh
open PySem PySem.Spec PyProof.Rows L2
/-! ### tuples without a dict of their own: their methods -/
def SqP (K : PySem.W.Frag) (H : Hp) (a : Addr) (xs : List V) : Prop := (∃ o : Obj, H a = some (.frz o (.tup xs)) ∧ o.dict = none) ∨
  ∃ (o : Obj) (its : Array Value) (n : Nat), K.lookup a = some o ∧ o.cls = .type "tuple" ∧ o.dict = none ∧ o.data = .seq its n ∧ its.size ≤ sizeLine ∧ Vals xs its.toList
section
variable {K : PySem.W.Frag} {H H' : Hp} {a : Addr} {xs : List V}
theorem SqP.sqT (h : SqP K H a xs) : SqT K H a xs := by
  rcases h with ⟨o, h, _⟩ | ⟨o, its, n, h1, h2, _, h3, h4, h5⟩
  · exact .inl (.inr ⟨o, h⟩)
  · exact .inr ⟨o, its, n, h1, h2, h3, h4, h5⟩
theorem SqP.mono (e : Same H H') (h : SqP K H a xs) : SqP K H' a xs := by
  rcases h with ⟨o, h, h2⟩ | h
  · exact .inl ⟨o, e _ _ h, h2⟩
  · exact .inr h
theorem SqP.new {o : Obj} (h : o.dict = none) : SqP K (upd H a (.frz o (.tup xs))) a xs := .inl ⟨o, upd_same, h⟩
end
def rTupOfP (K : PySem.W.Frag) : List V → Hp → VK → Prop := fun xs H Q => ∃ p ys, xs = [.ref p] ∧ ((SqL K H p ys ∧ ∀ (l : Addr) (o : Obj), H l = none → o.dict = none → Q (.ref l) (upd H l (.frz o (.tup ys)))) ∨ (SqT K H p ys ∧ Q (.ref p) H))
section
variable {X : Cx} {K : PySem.W.Frag}
theorem call_tuple_of_P (hK : X.K = K) : CallR X (.type "tuple") (rTupOfP K) := by
  subst hK
  intro pins s σ H xs us Q I r h
  obtain ⟨p, ys, rfl, h⟩ := h
  obtain ⟨u, rfl, rx⟩ := vals1 r
  cases rx
  rcases h with ⟨hq, q⟩ | ⟨hq, q⟩
  · obtain ⟨its, r', pl, hz⟩ := I.list hq
    have hlen := r'.length
    refine call_tuple_list pl.isList (fun h' kp => ?_) (by simp only [List.size_toArray] <;> omega)
    have I1 : Inv X pins σ H { s with heap := h' } := I.kept (t' := s.toks) kp
    have I2 : Inv X pins σ (upd H h'.objs.size (.frz { cls := .type "tuple", data := .seq its.toArray } (.tup ys))) { s with heap := h'.push { cls := .type "tuple", data := .seq its.toArray } } :=
      I1.laid (t' := s.toks) (fun b o e => Heap.get?_push_of_some _ e) (Nat.le_refl _) (show ObjOk X.prog X.w _ _ _ (.frz { cls := .type "tuple", data := .seq its.toArray } (.tup ys)) from ⟨Heap.get?_push_size _ rfl, hz, its, r', IsTup.new _ _⟩)
    exact ⟨.ref h'.objs.size, _, I2, rfl, q _ _ (I1.hok.fresh (Nat.le_refl _)) rfl⟩
  · obtain ⟨its, r', pl, hz⟩ := I.tuple hq
    exact call_tuple_same pl ⟨.ref p, H, I, rfl, q⟩
def tBMP (K : PySem.W.Frag) (r : V → List V → Hp → VK → Prop) (to : TE) (t : TA) : TE := fun σ H Q => to σ H fun x H1 => (∃ a xs, x = .ref a ∧ SqP K H1 a xs) ∧ t σ H1 fun xs H2 => r x xs H2 Q
theorem pe_bm_P (hK : X.K = K) {o e : Expr} {es : List Expr} {to : TE} {t : TA} {name : Str} {apos cpos : Pos} {id : String} {r : V → List V → Hp → VK → Prop}
    (pa : PlainAttrs "tuple") (slot : Slot "tuple" name id) (hty : typeOf (.builtin id) = pure (.type "method_descriptor")) (hm : MtR X id r) (ho : PE X o to) (ha : PA X (e :: es) t)
    (hbase : attributeBase o name X.env (eval o X.env) = eval o X.env := by rfl)
    (hfew : ((backTo cpos (starEach (e :: es) X.env)).all (fun x => !x.1) && (backToKw cpos (keywordEach [] X.env)).all (fun x => x.1.isSome)
      && decide ((e :: es).length + ([] : List Keyword).length + (if ([] : List Keyword).isEmpty then 0 else 1) < 30)) = true := by rfl)
    (hline : (apos.endLine == cpos.line) = true := by rfl) (hs : starEach (e :: es) X.env = (false, eval e X.env) :: starEach es X.env := by rfl) (hplain : (backTo cpos (starEach es X.env)).any (·.1) = false := by rfl) :
    PE X (.Call (.Attribute o name apos) (e :: es) [] cpos) (tBMP K r to t) := by
  subst hK
  refine ⟨fun pins s σ H Q I h => ?_⟩
  refine wpAny_Call_method_late hbase hfew hline rfl (thn (ho.run pins s σ H _ I h) fun v s1 ⟨x, H1, I1, r1, ty, q1⟩ => ?_)
  have hty2 : s1.TypeIs v "tuple" ∧ ∀ a, v = .ref a → ∃ ob, s1.heap.get? a = some ob ∧ ob.dict = none := by
    obtain ⟨a, xs, rfl, hP⟩ := ty
    cases r1
    obtain ⟨its, _, pl, _⟩ := I1.tuple hP.sqT
    refine ⟨pl.typeIs, fun b e => ?_⟩
    cases e
    rcases hP with ⟨ob, hb, hd⟩ | ⟨ob, its, n, hk, hc, hd, _⟩
    · exact ⟨ob, (I1.hok a _ hb).1, hd⟩
    · exact ⟨ob, I1.kIn a ob hk, hd⟩
  obtain ⟨h1, h2⟩ := hty2
  refine ⟨"tuple", id, pa, slot, hty, h1, h2, ?_⟩
  have hA := ha.run cpos pins s1 σ H1 _ I1 q1
  rw [hs] at hA ⊢
  refine Calls.callWith_builtin (by show (false || (backTo cpos (starEach es X.env)).any (·.1)) = false; rw [hplain] <;> rfl) (Calls.evalArgs_plain ?_)
  exact thn hA fun us s2 ⟨vs, H2, I2, r2, q2⟩ => hm pins s2 σ H2 x vs v us Q I2 r1 r2 q2
end
end Bh
namespace Bh
open PySem PySem.Spec PyProof.Rows L2
/-! ### == and != of data of any texts -/
mutual
theorem Dp.plain {K : PySem.W.Frag} {H : Hp} : ∀ {v : V} {d : PyData}, Dp K H v d → d.plain = true
  | _, _, .non => rfl
  | _, _, .bl _ => rfl
  | _, _, .int _ => rfl
  | _, _, .str _ => rfl
  | _, _, .lst _ all => DpAll.plain all
  | _, _, .tup _ all => DpAll.plain all
theorem DpAll.plain {K : PySem.W.Frag} {H : Hp} : ∀ {vs : List V} {ds : List PyData}, DpAll K H vs ds → PyData.plainAll ds = true
  | _, _, .nil => rfl
  | _, _, .cons h t => by
    show (_ && _) = true
    rw [Dp.plain h, DpAll.plain t]
    rfl
end
def rEqP (K : PySem.W.Frag) : R2 := fun x y H Q => ∃ d e, Dp K H x d ∧ Dp K H y e ∧ min d.depth e.depth ≤ 64 ∧ Q (.bl (PyData.eqv d e)) H
def rNeP (K : PySem.W.Frag) : R2 := fun x y H Q => ∃ d e, Dp K H x d ∧ Dp K H y e ∧ min d.depth e.depth ≤ 64 ∧ Q (.bl (!PyData.eqv d e)) H
section
variable {X : Cx} {K : PySem.W.Frag}
theorem op_eqP (hK : X.K = K) (hu : X.A.units + 64 < cLine) : OpR X (compareOp .Eq) (rEqP K) := by
  subst hK
  intro pins s σ H x y v u Q I rx ry h
  obtain ⟨d, e, hd, he, hz, q⟩ := h
  obtain ⟨as, r1⟩ := Dp.reads I d x v hd rx
  obtain ⟨bs, r2⟩ := Dp.reads I e y u he ry
  exact SeqAt.eq_plain r1 r2 (Dp.plain hd) (Dp.plain he) (by omega) ⟨.bl _, H, I, rfl, q⟩
theorem op_neP (hK : X.K = K) (hu : X.A.units + 64 < cLine) : OpR X (compareOp .NotEq) (rNeP K) := by
  subst hK
  intro pins s σ H x y v u Q I rx ry h
  obtain ⟨d, e, hd, he, hz, q⟩ := h
  obtain ⟨as, r1⟩ := Dp.reads I d x v hd rx
  obtain ⟨bs, r2⟩ := Dp.reads I e y u he ry
  exact SeqAt.ne_plain r1 r2 (Dp.plain hd) (Dp.plain he) (by omega) ⟨.bl _, H, I, rfl, q⟩
end
theorem depth_all {n : Nat} : ∀ {ds : List PyData}, (∀ d ∈ ds, d.depth ≤ n) → PyData.depthAll ds ≤ n
  | [], _ => Nat.zero_le _
  | d :: ds, h => Nat.max_le.mpr ⟨h d (List.mem_cons_self ..), depth_all fun e he => h e (List.mem_cons_of_mem _ he)⟩
theorem Sh.depth {n : Nat} {d : PyData} (h : Sh n d) : d.depth ≤ n := by
  induction h with
  | non => exact Nat.zero_le _
  | bl => exact Nat.zero_le _
  | int => exact Nat.zero_le _
  | str => exact Nat.zero_le _
  | lst _ _ ih => exact Nat.succ_le_succ (depth_all ih)
  | tup _ _ ih => exact Nat.succ_le_succ (depth_all ih)
end Bh
namespace Bh
open PySem PySem.Spec PyProof.Rows L2
theorem seq_mono {K : PySem.W.Frag} {H H' : Hp} {a : Addr} {xs : List V} (e : Same H H') (h : SqL K H a xs ∨ SqT K H a xs) : SqL K H' a xs ∨ SqT K H' a xs := h.imp e.seq (Same.tup e)
/-- a new thing, changed since -/
theorem same_mut {H H' : Hp} {p : Addr} {o : HO} (e : Same H H') (h : H p = none) : Same H (upd H' p o) := fun b u k => by
  rw [upd_ne (ne_of_none k h)]
  exact e _ _ k
theorem Wd.sameH {b l : Addr} {G H : Hp} (w : Wd b l G H) : Same G H := w.sm
end Bh
namespace Bh
open PySem PySem.Spec PyProof.Rows L2
/-! ### a heap without one address -/
def hid (p : Addr) (G : Hp) : Hp := fun a => if a = p then none else G a
section
variable {p q : Addr} {G G' : Hp} {o : HO}
theorem hid_ne (h : q ≠ p) : hid p G q = G q := if_neg h
theorem hid_le : Same (hid p G) G := fun a u e => by
  by_cases h : a = p
  · rw [h] at e
    unfold hid at e
    rw [if_pos rfl] at e
    cases e
  · rw [hid_ne h] at e
    exact e
theorem hid_same (e : Same G G') : Same (hid p G) (hid p G') := fun a u k => by
  by_cases h : a = p
  · rw [h] at k
    unfold hid at k
    rw [if_pos rfl] at k
    cases k
  · rw [hid_ne h] at k ⊢
    exact e _ _ k
theorem hid_upd : hid p (upd G p o) = hid p G := by
  funext a
  by_cases h : a = p
  · unfold hid
    rw [if_pos h, if_pos h]
  · rw [hid_ne h, hid_ne h, upd_ne h]
theorem hid_of (e : Same G G') (h : G p = none) : Same G (hid p G') := fun a u k => by
  rw [hid_ne (ne_of_none k h)]
  exact e _ _ k
theorem hid_comm : hid p (hid q G) = hid q (hid p G) := by
  funext a
  unfold hid
  split <;> split <;> rfl
end
end Bh
namespace Bh
open PySem PySem.Spec PyProof.Rows L2
/-! ### what is no list stays where lists alone change -/
def Imm (H H' : Hp) : Prop := ∀ a u, H a = some u → (∀ xs, u ≠ .lst xs) → H' a = some u
section
variable {H H' H1 : Hp} {a p : Addr} {o : HO} {xs ys : List V} {K : PySem.W.Frag}
theorem Same.imm (e : Same H H') : Imm H H' := fun a u h _ => e a u h
theorem Imm.trans (e : Imm H H1) (f : Imm H1 H') : Imm H H' := fun a u h n => f a u (e a u h n) n
theorem imm_upd (h : H p = some (.lst ys)) : Imm H (upd H p o) := fun a u e n => by
  rw [upd_ne (fun z => by rw [z, h] at e; exact n _ (Option.some.inj e).symm)]
  exact e
theorem Imm.tup (e : Imm H H') (h : SqT K H a xs) : SqT K H' a xs := by
  rcases h with (h | ⟨o, h⟩) | h
  · exact .inl (.inl (e _ _ h (fun _ z => by cases z)))
  · exact .inl (.inr ⟨o, e _ _ h (fun _ z => by cases z)⟩)
  · exact .inr h
theorem Imm.sqp (e : Imm H H') (h : SqP K H a xs) : SqP K H' a xs := by
  rcases h with ⟨o, h, d⟩ | h
  · exact .inl ⟨o, e _ _ h (fun _ z => by cases z), d⟩
  · exact .inr h
end
mutual
def noL : PyData → Bool
  | .none | .bool _ | .int _ | .str _ => true
  | .tuple xs => noLs xs
  | .list _ | .dict _ => false
def noLs : List PyData → Bool
  | [] => true
  | d :: ds => noL d && noLs ds
end
mutual
theorem Dp.imm {K : PySem.W.Frag} {H H' : Hp} (e : Imm H H') : ∀ {v : V} {d : PyData}, noL d = true → Dp K H v d → Dp K H' v d
  | _, _, _, .non => .non
  | _, _, _, .bl b => .bl b
  | _, _, _, .int i => .int i
  | _, _, _, .str x => .str x
  | _, _, n, .lst _ _ => nomatch n
  | _, _, n, .tup h all => .tup (e.tup h) (DpAll.imm e n all)
theorem DpAll.imm {K : PySem.W.Frag} {H H' : Hp} (e : Imm H H') : ∀ {vs : List V} {ds : List PyData}, noLs ds = true → DpAll K H vs ds → DpAll K H' vs ds
  | _, _, _, .nil => .nil
  | _, _, n, .cons h t => .cons (Dp.imm e (Bool.and_eq_true_iff.mp n).1 h) (DpAll.imm e (Bool.and_eq_true_iff.mp n).2 t)
end
theorem noLs_map {α : Type} {f : α → PyData} (h : ∀ x, noL (f x) = true) : ∀ l : List α, noLs (l.map f) = true
  | [] => rfl
  | x :: l => by
    show (noL (f x) && noLs (l.map f)) = true
    rw [h x, noLs_map h l]
    rfl
end Bh

set_option Elab.async false
set_option linter.all false
set_option maxRecDepth 100000
namespace Bh
open PySem PySem.Spec PyProof.Rows L2
/-! ### the mirror of programs applied -/
def ix : List Str → Str → Nat
  | [], _ => 0
  | y :: r, x => if y = x then 0 else ix r x + 1
theorem ix_get : ∀ {l : List Str} {x : Str}, x ∈ l → l[ix l x]? = some x
  | y :: r, x, h => by
    unfold ix
    by_cases e : y = x
    · rw [if_pos e, e]
      rfl
    · rw [if_neg e]
      rcases List.mem_cons.mp h with z | z
      · exact absurd z.symm e
      · simpa using ix_get z
theorem ix_first : ∀ {l : List Str} {x : Str} {m : Nat}, m < ix l x → l[m]? ≠ some x
  | [], _, _, h => absurd h (Nat.not_lt_zero _)
  | y :: r, x, m, h => by
    unfold ix at h
    by_cases e : y = x
    · rw [if_pos e] at h
      exact absurd h (Nat.not_lt_zero _)
    · rw [if_neg e] at h
      cases m with
      | zero =>
        intro z
        exact e (Option.some.inj z)
      | succ m =>
        have q := ix_first (l := r) (x := x) (m := m) (by omega)
        simpa using q
theorem ix_lt {l : List Str} {x : Str} (h : x ∈ l) : ix l x < l.length := (List.getElem?_eq_some_iff.mp (ix_get h)).1
/-- the place of an item of different ones -/
theorem ix_at : ∀ {l : List Str} {i : Nat} {x : Str}, l.Nodup → l[i]? = some x → ix l x = i
  | [], _, _, _, h => by simp at h
  | y :: r, 0, x, _, h => by
    have e : y = x := Option.some.inj h
    unfold ix
    rw [if_pos e]
  | y :: r, i + 1, x, nd, h => by
    have hr : r[i]? = some x := by simpa using h
    have hm : x ∈ r := List.mem_of_getElem? hr
    have nd' := List.nodup_cons.mp nd
    have ne : ¬ y = x := fun z => nd'.1 (z ▸ hm)
    unfold ix
    rw [if_neg ne, ix_at nd'.2 hr]
theorem flat_strs (l : List Str) : (l.map V.str).all flatV = true := by
  rw [List.all_map]
  exact List.all_eq_true.mpr fun _ _ => rfl
theorem eqV_str {a b : Str} : eqV (.str a) (.str b) = decide (a = b) := rfl
theorem ixs_at {l : List Str} {x : Str} (h : x ∈ l) : (l.map V.str)[ix l x]? = some (.str x) := by
  rw [List.getElem?_map, ix_get h]
  rfl
theorem ixs_no {l : List Str} {x : Str} : ∀ (m : Nat) (z : V), m < ix l x → (l.map V.str)[m]? = some z → eqV z (.str x) = false := fun m z hm hz => by
  rw [List.getElem?_map] at hz
  cases e : l[m]? with
  | none =>
    rw [e] at hz
    cases hz
  | some y =>
    rw [e] at hz
    cases hz
    rw [eqV_str]
    refine decide_eq_false fun q => ix_first hm ?_
    rw [e, q]
abbrev Fld := Str × List Str
abbrev Tst := Str × Str × Str
abbrev Stp := Str × Str
abbrev Cas := List Tst × Option (List Stp)
def posOf (fs : List Fld) (x : Str) : Nat := ix (fs.map (·.1)) x
def optsOf (fs : List Fld) (x : Str) : List Str := ((fs[posOf fs x]?).map (·.2)).getD []
def nextO (os : List Str) (o : Str) : Str := os.getD (min (ix os o + 1) (os.length - 1)) o
def holdsT (fs : List Fld) (v : List Str) (t : Tst) : Bool :=
  if t.2.1 = "=" then decide (ix (optsOf fs t.1) (v.getD (posOf fs t.1) Str.empty) = ix (optsOf fs t.1) t.2.2)
  else if t.2.1 = "!" then !decide (ix (optsOf fs t.1) (v.getD (posOf fs t.1) Str.empty) = ix (optsOf fs t.1) t.2.2)
  else if t.2.1 = "<" then decide (ix (optsOf fs t.1) (v.getD (posOf fs t.1) Str.empty) < ix (optsOf fs t.1) t.2.2)
  else decide (ix (optsOf fs t.1) t.2.2 < ix (optsOf fs t.1) (v.getD (posOf fs t.1) Str.empty))
def stepO (fs : List Fld) (v : List Str) (s : Stp) : List Str :=
  v.set (posOf fs s.1) (if s.2 = "+" then nextO (optsOf fs s.1) (v.getD (posOf fs s.1) Str.empty) else s.2)
def stepped (fs : List Fld) (ss : List Stp) (v : List Str) : List Str := ss.foldl (stepO fs) v
def applyP (fs : List Fld) : List Cas → List Str → Option (List Str)
  | [], _ => none
  | c :: r, v => if c.1.all (holdsT fs v) = true then c.2.map (fun ss => stepped fs ss v) else applyP fs r v
def applyH (fs : List Fld) (p : List Cas) : Option (List Str) → Option (List Str)
  | none => none
  | some v => applyP fs p v
/-! what fits -/
def FitV (fs : List Fld) (v : List Str) : Prop := v.length = fs.length ∧ ∀ (i : Nat) (f : Fld) (o : Str), fs[i]? = some f → v[i]? = some o → o ∈ f.2
def FitT (fs : List Fld) (t : Tst) : Prop := t.1 ∈ fs.map (·.1) ∧ t.2.2 ∈ optsOf fs t.1
def FitS (fs : List Fld) (s : Stp) : Prop := s.1 ∈ fs.map (·.1) ∧ (s.2 ≠ "+" → s.2 ∈ optsOf fs s.1)
structure FitC (fs : List Fld) (c : Cas) : Prop where
  t : ∀ t ∈ c.1, FitT fs t
  s : ∀ ss, c.2 = some ss → ∀ s ∈ ss, FitS fs s
  lt : c.1.length ≤ 1000
  ls : ∀ ss, c.2 = some ss → ss.length ≤ 1000
theorem pos_at {fs : List Fld} {x : Str} (h : x ∈ fs.map (·.1)) : ∃ f, fs[posOf fs x]? = some f ∧ f.1 = x ∧ f.2 = optsOf fs x := by
  have q := ix_get h
  rw [List.getElem?_map] at q
  unfold optsOf
  show ∃ f, fs[posOf fs x]? = some f ∧ _
  have q' : (fs[posOf fs x]?).map (·.1) = some x := q
  cases e : fs[posOf fs x]? with
  | none =>
    rw [e] at q'
    cases q'
  | some f =>
    rw [e] at q'
    exact ⟨f, rfl, Option.some.inj q', rfl⟩
theorem fit_at {fs : List Fld} {v : List Str} {x : Str} (hv : FitV fs v) (h : x ∈ fs.map (·.1)) : ∃ o, v[posOf fs x]? = some o ∧ o ∈ optsOf fs x ∧ v.getD (posOf fs x) Str.empty = o := by
  obtain ⟨f, h1, h2, h3⟩ := pos_at h
  have hl : posOf fs x < v.length := by
    rw [hv.1]
    exact (List.getElem?_eq_some_iff.mp h1).1
  refine ⟨v[posOf fs x], List.getElem?_eq_getElem hl, ?_, ?_⟩
  · rw [← h3]
    exact hv.2 _ _ _ h1 (List.getElem?_eq_getElem hl)
  · rw [List.getD_eq_getElem?_getD, List.getElem?_eq_getElem hl]
    rfl
theorem next_mem {os : List Str} {o : Str} (h : o ∈ os) : os[min (ix os o + 1) (os.length - 1)]? = some (nextO os o) ∧ nextO os o ∈ os := by
  have hl := ix_lt h
  have hm : min (ix os o + 1) (os.length - 1) < os.length := by omega
  have e : os[min (ix os o + 1) (os.length - 1)]? = some (nextO os o) := by
    unfold nextO
    rw [List.getD_eq_getElem?_getD, List.getElem?_eq_getElem hm]
    rfl
  exact ⟨e, List.mem_of_getElem? e⟩
theorem step_fit {fs : List Fld} {v : List Str} {s : Stp} (hv : FitV fs v) (hs : FitS fs s) : FitV fs (stepO fs v s) := by
  refine ⟨by unfold stepO; rw [List.length_set]; exact hv.1, fun i f o hf ho => ?_⟩
  unfold stepO at ho
  obtain ⟨f', h1, h2, h3⟩ := pos_at hs.1
  obtain ⟨o', g1, g2, g3⟩ := fit_at hv hs.1
  rw [List.getElem?_set] at ho
  by_cases e : posOf fs s.1 = i
  · rw [if_pos e] at ho
    have hl : i < v.length := by
      rw [hv.1]
      exact (List.getElem?_eq_some_iff.mp hf).1
    rw [if_pos (e ▸ hl)] at ho
    have ho' := Option.some.inj ho
    rw [e, hf] at h1
    cases h1
    rw [← ho', h3]
    by_cases z : s.2 = "+"
    · rw [if_pos z, g3]
      exact (next_mem g2).2
    · rw [if_neg z]
      exact hs.2 z
  · rw [if_neg e] at ho
    exact hv.2 i f o hf ho
theorem stepped_fit {fs : List Fld} : ∀ {ss : List Stp} {v : List Str}, (∀ s ∈ ss, FitS fs s) → FitV fs v → FitV fs (stepped fs ss v)
  | [], _, _, hv => hv
  | s :: ss, v, h, hv => stepped_fit (ss := ss) (v := stepO fs v s) (fun s' hs' => h s' (List.mem_cons_of_mem _ hs')) (step_fit hv (h s (List.mem_cons_self ..)))
theorem stepped_take {fs : List Fld} {ss : List Stp} {v : List Str} {i : Nat} {s : Stp} (h : ss[i]? = some s) : stepped fs (ss.take (i + 1)) v = stepO fs (stepped fs (ss.take i) v) s := by
  unfold stepped
  rw [List.take_add_one, h, List.foldl_append]
  rfl
/-! as data -/
def dF (f : Fld) : PyData := .tuple [.str f.1, .tuple (f.2.map PyData.str)]
def dT (t : Tst) : PyData := .tuple [.str t.1, .str t.2.1, .str t.2.2]
def dS (s : Stp) : PyData := .tuple [.str s.1, .str s.2]
def dO : Option (List Stp) → PyData
  | none => .none
  | some ss => .tuple (ss.map dS)
def dC (c : Cas) : PyData := .tuple [.tuple (c.1.map dT), dO c.2]
def dV (v : List Str) : PyData := .tuple (v.map PyData.str)
def dH : Option (List Str) → PyData
  | none => .none
  | some v => dV v
section
variable {K : PySem.W.Frag} {H : Hp} {v : V}
theorem dp_dF {f : Fld} (h : Dp K H v (dF f)) : ∃ a o, v = .ref a ∧ SqT K H a [.str f.1, .ref o] ∧ SqT K H o (f.2.map V.str) := by
  obtain ⟨a, xs, rfl, h1, h2⟩ := dp_tup h
  obtain ⟨x, r, rfl, k1, k2⟩ := dpa_cons h2
  obtain ⟨y, r', rfl, k3, k4⟩ := dpa_cons k2
  cases dpa_nil k4
  cases dp_str k1
  obtain ⟨o, ys, rfl, m1, m2⟩ := dp_tup k3
  rw [dp_strs m2] at m1
  exact ⟨a, o, rfl, h1, m1⟩
theorem dp_dT {t : Tst} (h : Dp K H v (dT t)) : ∃ a, v = .ref a ∧ SqT K H a [.str t.1, .str t.2.1, .str t.2.2] := by
  obtain ⟨a, xs, rfl, h1, h2⟩ := dp_tup h
  obtain ⟨x, r, rfl, k1, k2⟩ := dpa_cons h2
  obtain ⟨y, r', rfl, k3, k4⟩ := dpa_cons k2
  obtain ⟨z, r'', rfl, k5, k6⟩ := dpa_cons k4
  cases dpa_nil k6
  cases dp_str k1
  cases dp_str k3
  cases dp_str k5
  exact ⟨a, rfl, h1⟩
theorem dp_dS {s : Stp} (h : Dp K H v (dS s)) : ∃ a, v = .ref a ∧ SqT K H a [.str s.1, .str s.2] := by
  obtain ⟨a, xs, rfl, h1, h2⟩ := dp_tup h
  obtain ⟨x, r, rfl, k1, k2⟩ := dpa_cons h2
  obtain ⟨y, r', rfl, k3, k4⟩ := dpa_cons k2
  cases dpa_nil k4
  cases dp_str k1
  cases dp_str k3
  exact ⟨a, rfl, h1⟩
theorem dp_dC {c : Cas} (h : Dp K H v (dC c)) : ∃ a t y, v = .ref a ∧ SqT K H a [.ref t, y] ∧ Dp K H (.ref t) (.tuple (c.1.map dT)) ∧ Dp K H y (dO c.2) := by
  obtain ⟨a, xs, rfl, h1, h2⟩ := dp_tup h
  obtain ⟨x, r, rfl, k1, k2⟩ := dpa_cons h2
  obtain ⟨y, r', rfl, k3, k4⟩ := dpa_cons k2
  cases dpa_nil k4
  obtain ⟨t, ys, rfl, m1, m2⟩ := dp_tup k1
  exact ⟨a, t, y, rfl, h1, .tup m1 m2, k3⟩
theorem dp_dV {w : List Str} (h : Dp K H v (dV w)) : ∃ a, v = .ref a ∧ SqT K H a (w.map V.str) := by
  obtain ⟨a, xs, rfl, h1, h2⟩ := dp_tup h
  rw [dp_strs h2] at h1
  exact ⟨a, rfl, h1⟩
theorem dV_dp {w : List Str} {a : Addr} (h : SqT K H a (w.map V.str)) : Dp K H (.ref a) (dV w) := .tup h (strs_dp w)
end
/-! fields as they stand: the options are tuples of which .index is asked -/
def FdAt (K : PySem.W.Frag) (H : Hp) (v : V) (f : Fld) : Prop := ∃ a o, v = .ref a ∧ SqT K H a [.str f.1, .ref o] ∧ SqP K H o (f.2.map V.str)
def FsAt (K : PySem.W.Frag) (H : Hp) (v : V) (fs : List Fld) : Prop := ∃ a xs, v = .ref a ∧ (SqL K H a xs ∨ SqT K H a xs) ∧ Paired (FdAt K H) xs fs
section
variable {K : PySem.W.Frag} {H H' : Hp} {v : V} {f : Fld} {fs : List Fld} {xs : List V}
theorem FdAt.mono (e : Same H H') (h : FdAt K H v f) : FdAt K H' v f := by
  obtain ⟨a, o, h1, h2, h3⟩ := h
  exact ⟨a, o, h1, Same.tup e h2, h3.mono e⟩
theorem fds_mono (e : Same H H') : ∀ {xs : List V} {fs : List Fld}, Paired (FdAt K H) xs fs → Paired (FdAt K H') xs fs
  | _, _, .nil => .nil
  | _, _, .cons h t => .cons (h.mono e) (fds_mono e t)
theorem FsAt.mono (e : Same H H') (h : FsAt K H v fs) : FsAt K H' v fs := by
  obtain ⟨a, xs, h1, h2, h3⟩ := h
  exact ⟨a, xs, h1, h2.imp e.seq (Same.tup e), fds_mono e h3⟩
theorem FdAt.dp (h : FdAt K H v f) : Dp K H v (dF f) := by
  obtain ⟨a, o, rfl, h2, h3⟩ := h
  exact .tup h2 (.cons (.str _) (.cons (.tup h3.sqT (strs_dp _)) .nil))
theorem fds_dp : ∀ {xs : List V} {fs : List Fld}, Paired (FdAt K H) xs fs → DpAll K H xs (fs.map dF)
  | _, _, .nil => .nil
  | _, _, .cons h t => .cons h.dp (fds_dp t)
theorem FsAt.dpS (h : FsAt K H v fs) : DpS K H v (fs.map dF) := by
  obtain ⟨a, xs, h1, h2, h3⟩ := h
  exact ⟨a, xs, h1, h2, fds_dp h3⟩
theorem fds_get : ∀ {xs : List V} {fs : List Fld} {i : Nat} {f : Fld}, Paired (FdAt K H) xs fs → fs[i]? = some f → ∃ x, xs[i]? = some x ∧ FdAt K H x f
  | _, _, _, _, .nil, e => by simp at e
  | _, _, 0, _, .cons h _, e => by
    simp at e
    subst e
    exact ⟨_, rfl, h⟩
  | _, _, i + 1, f, .cons _ t, e => by
    obtain ⟨x, h1, h2⟩ := fds_get (i := i) (f := f) t (by simpa using e)
    exact ⟨x, by simpa using h1, h2⟩
/-- fields[i][1], for the place i of a field x -/
theorem FsAt.opts {x : Str} (h : FsAt K H v fs) (hx : x ∈ fs.map (·.1)) : ∃ a xs t o, v = .ref a ∧ (SqL K H a xs ∨ SqT K H a xs) ∧ atI xs ((posOf fs x : Nat) : Int) = some (.ref t) ∧ SqT K H t [.str x, .ref o] ∧ SqP K H o ((optsOf fs x).map V.str) := by
  obtain ⟨a, xs, h1, h2, h3⟩ := h
  obtain ⟨f, k1, k2, k3⟩ := pos_at hx
  obtain ⟨y, m1, t, o, rfl, m2, m3⟩ := fds_get h3 k1
  rw [k2] at m2
  rw [k3] at m3
  exact ⟨a, xs, t, o, h1, h2, atI_nat m1, m2, m3⟩
end
/-! ### walks over a list or a tuple at a name -/
theorem iSeqV {K : PySem.W.Frag} {σ : L2.St} {H : Hp} {i : Nat} {a : Addr} {xs : List V} {R : It → Hp → Prop} (hσ : σ[i]? = some (some (.ref a))) (h : SqL K H a xs ∨ SqT K H a xs)
    (k : ∀ (J : It) (G : Hp → Prop), Walk J xs.length G (YAt xs) → (∀ H', Same H H' → G H') → R J H) : iSeq K (tVar i) σ H R := by
  rcases h with h | h
  · exact .inl ⟨.ref a, hσ, a, rfl, ⟨xs, h⟩, k _ _ walk_list fun H' e => e.seq h⟩
  · exact .inr ⟨.ref a, hσ, a, rfl, ⟨xs, h⟩, k _ _ walk_tup fun H' e => Same.tup e h⟩
end Bh
namespace Bh
open PySem PySem.Spec PyProof.Rows L2
theorem rIx_go {K : PySem.W.Frag} {H : Hp} {a : Addr} {xs : List V} {i : Int} {v : V} {Q : VK} (h : SqL K H a xs ∨ SqT K H a xs) (e : atI xs i = some v) (q : Q v H) : rIx K (.ref a) (.int i) H Q := by
  rcases h with h | h
  · exact .inl ⟨a, xs, i, v, rfl, rfl, h, e, q⟩
  · exact .inr (.inl ⟨a, xs, i, v, rfl, rfl, h, e, q⟩)
theorem dec_int {m n : Nat} : decide (V.int (m : Int) = V.int (n : Int)) = decide (m = n) := by
  refine decide_eq_decide.mpr ⟨fun h => ?_, fun h => by rw [h]⟩
  have e := V.int.inj h
  omega
theorem dec_lt {m n : Nat} : decide ((m : Int) < (n : Int)) = decide (m < n) := decide_eq_decide.mpr ⟨fun h => by omega, fun h => by omega⟩
theorem str_ne {a b : Str} (h : ¬ V.str a = V.str b) : a ≠ b := fun e => h (by rw [e])
end Bh

set_option Elab.async false
set_option linter.all false
set_option maxRecDepth 100000
namespace Bh
open PySem PySem.Spec PyProof.Rows L2
/-! ### what is drawn: names, options, fields, cases, programs -/
def pool : List Str := ["0", "1", "2", "10", "a", "b", "far", "x9", "zzzzzzzz", "7up"]
def tails : List Str := ["", "a", "qq", "xyz", "mmmmmmm"]
def letters : Str := "abcdefghijklmnopqrstuvwxyz"
theorem pool_nodup : pool.Nodup := by decide +kernel
theorem perm_strs {l : List Str} {ys : List V} (h : ys.Perm (l.map V.str)) : ∃ zs : List Str, zs.Perm l ∧ ys = zs.map V.str := by
  let g : V → Str := fun v => match v with
    | .str z => z
    | _ => Str.empty
  refine ⟨ys.map g, ?_, ?_⟩
  · have q := h.map g
    rw [List.map_map] at q
    have e : (g ∘ V.str) = id := by
      funext z
      rfl
    rw [e, List.map_id] at q
    exact q
  · rw [List.map_map]
    have q : ∀ v ∈ ys, (V.str ∘ g) v = v := fun v hv => by
      obtain ⟨z, _, rfl⟩ := List.mem_map.mp (h.mem_iff.mp hv)
      rfl
    rw [List.map_congr_left q, List.map_id']
/-- a name: one to eight lowercase letters -/
structure IsNm (w : Str) : Prop where
  lo : 1 ≤ w.length
  hi : w.length ≤ 8
  az : ∀ c ∈ w.cps.toList, 97 ≤ c ∧ c ≤ 122
def wordK (z : Str) (k c : Nat) : Str := cutS z none (some (k : Int)) ++ ⟨#[c]⟩ ++ cutS z (some (k : Int)) none
theorem cut_lo (z : Str) (k : Nat) : (cutS z none (some (k : Int))).cps.toList = z.cps.toList.take k := by
  unfold cutS
  rw [HT.sIx_none, HT.sIx_nat]
  show ((z.cps.toList.drop 0).take (min k z.length - 0)) = _
  rw [List.drop_zero, Nat.sub_zero]
  have e1 : z.cps.toList.length = z.cps.size := by simp
  have e2 : z.length = z.cps.size := rfl
  by_cases h : k ≤ z.length
  · rw [Nat.min_eq_left h]
  · rw [Nat.min_eq_right (by omega), List.take_of_length_le (by omega), List.take_of_length_le (by omega)]
theorem cut_hi (z : Str) (k : Nat) (h : k ≤ z.length) : (cutS z (some (k : Int)) none).cps.toList = z.cps.toList.drop k := by
  unfold cutS
  rw [HT.sIx_none, HT.sIx_nat, Nat.min_eq_left h]
  show ((z.cps.toList.drop k).take (z.length - k)) = _
  refine List.take_of_length_le ?_
  rw [List.length_drop]
  have : z.cps.toList.length = z.cps.size := by simp
  have : z.length = z.cps.size := rfl
  omega
theorem wordK_cps (z : Str) (k c : Nat) (h : k ≤ z.length) : (wordK z k c).cps.toList = z.cps.toList.take k ++ (c :: z.cps.toList.drop k) := by
  have e : (wordK z k c).cps = (cutS z none (some (k : Int))).cps ++ #[c] ++ (cutS z (some (k : Int)) none).cps := rfl
  rw [e, Array.toList_append, Array.toList_append, cut_lo, cut_hi z k h]
  simp
theorem wordK_length (z : Str) (k c : Nat) (h : k ≤ z.length) : (wordK z k c).length = z.length + 1 := by
  have e : (wordK z k c).length = (wordK z k c).cps.toList.length := by
    show (wordK z k c).cps.size = _
    simp
  rw [e, wordK_cps z k c h, List.length_append, List.length_take, List.length_cons, List.length_drop]
  have : z.cps.toList.length = z.cps.size := by simp
  have : z.length = z.cps.size := rfl
  omega
theorem wordK_inj {z : Str} {k c d : Nat} (h : k ≤ z.length) (e : wordK z k c = wordK z k d) : c = d := by
  have q := congrArg (fun s : Str => s.cps.toList) e
  simp only [wordK_cps z k _ h] at q
  have q2 := List.append_cancel_left q
  exact (List.cons.inj q2).1
theorem tails_ok : ∀ z ∈ tails, z.length ≤ 7 ∧ ∀ c ∈ z.cps.toList, 97 ≤ c ∧ c ≤ 122 := by
  decide +kernel
theorem wordK_nm {z : Str} (hz : z ∈ tails) {k c : Nat} (h : k ≤ z.length) (h1 : 97 ≤ c) (h2 : c ≤ 122) : IsNm (wordK z k c) := by
  obtain ⟨t1, t2⟩ := tails_ok z hz
  refine ⟨by rw [wordK_length z k c h]; omega, by rw [wordK_length z k c h]; omega, fun d hd => ?_⟩
  rw [wordK_cps z k c h] at hd
  rcases List.mem_append.mp hd with q | q
  · exact t2 d (List.mem_of_mem_take q)
  · rcases List.mem_cons.mp q with q | q
    · rw [q]
      exact ⟨h1, h2⟩
    · exact t2 d (List.mem_of_mem_drop q)
theorem letters_at {j : Int} (h0 : 0 ≤ j) (h1 : j < 26) : atI letters.cps.toList j = some (97 + j.toNat) := by
  have key : ∀ k : _root_.Fin 26, letters.cps.toList[k.val]? = some (97 + k.val) := by decide +kernel
  exact at_nn h0 (key ⟨j.toNat, by omega⟩)
def wordsOf (z : Str) (k : Nat) (s : Int) (n : Nat) : List Str := (List.range n).map fun (i : Nat) => wordK z k (97 + ((s + 5 * (i : Int)) % 26).toNat)
theorem wordsOf_nodup {z : Str} {k : Nat} {s : Int} {n : Nat} (h : k ≤ z.length) (hn : n ≤ 3) : (wordsOf z k s n).Nodup := by
  unfold wordsOf
  refine List.pairwise_map.mpr ((List.pairwise_lt_range (n := n)).imp_of_mem fun {a b} ha hb hab e => ?_)
  have h2 := List.mem_range.mp hb
  have q := wordK_inj h e
  omega
theorem wordsOf_nm {z : Str} (hz : z ∈ tails) {k : Nat} {s : Int} {n : Nat} (h : k ≤ z.length) : ∀ w ∈ wordsOf z k s n, IsNm w := fun w hw => by
  obtain ⟨i, _, rfl⟩ := List.mem_map.mp hw
  exact wordK_nm hz h (by omega) (by omega)
theorem wordsOf_len {z : Str} {k : Nat} {s : Int} {n : Nat} : (wordsOf z k s n).length = n := by
  unfold wordsOf
  rw [List.length_map, List.length_range]
/-- fields as the laws draw them -/
structure FsOk (fs : List Fld) : Prop where
  ne : 1 ≤ fs.length
  le : fs.length ≤ 3
  nd : (fs.map (·.1)).Nodup
  nm : ∀ f ∈ fs, IsNm f.1
  os : ∀ f ∈ fs, f.2.Nodup ∧ 2 ≤ f.2.length ∧ f.2.length ≤ 6 ∧ ∀ o ∈ f.2, o ∈ pool
theorem opts_of {fs : List Fld} (nd : (fs.map (·.1)).Nodup) {f : Fld} (h : f ∈ fs) : optsOf fs f.1 = f.2 := by
  obtain ⟨i, hi⟩ := List.mem_iff_getElem?.mp h
  have e : ix (fs.map (·.1)) f.1 = i := ix_at nd (by rw [List.getElem?_map, hi]; rfl)
  unfold optsOf posOf
  rw [e, hi]
  rfl
/-- signs of tests -/
def signs : List Str := ["=", "!", "<", ">"]
/-! ### promises of the defs that draw -/
def spAny (K : PySem.W.Frag) : Sp := fun vs H Q _ => ∃ (b l a : Addr) (G : Hp) (xs : List V), vs = [.ref b, .ref a] ∧ (SqL K G a xs ∨ SqT K G a xs) ∧ xs ≠ [] ∧ xs.length ≤ 100000 ∧ Wd b l G H ∧ ∀ x H', x ∈ xs → Wd b l G H' → Q x H'
def spMixed (K : PySem.W.Frag) : Sp := fun vs H Q _ => ∃ (b l a : Addr) (G : Hp) (xs : List V), vs = [.ref b, .ref a] ∧ SqL K G a xs ∧ xs.length ≤ 1000 ∧ Wd b l G H ∧
  ∀ (G' H' : Hp) (p : Addr) (ys : List V), Same G G' → Wd b l G' H' → G' p = some (.lst ys) → ys.Perm xs → Q (.ref p) H'
def spWords : Sp := fun vs H Q _ => ∃ (b l : Addr) (G : Hp) (n : Int), vs = [.ref b, .int n] ∧ 0 ≤ n ∧ n ≤ 3 ∧ Wd b l G H ∧
  ∀ (G' H' : Hp) (p : Addr) (ws : List Str), Same G G' → Wd b l G' H' → G' p = some (.lst (ws.map V.str)) → ws.length = n.toNat → ws.Nodup → (∀ w ∈ ws, IsNm w) → Q (.ref p) H'
def spOptions (K : PySem.W.Frag) : Sp := fun vs H Q _ => ∃ (b l : Addr) (G : Hp) (n : Int), vs = [.ref b, .int n] ∧ 2 ≤ n ∧ n ≤ 6 ∧ Wd b l G H ∧
  ∀ (G' H' : Hp) (p : Addr) (os : List Str), Same G G' → Wd b l G' H' → SqP K G' p (os.map V.str) → os.length = n.toNat → os.Nodup → (∀ o ∈ os, o ∈ pool) → Q (.ref p) H'
def spFields (K : PySem.W.Frag) : Sp := fun vs H Q _ => ∃ (b l : Addr) (G : Hp), vs = [.ref b, .int 24] ∧ Wd b l G H ∧
  ∀ (G' H' : Hp) (p : Addr) (xs : List V) (fs : List Fld), Same G G' → Wd b l G' H' → G' p = some (.lst xs) → Paired (FdAt K G') xs fs → FsOk fs → Q (.ref p) H'
def spCase (K : PySem.W.Frag) : Sp := fun vs H Q _ => ∃ (b l a : Addr) (G : Hp) (xs : List V) (fs : List Fld), vs = [.ref b, .ref a] ∧ SqL K G a xs ∧ Paired (FdAt K G) xs fs ∧ FsOk fs ∧ Wd b l G H ∧
  ∀ (G' H' : Hp) (y : V) (c : Cas), Same G G' → Wd b l G' H' → Dp K G' y (dC c) → FitC fs c → c.1.length ≤ 2 → (∀ ss, c.2 = some ss → ss.length ≤ 2) → (∀ t ∈ c.1, t.2.1 ∈ signs) → Q y H'
end Bh
namespace Bh
open PySem PySem.Spec PyProof.Rows L2
theorem cutV_take (xs : List V) {n : Int} (h : 0 ≤ n) : cutV xs none (some n) = xs.take n.toNat := by
  obtain ⟨k, rfl⟩ : ∃ m : Nat, n = (m : Int) := ⟨n.toNat, by omega⟩
  unfold cutV
  rw [HT.sIx_none, show HT.sIx xs.length xs.length (some (k : Int)) = min k xs.length from HT.sIx_nat _ _ k]
  show List.take (min k xs.length - 0) (List.drop 0 xs) = xs.take k
  rw [List.drop_zero, Nat.sub_zero]
  by_cases hk : k ≤ xs.length
  · rw [Nat.min_eq_left hk]
  · rw [Nat.min_eq_right (by omega), List.take_of_length_le (Nat.le_refl _), List.take_of_length_le (by omega)]
theorem fds_mem {K : PySem.W.Frag} {H : Hp} : ∀ {xs : List V} {fs : List Fld} {x : V}, Paired (FdAt K H) xs fs → x ∈ xs → ∃ f ∈ fs, FdAt K H x f
  | _, _, _, .nil, h => by cases h
  | _, _, x, .cons h t, hx => by
    rcases List.mem_cons.mp hx with e | hx
    · rw [e]
      exact ⟨_, List.mem_cons_self .., h⟩
    · obtain ⟨f, h1, h2⟩ := fds_mem t hx
      exact ⟨f, List.mem_cons_of_mem _ h1, h2⟩
theorem fds_len {K : PySem.W.Frag} {H : Hp} : ∀ {xs : List V} {fs : List Fld}, Paired (FdAt K H) xs fs → xs.length = fs.length
  | _, _, .nil => rfl
  | _, _, .cons _ t => congrArg Nat.succ (fds_len t)
theorem fds_snoc {K : PySem.W.Frag} {H : Hp} {x : V} {f : Fld} : ∀ {xs : List V} {fs : List Fld}, Paired (FdAt K H) xs fs → FdAt K H x f → Paired (FdAt K H) (xs ++ [x]) (fs ++ [f])
  | _, _, .nil, h => .cons h .nil
  | _, _, .cons k t, h => .cons k (fds_snoc t h)
theorem min_max_bound (z : Int) : 0 < (if (if z > 1 then z else 1) < 5 then (if z > 1 then z else 1) else 5) ∧ (if (if z > 1 then z else 1) < 5 then (if z > 1 then z else 1) else 5) ≤ (5 : Int) := by
  split <;> split <;> omega
end Bh
namespace Bh
open PySem PySem.Spec PyProof.Rows L2
theorem dpa_snoc {K : PySem.W.Frag} {H : Hp} {x : V} {d : PyData} {xs : List V} {ds : List PyData} (h : DpAll K H xs ds) (k : Dp K H x d) : DpAll K H (xs ++ [x]) (ds ++ [d]) := DpAll.append h (.cons k .nil)
end Bh
namespace Bh
open PySem PySem.Spec PyProof.Rows L2
theorem noL_dV (v : List Str) : noL (dV v) = true := noLs_map (fun _ => rfl) v
theorem noL_dT (t : Tst) : noL (dT t) = true := rfl
theorem noL_dS (s : Stp) : noL (dS s) = true := rfl
theorem noL_dO : ∀ o : Option (List Stp), noL (dO o) = true
  | none => rfl
  | some ss => noLs_map noL_dS ss
theorem noL_dC (c : Cas) : noL (dC c) = true := by
  show (noLs (c.1.map dT) && (noL (dO c.2) && true)) = true
  rw [noLs_map noL_dT, noL_dO]
  rfl
theorem FdAt.imm {K : PySem.W.Frag} {H H' : Hp} {v : V} {f : Fld} (e : Imm H H') (h : FdAt K H v f) : FdAt K H' v f := by
  obtain ⟨a, o, h1, h2, h3⟩ := h
  exact ⟨a, o, h1, e.tup h2, e.sqp h3⟩
theorem fds_imm {K : PySem.W.Frag} {H H' : Hp} (e : Imm H H') : ∀ {xs : List V} {fs : List Fld}, Paired (FdAt K H) xs fs → Paired (FdAt K H') xs fs
  | _, _, .nil => .nil
  | _, _, .cons h t => .cons (h.imm e) (fds_imm e t)
def spProg (K : PySem.W.Frag) : Sp := fun vs H Q _ => ∃ (b l a : Addr) (G : Hp) (n : Int) (xs : List V) (fs : List Fld), vs = [.ref b, .ref a, .int n] ∧ SqL K G a xs ∧ Paired (FdAt K G) xs fs ∧ FsOk fs ∧ 0 < n ∧ n ≤ 8 ∧ Wd b l G H ∧
  ∀ (G' H' : Hp) (y : V) (p : List Cas), Same G G' → Wd b l G' H' → Dp K G' y (.tuple (p.map dC)) → (∀ c ∈ p, FitC fs c ∧ c.1.length ≤ 2 ∧ (∀ ss, c.2 = some ss → ss.length ≤ 2) ∧ ∀ t ∈ c.1, t.2.1 ∈ signs) → 1 ≤ p.length → p.length ≤ 8 → Q y H'
/-! all values -/
def ext1 (acc : List (List Str)) (f : Fld) : List (List Str) := acc.flatMap fun v => f.2.map fun o => v ++ [o]
def vals (fs : List Fld) : List (List Str) := fs.foldl ext1 [[]]
theorem flat_len (os : List Str) : ∀ acc : List (List Str), (acc.flatMap fun v => os.map fun o => v ++ [o]).length = acc.length * os.length
  | [] => by simp
  | v :: r => by
    rw [List.flatMap_cons, List.length_append, List.length_map, flat_len os r, List.length_cons, Nat.succ_mul]
    omega
theorem vals_take {fs : List Fld} {i : Nat} {f : Fld} (h : fs[i]? = some f) : vals (fs.take (i + 1)) = ext1 (vals (fs.take i)) f := by
  unfold vals
  rw [List.take_add_one, h, List.foldl_append]
  rfl
theorem vals_len {fs : List Fld} (h : ∀ f ∈ fs, f.2.length ≤ 6) : ∀ i : Nat, (vals (fs.take i)).length ≤ 6 ^ i
  | 0 => by
    rw [List.take_zero]
    exact Nat.le_refl 1
  | i + 1 => by
    cases e : fs[i]? with
    | none =>
      have hl : fs.length ≤ i := List.getElem?_eq_none_iff.mp e
      rw [List.take_of_length_le (by omega), show fs = fs.take i from (List.take_of_length_le hl).symm]
      refine Nat.le_trans (vals_len h i) ?_
      rw [Nat.pow_succ]
      exact Nat.le_mul_of_pos_right _ (by decide)
    | some f =>
      rw [vals_take e]
      unfold ext1
      rw [flat_len, Nat.pow_succ]
      exact Nat.mul_le_mul (vals_len h i) (h f (List.mem_of_getElem? e))
theorem vals_fit : ∀ (fs done : List Fld) (acc : List (List Str)), (∀ v ∈ acc, FitV done v) → ∀ v ∈ fs.foldl ext1 acc, FitV (done ++ fs) v
  | [], done, acc, h, v, hv => by
    rw [List.append_nil]
    exact h v hv
  | f :: r, done, acc, h, v, hv => by
    have e : done ++ f :: r = (done ++ [f]) ++ r := by simp
    rw [e]
    refine vals_fit r (done ++ [f]) (ext1 acc f) (fun w hw => ?_) v hv
    obtain ⟨u, hu, hw2⟩ := List.mem_flatMap.mp hw
    obtain ⟨o, ho, rfl⟩ := List.mem_map.mp hw2
    obtain ⟨l1, l2⟩ := h u hu
    refine ⟨by rw [List.length_append, List.length_append, l1]; rfl, fun i g o' hg ho' => ?_⟩
    by_cases hi : i < done.length
    · rw [List.getElem?_append_left hi] at hg
      rw [List.getElem?_append_left (by omega)] at ho'
      exact l2 i g o' hg ho'
    · rw [List.getElem?_append_right (by omega)] at hg
      rw [List.getElem?_append_right (by omega), l1] at ho'
      have hz : i - done.length = 0 := by
        have := (List.getElem?_eq_some_iff.mp hg).1
        simp at this
        omega
      rw [hz] at hg ho'
      cases hg
      cases ho'
      exact ho
theorem vals_ok {fs : List Fld} : ∀ v ∈ vals fs, FitV fs v := by
  have q := vals_fit fs [] [[]] (fun v hv => by
    cases List.mem_singleton.mp hv
    exact ⟨rfl, fun i f o h => by simp at h⟩)
  show ∀ v ∈ fs.foldl ext1 [[]], FitV fs v
  simpa using q
def spVals (K : PySem.W.Frag) : Sp := fun vs H Q _ => ∃ (a : Addr) (xs : List V) (fs : List Fld), vs = [.ref a] ∧ SqL K H a xs ∧ Paired (FdAt K H) xs fs ∧ FsOk fs ∧
  ∀ (H' : Hp) (p : Addr) (ys : List V), Same H H' → H' p = some (.lst ys) → DpAll K H' ys ((vals fs).map dV) → Q (.ref p) H'
end Bh

set_option Elab.async false
set_option linter.all false
set_option maxRecDepth 100000
set_option maxHeartbeats 2000000
namespace Bh
open PySem PySem.Spec PyProof.Rows L2 LamX NdefX
/-! ### a lambda with parameters, handed to a def and called there -/
/-- its words, as those of a nested def without a body of statements -/
abbrev lamF (q : Str) (params : Arguments) (scope : Scope) (cl : List (Str × Addr)) (c : Addr) : NF := ⟨"<lambda>", q, params, [], scope, cl, c⟩
theorem CellsAt.un {cl : List (Str × Addr)} {fr : List Str} {ws : List (Option V)} {st : List Addr} {H HZ : Hp} {h h1 : Heap} (C : CellsAt cl fr ws h H) (un : Un st [] H HZ h h1) : CellsAt cl fr ws h1 HZ := by
  have kp : ∀ y c, cl.lookup y = some c → ∀ v, h.IsCell c v → h1.IsCell c v := fun y c e v ⟨o, ho, hd⟩ => by
    obtain ⟨sl, q⟩ := un.any ho (C.all y c e).1 (by simp)
    exact ⟨_, q, hd⟩
  refine ⟨C.len, fun y c e => ?_, C.inj, fun i y e => ?_⟩
  · obtain ⟨n, v, z⟩ := C.all y c e
    refine ⟨?_, v, kp y c e v z⟩
    obtain ⟨o, ho, _⟩ := z
    exact un.free c o ho n (by simp)
  · obtain ⟨c, hc, hv⟩ := C.has i y e
    refine ⟨c, hc, fun v ev => ?_⟩
    obtain ⟨u, r, z⟩ := hv v ev
    exact ⟨u, r, kp y c hc _ z⟩
section
variable {CX : CXT} {P : Program} {w : World} {K : PySem.W.Frag} {mg : Str → Option Value} {base : Heap} {N ps fr : List Str} {f c' : Addr} {k : Nat} {q : Str} {params : Arguments} {body : Expr} {scope : Scope} {cl : List (Str × Addr)}
/-- the lambda runs -/
theorem lam_run {A : Around} {outer : List Env} {s : Shared} {H : Hp} {us : List Value} {vs : List V} {ws : List (Option V)} {Q : VK} {E : XK} {pm ctv : Value} {tb : TE} (S : NScope N ps fr scope)
    (hb : ∀ (us : List Value), us.length = ps.length → bindArgs (PySem.W.kla_fn "<lambda>" q params body scope cl pm (.ref c') ctv) ⟨us, []⟩ = pure (ps.zip us))
    (hr : Room (k + 1) A) (e0 : Env0 P w K mg base A outer s H) (lim : s.heap.NoLimit) (of : s.heap.get? f = some (PySem.W.kla_obj "<lambda>" q params body scope cl pm c' ctv)) (hc : s.heap.CodeRec (.ref c') q)
    (C : CellsAt cl fr ws s.heap H) (r : Vals vs us) (hl : vs.length = ps.length)
    (hbody : Room k (A.deeper (envF (lamF q params scope cl c') f s.heap.objs.size)) → PE (ncx CX P w K mg base N (lamF q params scope cl c') f A outer s H E) body tb) (h : tb (startF N vs ws) H Q) :
    codeAny (model P w) A (.call (.ref f) ⟨us, []⟩) (CR CX outer P w H s Q E) s := by
  refine PySem.W.kla_callFunE hr.depth of rfl S.co S.gen rfl hc ?_
  rw [hb us (by rw [← r.length]; exact hl)]
  refine wpAny_pure (wpAny_newFunctionEnv S.nocell (fun ⟨n, _⟩ hy => S.par n (List.of_mem_zip hy).1) (fun h₁ hns hsb => ⟨lim.fresh _ hsb, ?_⟩) S.kind)
  show codeAny _ _ (.expr body (envF (lamF q params scope cl c') f s.heap.objs.size)) _ _
  have kp : ∀ b o, s.heap.get? b = some o → h₁.get? b = some o := fun b o e => hsb.extBut b o (Nat.ne_of_lt (Heap.lt_size e)) (Heap.get?_push_of_some _ e)
  have I : Inv (ncx CX P w K mg base N (lamF q params scope cl c') f A outer s H E) [] (startF N vs ws) H { s with heap := h₁, toks := s.toks + (ps.zip us).length } := inv_startN (F := lamF q params scope cl c') S hr.hd e0 hl r C hns kp
  refine PySem.W.kla_codeExpr (wpAny_mono ((hbody (hr.deeper _)).run [] _ (startF N vs ws) H Q I h) (fun v s' hq => ?_) fun e s' hq => hq)
  obtain ⟨w', H', J', rv, q⟩ := hq
  exact ⟨w', H', J'.os, J'.bare, J'.base, J'.hok, rv, q⟩
/-- f(e, ..), f a name of the callee that holds the lambda: Z is the callee's context, entered at s -/
def tLamAct (c' f : Addr) (q : Str) (i n : Nat) (N : List Str) (ws : List (Option V)) (tb : TE) (t : TA) : TE := fun σ H Q => σ[i]? = some (some (.ref f)) ∧ H c' = some (CodeO c' q) ∧
  t σ H fun vs H1 => H1 c' = some (CodeO c' q) ∧ vs.length = n ∧ tb (startF N vs ws) H1 Q
theorem pe_lamact {CXg : CXT} {Eg : XK} {Ng : List Str} {qg : Str} {sg : Scope} {g : Addr} {cdg pm ctv : Value} {A0 : Around} {st : List Env} {s : Shared} {H : Hp} {ws : List (Option V)} {tb : TE} {a : Str} {i : Nat} {e : Expr} {es : List Expr} {t : TA} {p1 p2 : Pos}
    (S : NScope N ps fr scope) (hb : ∀ (us : List Value), us.length = ps.length → bindArgs (PySem.W.kla_fn "<lambda>" q params body scope cl pm (.ref c') ctv) ⟨us, []⟩ = pure (ps.zip us))
    (of : s.heap.get? f = some (PySem.W.kla_obj "<lambda>" q params body scope cl pm c' ctv)) (hfn : H f = none) (hfr : f ∉ frs st) (C : CellsAt cl fr ws s.heap H)
    (hr : Room (k + 1) (A0.deeper (envOfC qg sg s.heap.objs.size g cdg)))
    (hbody : ∀ (A : Around) (outer : List Env) (s : Shared) (H : Hp), Room k (A.deeper (envF (lamF q params scope cl c') f s.heap.objs.size)) → PE (ncx C8.CX0 P w K mg base N (lamF q params scope cl c') f A outer s H C8.E0) body tb)
    (hN : Ng[i]? = some a) (hv : Vis sg a) (ha : PA (cxOf CXg P w K mg base Ng qg sg g cdg A0 st s H Eg).nox (e :: es) t)
    (hd : (a == ("__debug__" : Str)) = false := by decide) (hcd : (a == ("__classdict__" : Str)) = false := by decide)
    (he : starEach (e :: es) (cxOf CXg P w K mg base Ng qg sg g cdg A0 st s H Eg).nox.env = (false, eval e (cxOf CXg P w K mg base Ng qg sg g cdg A0 st s H Eg).nox.env) :: starEach es (cxOf CXg P w K mg base Ng qg sg g cdg A0 st s H Eg).nox.env := by rfl)
    (hpl : (backTo p2 (starEach es (cxOf CXg P w K mg base Ng qg sg g cdg A0 st s H Eg).nox.env)).any (·.1) = false := by rfl) :
    PE (cxOf CXg P w K mg base Ng qg sg g cdg A0 st s H Eg).nox (.Call (.Name a p1) (e :: es) [] p2) (tLamAct c' f q i ps.length N ws tb t) := by
  refine ⟨fun pinsZ sZ σZ HZ Q IZ h => ?_⟩
  obtain ⟨hs, hc, ht⟩ := h
  refine wpAny_Call_Name_kw (thn ((pe_var (pos := p1) (i := i) hN hv hd hcd).run pinsZ sZ σZ HZ (fun v H1 => v = .ref f ∧ H1 = HZ) IZ ⟨.ref f, hs, rfl, rfl⟩) fun u s1 ⟨v, H1, I1, r1, q1⟩ => ?_)
  obtain ⟨ev, eH⟩ := q1
  subst ev
  rw [eH] at I1
  obtain rfl : u = Value.ref f := r1
  have at_ : ∀ {pins σ HZ} {s1 : Shared}, Inv (cxOf CXg P w K mg base Ng qg sg g cdg A0 st s H Eg).nox pins σ HZ s1 → s1.heap.get? f = some (PySem.W.kla_obj "<lambda>" q params body scope cl pm c' ctv) := fun I1 => I1.base.keep f _ of hfn hfr (fun z => nomatch (show f ∈ ([] : List Addr) from z))
  refine PySem.W.callWith_F (first := []) ⟨_, _, _, _, at_ I1⟩ (thn (ha.run p2 pinsZ s1 σZ HZ _ I1 ht) fun us s2 ⟨vs, H2, I2, r, h1, h2, h3⟩ => ⟨⟨_, _, _, _, at_ I2⟩, ?_⟩) he hpl
  show wpAny _ _ (call (.ref f) us) _ _ _
  have un : Un (frs st) [] H H2 s.heap s2.heap := I2.base
  obtain ⟨⟨oc, vsc, tc, hoc, hdc, hvc⟩, _, _⟩ := I2.hok c' _ h1
  have rc := lam_run (Q := Q) (A := (cxOf CXg P w K mg base Ng qg sg g cdg A0 st s H Eg).nox.A) (outer := (cxOf CXg P w K mg base Ng qg sg g cdg A0 st s H Eg).nox.stack) S hb hr I2.env0 I2.nolimit (at_ I2) ⟨c', oc, vsc, tc, rfl, hoc, hdc, hvc⟩ (CellsAt.un C un) r h2 (fun hr2 => hbody _ _ s2 H2 hr2) h3
  refine wpAny_call (codeAny_mono rc fun r s' hq => ?_)
  cases r with
  | error e => exact (show False from hq).elim
  | ok fl =>
    cases fl with
    | ret u => exact I2.after hq
    | next => exact False.elim hq
    | brk => exact False.elim hq
    | cont => exact False.elim hq
end
end Bh
namespace Bh
open PySem PySem.Spec PyProof.Rows L2 LamX NdefX
/-- the def that calls what it got in its second place: what it makes (TT) of the lambda's reading -/
def GivesTo2 (X : Cx) (Ng : List Str) (x : Str) (sg : Scope) (g : Addr) (cdg : Value) (bg : List Stmt) (a : Str) (q : Str) (n : Nat) (TT : (List V → Hp → VK → Prop) → V → Hp → VK → Prop) : Prop :=
  ∀ (f c' : Addr) (s : Shared) (H : Hp) (Q : VK) (v1 : V) (N : List Str) (ws : List (Option V)) (tb : TE),
    (∀ (e : Expr) (es : List Expr) (t : TA) (p1 p2 : Pos), PA (cxOf C8.CX0 X.prog X.w X.K X.mg X.base Ng x sg g cdg X.A X.stack s H C8.E0).nox (e :: es) t →
      starEach (e :: es) (cxOf C8.CX0 X.prog X.w X.K X.mg X.base Ng x sg g cdg X.A X.stack s H C8.E0).nox.env = (false, eval e (cxOf C8.CX0 X.prog X.w X.K X.mg X.base Ng x sg g cdg X.A X.stack s H C8.E0).nox.env) :: starEach es (cxOf C8.CX0 X.prog X.w X.K X.mg X.base Ng x sg g cdg X.A X.stack s H C8.E0).nox.env →
      (backTo p2 (starEach es (cxOf C8.CX0 X.prog X.w X.K X.mg X.base Ng x sg g cdg X.A X.stack s H C8.E0).nox.env)).any (·.1) = false →
      PE (cxOf C8.CX0 X.prog X.w X.K X.mg X.base Ng x sg g cdg X.A X.stack s H C8.E0).nox (.Call (.Name a p1) (e :: es) [] p2) (tLamAct c' f q 1 n N ws tb t)) →
    H c' = some (CodeO c' q) → TT (fun vs H' Q' => tb (startF N vs ws) H' Q') v1 H Q →
    ∃ t, PSs (cxOf C8.CX0 X.prog X.w X.K X.mg X.base Ng x sg g cdg X.A X.stack s H C8.E0).nox bg t ∧ t { nx := fun _ H' => Q .non H', rt := Q } (L2.start Ng [v1, .ref f]) H
def tLam2 (T : List (Addr × Str)) (N : List Str) (js : List Nat) (TT : (List V → Hp → VK → Prop) → V → Hp → VK → Prop) (tb : TE) (t1 : TE) : TE := fun σ H Q => t1 σ H fun v1 H1 => Tabs T H1 ∧ ∀ H2, ExtN H1 H2 → Tabs T H2 → TT (fun vs H' Q' => tb (startF N vs (js.map (slotAt σ))) H' Q') v1 H2 Q
/-- x(e1, lambda ..: body) -/
theorem pe_lamcall2 {X : Cx} {T : List (Addr × Str)} {TT : (List V → Hp → VK → Prop) → V → Hp → VK → Prop} {x a1 a : Str} {g c P : Addr} {k : Nat} {pg : Arguments} {bg : List Stmt} {sg : Scope} {dV kV doc pm cdv ct oc : Value} {an od : Option Addr} {osl : Array (Option Value)} {Ng : List Str}
    {params : Arguments} {body : Expr} {scope : Scope} {N ps fr : List Str} {js : List Nat} {tb t1 : TE} {e1 : Expr} {p lpos pos : Pos} (hg : Gl X x) (hm : X.mg x = some (.ref g)) (hk : PySem.W.keepIn X.K (.ref g) = true)
    (lk : X.K.lookup g = some ⟨oc, od, .func (PySem.W.fnOf x x pg bg sg dV kV doc pm an cdv ct), osl⟩) (hcg : PySem.W.codeIn X.K cdv x = true) (hb : L2.Binds X.K (PySem.W.fnOf x x pg bg sg dV kV doc pm an cdv ct) [a1, a] []) (Sg : FnScope Ng [a1, a] sg) (hNg : Ng[1]? = some a) (hva : Vis sg a)
    (he1 : PE X e1 t1)
    (hG : GivesTo2 X Ng x sg g cdv bg a (X.env.qual ++ "<lambda>") ps.length TT)
    (TB : TabB X.base X.mg c P) (hcode : X.env.code = .ref c) (hmT : (P, X.env.qual ++ "<lambda>") ∈ T) (hu : ∀ p ∈ T, p.1 = P → p.2 = X.env.qual ++ "<lambda>") (hr : Room (k + 2) X.A) (hdef : defaultsOf params X.env = ([], []))
    (S : NScope N ps fr scope) (hfree : ∀ y ∈ scope.names, y.2 = .free → X.env.scope.names.lookup y.1 = some .cell ∨ X.env.scope.names.lookup y.1 = some .free) (hfr : ∀ y ∈ fr, (y, NameKind.free) ∈ scope.names) (hjs : js.map (fun j => X.N[j]?) = fr.map some)
    (hbind : ∀ (q : Str) (cl : List (Str × Addr)) (pm cv ctv : Value) (us : List Value), us.length = ps.length → bindArgs (PySem.W.kla_fn "<lambda>" q params body scope cl pm cv ctv) ⟨us, []⟩ = pure (ps.zip us))
    (hbody : ∀ (A : Around) (outer : List Env) (s : Shared) (H : Hp) (F : NF) (f : Addr), F.scope = scope → Room k (A.deeper (envF F f s.heap.objs.size)) → PE (ncx C8.CX0 X.prog X.w X.K X.mg X.base N F f A outer s H C8.E0) body tb)
    (hdb : (x == ("__debug__" : Str)) = false := by decide) (hd : (a == ("__debug__" : Str)) = false := by decide) (hcd : (a == ("__classdict__" : Str)) = false := by decide)
    (hs1 : starEach [e1, .Lambda params body scope lpos] X.env = (false, eval e1 X.env) :: starEach [.Lambda params body scope lpos] X.env := by rfl) (hpl : (backTo pos (starEach [.Lambda params body scope lpos] X.env)).any (·.1) = false := by rfl) :
    PE X (.Call (.Name x p) [e1, .Lambda params body scope lpos] [] pos) (tLam2 T N js TT tb t1) := by
  refine ⟨fun pins s σ H Q I h => ?_⟩
  refine wpAny_Call_Name_kw (ld_glob I hg hm ?_ hdb)
  refine PySem.W.callWith_K (h₀ := X.base) I.ok.mod.kin hk ?_ hs1 hpl
  rw [hs1]
  show wpAny _ _ (spliced ((false, eval e1 X.env) :: backTo pos (starEach [.Lambda params body scope lpos] X.env))) _ _ s
  refine Calls.spliced_cons (thn (he1.run pins s σ H _ I h) fun u1 s0 ⟨v1, H0, I0, r1, hT, h⟩ => ?_)
  have hfr' : ∀ y ∈ scope.names, y.2 = .free → ∃ c, X.env.cells.lookup y.1 = some c := fun y hy e => (hfree y hy e).elim (fun z => I0.ok.has _ (.inl z)) fun z => I0.ok.has _ (.inr z)
  show wpAny _ _ (spliced ((false, eval (.Lambda params body scope lpos) X.env) :: backTo pos (starEach [] X.env))) _ _ s0
  refine Calls.spliced_cons (lam_make2 I0 TB hcode hmT hu hT hdef hfr' fun f c' pm' ctv H1 s' I1 eN T1 hf hfn hfs hco => ?_)
  refine Calls.spliced_nil ⟨I1.kIn, ?_⟩
  have C := cells_of I1 (Caps.made (fr := fr) (js := js) I1.ok hfree hfr hjs)
  have rc : codeAny (model X.prog X.w) X.A (.call (.ref g) ⟨[u1, .ref f], []⟩) (CR C8.CX0 X.stack X.prog X.w H1 s' Q C8.E0) s' := by
    refine run_ofS (N := Ng) (ps := [a1, a]) (us := [u1, .ref f]) (vs := [v1, .ref f]) lk hcg Sg hr I1.env0 (hb s' [u1, .ref f] I1.kIn rfl) (.cons r1 (.cons rfl .nil)) rfl fun hr' => ?_
    refine (fun ⟨t, h1, h2⟩ => ⟨t, h1.nox, h2⟩) (hG f c' s' H1 Q v1 N (js.map (slotAt σ)) tb (fun e es t p1 p2 ha he hp => pe_lamact S (hbind _ _ _ _ _) hf hfn hfs C hr' (fun A outer s H hr2 => hbody A outer s H _ _ rfl hr2) hNg hva ha hd hcd he hp) hco (h H1 eN T1))
  refine wpAny_call (codeAny_mono rc fun r s2 hq => ?_)
  cases r with
  | error e => exact (show False from hq).elim
  | ok fl =>
    cases fl with
    | ret u => exact I1.after hq
    | next => exact False.elim hq
    | brk => exact False.elim hq
    | cont => exact False.elim hq
end Bh

set_option Elab.async false
set_option linter.all false
set_option maxRecDepth 100000
namespace Bh
open PySem PySem.Spec PyProof.Rows L2
/-! ### lines of cases: the mirror -/
def lettersD : Str := "abcdefghijklmnopqrstuvwxyz0123456789"
def wordB (w z : Str) : Bool := decide (1 ≤ w.length ∧ w.length ≤ 8) && (TL.tl w).all (fun c => decide (c ∈ TL.tl z))
def lineT (t : Tst) : Str := t.1 ++ t.2.1 ++ t.2.2
def lineS (s : Stp) : Str := if s.2 = "+" then s.1 ++ "+" else s.1 ++ ":" ++ s.2
def leftL (ts : List Tst) : Str := if ts = [] then "always" else Txt.join " and " (ts.map lineT)
def rightL : Option (List Stp) → Str
  | none => "drop"
  | some ss => if ss = [] then "keep" else Txt.join ", " (ss.map lineS)
def lineC (c : Cas) : Str := "when " ++ leftL c.1 ++ " do " ++ rightL c.2
def seqO {α : Type} : List (Option α) → Option (List α)
  | [] => some []
  | none :: _ => none
  | some x :: r => (seqO r).map (x :: ·)
def allR {α : Type} (l : List (Option α)) : Option (List α) := if l.length ≤ 6 then seqO l else none
def tryT (part s : Str) : Option Tst := if (wordB (Txt.partition part s).1 letters && wordB (Txt.partition part s).2.2 lettersD) = true then some ((Txt.partition part s).1, s, (Txt.partition part s).2.2) else none
def readT (part : Str) : Option Tst := signs.findSome? (tryT part)
def readS (part : Str) : Option Stp :=
  if Txt.endswith part "+" = true then (if wordB (Txt.removesuffix part "+") letters = true then some (Txt.removesuffix part "+", "+") else none)
  else if (wordB (Txt.partition part ":").1 letters && wordB (Txt.partition part ":").2.2 lettersD) = true then some ((Txt.partition part ":").1, (Txt.partition part ":").2.2) else none
def readTs (x : Str) : Option (List Tst) := if x = "always" then some [] else allR ((Txt.split x " and ").map readT)
def readSs (x : Str) : Option (List Stp) := if x = "keep" then some [] else allR ((Txt.split x ", ").map readS)
def readP (before behind : Str) : Option Cas := match readTs before with
  | none => none
  | some ts => if behind = "drop" then some (ts, none) else match readSs behind with
    | none => none
    | some ss => some (ts, some ss)
def readC (l : Str) : Option Cas := if Txt.startswith l "when " = true then readP (Txt.partition (Txt.removeprefix l "when ") " do ").1 (Txt.partition (Txt.removeprefix l "when ") " do ").2.2 else none
/-! what a case is -/
def OkT (t : Tst) : Prop := wordB t.1 letters = true ∧ t.2.1 ∈ signs ∧ wordB t.2.2 lettersD = true
def OkS (s : Stp) : Prop := wordB s.1 letters = true ∧ (s.2 = "+" ∨ wordB s.2 lettersD = true)
structure OkC (c : Cas) : Prop where
  n : c.1.length ≤ 6
  t : ∀ t ∈ c.1, OkT t
  m : ∀ ss, c.2 = some ss → ss.length ≤ 6
  s : ∀ ss, c.2 = some ss → ∀ s ∈ ss, OkS s
/-! words -/
theorem app_assoc (a b c : Str) : a ++ b ++ c = a ++ (b ++ c) := TL.ext_tl (by rw [TL.tl_append, TL.tl_append, TL.tl_append, TL.tl_append, List.append_assoc])
theorem word_len {w z : Str} (h : wordB w z = true) : 1 ≤ w.length ∧ w.length ≤ 8 := of_decide_eq_true (Bool.and_eq_true_iff.mp h).1
theorem word_mem {w z : Str} (h : wordB w z = true) : ∀ c ∈ TL.tl w, c ∈ TL.tl z := fun c hc => of_decide_eq_true (List.all_eq_true.mp (Bool.and_eq_true_iff.mp h).2 c hc)
theorem word_mk {w z : Str} (h1 : 1 ≤ w.length) (h2 : w.length ≤ 8) (h : ∀ c ∈ TL.tl w, c ∈ TL.tl z) : wordB w z = true :=
  Bool.and_eq_true_iff.mpr ⟨decide_eq_true ⟨h1, h2⟩, List.all_eq_true.mpr fun c hc => decide_eq_true (h c hc)⟩
theorem let_letD : ∀ c ∈ TL.tl letters, c ∈ TL.tl lettersD := by decide +kernel
theorem word_letD {w : Str} (h : wordB w letters = true) : wordB w lettersD = true := word_mk (word_len h).1 (word_len h).2 fun c hc => let_letD c (word_mem h c hc)
theorem word_free {w : Str} {c : Nat} (h : wordB w lettersD = true) (hc : c ∉ TL.tl lettersD) : c ∉ TL.tl w := fun z => hc (word_mem h c z)
theorem nm_word {w : Str} (h : IsNm w) : wordB w letters = true := word_mk h.lo h.hi fun c hc => by
  have key : ∀ k : _root_.Fin 26, 97 + k.val ∈ TL.tl letters := by decide +kernel
  obtain ⟨a, b⟩ := h.az c hc
  have q := key ⟨c - 97, by omega⟩
  rw [show 97 + (⟨c - 97, by omega⟩ : _root_.Fin 26).val = c by show 97 + (c - 97) = c; omega] at q
  exact q
theorem pool_word : ∀ o ∈ pool, wordB o lettersD = true := by decide +kernel
theorem empty_word (z : Str) : wordB Str.empty z = false := rfl
theorem nin (c : Nat) (h : c ∉ TL.tl lettersD) {a : Str} (ha : wordB a letters = true) : c ∉ TL.tl a := word_free (word_letD ha) h
/-! partition -/
theorem par_spec {S : List Nat} : ∀ {l acc a b : List Nat}, TL.par S acc l = some (a, b) → acc ++ l = a ++ (S ++ b)
  | [], acc, a, b, h => by cases h
  | c :: r, acc, a, b, h => by
    by_cases hp : TL.pre S (c :: r) = true
    · rw [TL.par_hit hp] at h
      cases h
      have e : (c :: r).take S.length = S := eq_of_beq hp
      conv =>
        lhs
        rw [← List.take_append_drop S.length (c :: r), e]
    · rw [TL.par_miss (Bool.eq_false_iff.mpr hp)] at h
      have q := par_spec h
      rw [← q, List.append_assoc]
      rfl
theorem part_cases (x y : Str) (hy : TL.tl y ≠ []) : (∃ a b, Txt.partition x y = (a, y, b) ∧ x = a ++ y ++ b) ∨ Txt.partition x y = (x, Str.empty, Str.empty) := by
  rw [TL.partition_par x y hy]
  cases h : TL.par (TL.tl y) [] (TL.tl x) with
  | none => exact .inr rfl
  | some p =>
    obtain ⟨a, b⟩ := p
    refine .inl ⟨_, _, rfl, TL.ext_tl ?_⟩
    have q := par_spec h
    rw [TL.tl_append, TL.tl_append, List.append_assoc]
    exact q
/-! prefixes, suffixes -/
theorem at0 {x y : Str} : Builtin.Str.subAt x y 0 = true ↔ (TL.tl x).take (TL.tl y).length = TL.tl y := by
  rw [StrLaws.subAt_eq, List.drop_zero, TL.len_tl y]
  exact ⟨fun h => eq_of_beq h, fun h => by rw [h]; exact beq_self_eq_true _⟩
theorem starts_app (y a : Str) : Txt.startswith (y ++ a) y = true := by
  unfold Txt.startswith
  rw [at0.mpr (by rw [TL.tl_append, List.take_left]), decide_eq_true (by rw [TL.len_tl, TL.len_tl, TL.tl_append, List.length_append]; omega)]
  rfl
theorem removeprefix_app (y a : Str) : Txt.removeprefix (y ++ a) y = a := by
  have h := starts_app y a
  unfold Txt.startswith at h
  rw [StrLaws.removeprefix_eq, if_pos h]
  refine TL.ext_tl ?_
  show List.take _ (List.drop _ (TL.tl (y ++ a))) = TL.tl a
  rw [TL.len_tl, TL.len_tl, TL.tl_append, List.drop_left, List.length_append]
  exact List.take_of_length_le (by omega)
theorem prefix_spec {x y : Str} (h : Txt.startswith x y = true) : x = y ++ Txt.removeprefix x y := by
  unfold Txt.startswith at h
  rw [StrLaws.removeprefix_eq, if_pos h]
  have h1 := at0.mp (Bool.and_eq_true_iff.mp h).2
  refine TL.ext_tl ?_
  rw [TL.tl_append]
  show _ = TL.tl y ++ List.take _ (List.drop _ (TL.tl x))
  rw [TL.len_tl, TL.len_tl, List.take_of_length_le (by rw [List.length_drop]; exact Nat.le_refl _)]
  conv =>
    lhs
    rw [← List.take_append_drop (TL.tl y).length (TL.tl x), h1]
theorem ends_app (a y : Str) : Txt.endswith (a ++ y) y = true := by
  unfold Txt.endswith
  have e : Builtin.Str.subAt (a ++ y) y ((a ++ y).length - y.length) = true := by
    rw [StrLaws.subAt_eq, TL.len_tl, TL.len_tl]
    show ((TL.tl (a ++ y)).drop _).take _ == TL.tl y
    rw [TL.tl_append, List.length_append, Nat.add_sub_cancel, List.drop_left, List.take_length]
    exact beq_self_eq_true _
  rw [e, decide_eq_true (by rw [TL.len_tl, TL.len_tl, TL.tl_append, List.length_append]; omega)]
  rfl
theorem removesuffix_app (a y : Str) : Txt.removesuffix (a ++ y) y = a := by
  have h := ends_app a y
  unfold Txt.endswith at h
  rw [StrLaws.removesuffix_eq, if_pos h]
  refine TL.ext_tl ?_
  show List.take _ (List.drop 0 (TL.tl (a ++ y))) = TL.tl a
  rw [TL.len_tl, TL.len_tl, TL.tl_append, List.drop_zero, List.length_append, Nat.add_sub_cancel, Nat.sub_zero, List.take_left]
theorem suffix_spec {x y : Str} (h : Txt.endswith x y = true) : x = Txt.removesuffix x y ++ y := by
  unfold Txt.endswith at h
  rw [StrLaws.removesuffix_eq, if_pos h]
  have h1 := (Bool.and_eq_true_iff.mp h).2
  rw [StrLaws.subAt_eq] at h1
  have h2 : (List.drop (x.length - y.length) (TL.tl x)).take y.length = TL.tl y := eq_of_beq h1
  have h3 : 0 + y.length ≤ x.length := of_decide_eq_true (Bool.and_eq_true_iff.mp h).1
  refine TL.ext_tl ?_
  rw [TL.tl_append]
  show _ = List.take _ (List.drop 0 (TL.tl x)) ++ TL.tl y
  rw [← h2, List.drop_zero, Nat.sub_zero, List.take_of_length_le (l := List.drop _ _) (by rw [List.length_drop, ← TL.len_tl]; omega), List.take_append_drop]
theorem mem_app {c : Nat} {a b : Str} : c ∈ TL.tl (a ++ b) ↔ c ∈ TL.tl a ∨ c ∈ TL.tl b := by rw [TL.tl_append]; exact List.mem_append
theorem ends_mem {x y : Str} {c : Nat} (h : Txt.endswith x y = true) (hc : c ∈ TL.tl y) : c ∈ TL.tl x := by
  rw [suffix_spec h]
  exact mem_app.mpr (.inr hc)
/-! one test, one step -/
theorem sign_nl : ∀ s ∈ signs, ∀ c ∈ TL.tl s, c ∉ TL.tl lettersD := by decide +kernel
theorem sign_one : ∀ s ∈ signs, ∃ c, TL.tl s = [c] := by
  intro s hs
  simp only [signs, List.mem_cons, List.not_mem_nil, or_false] at hs
  rcases hs with rfl | rfl | rfl | rfl <;> exact ⟨_, rfl⟩
theorem sign_ne : ∀ s ∈ signs, ∀ t ∈ signs, s ≠ t → ∀ c ∈ TL.tl s, c ∉ TL.tl t := by decide +kernel
theorem tryT_hit {t : Tst} (h : OkT t) : tryT (lineT t) t.2.1 = some t := by
  obtain ⟨h1, h2, h3⟩ := h
  obtain ⟨c, hc⟩ := sign_one _ h2
  have nl := sign_nl _ h2 c (by rw [hc]; exact List.mem_singleton.mpr rfl)
  have e : Txt.partition (lineT t) t.2.1 = (t.1, t.2.1, t.2.2) := TL.partition_app hc (nin c nl h1)
  unfold tryT
  rw [e]
  exact if_pos (Bool.and_eq_true_iff.mpr ⟨h1, h3⟩)
theorem tryT_miss {t : Tst} {s : Str} (h : OkT t) (hs : s ∈ signs) (ne : s ≠ t.2.1) : tryT (lineT t) s = none := by
  obtain ⟨h1, h2, h3⟩ := h
  obtain ⟨c, hc⟩ := sign_one _ hs
  have mc : c ∈ TL.tl s := by rw [hc]; exact List.mem_singleton.mpr rfl
  have nl := sign_nl _ hs c mc
  have nf : c ∉ TL.tl (lineT t) := fun z => by
    rcases mem_app.mp z with z | z
    · rcases mem_app.mp z with z | z
      · exact nin c nl h1 z
      · exact sign_ne _ hs _ h2 ne c mc z
    · exact word_free h3 nl z
  have e : Txt.partition (lineT t) s = (lineT t, Str.empty, Str.empty) := TL.partition_none hc nf
  unfold tryT
  rw [e]
  refine if_neg ?_
  rw [empty_word, Bool.and_false]
  exact Bool.false_ne_true
theorem find_one {α β : Type} (f : α → Option β) (y : β) : ∀ (l : List α) (x : α), x ∈ l → f x = some y → (∀ z ∈ l, z ≠ x → f z = none) → l.findSome? f = some y
  | [], x, h, _, _ => by cases h
  | a :: r, x, h, hx, hn => by
    by_cases e : a = x
    · rw [List.findSome?_cons, e, hx]
    · rw [List.findSome?_cons, hn a (List.mem_cons_self ..) e]
      rcases List.mem_cons.mp h with z | z
      · exact absurd z.symm e
      · exact find_one f y r x z hx fun w hw => hn w (List.mem_cons_of_mem _ hw)
theorem readT_line {t : Tst} (h : OkT t) : readT (lineT t) = some t := find_one _ _ signs t.2.1 h.2.1 (tryT_hit h) fun s hs ne => tryT_miss h hs ne
theorem readT_back {part : Str} {t : Tst} (h : readT part = some t) : lineT t = part ∧ OkT t := by
  obtain ⟨s, hs, e⟩ := List.exists_of_findSome?_eq_some h
  unfold tryT at e
  by_cases hw : (wordB (Txt.partition part s).1 letters && wordB (Txt.partition part s).2.2 lettersD) = true
  · rw [if_pos hw] at e
    cases e
    have hw2 := Bool.and_eq_true_iff.mp hw
    refine ⟨?_, hw2.1, hs, hw2.2⟩
    obtain ⟨c, hc⟩ := sign_one _ hs
    rcases part_cases part s (by rw [hc]; simp) with ⟨a, b, e1, e2⟩ | e1
    · rw [e1]
      exact e2.symm
    · rw [e1] at hw2
      exact absurd hw2.2 (by rw [empty_word]; exact Bool.false_ne_true)
  · rw [if_neg hw] at e
    cases e
theorem readS_line {s : Stp} (h : OkS s) : readS (lineS s) = some s := by
  obtain ⟨h1, h2⟩ := h
  obtain ⟨a, b⟩ := s
  by_cases e : b = "+"
  · subst e
    have el : lineS (a, "+") = a ++ "+" := if_pos rfl
    unfold readS
    rw [el, if_pos (ends_app a "+"), removesuffix_app]
    exact if_pos h1
  · have hb : wordB b lettersD = true := h2.resolve_left e
    have el : lineS (a, b) = a ++ ":" ++ b := if_neg e
    have nf : 43 ∉ TL.tl (a ++ ":" ++ b) := fun z => by
      rcases mem_app.mp z with z | z
      · rcases mem_app.mp z with z | z
        · exact nin 43 (by decide +kernel) h1 z
        · exact absurd z (by decide +kernel)
      · exact word_free hb (by decide +kernel) z
    have ne : ¬ Txt.endswith (a ++ ":" ++ b) "+" = true := fun z => nf (ends_mem z (by decide +kernel))
    have ep : Txt.partition (a ++ ":" ++ b) ":" = (a, (":" : Str), b) := TL.partition_app (y := ":") (s := 58) (S := []) rfl (nin 58 (by decide +kernel) h1)
    unfold readS
    rw [el, if_neg ne, ep]
    exact if_pos (Bool.and_eq_true_iff.mpr ⟨h1, hb⟩)
theorem readS_back {part : Str} {s : Stp} (h : readS part = some s) : lineS s = part ∧ OkS s := by
  unfold readS at h
  by_cases e : Txt.endswith part "+" = true
  · rw [if_pos e] at h
    by_cases hw : wordB (Txt.removesuffix part "+") letters = true
    · rw [if_pos hw] at h
      cases h
      refine ⟨?_, hw, .inl rfl⟩
      have q : lineS (Txt.removesuffix part "+", "+") = Txt.removesuffix part "+" ++ "+" := if_pos rfl
      rw [q]
      exact (suffix_spec e).symm
    · rw [if_neg hw] at h
      cases h
  · rw [if_neg e] at h
    by_cases hw : (wordB (Txt.partition part ":").1 letters && wordB (Txt.partition part ":").2.2 lettersD) = true
    · rw [if_pos hw] at h
      cases h
      have hw2 := Bool.and_eq_true_iff.mp hw
      refine ⟨?_, hw2.1, .inr hw2.2⟩
      have nb : (Txt.partition part ":").2.2 ≠ "+" := fun z => by
        rw [z] at hw2
        exact absurd hw2.2 (by decide +kernel)
      have q : lineS ((Txt.partition part ":").1, (Txt.partition part ":").2.2) = (Txt.partition part ":").1 ++ ":" ++ (Txt.partition part ":").2.2 := if_neg nb
      rw [q]
      rcases part_cases part ":" (by decide +kernel) with ⟨a, b, e1, e2⟩ | e1
      · rw [e1]
        exact e2.symm
      · rw [e1] at hw2
        exact absurd hw2.2 (by rw [empty_word]; exact Bool.false_ne_true)
    · rw [if_neg hw] at h
      cases h
/-! all of them -/
theorem seqO_some {α : Type} : ∀ l : List α, seqO (l.map some) = some l
  | [] => rfl
  | x :: r => by
    show (seqO (r.map some)).map (x :: ·) = _
    rw [seqO_some r]
    rfl
theorem seqO_back {α : Type} : ∀ {l : List (Option α)} {ys : List α}, seqO l = some ys → l = ys.map some
  | [], _, h => by cases h; rfl
  | none :: _, _, h => by cases h
  | some x :: r, ys, h => by
    have h' : (seqO r).map (x :: ·) = some ys := h
    cases e : seqO r with
    | none =>
      rw [e] at h'
      cases h'
    | some zs =>
      rw [e] at h'
      cases h'
      rw [seqO_back e]
      rfl
theorem allR_line {α : Type} {line : α → Str} {read : Str → Option α} {l : List α} (h : ∀ x ∈ l, read (line x) = some x) (n : l.length ≤ 6) : allR ((l.map line).map read) = some l := by
  have e : (l.map line).map read = l.map some := by
    rw [List.map_map]
    exact List.map_congr_left fun x hx => h x hx
  unfold allR
  rw [e, if_pos (by rw [List.length_map]; exact n), seqO_some]
theorem allR_back {α : Type} {line : α → Str} {read : Str → Option α} {Ok : α → Prop} {l : List Str} {ys : List α} (hb : ∀ p x, read p = some x → line x = p ∧ Ok x) (h : allR (l.map read) = some ys) : ys.map line = l ∧ ys.length ≤ 6 ∧ ∀ y ∈ ys, Ok y := by
  unfold allR at h
  by_cases hl : (l.map read).length ≤ 6
  · rw [if_pos hl] at h
    have q := seqO_back h
    have key : ∀ (l : List Str) (ys : List α), l.map read = ys.map some → ys.map line = l ∧ ∀ y ∈ ys, Ok y := by
      intro l
      induction l with
      | nil =>
        intro ys q
        cases ys with
        | nil => exact ⟨rfl, fun y hy => by cases hy⟩
        | cons y r => cases q
      | cons p r ih =>
        intro ys q
        cases ys with
        | nil => cases q
        | cons y ys =>
          rw [List.map_cons, List.map_cons] at q
          injection q with q1 q2
          obtain ⟨e1, e2⟩ := ih ys q2
          obtain ⟨f1, f2⟩ := hb p y q1
          refine ⟨by rw [List.map_cons, f1, e1], fun z hz => ?_⟩
          rcases List.mem_cons.mp hz with rfl | hz
          · exact f2
          · exact e2 z hz
    obtain ⟨e1, e2⟩ := key l ys q
    have hl2 : (ys.map some).length ≤ 6 := by
      rw [← q]
      exact hl
    rw [List.length_map] at hl2
    exact ⟨e1, hl2, e2⟩
  · rw [if_neg hl] at h
    cases h
theorem split_ne (x y : Str) : Txt.split x y ≠ [] := by
  unfold Txt.split
  split
  · simp
  · split
    · simp
    · intro h
      rw [StrLaws.partsBetween_eq] at h
      obtain ⟨p, q, e⟩ := StrLaws.partsFrom_ne x y.length 0 (Builtin.Str.occurrences x y 0 x.length (x.length + 1))
      rw [e] at h
      cases h
theorem join_mem {y : Str} {c : Nat} {p : Str} {r : List Str} (h : c ∈ TL.tl p) : c ∈ TL.tl (Txt.join y (p :: r)) := by
  rw [TL.join_eq]
  cases r with
  | nil => exact h
  | cons q r =>
    show c ∈ TL.tl (p ++ y ++ Str.join y (q :: r))
    exact mem_app.mpr (.inl (mem_app.mpr (.inl h)))

/-! the tests of a line, its steps -/
theorem lineT_free {t : Tst} (h : OkT t) : 32 ∉ TL.tl (lineT t) ∧ 3 ≤ (TL.tl (lineT t)).length := by
  obtain ⟨h1, h2, h3⟩ := h
  refine ⟨fun z => ?_, ?_⟩
  · rcases mem_app.mp z with z | z
    · rcases mem_app.mp z with z | z
      · exact nin 32 (by decide +kernel) h1 z
      · have key : ∀ s ∈ signs, 32 ∉ TL.tl s := by decide +kernel
        exact key _ h2 z
    · exact word_free h3 (by decide +kernel) z
  · obtain ⟨c, hc⟩ := sign_one _ h2
    have l1 := (word_len h1).1
    have l3 := (word_len h3).1
    rw [TL.len_tl] at l1 l3
    unfold lineT
    rw [TL.tl_append, TL.tl_append, hc, List.length_append, List.length_append]
    show 3 ≤ _ + 1 + _
    omega
theorem lineT_sign {t : Tst} (h : OkT t) : ∃ c ∈ ([61, 33, 60, 62] : List Nat), c ∈ TL.tl (lineT t) := by
  have key : ∀ s ∈ signs, ∃ c ∈ ([61, 33, 60, 62] : List Nat), c ∈ TL.tl s := by decide +kernel
  obtain ⟨c, h1, h2⟩ := key _ h.2.1
  exact ⟨c, h1, mem_app.mpr (.inl (mem_app.mpr (.inr h2)))⟩
theorem lineS_free {s : Stp} (h : OkS s) : 44 ∉ TL.tl (lineS s) ∧ 32 ∉ TL.tl (lineS s) ∧ ∃ c ∈ ([43, 58] : List Nat), c ∈ TL.tl (lineS s) := by
  obtain ⟨h1, h2⟩ := h
  obtain ⟨a, b⟩ := s
  by_cases e : b = "+"
  · subst e
    have el : lineS (a, "+") = a ++ "+" := if_pos rfl
    rw [el]
    refine ⟨fun z => ?_, fun z => ?_, 43, by decide, mem_app.mpr (.inr (by decide +kernel))⟩
    · rcases mem_app.mp z with z | z
      · exact nin 44 (by decide +kernel) h1 z
      · exact absurd z (by decide +kernel)
    · rcases mem_app.mp z with z | z
      · exact nin 32 (by decide +kernel) h1 z
      · exact absurd z (by decide +kernel)
  · have hb : wordB b lettersD = true := h2.resolve_left e
    have el : lineS (a, b) = a ++ ":" ++ b := if_neg e
    rw [el]
    refine ⟨fun z => ?_, fun z => ?_, 58, by decide, mem_app.mpr (.inl (mem_app.mpr (.inr (by decide +kernel))))⟩
    · rcases mem_app.mp z with z | z
      · rcases mem_app.mp z with z | z
        · exact nin 44 (by decide +kernel) h1 z
        · exact absurd z (by decide +kernel)
      · exact word_free hb (by decide +kernel) z
    · rcases mem_app.mp z with z | z
      · rcases mem_app.mp z with z | z
        · exact nin 32 (by decide +kernel) h1 z
        · exact absurd z (by decide +kernel)
      · exact word_free hb (by decide +kernel) z
theorem readTs_left {ts : List Tst} (h : ∀ t ∈ ts, OkT t) (n : ts.length ≤ 6) : readTs (leftL ts) = some ts := by
  unfold readTs leftL
  by_cases e : ts = []
  · subst e
    rfl
  · rw [if_neg e]
    have ne : Txt.join " and " (ts.map lineT) ≠ "always" := fun z => by
      cases ts with
      | nil => exact e rfl
      | cons t r =>
        obtain ⟨c, h1, h2⟩ := lineT_sign (h t (List.mem_cons_self ..))
        have q : c ∈ TL.tl (Txt.join " and " ((t :: r).map lineT)) := join_mem h2
        rw [z] at q
        have key : ∀ c ∈ ([61, 33, 60, 62] : List Nat), c ∉ TL.tl ("always" : Str) := by decide +kernel
        exact key c h1 q
    rw [if_neg ne, TL.split_join (y := " and ") (s := 32) (S := [97, 110, 100, 32]) (by decide +kernel) (by decide +kernel) (by simpa using e) (fun p hp => by
      obtain ⟨t, ht, rfl⟩ := List.mem_map.mp hp
      exact (lineT_free (h t ht)).1)]
    exact allR_line (fun t ht => readT_line (h t ht)) n
theorem readTs_back {x : Str} {ts : List Tst} (h : readTs x = some ts) : leftL ts = x ∧ ts.length ≤ 6 ∧ ∀ t ∈ ts, OkT t := by
  unfold readTs at h
  by_cases e : x = "always"
  · rw [if_pos e] at h
    cases h
    exact ⟨e.symm, by decide, fun t ht => by cases ht⟩
  · rw [if_neg e] at h
    obtain ⟨e1, e2, e3⟩ := allR_back (fun p t h => readT_back h) h
    refine ⟨?_, e2, e3⟩
    have ne : ts ≠ [] := fun z => by
      rw [z] at e1
      exact split_ne _ _ e1.symm
    unfold leftL
    rw [if_neg ne, e1, TL.join_eq, StrLaws.join_split]
theorem readSs_right {ss : List Stp} (h : ∀ s ∈ ss, OkS s) (n : ss.length ≤ 6) : readSs (rightL (some ss)) = some ss ∧ rightL (some ss) ≠ "drop" := by
  by_cases e : ss = []
  · subst e
    exact ⟨rfl, by decide +kernel⟩
  · have eR : rightL (some ss) = Txt.join ", " (ss.map lineS) := if_neg e
    rw [eR]
    have key : ∃ c ∈ ([43, 58] : List Nat), c ∈ TL.tl (Txt.join ", " (ss.map lineS)) := by
      cases ss with
      | nil => exact absurd rfl e
      | cons s r =>
        obtain ⟨_, _, c, h1, h2⟩ := lineS_free (h s (List.mem_cons_self ..))
        exact ⟨c, h1, join_mem h2⟩
    obtain ⟨c, h1, h2⟩ := key
    have nk : Txt.join ", " (ss.map lineS) ≠ "keep" := fun z => by
      rw [z] at h2
      have key : ∀ c ∈ ([43, 58] : List Nat), c ∉ TL.tl ("keep" : Str) := by decide +kernel
      exact key c h1 h2
    refine ⟨?_, fun z => ?_⟩
    · unfold readSs
      rw [if_neg nk, TL.split_join (y := ", ") (s := 44) (S := [32]) (by decide +kernel) (by decide +kernel) (by simpa using e) (fun p hp => by
        obtain ⟨s, hs, rfl⟩ := List.mem_map.mp hp
        exact (lineS_free (h s hs)).1)]
      exact allR_line (fun s hs => readS_line (h s hs)) n
    · rw [z] at h2
      have key : ∀ c ∈ ([43, 58] : List Nat), c ∉ TL.tl ("drop" : Str) := by decide +kernel
      exact key c h1 h2
theorem readSs_back {x : Str} {ss : List Stp} (h : readSs x = some ss) : rightL (some ss) = x ∧ ss.length ≤ 6 ∧ ∀ s ∈ ss, OkS s := by
  unfold readSs at h
  by_cases e : x = "keep"
  · rw [if_pos e] at h
    cases h
    exact ⟨e.symm, by decide, fun t ht => by cases ht⟩
  · rw [if_neg e] at h
    obtain ⟨e1, e2, e3⟩ := allR_back (fun p t h => readS_back h) h
    refine ⟨?_, e2, e3⟩
    have ne : ss ≠ [] := fun z => by
      rw [z] at e1
      exact split_ne _ _ e1.symm
    show (if ss = [] then ("keep" : Str) else Txt.join ", " (ss.map lineS)) = x
    rw [if_neg ne, e1, TL.join_eq, StrLaws.join_split]
/-! the whole line -/
theorem par_skip {s : Nat} {S : List Nat} : ∀ {p l acc : List Nat}, s ∉ p → TL.par (s :: S) acc (p ++ l) = TL.par (s :: S) (acc ++ p) l
  | [], l, acc, _ => by rw [List.append_nil]; rfl
  | c :: r, l, acc, h => by
    show TL.par (s :: S) acc (c :: (r ++ l)) = _
    rw [TL.par_miss (TL.pre_of_head S (r ++ l) fun z => h (by rw [z]; exact List.mem_cons_self ..)), par_skip fun z => h (List.mem_cons_of_mem _ z), List.append_assoc]
    rfl
theorem pre_do {q l : List Nat} (h : 32 ∉ q) (n : 3 ≤ q.length) : TL.pre [32, 100, 111, 32] (32 :: (q ++ l)) = false := by
  match q, h, n with
  | a :: b :: c :: r, h, _ =>
    refine Bool.eq_false_iff.mpr fun z => ?_
    have e : (32 :: (a :: b :: c :: r ++ l)).take 4 = [32, 100, 111, 32] := eq_of_beq z
    have e2 : [32, a, b, c] = [32, 100, 111, 32] := e
    injection e2 with _ e2
    injection e2 with _ e2
    injection e2 with _ e2
    injection e2 with e2 _
    exact h (by rw [e2]; simp)
theorem par_tests : ∀ {parts : List (List Nat)} {acc rest : List Nat}, parts ≠ [] → (∀ p ∈ parts, 32 ∉ p ∧ 3 ≤ p.length) →
    TL.par [32, 100, 111, 32] acc (TL.joinL [32, 97, 110, 100, 32] parts ++ ([32, 100, 111, 32] ++ rest)) = some (acc ++ TL.joinL [32, 97, 110, 100, 32] parts, rest)
  | [], _, _, h, _ => absurd rfl h
  | [p], acc, rest, _, h => TL.par_part1 (h p (List.mem_singleton.mpr rfl)).1
  | p :: q :: r, acc, rest, _, h => by
    have hp := h p (List.mem_cons_self ..)
    have hq := h q (List.mem_cons_of_mem _ (List.mem_cons_self ..))
    have ih := par_tests (parts := q :: r) (acc := acc ++ p ++ [32, 97, 110, 100, 32]) (rest := rest) (by simp) (fun z hz => h z (List.mem_cons_of_mem _ hz))
    have ej : TL.joinL [32, 97, 110, 100, 32] (p :: q :: r) = p ++ ([32, 97, 110, 100, 32] ++ TL.joinL [32, 97, 110, 100, 32] (q :: r)) := rfl
    have eq1 : ∃ t, TL.joinL [32, 97, 110, 100, 32] (q :: r) = q ++ t := by
      cases r with
      | nil => exact ⟨[], (List.append_nil _).symm⟩
      | cons z r => exact ⟨_, rfl⟩
    obtain ⟨t, et⟩ := eq1
    rw [ej, List.append_assoc, par_skip hp.1, List.append_assoc]
    show TL.par [32, 100, 111, 32] (acc ++ p) (32 :: 97 :: 110 :: 100 :: 32 :: (TL.joinL [32, 97, 110, 100, 32] (q :: r) ++ ([32, 100, 111, 32] ++ rest))) = _
    rw [TL.par_miss rfl, TL.par_miss (TL.pre_of_head _ _ (by decide)), TL.par_miss (TL.pre_of_head _ _ (by decide)), TL.par_miss (TL.pre_of_head _ _ (by decide)),
      TL.par_miss (by rw [et, List.append_assoc]; exact pre_do hq.1 hq.2)]
    have ea : acc ++ p ++ [32] ++ [97] ++ [110] ++ [100] ++ [32] = acc ++ p ++ [32, 97, 110, 100, 32] := by simp
    rw [ea, ih]
    simp
theorem part_line {ts : List Tst} (h : ∀ t ∈ ts, OkT t) (b : Str) : Txt.partition (leftL ts ++ " do " ++ b) " do " = (leftL ts, (" do " : Str), b) := by
  by_cases e : ts = []
  · subst e
    exact TL.partition_app (y := " do ") (s := 32) (S := [100, 111, 32]) (by decide +kernel) (by decide +kernel)
  · have el : leftL ts = Txt.join " and " (ts.map lineT) := if_neg e
    have et : TL.tl (leftL ts) = TL.joinL [32, 97, 110, 100, 32] (ts.map (fun t => TL.tl (lineT t))) := by
      rw [el, TL.join_eq, TL.tl_join, List.map_map]
      rfl
    have hd : TL.tl (" do " : Str) = [32, 100, 111, 32] := by decide +kernel
    rw [TL.partition_par _ _ (by rw [hd]; simp), TL.tl_append, TL.tl_append, List.append_assoc, hd, et]
    have hq : ∀ p ∈ ts.map (fun t => TL.tl (lineT t)), 32 ∉ p ∧ 3 ≤ p.length := fun p hp => by
      obtain ⟨t, ht, rfl⟩ := List.mem_map.mp hp
      exact lineT_free (h t ht)
    rw [par_tests (acc := []) (rest := TL.tl b) (by simpa using e) hq]
    show ((⟨([] ++ _ : List Nat).toArray⟩ : Str), _, (⟨(TL.tl b).toArray⟩ : Str)) = _
    rw [List.nil_append, ← et, TL.mk_tl, TL.mk_tl]
/-- the line of a case, read -/
theorem readC_line {c : Cas} (h : OkC c) : readC (lineC c) = some c := by
  have e : lineC c = "when " ++ (leftL c.1 ++ " do " ++ rightL c.2) := by
    unfold lineC
    rw [app_assoc, app_assoc, app_assoc]
  unfold readC
  rw [e, if_pos (starts_app _ _), removeprefix_app, part_line h.t]
  unfold readP
  show (match readTs (leftL c.1) with | none => none | some ts => _) = _
  rw [readTs_left h.t h.n]
  obtain ⟨ts, so⟩ := c
  cases so with
  | none => rfl
  | some ss =>
    obtain ⟨e1, e2⟩ := readSs_right (h.s ss rfl) (h.m ss rfl)
    show (if rightL (some ss) = "drop" then _ else match readSs (rightL (some ss)) with | none => none | some ss => some (ts, some ss)) = _
    rw [if_neg e2, e1]
/-- a line that is read is the line of the case -/
theorem readC_back {l : Str} {c : Cas} (h : readC l = some c) : lineC c = l ∧ OkC c := by
  unfold readC at h
  by_cases e : Txt.startswith l "when " = true
  · rw [if_pos e] at h
    have el := prefix_spec e
    have key : ∀ {x y : Str} {c : Cas}, readP x y = some c → leftL c.1 = x ∧ rightL c.2 = y ∧ OkC c := by
      intro x y c hr
      unfold readP at hr
      cases e1 : readTs x with
      | none =>
        rw [e1] at hr
        cases hr
      | some ts =>
        rw [e1] at hr
        obtain ⟨a1, a2, a3⟩ := readTs_back e1
        have hr' : (if y = "drop" then some (ts, none) else match readSs y with | none => none | some ss => some (ts, some ss)) = some c := hr
        by_cases e2 : y = "drop"
        · rw [if_pos e2] at hr'
          cases hr'
          exact ⟨a1, e2.symm, a2, a3, (fun ss z => by cases z), (fun ss z => by cases z)⟩
        · rw [if_neg e2] at hr'
          cases e3 : readSs y with
          | none =>
            rw [e3] at hr'
            cases hr'
          | some ss =>
            rw [e3] at hr'
            cases hr'
            obtain ⟨b1, b2, b3⟩ := readSs_back e3
            exact ⟨a1, b1, a2, a3, (fun ss z => by cases z; exact b2), (fun ss z => by cases z; exact b3)⟩
    obtain ⟨k1, k2, k3⟩ := key h
    refine ⟨?_, k3⟩
    rcases part_cases (Txt.removeprefix l "when ") " do " (by decide +kernel) with ⟨a, b, p1, p2⟩ | p1
    · rw [p1] at k1 k2
      unfold lineC
      rw [k1, k2, app_assoc, app_assoc, ← app_assoc a, ← p2]
      exact el.symm
    · rw [p1] at h
      have hx : readSs (Str.empty) = none := by decide +kernel
      have hy : ¬ (Str.empty : Str) = "drop" := by decide +kernel
      unfold readP at h
      cases e1 : readTs (Txt.removeprefix l "when ") with
      | none =>
        rw [e1] at h
        cases h
      | some ts =>
        rw [e1] at h
        have h' : (if (Str.empty : Str) = "drop" then some (ts, none) else match readSs Str.empty with | none => none | some ss => some (ts, some ss)) = some c := h
        rw [if_neg hy, hx] at h'
        cases h'
  · rw [if_neg e] at h
    cases h
end Bh

set_option Elab.async false
set_option linter.all false
set_option maxRecDepth 100000
namespace Bh
open PySem PySem.Spec PyProof.Rows L2
/-! ### the parts of a rulebook as data -/
/-- a statement that is never reached -/
theorem ps_dead {X : Cx} {st : Stmt} : PS X st (fun _ _ _ => False) := ⟨fun _ _ _ _ _ _ h => h.elim⟩
theorem pa_starK {X : Cx} {K : PySem.W.Frag} {e : Expr} {es : List Expr} {te : TE} {t : TA} {p : Pos} (hK : X.K = K) (he : PE X e te) (hr : PA X es t) (hs : starEach (.Starred e p :: es) X.env = (true, eval e X.env) :: starEach es X.env := by rfl) : PA X (.Starred e p :: es) (StX.tStar K te t) := by
  subst hK
  exact StX.pa_star he hr hs
theorem pe_dead {X : Cx} {e : Expr} : PE X e (fun _ _ _ => False) := ⟨fun _ _ _ _ _ _ h => h.elim⟩
theorem iteB {b : Bool} {A B : Prop} (h1 : b = true → A) (h2 : b = false → B) : if b = true then A else B := by
  cases b
  · exact h2 rfl
  · exact h1 rfl
/-- a walk, whatever is done at each turn -/
theorem walk_out {J : It} {n : Nat} {G : Hp → Prop} {Y : Nat → Hp → V → Hp → Prop} (w : Walk J n G Y) {B : V → Hp → (Hp → Prop) → Prop} {H0 : Hp} {Qd : Hp → Prop} (Pv : Nat → Hp → Prop) (h0 : Pv 0 H0) (hG : ∀ i H, i ≤ n → Pv i H → G H)
    (hs : ∀ i x H H', i < n → Pv i H → Y i H x H' → B x H' (Pv (i + 1))) (hd : ∀ H, Pv n H → Qd H) :
    ∃ W : Nat → Nat → Hp → Prop, (∃ m, W 0 m H0) ∧ ∀ i m H, W i m H → (J.stop i H ∧ Qd H) ∨ (J.go i H ∧ ∃ Nx : Hp → Prop, (∀ H', Nx H' → ∃ m', m' < m ∧ W (i + 1) m' H') ∧ ∀ x H', J.yld i H x H' → B x H' Nx) := by
  refine ⟨fun i m H => m + i = n ∧ Pv i H, ⟨n, by omega, h0⟩, ?_⟩
  rintro i m H ⟨em, p⟩
  by_cases hi : i < n
  · refine .inr ⟨w.goes i H hi (hG i H (by omega) p), Pv (i + 1), fun H' p' => ⟨m - 1, by omega, by omega, p'⟩, fun x H' y => hs i x H H' hi p (w.yields i H x H' hi (hG i H (by omega) p) y)⟩
  · obtain rfl : i = n := by omega
    exact .inl ⟨w.stops H (hG i H (Nat.le_refl _) p), hd H p⟩
/-- a comprehension of which all items come out true -/
theorem lc_trues {J : It} {n : Nat} {G : Hp → Prop} {xs : List V} (wk : Walk J n G (YAt xs)) {H : Hp} {D : Addr} {g : TG} {te : TE} {vs : List Nat} {σ : L2.St} {Qd : Hp → Prop} (nD : H D = none) (hn : n ≤ 100000) (hG : ∀ H', Same H H' → G H')
    (hs : ∀ (i : Nat) (x : V) (H' : Hp) (R : V → Hp → Prop) (R' : Hp → Prop), xs[i]? = some x → Same H H' → (∀ H4, Same H' H4 → R (.bl true) H4) → g x (wipe σ vs) H' fun σ2 H2 => wipe σ2 vs = wipe σ vs ∧ tYes σ2 H2 fun b H3 => if b = true then te σ2 H3 R else R' H3)
    (hd : ∀ H', Same H H' → H' D = some (.lst ((List.replicate n true).map V.bl)) → Qd H') :
    ∃ W : Nat → Nat → Hp → Prop, (∃ m, W 0 m (upd H D (.lst []))) ∧ ∀ i m H, W i m H →
      (J.stop i H ∧ Qd H) ∨ (J.go i H ∧ ∃ Nx : Hp → Prop, (∀ H', Nx H' → ∃ m', m' < m ∧ W (i + 1) m' H') ∧ ∀ x H', J.yld i H x H' → g x (wipe σ vs) H' fun σ2 H2 => wipe σ2 vs = wipe σ vs ∧ tYes σ2 H2 fun b H3 =>
        if b = true then te σ2 H3 fun y H4 => ∃ acc, H4 D = some (.lst acc) ∧ acc.length < sizeLine ∧ Nx (upd H4 D (.lst (acc ++ [y]))) else Nx H3) := by
  refine lc_it wk (fun i H' => Same H H' ∧ H' D = some (.lst ((List.replicate i true).map V.bl))) ⟨same_new nD, upd_same⟩ (fun i H' _ p => hG H' p.1) ?_ ?_
  · rintro i x H' H'' hi ⟨s1, hDl⟩ ⟨rfl, ey⟩
    refine hs i x H'' _ _ ey s1 fun H4 s4 => ⟨_, s4 _ _ hDl, ?_, same_mut (s1.trans s4) nD, ?_⟩
    · rw [List.length_map, List.length_replicate]
      exact lt_line (by omega)
    · rw [upd_same, List.replicate_succ', List.map_append]
      rfl
  · rintro H' ⟨s1, hDl⟩
    exact hd H' s1 hDl
/-- the same over pairs that the walk makes -/
theorem lc_truesP {J : It} {n : Nat} {G : Hp → Prop} {xs ys : Nat → Option V} (wk : Walk J n G (YPair xs ys)) {H : Hp} {D : Addr} {g : TG} {te : TE} {vs : List Nat} {σ : L2.St} {Qd : Hp → Prop} (nD : H D = none) (hn : n ≤ 100000) (hG : ∀ H', Same H H' → G H')
    (hs : ∀ (i : Nat) (x y : V) (T : Addr) (H' : Hp) (R : V → Hp → Prop) (R' : Hp → Prop), xs i = some x → ys i = some y → Same H H' → H' T = none → (∀ H4, Same (upd H' T (.tup [x, y])) H4 → R (.bl true) H4) →
      g (.ref T) (wipe σ vs) (upd H' T (.tup [x, y])) fun σ2 H2 => wipe σ2 vs = wipe σ vs ∧ tYes σ2 H2 fun b H3 => if b = true then te σ2 H3 R else R' H3)
    (hd : ∀ H', Same H H' → H' D = some (.lst ((List.replicate n true).map V.bl)) → Qd H') :
    ∃ W : Nat → Nat → Hp → Prop, (∃ m, W 0 m (upd H D (.lst []))) ∧ ∀ i m H, W i m H →
      (J.stop i H ∧ Qd H) ∨ (J.go i H ∧ ∃ Nx : Hp → Prop, (∀ H', Nx H' → ∃ m', m' < m ∧ W (i + 1) m' H') ∧ ∀ x H', J.yld i H x H' → g x (wipe σ vs) H' fun σ2 H2 => wipe σ2 vs = wipe σ vs ∧ tYes σ2 H2 fun b H3 =>
        if b = true then te σ2 H3 fun y H4 => ∃ acc, H4 D = some (.lst acc) ∧ acc.length < sizeLine ∧ Nx (upd H4 D (.lst (acc ++ [y]))) else Nx H3) := by
  refine lc_it wk (fun i H' => Same H H' ∧ H' D = some (.lst ((List.replicate i true).map V.bl))) ⟨same_new nD, upd_same⟩ (fun i H' _ p => hG H' p.1) ?_ ?_
  · rintro i z H' H'' hi ⟨s1, hDl⟩ ⟨T, x, y, rfl, nT, rfl, ex, ey⟩
    have sT : Same H' (upd H' T (.tup [x, y])) := same_new nT
    refine hs i x y T H' _ _ ex ey s1 nT fun H4 s4 => ⟨_, s4 _ _ (sT _ _ hDl), ?_, same_mut (s1.trans (sT.trans s4)) nD, ?_⟩
    · rw [List.length_map, List.length_replicate]
      exact lt_line (by omega)
    · rw [upd_same, List.replicate_succ', List.map_append]
      rfl
  · rintro H' ⟨s1, hDl⟩
    exact hd H' s1 hDl
/-- an item whose first part is the name n -/
def HdAt (K : PySem.W.Frag) (H : Hp) (v : V) (n : Str) : Prop := ∃ t r, v = .ref t ∧ SqT K H t (.str n :: r)
theorem HdAt.mono {K : PySem.W.Frag} {H H' : Hp} (e : Same H H') {v : V} {n : Str} (h : HdAt K H v n) : HdAt K H' v n := by
  obtain ⟨t, r, h1, h2⟩ := h
  exact ⟨t, r, h1, Same.tup e h2⟩
/-- a list or a tuple of items with these names -/
def HdS (K : PySem.W.Frag) (H : Hp) (v : V) (ns : List Str) : Prop := ∃ a xs, v = .ref a ∧ (SqL K H a xs ∨ SqT K H a xs) ∧ Paired (HdAt K H) xs ns
theorem HdS.mono {K : PySem.W.Frag} {H H' : Hp} (e : Same H H') {v : V} {ns : List Str} (h : HdS K H v ns) : HdS K H' v ns := by
  obtain ⟨a, xs, h1, h2, h3⟩ := h
  exact ⟨a, xs, h1, seq_mono e h2, h3.mono fun _ _ z => z.mono e⟩
/-- data whose first part is a name -/
def hdN : PyData → Str
  | .tuple (.str n :: _) => n
  | _ => ""
def Named (d : PyData) : Prop := ∃ n r, d = .tuple (.str n :: r)
theorem hdAt_of {K : PySem.W.Frag} {H : Hp} {v : V} {d : PyData} (h : Dp K H v d) (n : Named d) : HdAt K H v (hdN d) := by
  obtain ⟨n, r, rfl⟩ := n
  obtain ⟨a, xs, rfl, h1, h2⟩ := dp_tup h
  obtain ⟨x, y, rfl, h3, _⟩ := dpa_cons h2
  rw [dp_str h3] at h1
  exact ⟨a, y, rfl, h1⟩
theorem hds_of {K : PySem.W.Frag} {H : Hp} : ∀ {xs : List V} {ds : List PyData}, DpAll K H xs ds → (∀ d ∈ ds, Named d) → Paired (HdAt K H) xs (ds.map hdN)
  | _, _, .nil, _ => .nil
  | _, _, .cons h t, n => .cons (hdAt_of h (n _ (List.mem_cons_self ..))) (hds_of t fun d hd => n d (List.mem_cons_of_mem _ hd))
theorem HdS.of {K : PySem.W.Frag} {H : Hp} {v : V} {ds : List PyData} (h : DpS K H v ds) (n : ∀ d ∈ ds, Named d) : HdS K H v (ds.map hdN) := by
  obtain ⟨a, xs, h1, h2, h3⟩ := h
  exact ⟨a, xs, h1, h2, hds_of h3 n⟩
theorem named_dF (f : Fld) : Named (dF f) := ⟨_, _, rfl⟩
theorem IsNm.word {w : Str} (h : IsNm w) : wordB w letters = true := by
  unfold wordB
  rw [decide_eq_true (show 1 ≤ w.length ∧ w.length ≤ 8 from ⟨h.lo, h.hi⟩), Bool.true_and, List.all_eq_true]
  intro c hc
  have ⟨h1, h2⟩ := h.az c hc
  have key : ∀ c, 97 ≤ c → c ≤ 122 → c ∈ TL.tl letters := by
    intro c a b
    have : c = 97 ∨ c = 98 ∨ c = 99 ∨ c = 100 ∨ c = 101 ∨ c = 102 ∨ c = 103 ∨ c = 104 ∨ c = 105 ∨ c = 106 ∨ c = 107 ∨ c = 108 ∨ c = 109 ∨ c = 110 ∨ c = 111 ∨ c = 112 ∨ c = 113 ∨ c = 114 ∨ c = 115 ∨ c = 116 ∨ c = 117 ∨ c = 118 ∨ c = 119 ∨ c = 120 ∨ c = 121 ∨ c = 122 := by omega
    rcases this with rfl | rfl | rfl | rfl | rfl | rfl | rfl | rfl | rfl | rfl | rfl | rfl | rfl | rfl | rfl | rfl | rfl | rfl | rfl | rfl | rfl | rfl | rfl | rfl | rfl | rfl <;> decide +kernel
  exact decide_eq_true (key c h1 h2)
theorem in_strs (x : Str) (l : List Str) : inV (.str x) (l.map V.str) = decide (x ∈ l) := by
  unfold inV
  rw [List.any_map, Bool.eq_iff_iff, List.any_eq_true, decide_eq_true_iff]
  constructor
  · rintro ⟨y, hy, e⟩
    have e : eqV (.str y) (.str x) = true := e
    rw [eqV_str] at e
    rw [← of_decide_eq_true e]
    exact hy
  · intro h
    refine ⟨x, h, ?_⟩
    show eqV (.str x) (.str x) = true
    rw [eqV_str]
    exact decide_eq_true rfl
/-- ties, kinds -/
def dP (p : List Cas) : PyData := .tuple (p.map dC)
abbrev Tie := Str × List Cas
def dTie (t : Tie) : PyData := .tuple [.str t.1, dP t.2]
structure Knd where
  name : Str
  keys : List (Str × Str)
  taking : Option (List Cas)
  birth : Option (List Str)
def dKey (k : Str × Str) : PyData := .tuple [.str k.1, .str k.2]
def dOP : Option (List Cas) → PyData
  | none => .none
  | some p => dP p
def dKnd (k : Knd) : PyData := .tuple [.str k.name, .tuple (k.keys.map dKey), dOP k.taking, dH k.birth]
theorem named_dTie (t : Tie) : Named (dTie t) := ⟨_, _, rfl⟩
theorem named_dKnd (k : Knd) : Named (dKnd k) := ⟨_, _, rfl⟩
/-- a case as a rulebook asks it -/
structure OkCas (fs : List Fld) (c : Cas) : Prop where
  fit : FitC fs c
  nt : c.1.length ≤ 6
  ns : ∀ ss, c.2 = some ss → ss.length ≤ 6
  sg : ∀ t ∈ c.1, t.2.1 ∈ signs
structure OkPrg (fs : List Fld) (p : List Cas) : Prop where
  lo : 1 ≤ p.length
  hi : p.length ≤ 8
  all : ∀ c ∈ p, OkCas fs c
structure OkKeys (fs : List Fld) (ks : List (Str × Str)) : Prop where
  hi : ks.length ≤ fs.length
  nd : (ks.map (·.1)).Nodup
  all : ∀ k ∈ ks, k.1 ∈ fs.map (·.1) ∧ (k.2 = "+" ∨ k.2 = "-")
structure OkKnd (fs : List Fld) (k : Knd) : Prop where
  nm : IsNm k.name
  ks : OkKeys fs k.keys
  tk : ∀ p, k.taking = some p → OkPrg fs p
  bt : ∀ v, k.birth = some v → FitV fs v
end Bh

set_option Elab.async false
set_option linter.all false
set_option maxRecDepth 100000
namespace Bh
open PySem PySem.Spec PyProof.Rows L2
/-! ### a caught exception, known in the heap: what reads it may stand in another def -/
def exz (a : Addr) (cls : Value) (d : Option Addr) : HO := .ext fun h => ∃ (o : Obj) (vs : Array Value), h.get? a = some o ∧ Zc cls d o ∧ o.data = .fields vs
theorem exz_ok {P : Program} {w : World} {H : Hp} {h : Heap} {a : Addr} {cls : Value} {d : Option Addr} {o : Obj} {vs : Array Value} (e : h.get? a = some o) (z : Zc cls d o) (f : o.data = .fields vs) : ObjOk P w H h a (exz a cls d) :=
  ⟨⟨o, vs, e, z, f⟩, ⟨o, e⟩, fun _ _ y k => by
    obtain ⟨p, us, q, r⟩ := y
    exact ⟨p, us, k p q, r⟩⟩
theorem exz_at {P : Program} {w : World} {H : Hp} {h : Heap} {a : Addr} {cls : Value} {d : Option Addr} (ok : HOk P w H h) (e : H a = some (exz a cls d)) : ∃ (o : Obj) (vs : Array Value), h.get? a = some o ∧ Zc cls d o ∧ o.data = .fields vs := by
  have z : ObjOk P w H h a (.ext fun g => ∃ (o : Obj) (vs : Array Value), g.get? a = some o ∧ Zc cls d o ∧ o.data = .fields vs) := ok a _ e
  exact z.1
/-- e.n, e a caught exception that is known -/
def tXz (K : PySem.W.Frag) (n : Str) (te : TE) : TE := fun σ H Q => te σ H fun x H1 => ∃ (a C dd : Addr) (fs : List (Str × V)) (v : V), x = .ref a ∧ H1 a = some (exz a (.ref C) (some dd)) ∧ XfC K C ∧ PySem.W.findIn K (.ref C) n = some none ∧ H1 dd = some (.xd fs) ∧ fs.lookup n = some v ∧ Q v H1
theorem pe_xz {X : Cx} {e : Expr} {te : TE} {pos : Pos} {n : Str} (he : PE X e te) (hb : attributeBase e n X.env (eval e X.env) = eval e X.env := by rfl) : PE X (.Attribute e n pos) (tXz X.K n te) := by
  refine ⟨fun pins s σ H Q I h => attr_of hb (thn (he.run pins s σ H _ I h) fun u s1 hu => ?_)⟩
  obtain ⟨x, H1, J, rx, a, C, dd, fs, v, rfl, ea, xf, no, ed, lk, q⟩ := hu
  cases rx
  obtain ⟨o, vs, g, z, f⟩ := exz_at J.hok ea
  have kd : ObjOk X.prog X.w H1 s1.heap dd (.xd fs) := J.hok dd _ ed
  obtain ⟨m, ns, rel⟩ := kd
  obtain ⟨od, god, lo⟩ := lookIn_ns ns
  obtain ⟨y, hy, ry⟩ := RelO.some_of (v := v) (o := m n) (by rw [← lk]; exact rel n)
  have at_ : PySem.W.InstAt s1.heap a o C (some od) := by
    refine ⟨g, z.1, ?_, ?_⟩
    · unfold PySem.W.notCls
      rw [f] <;> rfl
    · rw [z.2]
      exact god
  have found : PySem.W.findObj X.K C (some od) n = some (.value y) := PySem.W.findObj_own xf.hdC no rfl (by rw [lo, hy])
  exact HandSPX.exc_get J.kIn at_ xf.ga xf.gg xf.exC found (handed_of ry) ⟨v, H1, J.tok _, ry, q⟩
/-! ### try: body, except (A, B) as n: suite, where all that the body raises is of one of both -/
section
variable {X : Cx} {pins : List (Addr × Obj)} {σ : L2.St} {H : Hp} {s0 s1 : Shared} {B : Heap} {a : Addr} {cls : Value} {d : Option Addr}
theorem hok_more {P : Program} {w : World} {h : Heap} {u : HO} (k : HOk P w H h) (na : H a = none) (new : ObjOk P w (upd H a u) h a u) : HOk P w (upd H a u) h := by
  intro b v q
  by_cases e : b = a
  · subst e
    rw [upd_same] at q
    cases q
    exact new
  · rw [upd_ne e] at q
    refine (k b v q).stay (fun _ _ _ r => r) (fun c r => ?_) (fun c xs r => ?_)
    · rw [upd_ne (ne_of_none r na)]
      exact r
    · rw [upd_ne (ne_of_none r na)]
      exact r
theorem Inv.seen (I : Inv X pins σ H s0) (nb : ∀ b o, s0.heap.get? b = some o → b ∉ frs X.stack → B.get? b = some o) (st : B.StaysIn s1.heap) (up : s0.heap.UpToSlots s1.heap) (os : s1.os = s0.os) (ag : AllBare s1.gens)
    (ha : s0.heap.get? a = none) (na : H a = none) {o : Obj} {vs : Array Value} (ga : s1.heap.get? a = some o) (z : Zc cls d o) (f : o.data = .fields vs) : Inv X pins σ (upd H a (exz a cls d)) s1 := by
  have fr : ∀ b ∈ frs X.stack, ∀ u, s0.heap.get? b = some u → ∃ sl, s1.heap.get? b = some { u with slots := sl } := by
    intro b hb u gu
    obtain ⟨_, u', gu', hd⟩ := I.stack.mem hb
    rw [gu] at gu'
    cases gu'
    exact up b u gu hd
  have ne : ∀ {b : Addr} {u : Obj}, s0.heap.get? b = some u → b ≠ a := by
    intro b u gu q
    rw [q, ha] at gu
    cases gu
  have old := Inv.landed (s' := s1) I nb st up os ag
  refine I.call' (ch := []) os ⟨?_, ?_, ?_, ?_, ?_, ?_, ?_⟩ (hok_more old.hok na (exz_ok ga z f)) ag (fun _ y => nomatch y)
  · exact fun b u gu _ hb _ => st b u (nb b u gu hb)
  · exact fun b u gu _ hb _ => fr b hb u gu
  · intro b u gu n _
    rw [upd_ne (ne gu)]
    exact n
  · intro b u gu _
    by_cases hb : b ∈ frs X.stack
    · obtain ⟨sl, q⟩ := fr b hb u gu
      exact ⟨_, q⟩
    · exact ⟨u, st b u (nb b u gu hb)⟩
  · intro b xs q
    rw [upd_ne (ne_of_none q na)]
    exact q
  · intro b u xs q
    rw [upd_ne (ne_of_none q na)]
    exact q
  · intro b ps q
    refine ⟨#[], ?_⟩
    rw [upd_ne (ne_of_none q na), q]
    simp
end
end Bh
namespace Bh
open PySem PySem.Spec PyProof.Rows L2
section
variable {X : Cx} {pins : List (Addr × Obj)} {σ : L2.St} {H : Hp} {s : Shared}
theorem Inv.inSuite (I : Inv X pins σ H s) (a : Addr) : Inv (X.suite a (X.pn ++ pins)) [] σ H s := by
  refine ⟨I.ok.suite _ _, I.os, I.bare, I.base, I.loc, I.cell, I.free, I.freeC, fun p hp => ?_, I.hok, I.len⟩
  rw [List.append_nil] at hp
  exact I.pin p hp
theorem Inv.offSuite {a : Addr} {more : List (Addr × Obj)} (I : Inv (X.suite a (X.pn ++ pins)) more σ H s) (ok : X.Ok) : Inv X pins σ H s :=
  ⟨ok, I.os, I.bare, I.base, I.loc, I.cell, I.free, I.freeC, fun p hp => I.pin p (List.mem_append_left _ hp), I.hok, I.len⟩
end
theorem flying_more {B h h' : Heap} {l : List Env} {a : Addr} {Z : Obj → Prop} (k : ∀ b o, h.get? b = some o → h'.get? b = some o) (f : HandSPX.FlyingZ B l a Z h) : HandSPX.FlyingZ B l a Z h' := by
  obtain ⟨f1, f2, f3, oe, vs, T, oT, ts, e1, e2, e3, e4, e5, e6, e7, e8, e9⟩ := f
  exact ⟨fun b o q => k b o (f1 b o q), f2, f3.of_keeps (fun b o q _ => ⟨o, k b o q, rfl⟩), oe, vs, T, oT, ts, k _ _ e1, e2, e3, e4, e5, e6, k _ _ e7, e8, e9⟩
/-- what the clause wishes of an exception of the body -/
def wTwo (K : PySem.W.Frag) (C1 C2 : Value) (i n : Nat) (ts : TS) (D : Ends) : WX := fun cls d σ H => PySem.W.exmAny K cls [C1, C2] = some true ∧ ∀ a, H a = none → σ.length = n →
  ts { nx := fun σ' H' => D.nx (σ'.set i none) H', rt := D.rt, bk := fun σ' H' => D.bk (σ'.set i none) H', ct := fun σ' H' => D.ct (σ'.set i none) H' } (σ.set i (some (.ref a))) (upd H a (exz a cls d))
section
variable {X : Cx} {x1 x2 n : Str} {C1 C2 : Addr} {i : Nat} {body suite : List Stmt} {b₀ : Stmt} {p1 p2 tpos pos pos' : Pos} {tb : WX → TS} {ts : TS} {kk : Nat}
theorem ps_try_two (hs : X.stack = X.env :: X.outer) (hf : X.env.frame = some X.env.locals) (hN : X.N.Nodup) (hi : X.N[i]? = some n) (hln : X.env.kindOf n = some .local)
    (g1 : Gl X x1) (m1 : X.mg x1 = some (.ref C1)) (g2 : Gl X x2) (m2 : X.mg x2 = some (.ref C2)) (d1 : (x1 == ("__debug__" : Str)) = false) (d2 : (x2 == ("__debug__" : Str)) = false)
    (hb : ∀ (W : WX) (pn : List (Addr × Obj)) (xe : Value → Shared → Prop), Takes (X.tr pn xe) W → PassesOwn (model X.prog X.w) X.A X.env xe → PSs (X.tr pn xe) body (tb W))
    (hsu : ∀ (a : Addr) (pn : List (Addr × Obj)), PSs (X.suite a pn) (b₀ :: suite) ts)
    (two : starEach [.Name x1 p1, .Name x2 p2] X.env = [(false, eval (.Name x1 p1) X.env), (false, eval (.Name x2 p2) X.env)] := by rfl) :
    PS X (.Try body [.ExceptHandler (some (.Tuple [.Name x1 p1, .Name x2 p2] kk tpos)) (some n) (b₀ :: suite) pos'] [] [] pos) (fun D σ H => tb (wTwo X.K (.ref C1) (.ref C2) i X.N.length ts D) D σ H) := by
  refine ⟨fun pins s σ H D I h => wpAny_Try_except ?_⟩
  have ok := I.ok
  have tops : X.A.frames = some (X.env :: X.outer) := ok.frames.trans (congrArg some hs)
  refine wpAny_mono ((hb (wTwo X.K (.ref C1) (.ref C2) i X.N.length ts D) (X.pn ++ pins) _ (fun u s1 air => ?caught) PassesOwn.looking).run [] s σ H D (I.toTry _) h) (fun f s1 e => ?ends) (fun _ _ e => e)
  case ends =>
    match f, e with
    | .next, ⟨σ1, H1, J, q⟩ => exact wpAny_execs_nil ⟨σ1, H1, J.ofTry ok, q⟩
    | .brk, ⟨σ1, H1, J, q⟩ => exact ⟨σ1, H1, J.ofTry ok, q⟩
    | .cont, ⟨σ1, H1, J, q⟩ => exact ⟨σ1, H1, J.ofTry ok, q⟩
    | .ret u, ⟨v, σ1, H1, J, r, q⟩ => exact ⟨v, σ1, H1, J.ofTry ok, r, q⟩
  case caught =>
    obtain ⟨a, B, s0, pins0, σ0, H0, cls, d, rfl, J0, nb, up, sky, na, os, ag, hm, go⟩ := air
    have J : Inv X pins σ0 H0 s0 := J0.ofTry ok
    rw [show (X.tr (X.pn ++ pins) _).stack = X.env :: X.outer from hs] at sky
    refine Sky.land Zc.steady tops hf sky fun h3 fl3 up3 => ?_
    obtain ⟨o3, v3, e3, z3, f3⟩ := fl3.there
    have noframe : a ∉ frs X.stack := by
      rw [hs]
      intro hm'
      obtain ⟨_, o', e', hd⟩ := fl3.2.2.1.mem hm'
      rw [e3] at e'
      cases e'
      exact hd _ f3
    have a0 : s0.heap.get? a = none := by
      cases q : s0.heap.get? a with
      | none => rfl
      | some o =>
        have z := nb a o q noframe
        rw [fl3.2.1] at z
        cases z
    have J3 := Inv.seen (s1 := { s1 with heap := h3 }) J nb fl3.1 (up.trans up3) os ag a0 na e3 z3 f3
    have S3 := Inv.inSuite J3 a
    refine wpAny_handleBy_cons (codeAny_handlers_test (wpAny_Tuple_spliced ?_)) (fun q => by cases q)
    rw [two]
    show wpAny _ _ (spliced [(false, eval (.Name x1 p1) X.env), (false, eval (.Name x2 p2) X.env)]) _ _ _
    refine Calls.spliced_cons (ld_glob S3 g1 m1 ?_ d1)
    refine Calls.spliced_cons (ld_glob S3 g2 m2 ?_ d2)
    refine Calls.spliced_nil ⟨(by show 2 ≤ sizeLine; decide), ?_⟩
    have more : ∀ b o, h3.get? b = some o → (h3.push { cls := .type "tuple", data := .seq [Value.ref C1, Value.ref C2].toArray }).get? b = some o := fun b o q => Heap.get?_push_of_some _ q
    have at_ : (h3.push { cls := .type "tuple", data := .seq [Value.ref C1, Value.ref C2].toArray }).get? h3.objs.size = some { cls := .type "tuple", data := .seq [Value.ref C1, Value.ref C2].toArray } := Heap.get?_push_size _ rfl
    have own : PySem.W.Looks (model X.prog X.w) (h3.push { cls := .type "tuple", data := .seq [Value.ref C1, Value.ref C2].toArray }) (typeOf (.ref a)) cls := fun A Q E s k q => wpAny_typeOf_ref (k _ _ (more _ _ e3)) (by rw [z3.1]; exact q)
    have hit := PySem.W.exm_tup2 (M := model X.prog X.w) (J3.kIn.keeps more) own at_ hm
    refine hit.here ?_
    refine codeAny_handlers_suite_as ?_
    have fl4 := flying_more more fl3
    refine HandSPX.lands_againZ fl4 fun h5 fl5 up5 => ?_
    obtain ⟨o5, v5, e5, z5, f5⟩ := fl5.there
    have J5 := Inv.seen (s1 := { s1 with heap := h5 }) J nb fl5.1 ((up.trans up3).trans ((Heap.UpToSlots.of_keeps more).trans up5)) os ag a0 na e5 z5 f5
    refine store_ok (X := X.suite a (X.pn ++ pins)) (v := .ref a) (Inv.inSuite J5 a) hN hi (.inl hln) rfl (fun s6 S6 => ?_) (.inr hln)
    refine wpAny_mono ((hsu a (X.pn ++ pins)).run [] s6 _ _ _ S6 (go a na J.len)) (fun f s7 e => ?_) (fun _ _ y => False.elim y)
    have leave : ∀ {σ7 : L2.St} {H7 : Hp} {R : Shared → Prop}, Inv (X.suite a (X.pn ++ pins)) [] σ7 H7 s7 → (∀ s8, Inv X pins (σ7.set i none) H7 s8 → R s8) →
        wpAny (model X.prog X.w) X.A (do bindName X.env n .none; unbindBehindTheSuite X.env n pos') (fun _ s8 => R s8) X.xe s7 := fun S7 r => gone_ok (Inv.offSuite S7 ok) hN hi hln r
    match f, e with
    | .next, ⟨σ7, H7, S7, q⟩ => exact leave S7 fun s8 J8 => ⟨_, _, J8, q⟩
    | .brk, ⟨σ7, H7, S7, q⟩ => exact leave S7 fun s8 J8 => ⟨_, _, J8, q⟩
    | .cont, ⟨σ7, H7, S7, q⟩ => exact leave S7 fun s8 J8 => ⟨_, _, J8, q⟩
    | .ret u, ⟨v, σ7, H7, S7, r, q⟩ => exact leave S7 fun s8 J8 => ⟨_, _, _, J8, r, q⟩
end
end Bh

set_option Elab.async false
set_option linter.all false
set_option maxRecDepth 100000
namespace Bh
open PySem PySem.Spec PyProof.Rows L2
/-! ### a def that runs while an exception is handled, and raises nothing -/
structure FnU (P : Program) (w : World) (K : PySem.W.Frag) (mg : Str → Option Value) (base : Heap) (k : Nat) (f : Addr) (fd : FuncData) (ps : List Str) (sp : Sp) : Prop where
  len : ∀ vs H Q E, sp vs H Q E → vs.length = ps.length
  run : ∀ (A : Around) (outer : List Env) (s : Shared) (H : Hp) (args : Args) (us : List Value) (vs : List V) (Q : VK) (E : XK), L2H.RoomH k A → Env0 P w K mg base A outer s H → BindsTo s fd args (ps.zip us) → Vals vs us → sp vs H Q E →
    codeAny (model P w) A (.call (.ref f) args) (CR CX0 outer P w H s Q E) s
def cxU (P : Program) (w : World) (K : PySem.W.Frag) (mg : Str → Option Value) (base : Heap) (N : List Str) (qual : Str) (scope : Scope) (f : Addr) (cd : Value) (A : Around) (outer : List Env) (s : Shared) (H : Hp) (E : XK) : Cx :=
  { cxOf CX0 P w K mg base N qual scope f cd A outer s H E with calm := false }
theorem start_u {P : Program} {w : World} {K : PySem.W.Frag} {mg : Str → Option Value} {base : Heap} {N ps : List Str} {qual : Str} {scope : Scope} {f : Addr} {cd : Value} {A : Around} {outer : List Env} {s s1 : Shared} {H : Hp} {E : XK} {us : List Value} {vs : List V}
    (S : FnScope N ps scope) (e0 : Env0 P w K mg base A outer s H) (hl : vs.length = ps.length) (r : Vals vs us)
    (x : InCallC s s.heap.objs.size (bindL (envOfC qual scope s.heap.objs.size f cd).kindOf (ps.zip us) fun _ => none) (cellsFrom (s.heap.objs.size + 1) scope.names []) (bindC (envOfC qual scope s.heap.objs.size f cd).kindOf (ps.zip us) fun _ => none) s1) :
    Inv (cxU P w K mg base N qual scope f cd A outer s H E) [] (L2.start N vs) H s1 := by
  have e1 : Env0 P w K mg base { A with handled := none } outer s H := ⟨e0.frames, e0.mod, e0.bs, e0.bsz, e0.funs, e0.frf, e0.hok, e0.bare⟩
  have I : Inv (cxOf CX0 P w K mg base N qual scope f cd { A with handled := none } outer s H E) [] (L2.start N vs) H s1 := inv_start S rfl e1 hl r x
  obtain ⟨o1, o2, o3, o4, o5, o6, o7, o8, _, _, o11, o12, o13, o14, o15, o16, o17, o18⟩ := I.ok
  exact ⟨⟨o1, o2, o3, o4, o5, o6, o7, o8, (fun z => Bool.noConfusion (show false = true from z)), Around.frames_deeper e0.frames, o11, o12, o13, o14, o15, o16, o17, o18⟩, I.os, I.bare, I.base, I.loc, I.cell, I.free, I.freeC, I.pin, I.hok, I.len⟩
theorem fun_u {P : Program} {w : World} {K : PySem.W.Frag} {mg : Str → Option Value} {base : Heap} {k : Nat} {f : Addr} {fd : FuncData} {x qual : Str} {st : Stmt} {N ps : List Str} {sp : Sp} (F : Fun K x qual st f fd) (S : FnScope N ps (defScope st))
    (len : ∀ vs H Q E, sp vs H Q E → vs.length = ps.length)
    (body : ∀ (cdv : Value) (A : Around) (outer : List Env) (s : Shared) (H : Hp) (vs : List V) (Q : VK) (E : XK), sp vs H Q E →
      ∃ t, PSs (cxU P w K mg base N qual (defScope st) f cdv A outer s H E) (defBody st) t ∧ t { nx := fun _ H' => Q .non H', rt := Q } (L2.start N vs) H) : FnU P w K mg base (k + 1) f fd ps sp := by
  obtain ⟨oc, od, kV, doc, pm, an, cdv, ct, osl, rfl, lk, hcd⟩ := F.ex
  refine ⟨len, fun A outer s H args us vs Q E hr e0 hb r h => ?_⟩
  have l1 := len _ _ _ _ h
  have X0 : K.In s.heap := e0.mod.kin.keeps fun b o e => (e0.bs b o e).1
  have nl : s.heap.NoLimit := e0.mod.nolimit.keeps fun b o e => (e0.bs b o e).1
  have kinds : ∀ y ∈ ps.zip us, (defScope st).names.lookup y.1 = some .local ∨ ((defScope st).names.lookup y.1 = some .cell ∧ ((cellsFrom (s.heap.objs.size + 1) (defScope st).names []).lookup y.1).isSome = true) := by
    rintro ⟨n, v⟩ hy
    exact (S.par n (List.of_mem_zip hy).1).imp id fun q => ⟨q, PySem.W.cellsFrom_some _ _ _ (.inl q)⟩
  refine codeAny_call_function hr.depth (X0 _ _ lk) rfl S.co S.gen rfl (PySem.W.codeRec_of X0 hcd) (hb _ _ _ _ (wpAny_newFunctionEnv_cells S.kind kinds fun env he s1 x => ?_))
  subst he
  obtain ⟨t, ht, hq⟩ := body cdv A outer s H vs Q E h
  refine ⟨nl.keeps x.toInCall.keep, codeAny_func (wpAny_mono (ht.run [] s1 (L2.start N vs) H _ (start_u S e0 l1 r x) hq) (fun fl s2 e => ?_) fun _ _ e => e)⟩
  match fl, e with
  | .next, ⟨σ2, H2, J, q⟩ => exact ⟨.non, H2, J.os, J.bare, J.base, J.hok, rfl, q⟩
  | .brk, ⟨_, _, _, q⟩ => exact q.elim
  | .cont, ⟨_, _, _, q⟩ => exact q.elim
  | .ret u, ⟨v, σ2, H2, J, rv, q⟩ => exact ⟨v, H2, J.os, J.bare, J.base, J.hok, rv, q⟩
theorem pe_callU {X : Cx} {k : Nat} {f : Addr} {fd : FuncData} {ps : List Str} {sp : Sp} {x : Str} {q pos : Pos} {e : Expr} {es : List Expr} {t : TA} (F : FnU X.prog X.w X.K X.mg X.base k f fd ps sp) (hr : L2H.RoomH k X.A) (hg : Gl X x) (hm : X.mg x = some (.ref f)) (hk : PySem.W.keepIn X.K (.ref f) = true) (hb : Binds X.K fd ps [])
    (ha : PA X (e :: es) t) (hdb : (x == ("__debug__" : Str)) = false := by decide) (hs : starEach (e :: es) X.env = (false, eval e X.env) :: starEach es X.env := by rfl) (hp : (backTo pos (starEach es X.env)).any (·.1) = false := by rfl) :
    PE X (.Call (.Name x q) (e :: es) [] pos) (fun σ H Q => t σ H fun vs H1 => sp vs H1 Q fun _ _ _ => False) := by
  refine ⟨fun pins s σ H Q I h => wpAny_Call_Name_kw (ld_glob I hg hm ?_ hdb)⟩
  refine PySem.W.callWith_K (h₀ := X.base) I.ok.mod.kin hk (thn (ha.run pos pins s σ H _ I h) fun us s1 hu => ?_) hs hp
  obtain ⟨vs, H1, J, rv, y⟩ := hu
  refine ⟨J.kIn, ?_⟩
  have n : us.length = ps.length := rv.length.symm.trans (F.len _ _ _ _ y)
  have bnd := hb s1 us J.kIn (by rw [List.append_nil]; exact n)
  rw [List.append_nil] at bnd
  refine wpAny_call (codeAny_mono (F.run X.A X.stack s1 H1 ⟨us, []⟩ us vs Q _ hr J.env0 bnd rv y) fun res s2 z => ?_)
  match res, z with
  | .error _, z => exact z.elim
  | .ok (.ret u), z => exact J.after z
  | .ok .next, z => exact z.elim
  | .ok .brk, z => exact z.elim
  | .ok .cont, z => exact z.elim
end Bh
namespace Bh
open PySem PySem.Spec PyProof.Rows L2
/-! ### the end of a law that makes a lambda: its table of code objects is told by the top -/
theorem walkT {l : PySem.W.OpenLaw} {n k : Nat} {q : Program} {loose : List Str} {XP : (Str → Option Value) → Heap → Prop} {YP : World → Heap → Prop} {d : DefRec} {CX : World → CXT} {x : Str}
    (hn : l.most = some n) (hn2 : n ≤ sizeLine) (hdf : d.params.defaults = []) (hr : Room k callerA)
    (F : ∀ (w : World) (mg mb : Str → Option Value) (fa : Addr) (h : Heap), (∀ (K : PySem.W.Frag), K.In h → ∀ (dd : DefRec) (y : Str) (c P : Addr), (recsOf q).find? (fun e => e.name == y) = some dd → PySem.W.tabIn K y = some (c, P) → PySem.W.CodeHd h c P ∧ h.get? P = some (PySem.W.tabObj #[])) → h.Ns mainGlobals mg → YP w h → mg d.name = some (.ref fa) → ∃ K : PySem.W.Frag, K.In h ∧ LamX.LawAtS l w K (CX w) k n x mg fa h)
    (hCX : ∀ (w : World) (H : Hp) (s : Shared) (e : Value) (s' : Shared), CX w [] H s (fun _ _ _ => False) e s' → False) :
    PySem.W.WalkO q loose XP YP l.row.toRowW d [] (fun f vs => PySem.call f vs) := by
  refine Att.attach_callB hn hdf fun w s0 s1 mg mb fa o pm cd doc a vs ns G Y _ _ _ hmg hobj hi hlen hbits hg => ?_
  obtain ⟨K, KX, fd, cs, sp, t1, t2, t3, bnd, hsp, ok⟩ := F w mg mb fa _ (fun K KX dd y c P h1 h2 => PySem.W.tab_of G.T KX h1 h2) G.T.g Y hmg
  refine LamX.law_callTs KX G.T.g G.T.b G.T.builtins G.T.nolimit hg t1 t2 t3 G.T.bmain hobj hi (Nat.le_trans hlen hn2) hr ok bnd ?_ ?_
  · exact fun H hH hS => hsp H a ns hlen hbits hH hS
  · exact fun H e s' => hCX w H s1 e s'
end Bh

set_option Elab.async false
set_option linter.all false
set_option maxRecDepth 100000
namespace Bh
open PySem PySem.Spec PyProof.Rows L2
/-! ### an own exception class over any built-in one, with an __init__ that is walked as a def -/
structure ExG (K : PySem.W.Frag) (C : Addr) : Prop where
  fam : ∃ (B newId initId : String) (bmB : List Value), ExcBaseFacts B newId initId bmB ∧ StoreFacts B bmB "object.__setattr__" "object" ∧ PySem.W.excOver K C bmB = true ∧
    ∃ nm q N bs bm sn sub ab col dd k0 k1 k2 k3 k5, K.lookup C = some (excClassObj nm q C N bs bm true sn sub ab col dd k0 k1 k2 k3 k5 newId) ∧ ∀ Y : String, bm.contains (.type Y) = bmB.contains (.type Y)
  sa : PySem.W.findIn K (.ref C) "__setattr__" = some (some (.builtin "object.__setattr__"))
  exC : PySem.W.subIn K (.ref C) (.type "BaseException") = some true
  tyC : PySem.W.typeIn K (.ref C) = some (.type "type")
  kC : PySem.W.keepIn K (.ref C) = true
  hdC : PySem.W.hasDictIn K C = true
theorem taker_no {K : PySem.W.Frag} {C : Addr} {n : Str} (h : PySem.W.findIn K (.ref C) n = some none) : PySem.W.takerIn K C n = some none := by
  unfold PySem.W.takerIn
  rw [h]
  rfl
section
variable {X : Cx} {pins : List (Addr × Obj)} {σ : L2.St} {H : Hp} {s : Shared} {a C dx : Addr} {f : Str} {y : V} {u : Value} {fs : List (Str × V)} {Q : Unit → Shared → Prop} {E : Value → Shared → Prop} {A : Around}
theorem setG_new (T : ExG X.K C) (I : Inv X pins σ H s) (e : H a = some (exo a C none)) (no : PySem.W.findIn X.K (.ref C) f = some none) (ry : RelV y u)
    (h : ∀ dx s', H dx = none → dx ≠ a → Inv X pins σ (upd (upd H dx (exd dx [(f, y)])) a (exo a C (some dx))) s' → Q () s') : wpAny (model X.prog X.w) A (setAttr (.ref a) f u) Q E s := by
  obtain ⟨B, newId, initId, bmB, FB, SF, ov, _⟩ := T.fam
  obtain ⟨t1, ga⟩ := exo_at I.hok e
  obtain ⟨hp, g, d, t, os⟩ := s
  have inst : PySem.W.InstAt hp a { cls := .ref C, dict := none, data := .fields #[.ref t1, .none, .none, .none, .bool false, .none] } C none := ⟨ga, rfl, rfl, trivial⟩
  refine PySem.W.set_plain I.kIn inst T.sa (PySem.W.osa_openX (od := none) SF I.kIn inst ov (taker_no no) fun b => ?_)
  obtain ⟨cd, hc, hd⟩ := PySem.W.any_some T.hdC
  refine wpAny_bind (wpAny_pure (wpAny_bind (PySem.W.instanceDict_exc (c2 := .none) ga (PySem.W.looks_clsIn I.kIn hc) hd ?_)))
  have na : a ≠ hp.objs.size := Nat.ne_of_lt (Heap.lt_size ga)
  refine HandSPX.store_in_new ?_ (fun h2 tk2 hn hs => ?_)
  · exact ⟨_, #[], _, (Heap.get?_update_ne _ _ _ _ na.symm).trans (Heap.get?_push_at rfl rfl), rfl, fun e he => absurd he (by simp), fun _ => rfl⟩
  have nx : H hp.objs.size = none := I.hok.fresh (Nat.le_refl _)
  have old : ∀ b o, b ≠ a → hp.get? b = some o → h2.get? b = some o := by
    intro b o hb ho
    refine (hs.2 b (Nat.ne_of_lt (Heap.lt_size ho))).trans ?_
    exact (Heap.get?_update_ne _ _ _ _ hb).trans (Heap.get?_push_of_some _ ho)
  have self2 : h2.get? a = some { cls := .ref C, dict := some hp.objs.size, data := .fields #[.ref t1, .none, .none, .none, .bool false, .none] } := by
    refine (hs.2 a na).trans ?_
    exact Heap.get?_update_self _ (Heap.get?_push_of_some _ ga) rfl
  have n1 : ∀ {b : Addr} {o : Obj}, hp.get? b = some o → b ≠ hp.objs.size := fun g => Nat.ne_of_lt (Heap.lt_size g)
  have n2 : ∀ {b : Addr}, H b = none → b ≠ a := by
    intro b hb z
    rw [z, e] at hb
    cases hb
  refine h hp.objs.size _ nx na.symm (I.un (t' := tk2) (h' := h2) ⟨?_, ?_, ?_, ?_, ?_, ?_, ?_⟩ fun b o q => ?_)
  · exact fun b o g n _ _ => old b o (n2 n) g
  · exact fun b o g n _ _ => ⟨o.slots, old b o (n2 n) g⟩
  · intro b o g n _
    rw [upd_ne (n2 n), upd_ne (n1 g)]
    exact n
  · intro b o g _
    by_cases hb : b = a
    · exact ⟨_, hb ▸ self2⟩
    · exact ⟨o, old b o hb g⟩
  · intro b xs q
    rw [upd_ne (at_ne e q exo_tup), upd_ne (ne_of_none q nx)]
    exact q
  · intro b o v q
    rw [upd_ne (at_ne e q exo_frz), upd_ne (ne_of_none q nx)]
    exact q
  · intro b ps q
    refine ⟨#[], ?_⟩
    rw [upd_ne (at_ne e q exo_tbl), upd_ne (ne_of_none q nx), q]
    simp
  · by_cases hb : b = a
    · subst hb
      rw [upd_same] at q
      cases q
      exact exo_ok self2
    rw [upd_ne hb] at q
    by_cases hd2 : b = hp.objs.size
    · subst hd2
      rw [upd_same] at q
      cases q
      exact exd_ok hn (relO_put (fs := []) ry fun _ => True.intro)
    rw [upd_ne hd2] at q
    have keepO : ∀ {c : Addr}, H c = some (.own b) → c ≠ a := fun k => at_ne e k exo_own
    refine (I.hok b o q).stay (fun c v hc z => old c v ?_ z) (fun c k => ?_) (fun c xs k => ?_)
    · rcases hc with hc | hc
      · rw [hc]
        exact hb
      · exact keepO hc
    · rw [upd_ne (at_ne e k exo_own), upd_ne (ne_of_none k nx)]
      exact k
    · rw [upd_ne (at_ne e k exo_tup), upd_ne (ne_of_none k nx)]
      exact k
theorem setG_old (T : ExG X.K C) (I : Inv X pins σ H s) (e : H a = some (exo a C (some dx))) (ed : H dx = some (exd dx fs)) (hl : fs.length ≤ 900) (no : PySem.W.findIn X.K (.ref C) f = some none) (ry : RelV y u)
    (h : ∀ s', Inv X pins σ (upd H dx (exd dx ((f, y) :: fs))) s' → Q () s') : wpAny (model X.prog X.w) A (setAttr (.ref a) f u) Q E s := by
  obtain ⟨B, newId, initId, bmB, FB, SF, ov, _⟩ := T.fam
  obtain ⟨t1, ga⟩ := exo_at I.hok e
  obtain ⟨m, ns, rel⟩ := exd_at I.hok ed
  have wi := within_of rel
  obtain ⟨hp, g, d, t, os⟩ := s
  obtain ⟨od, _, _, god, _, _⟩ := ns.count wi
  have inst : PySem.W.InstAt hp a { cls := .ref C, dict := some dx, data := .fields #[.ref t1, .none, .none, .none, .bool false, .none] } C (some od) := ⟨ga, rfl, rfl, god⟩
  refine PySem.W.set_plain I.kIn inst T.sa (PySem.W.osa_openX (od := some od) SF I.kIn inst ov (taker_no no) fun b => ?_)
  obtain ⟨cd, hc, hd⟩ := PySem.W.any_some T.hdC
  refine wpAny_bind (wpAny_pure (wpAny_bind (wpAny_bind (wpAny_loadPart ga (wpAny_bind ((PySem.W.looks_clsIn (M := model X.prog X.w) I.kIn hc).at ?_))))))
  rw [hd]
  refine wpAny_pure (a := some dx) ?_
  refine PySem.OEX.store_in_old ns wi (by rw [List.length_map]; omega) (fun h2 tk2 hn hs => ?_)
  have there : ∃ o, h2.get? dx = some o := by
    obtain ⟨o, _, _, k, _⟩ := hn
    exact ⟨o, k⟩
  exact h _ (I.write (t' := tk2) (x := dx) (e := dx) (o := exd dx ((f, y) :: fs)) (by rw [ed]; exact True.intro) (.inl rfl) (fun b o hb k => (hs.2 b hb).trans k) there (exd_ok hn (relO_put ry rel)))
end
end Bh
namespace Bh
open PySem PySem.Spec PyProof.Rows L2
/-- self.f = e, in the __init__ of such a class -/
def tSetG (K : PySem.W.Frag) (f : Str) (to te : TE) : TS := fun D σ H => te σ H fun y H1 => to σ H1 fun x H2 => ∃ a C : Addr, x = .ref a ∧ ExG K C ∧ PySem.W.findIn K (.ref C) f = some none ∧
  ((H2 a = some (exo a C none) ∧ ∀ dx, H2 dx = none → dx ≠ a → D.nx σ (upd (upd H2 dx (exd dx [(f, y)])) a (exo a C (some dx)))) ∨
    ∃ (dx : Addr) (fs : List (Str × V)), H2 a = some (exo a C (some dx)) ∧ H2 dx = some (exd dx fs) ∧ fs.length ≤ 900 ∧ D.nx σ (upd H2 dx (exd dx ((f, y) :: fs))))
theorem ps_setG {X : Cx} {o e : Expr} {to te : TE} {f : Str} {p pos : Pos} (ho : PE X o to) (he : PE X e te) (hs : swapsWith e (some (.Attribute o f p)) pos.line X.env = pure false := by rfl) : PS X (.Assign [.Attribute o f p] e pos) (tSetG X.K f to te) := by
  refine ⟨fun pins s σ H D I h => plainObj_wpAny_Assign_Attribute (thn (he.run pins s σ H _ I h) fun v s1 q => ?_) hs⟩
  obtain ⟨y, H1, I1, r1, q1⟩ := q
  refine thn (ho.run pins s1 σ H1 _ I1 q1) fun u s2 q => ?_
  obtain ⟨x, H2, I2, r2, a, C, rfl, T, no, q2⟩ := q
  cases r2
  rcases q2 with ⟨ea, k⟩ | ⟨dx, fs, ea, ed, hl, k⟩
  · exact setG_new T I2 ea no r1 fun dx s3 n ne J => ⟨σ, _, J, k dx n ne⟩
  · exact setG_old T I2 ea ed hl no r1 fun s3 J => ⟨σ, _, J, k⟩
/-! ### such an exception, made: as a value, and to be raised -/
/-- C(..) with C's own __init__ that keeps sp: known as exo, its dict as exd -/
def tMkG (C : Addr) (sp : Sp) (ta : TA) : TE := fun σ H Q => ta σ H fun vs H1 => vs.length ≤ 1000 ∧ ∀ a, H1 a = none → sp (.ref a :: vs) (upd H1 a (exo a C none)) (fun v H2 => v = .non ∧ Q (.ref a) H2) fun _ _ _ => False
theorem pe_mkG {X : Cx} {x : Str} {C fI : Addr} {k : Nat} {fd : FuncData} {ps : List Str} {sp : Sp} {e : Expr} {es : List Expr} {ta : TA} {p pos : Pos} (T : ExG X.K C) (iC : PySem.W.findIn X.K (.ref C) "__init__" = some (some (.ref fI))) (tI : PySem.W.typeIn X.K (.ref fI) = some (.type "function"))
    (F : FnOk X.prog X.w X.K X.mg X.base CX0 k fI fd ps sp) (hr : Room (k + 1) X.A) (hb : Binds X.K fd ps []) (hg : Gl X x) (hm : X.mg x = some (.ref C)) (ha : PA X (e :: es) ta)
    (hdb : (x == ("__debug__" : Str)) = false := by decide) (hs : starEach (e :: es) X.env = (false, eval e X.env) :: starEach es X.env := by rfl) (hp : (backTo pos (starEach es X.env)).any (·.1) = false := by rfl) :
    PE X (.Call (.Name x p) (e :: es) [] pos) (tMkG C sp ta) := by
  refine ⟨fun pins s σ H Q I h => wpAny_Call_Name_kw (ld_glob I hg hm ?_ hdb)⟩
  obtain ⟨B, newId, initId, bmB, FB, SF, ov, nm, q, N, bs, bm, sn, sub, ab, col, dd, k0, k1, k2, k3, k5, look, same⟩ := T.fam
  refine PySem.W.callWith_K (h₀ := X.base) I.ok.mod.kin T.kC (thn (ha.run pos pins s σ H _ I h) fun us s1 hu => ?_) hs hp
  obtain ⟨vs, H1, J, rv, hz, y⟩ := hu
  refine ⟨J.kIn, ?_⟩
  show wpAny _ _ (call (.ref C) us) _ _ _
  obtain ⟨hh, g, dr, tk, os⟩ := s1
  have n1 : H1 (hh.objs.size + 1) = none := J.hok.fresh (Nat.le_succ _)
  have yy := y (hh.objs.size + 1) n1
  have more : ∀ b o, hh.get? b = some o → ((hh.push (PySem.W.kdv_tup us)).push (PySem.HandSPX.excO C hh.objs.size)).get? b = some o := fun b o z => Heap.get?_push_of_some _ (Heap.get?_push_of_some _ z)
  have at_ : ((hh.push (PySem.W.kdv_tup us)).push (PySem.HandSPX.excO C hh.objs.size)).get? (hh.objs.size + 1) = some (PySem.HandSPX.excO C hh.objs.size) := by heap_get
  have J2 : Inv X pins σ (upd H1 (hh.objs.size + 1) (exo (hh.objs.size + 1) C none)) ⟨(hh.push (PySem.W.kdv_tup us)).push (PySem.HandSPX.excO C hh.objs.size), g, dr, tk, os⟩ := J.laid (t' := tk) more (Nat.le_succ _) (exo_ok at_)
  have rv2 : Vals (V.ref (hh.objs.size + 1) :: vs) (Value.ref (hh.objs.size + 1) :: us) := .cons rfl rv
  have ln : (Value.ref (hh.objs.size + 1) :: us).length = ps.length := rv2.length.symm.trans (F.len _ _ _ _ yy)
  have few : us.length ≤ sizeLine := by
    rw [← Paired.length rv, sizeLine_eq]
    omega
  have bnd := hb _ (Value.ref (hh.objs.size + 1) :: us) J2.kIn (by rw [List.append_nil]; exact ln)
  rw [List.append_nil] at bnd
  have body := F.run _ X.stack _ _ ⟨Value.ref (hh.objs.size + 1) :: us, []⟩ _ _ _ (fun _ _ _ => False) (hr.make C us []) (J2.env0.make C us []) bnd rv2 yy
  refine wpAny_call (PySem.HandSPX.call_own FB same (J.kIn _ _ look) (PySem.W.looks_findIn J.kIn iC) (fun self => PySem.W.bind_fn J.kIn self tI) few (codeAny_mono body fun r s2 z => ?_))
  cases r with
  | error _ => exact z.elim
  | ok fl =>
    cases fl with
    | ret w =>
      obtain ⟨v, H2, o2, b2, un2, ok2, rw2, ev, q2⟩ := z
      subst ev
      exact ⟨rw2, ⟨V.ref (hh.objs.size + 1), H2, J2.call' (ch := []) o2 un2 ok2 b2 (fun _ m => nomatch m), rfl, q2⟩⟩
    | next => exact z.elim
    | brk => exact z.elim
    | cont => exact z.elim
end Bh
namespace Bh
open PySem PySem.Spec PyProof.Rows L2
/-- the same, for raise -/
theorem pmk_mkG {X : Cx} {x : Str} {C fI : Addr} {k : Nat} {fd : FuncData} {ps : List Str} {sp : Sp} {e : Expr} {es : List Expr} {ta : TA} {p pos : Pos} (T : ExG X.K C) (iC : PySem.W.findIn X.K (.ref C) "__init__" = some (some (.ref fI))) (tI : PySem.W.typeIn X.K (.ref fI) = some (.type "function"))
    (F : FnOk X.prog X.w X.K X.mg X.base CX0 k fI fd ps sp) (hr : Room (k + 1) X.A) (hb : Binds X.K fd ps []) (hg : Gl X x) (hm : X.mg x = some (.ref C)) (ha : PA X (e :: es) ta)
    (hdb : (x == ("__debug__" : Str)) = false := by decide) (hs : starEach (e :: es) X.env = (false, eval e X.env) :: starEach es X.env := by rfl) (hp : (backTo pos (starEach es X.env)).any (·.1) = false := by rfl) :
    PMk X (.Call (.Name x p) (e :: es) [] pos) (tMkO C sp [] ta) := by
  intro pins s σ H Q I h
  refine wpAny_Call_Name_kw (ld_glob I hg hm ?_ hdb)
  obtain ⟨B, newId, initId, bmB, FB, SF, ov, nm, q, N, bs, bm, sn, sub, ab, col, dd, k0, k1, k2, k3, k5, look, same⟩ := T.fam
  refine PySem.W.callWith_K (h₀ := X.base) I.ok.mod.kin T.kC (thn (ha.run pos pins s σ H _ I h) fun us s1 hu => ?_) hs hp
  obtain ⟨vs, H1, J, rv, hz, y⟩ := hu
  refine ⟨J.kIn, ?_⟩
  show wpAny _ _ (call (.ref C) us) _ _ _
  obtain ⟨hh, g, dr, tk, os⟩ := s1
  have big : hh.objs.size ≤ hh.objs.size + 1 := Nat.le_succ _
  have yy := y (hh.objs.size + 1) (J.hok.fresh big)
  rw [List.append_nil] at yy
  have more : ∀ b o, hh.get? b = some o → ((hh.push (PySem.W.kdv_tup us)).push (PySem.HandSPX.excO C hh.objs.size)).get? b = some o := fun b o z => Heap.get?_push_of_some _ (Heap.get?_push_of_some _ z)
  have at_ : ((hh.push (PySem.W.kdv_tup us)).push (PySem.HandSPX.excO C hh.objs.size)).get? (hh.objs.size + 1) = some (PySem.HandSPX.excO C hh.objs.size) := by heap_get
  have J2 : Inv X pins σ (upd H1 (hh.objs.size + 1) (exo (hh.objs.size + 1) C none)) ⟨(hh.push (PySem.W.kdv_tup us)).push (PySem.HandSPX.excO C hh.objs.size), g, dr, tk, os⟩ := J.laid (t' := tk) more big (exo_ok at_)
  have rv2 : Vals (V.ref (hh.objs.size + 1) :: vs) (Value.ref (hh.objs.size + 1) :: us) := .cons rfl rv
  have ln : (Value.ref (hh.objs.size + 1) :: us).length = ps.length := rv2.length.symm.trans (F.len _ _ _ _ yy)
  have few : us.length ≤ sizeLine := by
    rw [← Paired.length rv, sizeLine_eq]
    omega
  have bnd := hb _ (Value.ref (hh.objs.size + 1) :: us) J2.kIn (by rw [List.append_nil]; exact ln)
  rw [List.append_nil] at bnd
  have body := F.run _ X.stack _ _ ⟨Value.ref (hh.objs.size + 1) :: us, []⟩ _ _ _ (fun _ _ _ => False) (hr.make C us []) (J2.env0.make C us []) bnd rv2 yy
  refine wpAny_call (PySem.HandSPX.call_own FB same (J.kIn _ _ look) (PySem.W.looks_findIn J.kIn iC) (fun self => PySem.W.bind_fn J.kIn self tI) few (codeAny_mono body fun r s2 z => ?_))
  cases r with
  | error _ => exact z.elim
  | ok fl =>
    cases fl with
    | ret w =>
      obtain ⟨v, H2, o2, b2, un2, ok2, rw2, ev, dx, fs, ea, ed, nd, q2⟩ := z
      subst ev
      obtain ⟨h2, g2, d2, t2, os2⟩ := s2
      exact ⟨rw2, mk_end (raises_own T.exC T.tyC) J big more un2 ok2 o2 b2 ea ed nd q2⟩
    | next => exact z.elim
    | brk => exact z.elim
    | cont => exact z.elim
/-- e.n, e such an exception that was not raised -/
def tXo (K : PySem.W.Frag) (n : Str) (te : TE) : TE := fun σ H Q => te σ H fun x H1 => ∃ (a C dd : Addr) (fs : List (Str × V)) (v : V), x = .ref a ∧ H1 a = some (exo a C (some dd)) ∧ XfC K C ∧ PySem.W.findIn K (.ref C) n = some none ∧ H1 dd = some (exd dd fs) ∧ fs.lookup n = some v ∧ Q v H1
theorem pe_xo {X : Cx} {e : Expr} {te : TE} {pos : Pos} {n : Str} (he : PE X e te) (hb : attributeBase e n X.env (eval e X.env) = eval e X.env := by rfl) : PE X (.Attribute e n pos) (tXo X.K n te) := by
  refine ⟨fun pins s σ H Q I h => attr_of hb (thn (he.run pins s σ H _ I h) fun u s1 hu => ?_)⟩
  obtain ⟨x, H1, J, rx, a, C, dd, fs, v, rfl, ea, xf, no, ed, lk, q⟩ := hu
  cases rx
  obtain ⟨t1, g⟩ := exo_at J.hok ea
  obtain ⟨m, ns, rel⟩ := exd_at J.hok ed
  obtain ⟨od, _, _, god, _, _⟩ := ns.count (within_of rel)
  obtain ⟨od2, god2, lo⟩ := lookIn_ns ns
  obtain ⟨y, hy, ry⟩ := RelO.some_of (v := v) (o := m n) (by rw [← lk]; exact rel n)
  have inst : PySem.W.InstAt s1.heap a { cls := .ref C, dict := some dd, data := .fields #[.ref t1, .none, .none, .none, .bool false, .none] } C (some od2) := ⟨g, rfl, rfl, god2⟩
  exact HandSPX.exc_get J.kIn inst xf.ga xf.gg xf.exC (PySem.W.findObj_own xf.hdC no rfl (by rw [lo, hy])) (handed_of ry) ⟨v, H1, J.tok _, ry, q⟩
end Bh
namespace Bh
open PySem PySem.Spec PyProof.Rows L2
/-- isinstance(e, c), e such an exception that was not raised -/
def rIsO (K : PySem.W.Frag) : List V → Hp → VK → Prop := fun xs H Q => ∃ (a D dd : Addr) (fs : List (Str × V)) (c : V) (cv : Value) (b : Bool), xs = [.ref a, c] ∧ ExcC K D ∧ H a = some (exo a D (some dd)) ∧ H dd = some (exd dd fs) ∧ (∀ u, RelV c u → u = cv) ∧ PySem.W.kitOne K (.ref D) cv = some b ∧ Q (.bl b) H
theorem call_isO {X : Cx} : CallR X (.builtin "isinstance") (rIsO X.K) := by
  intro pins s σ H xs us Q I r h
  obtain ⟨a, D, dd, fs, c, cv, b, rfl, F, ea, ed, hc, e, q⟩ := h
  obtain ⟨u1, u2, rfl, r1, r2⟩ := vals2 r
  cases r1
  obtain rfl := hc _ r2
  obtain ⟨t1, g⟩ := exo_at I.hok ea
  obtain ⟨m, ns, rel⟩ := exd_at I.hok ed
  obtain ⟨od, god, _⟩ := lookIn_ns ns
  have inst : PySem.W.InstAt s.heap a { cls := .ref D, dict := some dd, data := .fields #[.ref t1, .none, .none, .none, .bool false, .none] } D (some od) := ⟨g, rfl, rfl, god⟩
  have hcl : (PySem.W.clsIn X.K D).isSome = true := by
    obtain ⟨cd, k, _⟩ := PySem.W.any_some F.hd
    rw [k]
    rfl
  exact PySem.W.kia_one (PySem.W.kitx_exc hcl F.hg F.hk F.hs F.ha F.hn F.ht F.hm) I.kIn inst e (fun z => nomatch z) fun tk => ⟨.bl b, H, I.kept (t' := tk) fun _ _ z => z, rfl, q⟩
end Bh

set_option Elab.async false
set_option linter.all false
set_option maxRecDepth 100000
namespace Bh
open PySem PySem.Spec PyProof PyProof.Rows L2 HandSPX
/-! ### an own exception made by keyword -/
section
variable {prog : Program} {w : World} {A : Around} {E : Value → Shared → Prop} {R : Result → Shared → Prop} {h : Heap} {g : Array GenState} {d : Drawn} {t : Nat} {os : OsState}
variable {nm q : Str} {C N : Addr} {bs bm bmB : List Value} {hdct : Bool} {sn : List Str} {sub : List Value} {ab : Bool} {col : Option Bool} {dd : Option Addr} {k0 k1 k2 k3 k5 : Option Value} {B newId initId : String} {kk : Str} {kv : Value}
theorem kw_check {M : Model} (F : ExcBaseFacts B newId initId bmB) (hT : ∀ X : String, bm.contains (.type X) = bmB.contains (.type X)) {Q : Unit → Shared → Prop}
    (hC : h.get? C = some (excClassObj nm q C N bs bm hdct sn sub ab col dd k0 k1 k2 k3 k5 newId)) (hq : Q () ⟨h, g, d, t, os⟩) : wpAny M A (checkBuiltinCall newId ⟨[.ref C], [(kk, kv)]⟩) Q E ⟨h, g, d, t, os⟩ := by
  have c1 : (Value.ref C :: bm).contains (.type B) = true := by rw [List.contains_cons, hT, F.hasB, Bool.or_true]
  have c2 := F.noStar
  simp only [checkBuiltinCall, F.newKind, F.newSplit, F.newRow]
  repeat (first | refine wpAny_loadPart_at hC ?_ | (refine wpAny_isSubtype_exc hC ?_; rw [c1]) | refine wpAny_staticBase_exc hC ?_ | refine wpAny_madeBy_exc hC ?_ | simp only [bne_self_eq_false, Bool.false_eq_true, if_false] | wp_step)
  exact hq
theorem kw_new (F : ExcBaseFacts B newId initId bmB) (hT : ∀ X : String, bm.contains (.type X) = bmB.contains (.type X))
    (hC : h.get? C = some (excClassObj nm q C N bs bm hdct sn sub ab col dd k0 k1 k2 k3 k5 newId))
    (hq : R (.ok (.ret (.ref (h.objs.size + 1)))) ⟨(h.push (PySem.W.kdv_tup [])).push (excO C h.objs.size), g, d, t, os⟩) :
    codeAny (model prog w) A (.builtin newId ⟨[.ref C], [(kk, kv)]⟩) R ⟨h, g, d, t, os⟩ := by
  have ends := F.ends
  have c1 : (Value.ref C :: bm).contains (.type B) = true := by rw [List.contains_cons, hT, F.hasB, Bool.or_true]
  have c2 : (Value.ref C :: bm).contains (.type "AttributeError") = false := by rw [List.contains_cons, hT, F.noAttr]; rfl
  have c3 : (Value.ref C :: bm).contains (.type "NameError") = false := by rw [List.contains_cons, hT, F.noName]; rfl
  refine codeAny_builtinAt F.entry ?_
  unfold Builtin.«BaseException.__new__»
  refine PySem.wpAt_bind ?_
  show PySem.wpAt _ _ _ (stack >>= _) _ _ _
  refine PySem.wpAt_bind (PySem.wpAt_stack fun p below => PySem.wpAt_of_wpAny ?_)
  wp_walk
  refine PySem.wpAt_of_wpAny ?_
  rw [F.owner]
  repeat (first | with_reducible refine wpAny_madeHere_exc F.canon hC ?_ | with_reducible refine wpAny_loadPart_at hC ?_ | (with_reducible refine wpAny_isSubtype_exc hC ?_; first | rw [c1] | rw [c2] | rw [c3]) | wp_step)
  show R _ _
  rw [Heap.size_push]
  exact hq
theorem kw_type (F : ExcBaseFacts B newId initId bmB) (hT : ∀ X : String, bm.contains (.type X) = bmB.contains (.type X)) {fI : Addr} {Q : Fin → Shared → Prop}
    (hC : h.get? C = some (excClassObj nm q C N bs bm hdct sn sub ab col dd k0 k1 k2 k3 k5 newId))
    (hi : PySem.W.Looks (model prog w) h (typeLookup (.ref C) "__init__") (some (.ref fI))) (hb : ∀ self, PySem.W.Looks (model prog w) h (bindSpecial (.ref fI) self) (.ref fI, [self]))
    (hq : codeAny (model prog w) A (.call (.ref fI) ⟨[.ref (h.objs.size + 1)], [(kk, kv)]⟩)
      (fun r s' => match r with | .ok (.ret v) => v = .none ∧ Q (.done (.ret (.ref (h.objs.size + 1)))) s' | .ok _ => False | .error e => E e s')
      ⟨(h.push (PySem.W.kdv_tup [])).push (excO C h.objs.size), g, d, t, os⟩) :
    wpAny (model prog w) A (Builtin.«type.__call__» ⟨[.ref C], [(kk, kv)]⟩) Q E ⟨h, g, d, t, os⟩ := by
  repeat (first | with_reducible refine wpAny_loadPart_at hC ?_ | with_reducible refine wpAny_madeBy_exc hC ?_ | wp_step)
  refine codeAny_call_builtin_code (Code.quiet_builtin _ F.quiet) (kw_check F hT hC ?_)
  refine kw_new F hT hC ?_
  show wpAny _ _ _ _ _ _
  have k : ∀ b o, h.get? b = some o → ((h.push (PySem.W.kdv_tup [])).push (excO C h.objs.size)).get? b = some o := fun b o e => Heap.get?_push_of_some _ (Heap.get?_push_of_some _ e)
  have hC1 := k _ _ hC
  have hget : ((h.push (PySem.W.kdv_tup [])).push (excO C h.objs.size)).get? (h.objs.size + 1) = some (excO C h.objs.size) := by heap_get
  have hcC : (Value.ref C :: bm).contains (.ref C) = true := by simp
  have i1 := hi.keeps k
  have b1 := (hb (.ref (h.objs.size + 1))).keeps k
  unfold isInstance
  repeat (first | with_reducible refine wpAny_loadPart_at hget ?_ | (with_reducible refine wpAny_isSubtype_exc hC1 ?_; rw [hcC]) | wp_step)
  show wpAny _ _ (typeLookup (.ref C) _) _ _ _
  refine i1.at ?_
  refine wpAny_holding (wpAny_bind (b1.at ?_))
  refine wpAny_bind (wpAny_call (codeAny_mono hq fun r s' z => ?_))
  rcases r with e | (v | _ | _ | _) <;> first | exact z | exact z.elim | skip
  obtain ⟨rfl, z⟩ := z
  first
    | exact wpAny_pure (wpAny_pure z)
    | (wp_walk; exact z)
theorem kw_call (F : ExcBaseFacts B newId initId bmB) (hT : ∀ X : String, bm.contains (.type X) = bmB.contains (.type X)) {fI : Addr}
    (hC : h.get? C = some (excClassObj nm q C N bs bm hdct sn sub ab col dd k0 k1 k2 k3 k5 newId))
    (hi : PySem.W.Looks (model prog w) h (typeLookup (.ref C) "__init__") (some (.ref fI))) (hb : ∀ self, PySem.W.Looks (model prog w) h (bindSpecial (.ref fI) self) (.ref fI, [self]))
    (hq : codeAny (model prog w) (A.under (.builtin "type.__call__" ⟨[.ref C], [(kk, kv)]⟩)) (.call (.ref fI) ⟨[.ref (h.objs.size + 1)], [(kk, kv)]⟩) (PySem.W.InitBack (h.objs.size + 1) R)
      ⟨(h.push (PySem.W.kdv_tup [])).push (excO C h.objs.size), g, d, t, os⟩) :
    codeAny (model prog w) A (.call (.ref C) ⟨[], [(kk, kv)]⟩) R ⟨h, g, d, t, os⟩ := by
  have f1 := tc_lookup
  have f2 := tc_bind (.ref C)
  have hTy : (⟨h, g, d, t, os⟩ : Shared).TypeIs (.ref C) "type" := ⟨_, hC, rfl⟩
  refine codeAny_of_tree ?_
  show wpAny _ _ (callAny (.ref C) _) _ _ _
  repeat (any_goals (first | assumption | with_reducible refine wpAny_loadPart_at hC ?_ | wp_step))
  refine ⟨rfl, ?_⟩
  refine codeAny_call_builtin_at (Code.quiet_builtin _ (by decide +kernel)) entry_typeCall (wpAny_check_type_call_sub hC (kw_type F hT hC hi hb ?_))
  refine codeAny_mono hq fun r s' z => ?_
  rcases r with e | (v | _ | _ | _) <;> exact z
end
end Bh

set_option Elab.async false
set_option linter.all false
set_option maxRecDepth 100000
namespace Bh
open PySem PySem.Spec PyProof.Rows L2
/-- C() with C's own __init__ -/
theorem pe_mkG0 {X : Cx} {x : Str} {C fI : Addr} {k : Nat} {fd : FuncData} {ps : List Str} {sp : Sp} {p pos : Pos} (T : ExG X.K C) (iC : PySem.W.findIn X.K (.ref C) "__init__" = some (some (.ref fI))) (tI : PySem.W.typeIn X.K (.ref fI) = some (.type "function"))
    (F : FnOk X.prog X.w X.K X.mg X.base CX0 k fI fd ps sp) (hr : Room (k + 1) X.A) (hb : Binds X.K fd ps []) (hg : Gl X x) (hm : X.mg x = some (.ref C))
    (hdb : (x == ("__debug__" : Str)) = false := by decide) :
    PE X (.Call (.Name x p) [] [] pos) (tMkG C sp tNil) := by
  refine ⟨fun pins s σ H Q I h => wpAny_Call_Name_kw (ld_glob I hg hm ?_ hdb)⟩
  obtain ⟨B, newId, initId, bmB, FB, SF, ov, nm, q, N, bs, bm, sn, sub, ab, col, dd, k0, k1, k2, k3, k5, look, same⟩ := T.fam
  refine PySem.W.callWith_K0 I.kIn T.kC ?_
  obtain ⟨_, y⟩ := (h : _ ∧ _)
  obtain ⟨hh, g, dr, tk, os⟩ := s
  have n1 : H (hh.objs.size + 1) = none := I.hok.fresh (Nat.le_succ _)
  have yy := y (hh.objs.size + 1) n1
  have more : ∀ b o, hh.get? b = some o → ((hh.push (PySem.W.kdv_tup [])).push (PySem.HandSPX.excO C hh.objs.size)).get? b = some o := fun b o z => Heap.get?_push_of_some _ (Heap.get?_push_of_some _ z)
  have at_ : ((hh.push (PySem.W.kdv_tup [])).push (PySem.HandSPX.excO C hh.objs.size)).get? (hh.objs.size + 1) = some (PySem.HandSPX.excO C hh.objs.size) := by heap_get
  have J2 : Inv X pins σ (upd H (hh.objs.size + 1) (exo (hh.objs.size + 1) C none)) ⟨(hh.push (PySem.W.kdv_tup [])).push (PySem.HandSPX.excO C hh.objs.size), g, dr, tk, os⟩ := I.laid (t' := tk) more (Nat.le_succ _) (exo_ok at_)
  have rv2 : Vals [V.ref (hh.objs.size + 1)] [Value.ref (hh.objs.size + 1)] := .cons rfl .nil
  have ln : [Value.ref (hh.objs.size + 1)].length = ps.length := rv2.length.symm.trans (F.len _ _ _ _ yy)
  have bnd := hb _ [Value.ref (hh.objs.size + 1)] J2.kIn (by rw [List.append_nil]; exact ln)
  rw [List.append_nil] at bnd
  have body := F.run _ X.stack _ _ ⟨[Value.ref (hh.objs.size + 1)], []⟩ _ _ _ (fun _ _ _ => False) (hr.make C [] []) (J2.env0.make C [] []) bnd rv2 yy
  refine wpAny_call (PySem.HandSPX.call_own FB same (I.kIn _ _ look) (PySem.W.looks_findIn I.kIn iC) (fun self => PySem.W.bind_fn I.kIn self tI) (Nat.zero_le _) (codeAny_mono body fun r s2 z => ?_))
  cases r with
  | error _ => exact z.elim
  | ok fl =>
    cases fl with
    | ret w =>
      obtain ⟨v, H2, o2, b2, un2, ok2, rw2, ev, q2⟩ := z
      subst ev
      exact ⟨rw2, ⟨V.ref (hh.objs.size + 1), H2, J2.call' (ch := []) o2 un2 ok2 b2 (fun _ m => nomatch m), rfl, q2⟩⟩
    | next => exact z.elim
    | brk => exact z.elim
    | cont => exact z.elim
/-- C(k = e): kb is the promise of the binding of self and one keyword -/
theorem pe_mkGK {X : Cx} {x kk : Str} {C fI : Addr} {k : Nat} {fd : FuncData} {ps : List Str} {sp : Sp} {p pos : Pos} {kws : List Keyword} {tk : TA} {g : List Value → List Value → List Value} {gV : List V → List V → List V} (T : ExG X.K C) (iC : PySem.W.findIn X.K (.ref C) "__init__" = some (some (.ref fI))) (tI : PySem.W.typeIn X.K (.ref fI) = some (.type "function"))
    (F : FnOk X.prog X.w X.K X.mg X.base CX0 k fI fd ps sp) (hr : Room (k + 1) X.A) (hb : KBn X.K fd ps 1 [kk] g gV) (hg : Gl X x) (hm : X.mg x = some (.ref C)) (hkw : PK X kws tk)
    (hall : (backToKw pos (keywordEach kws X.env)).all (·.1.isSome) = true := by rfl) (hks : (backToKw pos (keywordEach kws X.env)).filterMap (·.1) = [kk] := by rfl)
    (hdb : (x == ("__debug__" : Str)) = false := by decide) (hpl : ((backTo pos (starEach [] X.env)).any (·.1) || (backToKw pos (keywordEach kws X.env)).any (·.1.isNone)) = false := by rfl) :
    PE X (.Call (.Name x p) [] kws pos) (fun σ H Q => tk σ H fun zs H1 => zs.length = 1 ∧ ∀ a, H1 a = none → sp (gV [.ref a] zs) (upd H1 a (exo a C none)) (fun v H2 => v = .non ∧ Q (.ref a) H2) fun _ _ _ => False) := by
  refine ⟨fun pins s σ H Q I h => wpAny_Call_Name_kw (ld_glob I hg hm ?_ hdb)⟩
  obtain ⟨B, newId, initId, bmB, FB, SF, ov, nm, q, N, bs, bm, sn, sub, ab, col, dd, k0, k1, k2, k3, k5, look, same⟩ := T.fam
  refine PySem.W.callWith_KW0 (h₀ := X.base) I.ok.mod.kin T.kC hall ?_ hpl
  refine thn (hkw.run pos pins s σ H _ I h) fun ws s2 ⟨zs, H1, J, rz, lz, y⟩ => ⟨J.kIn, ?_⟩
  rw [hks]
  obtain ⟨u, rfl⟩ : ∃ u, ws = [u] := by
    cases rz with
    | nil => cases lz
    | cons a b => cases b with
      | nil => exact ⟨_, rfl⟩
      | cons => cases lz
  show wpAny _ _ (call (.ref C) [] [(kk, u)]) _ _ _
  obtain ⟨hh, gg, dr, tk2, os⟩ := s2
  have n1 : H1 (hh.objs.size + 1) = none := J.hok.fresh (Nat.le_succ _)
  have yy := y (hh.objs.size + 1) n1
  have more : ∀ b o, hh.get? b = some o → ((hh.push (PySem.W.kdv_tup [])).push (PySem.HandSPX.excO C hh.objs.size)).get? b = some o := fun b o z => Heap.get?_push_of_some _ (Heap.get?_push_of_some _ z)
  have at_ : ((hh.push (PySem.W.kdv_tup [])).push (PySem.HandSPX.excO C hh.objs.size)).get? (hh.objs.size + 1) = some (PySem.HandSPX.excO C hh.objs.size) := by heap_get
  have J2 : Inv X pins σ (upd H1 (hh.objs.size + 1) (exo (hh.objs.size + 1) C none)) ⟨(hh.push (PySem.W.kdv_tup [])).push (PySem.HandSPX.excO C hh.objs.size), gg, dr, tk2, os⟩ := J.laid (t' := tk2) more (Nat.le_succ _) (exo_ok at_)
  have rv2 : Vals [V.ref (hh.objs.size + 1)] [Value.ref (hh.objs.size + 1)] := .cons rfl .nil
  have bnd := hb.to _ [Value.ref (hh.objs.size + 1)] [u] J2.kIn rfl rfl
  have body := F.run _ X.stack _ _ ⟨[Value.ref (hh.objs.size + 1)], [(kk, u)]⟩ _ _ _ (fun _ _ _ => False) (hr.make C [] [(kk, u)]) (J2.env0.make C [] [(kk, u)]) bnd (hb.rel rv2 rz) yy
  refine wpAny_call (kw_call FB same (J.kIn _ _ look) (PySem.W.looks_findIn J.kIn iC) (fun self => PySem.W.bind_fn J.kIn self tI) (codeAny_mono body fun r s2 z => ?_))
  cases r with
  | error _ => exact z.elim
  | ok fl =>
    cases fl with
    | ret w =>
      obtain ⟨v, H2, o2, b2, un2, ok2, rw2, ev, q2⟩ := z
      subst ev
      exact ⟨rw2, ⟨V.ref (hh.objs.size + 1), H2, J2.call' (ch := []) o2 un2 ok2 b2 (fun _ m => nomatch m), rfl, q2⟩⟩
    | next => exact z.elim
    | brk => exact z.elim
    | cont => exact z.elim
end Bh

set_option Elab.async false
set_option linter.all false
set_option maxRecDepth 100000
set_option maxHeartbeats 1000000
namespace Bh
open PySem PySem.Spec PyProof.Rows L2
/-! ### what is new -/
def newOf (H H' : Hp) : Hp := fun a => if H a = none then H' a else none
section
variable {H H1 H2 : Hp} {a p D : Addr} {o : HO} {u : HO}
theorem newOf_le : Same (newOf H H1) H1 := fun a u e => by
  unfold newOf at e
  by_cases h : H a = none
  · rw [if_pos h] at e
    exact e
  · rw [if_neg h] at e
    cases e
theorem newOf_at (h : H a = none) : newOf H H1 a = H1 a := if_pos h
theorem newOf_mono (s : Same H1 H2) : Same (newOf H H1) (newOf H H2) := fun a u e => by
  unfold newOf at e ⊢
  by_cases h : H a = none
  · rw [if_pos h] at e ⊢
    exact s _ _ e
  · rw [if_neg h] at e
    cases e
theorem newOf_trans (s : Same H H1) : Same (newOf H1 H2) (newOf H H2) := fun a u e => by
  unfold newOf at e ⊢
  by_cases h : H1 a = none
  · rw [if_pos h] at e
    rw [if_pos (s.free h)]
    exact e
  · rw [if_neg h] at e
    cases e
/-- new since, and not at D, which was there -/
theorem newOf_hid (s : Same H H1) (hD : H1 D = some u) : Same (newOf H1 H2) (hid D (newOf H (upd H2 D o))) := fun a v e => by
  have n : H1 a = none := by
    cases q : H1 a with
    | none => rfl
    | some w =>
      unfold newOf at e
      rw [if_neg (by rw [q]; exact fun z => nomatch z)] at e
      cases e
  have ne : a ≠ D := fun z => by
    rw [z, hD] at n
    cases n
  rw [newOf_at n] at e
  rw [hid_ne ne, newOf_at (s.free n), upd_ne ne]
  exact e
theorem hid_newOf (s : Same H1 H2) : Same (hid D (newOf H H1)) (hid D (newOf H (upd H2 D o))) := fun a v e => by
  by_cases ne : a = D
  · rw [ne] at e
    unfold hid at e
    rw [if_pos rfl] at e
    cases e
  rw [hid_ne ne] at e ⊢
  have k := newOf_mono (H := H) s _ _ e
  unfold newOf at k ⊢
  by_cases h : H a = none
  · rw [if_pos h] at k ⊢
    rw [upd_ne ne]
    exact k
  · rw [if_neg h] at k
    cases k
end
/-- the promise of copy_of (n: how deep, one more): the same data, all of its lists and tuples new -/
def spCp (K : PySem.W.Frag) : Nat → Sp
  | 0 => fun _ _ _ _ => False
  | n + 1 => fun vs H Q _ => ∃ (v : V) (d : PyData), vs = [v] ∧ Dp K H v d ∧ Sh n d ∧ ∀ H' r, Same H H' → Dp K (newOf H H') r d → Q r H'
structure ExR (K : PySem.W.Frag) (mg : Str → Option Value) (x q : Str) (st : Stmt) (ps at_ : List Str) : Type where
  c : Addr
  f : Addr
  fd : FuncData
  F : Fun K "__init__" q st f fd
  b : Binds K fd ps []
  g : mg x = some (.ref c)
  e : ExG K c
  i : PySem.W.findIn K (.ref c) "__init__" = some (some (.ref f))
  t : PySem.W.typeIn K (.ref f) = some (.type "function")
  n : ∀ y ∈ at_, PySem.W.findIn K (.ref c) y = some none
  x : XfC K c
  k : ExcC K c

/-- an own error's dict gets the code and, under f, a copy of d all of whose lists and tuples are new -/
def spIe (K : PySem.W.Frag) (C : Addr) (nm f : Str) (n : Nat) : Sp := fun vs H Q _ => ∃ (a : Addr) (v : V) (d : PyData), vs = [.ref a, v] ∧ H a = some (exo a C none) ∧ Dp K H v d ∧ Sh n d ∧
  ∀ (dx : Addr) (r : V) (H2 : Hp), H dx = none → dx ≠ a → H2 a = some (exo a C (some dx)) → H2 dx = some (exd dx [("code", .str nm), (f, r)]) → Same (hid a H) H2 → Dp K (hid dx (newOf H H2)) r d → Q .non H2
theorem ie_same {H H3 : Hp} {a dx : Addr} {o1 o2 o3 : HO} (s : Same H H3) (nd : H3 dx = none) : Same (hid a H) (upd (upd (upd H3 dx o1) a o2) dx o3) := fun b u e => by
  have ne : b ≠ a := fun z => by
    rw [z] at e
    unfold hid at e
    rw [if_pos rfl] at e
    cases e
  rw [hid_ne ne] at e
  have k := s _ _ e
  have ne2 : b ≠ dx := ne_of_none k nd
  rw [upd_ne ne2, upd_ne ne, upd_ne ne2]
  exact k
theorem ie_new {H H3 : Hp} {a dx : Addr} {o1 o2 o3 w : HO} (ea : H a = some w) (s : Same H H3) (nd : H3 dx = none) : Same (newOf H H3) (hid dx (newOf H (upd (upd (upd H3 dx o1) a o2) dx o3))) := fun b u e => by
  have n : H b = none := by
    cases q : H b with
    | none => rfl
    | some z =>
      unfold newOf at e
      rw [if_neg (by rw [q]; exact fun z => nomatch z)] at e
      cases e
  rw [newOf_at n] at e
  have ne : b ≠ a := fun z => by
    rw [z, ea] at n
    cases n
  have ne2 : b ≠ dx := ne_of_none e nd
  rw [hid_ne ne2, newOf_at n, upd_ne ne2, upd_ne ne, upd_ne ne2]
  exact e
/-- the error, raised: what its making leaves -/
theorem ie_raise {K : PySem.W.Frag} {H : Hp} {C a : Addr} {nm f : Str} {n : Nat} {v : V} {d : PyData} {Q : XK} (hd : Dp K H v d) (hs : Sh n d) (na : H a = none)
    (k : ∀ (dd : Addr) (r : V) (H2 : Hp), H dd = none → Same H H2 → H2 dd = some (.xd [("code", .str nm), (f, r)]) → Dp K (newOf H H2) r d → Q (.ref C) (some dd) H2) :
    spIe K C nm f n (V.ref a :: ([v] ++ [])) (upd H a (exo a C none)) (fun v H2 => v = .non ∧ ∃ (d : Addr) (fs : List (Str × V)), H2 a = some (exo a C (some d)) ∧ H2 d = some (exd d fs) ∧ H d = none ∧ Q (.ref C) (some d) (upd (del H2 a) d (.xd fs))) (fun _ _ _ => False) := by
  refine ⟨a, v, d, rfl, upd_same, Dp.mono (same_new na) hd, hs, fun dx r H2 nd ne e1 e2 s1 hr => ⟨rfl, dx, _, e1, e2, ?_, ?_⟩⟩
  · rw [upd_ne ne] at nd
    exact nd
  · rw [upd_ne ne] at nd
    refine k dx r _ nd (fun b u e => ?_) upd_same (Dp.mono (fun b u e => ?_) hr)
    · have b1 : b ≠ dx := ne_of_none e nd
      have b2 : b ≠ a := ne_of_none e na
      rw [upd_ne b1, del_ne b2]
      exact s1 _ _ (by rw [hid_ne b2, upd_ne b2]; exact e)
    · have b1 : b ≠ dx := fun z => by
        rw [z] at e
        unfold hid at e
        rw [if_pos rfl] at e
        cases e
      rw [hid_ne b1] at e
      have n : upd H a (exo a C none) b = none := by
        cases q : upd H a (exo a C none) b with
        | none => rfl
        | some z =>
          unfold newOf at e
          rw [if_neg (by rw [q]; exact fun z => nomatch z)] at e
          cases e
      have b2 : b ≠ a := fun z => by
        rw [z, upd_same] at n
        cases n
      rw [newOf_at n] at e
      rw [upd_ne b2] at n
      rw [newOf_at n, upd_ne b1, del_ne b2]
      exact e
/-- what an except suite is to know of a raised error -/
structure ErC (K : PySem.W.Frag) (cBE cMS C : Addr) (nm f : Str) : Prop where
  x : XfC K C
  n1 : PySem.W.findIn K (.ref C) "code" = some none
  n2 : PySem.W.findIn K (.ref C) f = some none
  ex : PySem.W.exmAny K (.ref C) [.ref cBE, .ref cMS] = some true
theorem pe_weak {X : Cx} {e : Expr} {t : TE} (h : PE X e t) : PE X e (fun σ H Q => ∃ Q0, t σ H Q0 ∧ ∀ v H2, Q0 v H2 → Q v H2) :=
  ⟨fun pins s σ H Q I ⟨Q0, h0, m⟩ => wpAny_mono (h.run pins s σ H Q0 I h0) (fun u s1 ⟨v, H1, J, r, q⟩ => ⟨v, H1, J, r, m v H1 q⟩) (fun _ _ x => x)⟩
theorem pe_xz_K {X : Cx} {K : PySem.W.Frag} (hK : X.K = K) {e : Expr} {te : TE} {pos : Pos} {n : Str} (he : PE X e te) (hb : attributeBase e n X.env (eval e X.env) = eval e X.env := by rfl) : PE X (.Attribute e n pos) (tXz K n te) := by
  subst hK
  exact pe_xz he hb
/-- what _law_try makes of a question -/
def TTryE (K : PySem.W.Frag) (cBE cMS : Addr) (pairs : List (Str × Str)) : (XK → Hp → VK → Prop) → Hp → VK → Prop := fun tl H Q => ∃ (Ech : XK) (Q0 : VK), tl Ech H Q0 ∧
  (∀ cls d H2, Ech cls d H2 → ∃ (C dd : Addr) (nm f : Str) (v : V), cls = .ref C ∧ d = some dd ∧ H2 dd = some (.xd [("code", .str nm), (f, v)]) ∧ ErC K cBE cMS C nm f ∧ (nm, f) ∈ pairs ∧ ∀ H3 p, Same H2 H3 → H3 p = some (.tup [.str nm, v]) → Q (.ref p) H3) ∧
  ∀ v H2, Q0 v H2 → ∀ p, H2 p = none → Q (.ref p) (upd H2 p (.tup [.str "value", v]))
/-- what _law_given tells of a caught error -/
def spGivenE (K : PySem.W.Frag) (cBE cMS : Addr) (pairs : List (Str × Str)) : Sp := fun vs H Q _ => ∃ (a C dd : Addr) (nm f : Str) (v : V), vs = [.ref a] ∧ H a = some (exz a (.ref C) (some dd)) ∧ H dd = some (.xd [("code", .str nm), (f, v)]) ∧ ErC K cBE cMS C nm f ∧ (nm, f) ∈ pairs ∧ ∀ H', Same H H' → Q v H'
theorem op_inDK {X : Cx} {K : PySem.W.Frag} (hK : X.K = K) (hu : X.A.units + 65 < cLine) : OpR X (compareOp .In) (rInD K) := by
  subst hK
  exact op_inD hu
theorem op_notInDK {X : Cx} {K : PySem.W.Frag} (hK : X.K = K) (hu : X.A.units + 65 < cLine) : OpR X (compareOp .NotIn) (rNotInD K) := by
  subst hK
  exact op_notInD hu
theorem r65 {k : Nat} {A : Around} (r : Room k A) : A.units + 65 < cLine := by
  have := r.un
  omega
theorem eqv_strs (a b : Str) : PyData.eqv (.str a) (.str b) = decide (a = b) := by
  first | rfl | (simp [PyData.eqv])
end Bh

set_option Elab.async false
set_option linter.all false
set_option maxRecDepth 100000
set_option maxHeartbeats 2000000
namespace Bh
open PySem PySem.Spec PyProof.Rows L2
/-! ### own == and repr -/
/-- x == y by the class's own __eq__; y an instance of the class, or a tuple -/
def rEqIns (K : PySem.W.Frag) (C : Addr) (sp : Sp) : R2 := fun x y H Q => ∃ (a dx : Addr) (fs : List (Str × V)), x = .ref a ∧ H a = some (.ins C dx fs) ∧
  ((∃ (b dy : Addr) (gs : List (Str × V)), y = .ref b ∧ H b = some (.ins C dy gs)) ∨ ∃ (b : Addr) (zs : List V), y = .ref b ∧ SqT K H b zs) ∧ sp [x, y] H (fun v H' => (∃ r, v = .bl r) ∧ Q v H') C8.E0
section
variable {X : Cx} {C f : Addr} {fd : FuncData} {k : Nat} {sp : Sp} {p1 p2 : Str}
/-- the def f called with two values by the interpreter itself -/
theorem own_two (F : FnOk X.prog X.w X.K X.mg X.base C8.CX0 k f fd [p1, p2] sp) (hb : Binds X.K fd [p1, p2] []) {A : Around} (hr : Room k A) (fr : A.frames = X.A.frames) {pins : List (Addr × Obj)} {s : Shared} {σ : L2.St} {H : Hp} {x y : V} {u v : Value} {Q : VK} {E : Value → Shared → Prop}
    (I : Inv X pins σ H s) (rx : RelV x u) (ry : RelV y v) (h : sp [x, y] H Q C8.E0) : wpAny (model X.prog X.w) A (call (.ref f) [u, v]) (EP X pins σ Q) E s := by
  have en := I.env0
  have e0 : Env0 X.prog X.w X.K X.mg X.base A X.stack s H := ⟨by rw [fr]; exact en.frames, en.mod, en.bs, en.bsz, en.funs, en.frf, en.hok, en.bare⟩
  have bnd := hb s [u, v] I.kIn rfl
  rw [List.append_nil] at bnd
  refine wpAny_call (codeAny_mono (F.run A X.stack s H ⟨[u, v], []⟩ [u, v] [x, y] Q C8.E0 hr e0 bnd (.cons rx (.cons ry .nil)) h) fun r s2 z => ?_)
  cases r with
  | error e => exact (show False from z).elim
  | ok fl =>
    cases fl with
    | ret w => exact I.after z
    | next => exact z.elim
    | brk => exact z.elim
    | cont => exact z.elim
theorem op_eqIns (F : FnOk X.prog X.w X.K X.mg X.base C8.CX0 k f fd [p1, p2] sp) (hs : PySem.W.findIn X.K (.ref C) "__eq__" = some (some (.ref f))) (hf : PySem.W.isFn X.K (.ref f) = true) (hb : Binds X.K fd [p1, p2] []) (hr : Room k X.A)
    (ht : PySem.W.subIn X.K (.type "tuple") (.ref C) = some false) : OpR X (compareOp .Eq) (rEqIns X.K C sp) := by
  intro pins s σ H x y v u Q I rx ry h
  obtain ⟨a, dx, fs, rfl, ha, hy, hsp⟩ := h
  cases rx
  obtain ⟨mA, J, _⟩ := ins_get I.hok ha
  obtain ⟨od, J, _⟩ := J.look
  obtain ⟨m, hF⟩ := I.fr
  have body := own_two F hb hr rfl (E := X.xe) I (x := .ref a) (y := y) (u := .ref a) (v := u) rfl ry hsp
  show wpAny (model X.prog X.w) X.A (richCompare .Eq (.ref a) u) (EP X pins σ Q) X.xe s
  have go : ∀ tb, PySem.W.Looks (model X.prog X.w) s.heap (typeOf u) tb → PySem.W.notFirst X.K C tb = true → wpAny (model X.prog X.w) X.A (richCompare .Eq (.ref a) u) (EP X pins σ Q) X.xe s := fun tb h1 h2 => by
    refine PySem.W.cmp_K (op := .Eq) (tb := tb) hr.units0 hF I.ok.mod.kin J h1 h2 hs hf (wpAny_mono body (fun w s' z => ?_) fun _ _ e => e)
    obtain ⟨vr, H', I', rv, ⟨r, rfl⟩, q⟩ := z
    cases rv
    exact ⟨.bl r, H', I', rfl, q⟩
  rcases hy with ⟨b, dy, gs, rfl, hb'⟩ | ⟨b, zs, rfl, hz⟩
  · cases ry
    obtain ⟨mB, J', _⟩ := ins_get I.hok hb'
    obtain ⟨od', J', _⟩ := J'.look
    exact go _ J'.type (by simp [PySem.W.notFirst])
  · cases ry
    obtain ⟨its, _, pl, _⟩ := I.tuple hz
    obtain ⟨ob, ho, hc, _⟩ := id pl
    exact go (.type "tuple") (hc ▸ (PySem.W.Looks.ld ho).andThen .now) (by unfold PySem.W.notFirst; rw [ht]; rfl)
/-- repr(x) by the class's own __repr__ -/
def rReprIns (C : Addr) (sp : Sp) : List V → Hp → VK → Prop := fun xs H Q => ∃ (a dx : Addr) (fs : List (Str × V)), xs = [.ref a] ∧ H a = some (.ins C dx fs) ∧ sp xs H (fun v H' => (∃ r, v = .str r) ∧ Q v H') C8.E0
theorem own_one (F : FnOk X.prog X.w X.K X.mg X.base C8.CX0 k f fd [p1] sp) (hb : Binds X.K fd [p1] []) {A : Around} (hr : Room k A) (fr : A.frames = X.A.frames) {pins : List (Addr × Obj)} {s : Shared} {σ : L2.St} {H : Hp} {x : V} {u : Value} {Q : VK} {E : Value → Shared → Prop}
    (I : Inv X pins σ H s) (rx : RelV x u) (h : sp [x] H Q C8.E0) : wpAny (model X.prog X.w) A (call (.ref f) [u]) (EP X pins σ Q) E s := by
  have en := I.env0
  have e0 : Env0 X.prog X.w X.K X.mg X.base A X.stack s H := ⟨by rw [fr]; exact en.frames, en.mod, en.bs, en.bsz, en.funs, en.frf, en.hok, en.bare⟩
  have bnd := hb s [u] I.kIn rfl
  rw [List.append_nil] at bnd
  refine wpAny_call (codeAny_mono (F.run A X.stack s H ⟨[u], []⟩ [u] [x] Q C8.E0 hr e0 bnd (.cons rx .nil) h) fun r s2 z => ?_)
  cases r with
  | error e => exact (show False from z).elim
  | ok fl =>
    cases fl with
    | ret w => exact I.after z
    | next => exact z.elim
    | brk => exact z.elim
    | cont => exact z.elim
theorem call_reprIns (F : FnOk X.prog X.w X.K X.mg X.base C8.CX0 k f fd [p1] sp) (hs : PySem.W.findIn X.K (.ref C) "__repr__" = some (some (.ref f))) (hf : PySem.W.isFn X.K (.ref f) = true) (hb : Binds X.K fd [p1] []) (hr : Room (k + 1) X.A) : CallR X (.builtin "repr") (rReprIns C sp) := by
  intro pins s σ H xs us Q I r h
  obtain ⟨a, dx, fs, rfl, ha, hsp⟩ := h
  obtain ⟨u, rfl, rx⟩ := vals1 r
  cases rx
  obtain ⟨mA, J, _⟩ := ins_get I.hok ha
  obtain ⟨od, J, _⟩ := J.look
  obtain ⟨m, hF⟩ := I.fr
  have body := own_one F hb hr.in1 rfl (E := X.xe) I (x := .ref a) (u := .ref a) rfl hsp
  refine PySem.W.repr_K hr.in1.units0 hF I.ok.mod.kin J hs hf (wpAny_mono body (fun w s' z => ?_) fun _ _ e => e)
  obtain ⟨vr, H', I', rv, ⟨r, rfl⟩, q⟩ := z
  obtain ⟨t, rfl⟩ := rv
  exact ⟨.str r, H', I', ⟨t, rfl⟩, q⟩
/-- the class's own names: its __eq__, no __ne__ -/
def nsB (K : PySem.W.Frag) (N f : Addr) : Bool := match K.lookup N with
  | some ⟨_, _, .dict es _, _⟩ => (es.toList.all fun e => match e.key with
      | .str _ _ => true
      | _ => false) && (decide (nsFind es "__eq__" = some (.ref f)) && decide (nsFind es "__ne__" = none))
  | _ => false
/-- a class over object alone -/
structure NeC (K : PySem.W.Frag) (C f : Addr) : Prop where
  lk : ∃ nm q N bs hdct sn sub ab col dd k0 k1 k2 k3 k5 newId, K.lookup C = some (excClassObj nm q C N bs [.type "object"] hdct sn sub ab col dd k0 k1 k2 k3 k5 newId) ∧ nsB K N f = true
  fn : ∃ o : Obj, K.lookup f = some o ∧ o.cls = .type "function"
theorem NeC.own {K : PySem.W.Frag} {C f x : Addr} {h : Heap} {ox : Obj} (c : NeC K C f) (X : K.In h) (hx : h.get? x = some ox) (hc : ox.cls = .ref C) : h.OwnEqNoNe x C f "object" [.type "object"] := by
  obtain ⟨nm, q, N, bs, hdct, sn, sub, ab, col, dd, k0, k1, k2, k3, k5, newId, lk, hn⟩ := c.lk
  obtain ⟨of, lf, cf⟩ := c.fn
  unfold nsB at hn
  cases e : K.lookup N with
  | none => rw [e] at hn; cases hn
  | some o =>
    obtain ⟨oc, od, dt, osl⟩ := o
    rw [e] at hn
    cases dt with
    | dict es ep =>
      have hn : ((es.toList.all fun e => match e.key with
        | .str _ _ => true
        | _ => false) && (decide (nsFind es "__eq__" = some (.ref f)) && decide (nsFind es "__ne__" = none))) = true := hn
      rw [Bool.and_eq_true, Bool.and_eq_true, decide_eq_true_eq, decide_eq_true_eq] at hn
      obtain ⟨n1, n2, n3⟩ := hn
      have sk : StrKeys es := fun u hu => by
        have z := List.all_eq_true.mp n1 u (Array.mem_toList_iff.mpr hu)
        cases ek : u.key with
        | str a b => exact ⟨a, b, rfl⟩
        | _ => rw [ek] at z; cases z
      exact ⟨ox, of, nm, q, N, bs, hdct, sn, sub, ab, col, dd, k0, k1, k2, k3, k5, newId, nsFind es, _, hx, hc, X _ _ lk, ⟨_, es, ep, X _ _ e, rfl, sk, fun _ => rfl⟩, n2, X _ _ lf, cf, F.cmp_object.mro, F.cmp_object.eq.lookup, n3⟩
    | _ => cases hn
/-- x != y of two instances of a class with its own __eq__ -/
def rNeIns (C : Addr) (sp : Sp) : R2 := fun x y H Q => ∃ (a dx : Addr) (fs : List (Str × V)) (b dy : Addr) (gs : List (Str × V)), x = .ref a ∧ H a = some (.ins C dx fs) ∧ y = .ref b ∧ H b = some (.ins C dy gs) ∧ sp [x, y] H (fun v H' => ∃ r, v = .bl r ∧ Q (.bl (!r)) H') C8.E0
theorem op_neIns (F : FnOk X.prog X.w X.K X.mg X.base C8.CX0 k f fd [p1, p2] sp) (c : NeC X.K C f) (hb : Binds X.K fd [p1, p2] []) (hr : Room (k + 1) X.A) : OpR X (compareOp .NotEq) (rNeIns C sp) := by
  intro pins s σ H x y v u Q I rx ry h
  obtain ⟨a, dx, fs, b, dy, gs, rfl, ha, rfl, hb', hsp⟩ := h
  cases rx
  cases ry
  obtain ⟨mA, J, _⟩ := ins_get I.hok ha
  obtain ⟨od, J, _⟩ := J.look
  obtain ⟨mB, J', _⟩ := ins_get I.hok hb'
  obtain ⟨od', J', _⟩ := J'.look
  have body := own_two F hb hr.in1 rfl (E := X.xe) I (x := .ref a) (y := .ref b) (u := .ref a) (v := .ref b) rfl rfl hsp
  refine compareOp_ne_ownEq PySem.F.cmp_object (c.own I.kIn J.at_ J.cls) J'.at_ J'.cls (by have := hr.units; omega) (wpAny_mono body (fun w s' z => ?_) fun _ _ e => e)
  obtain ⟨vr, H', I', rv, r, rfl, q⟩ := z
  cases rv
  exact ⟨r, rfl, .bl (!r), H', I', rfl, q⟩
end
end Bh

set_option Elab.async false
set_option linter.all false
set_option maxRecDepth 100000
set_option maxHeartbeats 2000000
set_option autoImplicit false
namespace Bh
open PySem PySem.Spec PyProof.Rows L2
/-! ### dicts whose keys are tuples: del d[t], a comprehension -/
theorem paired_filter {α β : Type} {F : α → β → Prop} {p : α → Bool} {q : β → Bool} (e : ∀ a b, F a b → p a = q b) : ∀ {as : List α} {bs : List β}, Paired F as bs → Paired F (as.filter p) (bs.filter q)
  | _, _, .nil => .nil
  | _, _, .cons h t => by
    have ih := paired_filter e t
    simp only [List.filter_cons, e _ _ h]
    split
    · exact .cons h ih
    · exact ih
theorem KT_without {H : Hp} (k : List L2.Key) {kvs : List (List L2.Key × V)} {xs : List (List L2.Key × Addr × Value)} (r : KT H kvs xs) : KT H (dropK kvs k) (withoutH xs k) :=
  paired_filter (fun a b h => by rw [h.1]) r
section
variable {X : Cx} {pins : List (Addr × Obj)} {σ : L2.St} {H : Hp} {s : Shared} {E : Value → Shared → Prop} {a b D : Addr} {kvs : List (List L2.Key × V)} {k : List L2.Key} {v : V} {r : Value}
/-- another table of tuples at a -/
theorem dt_back {h' : Heap} {t' : Nat} {kvs' : List (List L2.Key × V)} {xs' : List (List L2.Key × Addr × Value)} (I : Inv X pins σ H s) (e : H a = some (.dT kvs)) (r : KT H kvs' xs') (few : kvs'.length ≤ sizeLine) (d : h'.DictOfH (tupleKind (mixKind X.prog X.w)) a xs') (sb : Heap.SameBut a s.heap h') :
    Inv X pins σ (upd H a (.dT kvs')) { s with heap := h', toks := t' } := by
  have nm := (dt_of I.hok e).2.1
  have ks : KT (upd H a (.dT kvs')) kvs' xs' := KT.keeps r fun c ys ec => (upd_ne (ne_of ec e (fun z => nomatch z))).trans ec
  obtain ⟨o, es, ep, g, x, da, en, _, nd⟩ := d
  exact d_write I (by rw [e]; exact True.intro) sb ⟨o, g⟩ ⟨few, nm, xs', ks, o, es, ep, g, x, da, en, nd⟩
theorem d_delT {A : Around} {Q : Unit → Shared → Prop} (hu : A.units + 1 < cLine) (I : Inv X pins σ H s) (e : H a = some (.dT kvs)) (eb : H b = some (.tup (k.map kV))) (l : (valV kvs k).isSome = true) (h : ∀ s', Inv X pins σ (upd H a (.dT (dropK kvs k))) s' → Q () s') :
    wpAny (model X.prog X.w) A (delItem (.ref a) (.ref b)) Q E s := by
  obtain ⟨few, nm, xs, r, d⟩ := dt_of I.hok e
  obtain ⟨p, hp⟩ : ∃ p, atKey xs k = some p := by
    have q := (r.val k).isSome_eq
    rw [Option.isSome_map, l] at q
    exact Option.isSome_iff_exists.mp q.symm
  exact wpAny_delItem_heap (hsz := Nat.le_trans (Nat.le_of_eq (Paired.length r).symm) few) (tupleKind_room_in1 hu) (key_of I.hok eb) nm d hp fun h' d' sb => h _ (dt_back I e (KT_without k r) (Nat.le_trans (dropK_le kvs k) few) d' sb)
theorem d_dictSetT {Q : Unit → Shared → Prop} (hu : X.A.units + 1 < cLine) (I : Inv X pins σ H s) (e : H D = some (.dT kvs)) (eb : H b = some (.tup (k.map kV))) (hl : kvs.length < sizeLine)
    (rv : RelV v r) (h : ∀ s', Inv X pins σ (upd H D (.dT (putK kvs k v))) s' → Q () s') : wpAny (model X.prog X.w) X.A (dictSet D (.ref b) r) Q E s := by
  obtain ⟨few, nm, xs, rel, d⟩ := dt_of I.hok e
  exact wpAny_dictSet_heap (hsz := Nat.le_trans (Nat.le_of_eq (Paired.length rel).symm) few) (show (tupleKind (mixKind X.prog X.w)).room X.A from Nat.lt_of_succ_lt hu) (key_of I.hok eb) d fun h' d' sb => h _ (dt_back I e (rel.put k eb rv) (Nat.le_trans (length_putK kvs k v) hl) d' sb)
end
/-- del d[y], y a tuple -/
def sDDelT (td ty : TE) : TS := fun D σ H => td σ H fun x H1 => ty σ H1 fun y H2 => ∃ (a b : Addr) (kvs : List (List L2.Key × V)) (k : List L2.Key), x = .ref a ∧ y = .ref b ∧ H2 a = some (.dT kvs) ∧ H2 b = some (.tup (k.map kV)) ∧ (valV kvs k).isSome = true ∧ D.nx σ (upd H2 a (.dT (dropK kvs k)))
section
variable {X : Cx} {o i : Expr} {pos tpos : Pos} {td ty : TE}
theorem ps_ddelT (hu : X.A.units + 1 < cLine) (ho : PE X o td) (hi : PE X i ty) : PS X (.Delete [.Subscript o i tpos] pos) (sDDelT td ty) := by
  refine ⟨fun pins s σ H D I h => ?_⟩
  refine wpAny_Delete (wpAny_deleteEach_cons (wpAny_delete_Subscript (thn (ho.run pins s σ H _ I h) fun u s1 ⟨x, H1, I1, rx, q1⟩ => thn (hi.run pins s1 σ H1 _ I1 q1) fun iv s2 ⟨y, H2, I2, ry, a, b, kvs, k, ex, ey, e, eb, l, q2⟩ => ?_)))
  subst ex ey
  obtain rfl : u = Value.ref a := rx
  obtain rfl : iv = Value.ref b := ry
  exact d_delT hu I2 e eb l fun s3 I3 => wpAny_deleteEach_nil ⟨σ, _, I3, q2⟩
end
/-! ### {t: v for target in iter if ..}, the keys tuples -/
def tDcT (wi : TI) (g : TG) (tt : TT) (tk tv : TE) (vs : List Nat) : TE := fun σ H Q => wi σ H fun J H1 => ∀ D, H1 D = none → ∃ W : Nat → Nat → Hp → Prop, (∃ m, W 0 m (upd H1 D (.dT []))) ∧ ∀ i m h0, W i m h0 →
  (J.stop i h0 ∧ Q (.ref D) h0) ∨ (J.go i h0 ∧ ∃ Nx : Hp → Prop, (∀ h1, Nx h1 → ∃ m', m' < m ∧ W (i + 1) m' h1) ∧ ∀ x h1, J.yld i h0 x h1 → g x (wipe σ vs) h1 fun σ2 h2 => wipe σ2 vs = wipe σ vs ∧ tt σ2 h2 fun b h3 =>
    if b = true then tk σ2 h3 fun y h4 => tv σ2 h4 fun z h5 => ∃ (kvs : List (List L2.Key × V)) (k : List L2.Key) (q : Addr), y = .ref q ∧ h5 q = some (.tup (k.map kV)) ∧ h5 D = some (.dT kvs) ∧ kvs.length < sizeLine ∧ Nx (upd h5 D (.dT (putK kvs k z))) else Nx h3)
section
variable {X : Cx}
theorem pe_dcT {kx vx tg iter : Expr} {ifs : List Expr} {scope : Scope} {own : List (Str × Nat)} {pos : Pos} {wi : TI} {g : TG} {tt : TT} {tk tv : TE} (hu : X.A.units + 1 < cLine) (calm : X.calm = true) (nd : X.N.Nodup) (hi : PI X tg iter wi) (blk : BlkOk X.N X.env.scope scope own)
    (hg : ∀ s H C cl fp, PG (X.blk s H scope (compEnvC scope cl C X.env) fp) tg g) (ht : ∀ s H C cl fp, PTs (X.blk s H scope (compEnvC scope cl C X.env) fp) ifs tt)
    (hk : ∀ s H C cl fp, PE (X.blk s H scope (compEnvC scope cl C X.env) fp) kx tk) (hv : ∀ s H C cl fp, PE (X.blk s H scope (compEnvC scope cl C X.env) fp) vx tv) (hs : ∀ x, foldedSetIterable iter X.env x = pure x := by intro _; rfl) :
    PE X (.DictComp kx vx [⟨tg, iter, ifs, 0⟩] scope pos) (tDcT wi g tt tk tv (own.map (·.2))) := by
  constructor
  intro pins s σ H Q I h
  rw [arm_eval_DictComp]
  have caught : ∀ y ∈ scope.names, y.2 = .free → ∃ c, X.env.cells.lookup y.1 = some c := fun y hy e => (blk.free y hy e).elim (fun k => I.ok.has _ (.inl k)) fun k => I.ok.has _ (.inr k)
  apply wpAny_comprehension_free (use := none) rfl hs (closure_ok caught) blk.kind (fun y hy e => (blk.uniq y hy).trans (congrArg some e))
  refine thn (hi.run pins s σ H _ I h) fun w1 t1 k1 => thn k1 fun w2 t2 k2 => ?_
  obtain ⟨it, fp, tn, J, Ha, rfl, Ia, T, sta, fa, q⟩ := k2
  refine wpAny_newObj_type (newEnv_comp ?_)
  obtain ⟨D, hD⟩ : ∃ D, D = t2.heap.objs.size := ⟨_, rfl⟩
  have freeD : Ha D = none := Ia.hok.fresh (Nat.le_of_eq hD.symm)
  obtain ⟨W, ⟨m0, w0⟩, turn⟩ := q D freeD
  rw [← hD]
  obtain ⟨t3, h3⟩ : ∃ t3 : Shared, t3 = { t2 with heap := t2.heap.push { cls := .type "dict", data := .dict #[] } } := ⟨_, rfl⟩
  obtain ⟨Hb, hb⟩ : ∃ Hb, Hb = upd Ha D (.dT []) := ⟨_, rfl⟩
  have keep3 : ∀ b o, t2.heap.get? b = some o → t3.heap.get? b = some o := fun b o e => by subst h3; exact Heap.get?_push_of_some _ e
  have Ib : Inv X pins σ Hb t3 := by
    subst h3 hb
    exact Ia.laid (t' := t2.toks) (fun b o e => Heap.get?_push_of_some _ e) (Nat.le_of_eq hD.symm) (by rw [hD]; exact dt_empty t2.heap Ia.big)
  have low : ∀ b ∈ fp, b < t2.heap.objs.size := fun b m => (T.obj _ _ sta b m).elim fun o e => Heap.lt_size e.1
  have size3 : t3.heap.objs.size = t2.heap.objs.size + 1 := by subst h3; exact Heap.size_push _ _
  have fb : ∀ b ∈ fp, FpOk X pins Hb b ∧ b < t3.heap.objs.size := fun b m => by
    have l := low b m
    refine ⟨⟨?_, (fa b m).2⟩, Nat.lt_of_lt_of_le l (by rw [size3]; exact Nat.le_succ _)⟩
    subst hb
    rw [upd_ne (by rw [hD]; exact Nat.ne_of_lt l)]
    exact (fa b m).1
  have Ic := block_start Ib blk nd fb
  have nofp : ∀ b ∈ fp, Hb b = none := fun b m => (fb b m).1.1
  rw [show ({ t2 with heap := t2.heap.push { cls := .type "dict", data := .dict #[] } } : Shared) = t3 from h3.symm]
  obtain ⟨cells, hcells⟩ : ∃ l, l = cellsFrom (t3.heap.objs.size + 1) scope.names (cloFrom X.env.cells scope.names []) := ⟨_, rfl⟩
  rw [← hcells] at Ic ⊢
  have runG := hg t3 Hb t3.heap.objs.size cells fp
  have runT := ht t3 Hb t3.heap.objs.size cells fp
  have runK := hk t3 Hb t3.heap.objs.size cells fp
  have runV := hv t3 Hb t3.heap.objs.size cells fp
  obtain ⟨ce, hce⟩ : ∃ ce, ce = compEnvC scope cells t3.heap.objs.size X.env := ⟨_, rfl⟩
  have ceL : ce.locals = t3.heap.objs.size := by subst hce; rfl
  show codeAny _ _ (.compStart (.DictComp kx vx [⟨tg, iter, ifs, 0⟩] scope pos) 0 (.ref it) (.ref D) (compEnvC scope cells t3.heap.objs.size X.env)) (compPost (model X.prog X.w) X.A X.xe none (EP X pins σ Q) (.ref D) t3.heap.objs.size) { t3 with heap := pushCells (t3.heap.push { cls := .type "dict", data := .dict #[] }) scope.names }
  rw [← hce] at Ic runG runT runK runV ⊢
  rw [← hb] at w0
  obtain ⟨t4, h4⟩ : ∃ t4 : Shared, t4 = { t3 with heap := pushCells (t3.heap.push { cls := .type "dict", data := .dict #[] }) scope.names } := ⟨_, rfl⟩
  rw [← h4] at Ic ⊢
  have st3 : tn 0 t3.heap := T.keep _ _ _ sta fun b _ o e => keep3 b o e
  have st4 : tn 0 t4.heap := T.keep _ _ _ st3 fun b _ o e => by subst h4; exact pushCells_keeps _ _ _ _ (Heap.get?_push_of_some _ e)
  have own' : ∀ {σ' : L2.St} {H' : Hp} {s' : Shared}, Inv (X.blk t3 Hb scope ce fp) [] σ' H' s' → (∀ b ∈ fp, H' b = none) → ∀ b ∈ fp, FpOk (X.blk t3 Hb scope ce fp) [] H' b := fun J' n b m =>
    ⟨n b m, (J'.ok.exf b m).1, J'.ok.exfs b m, .inl m, fun x c e => (J'.ok.exf b m).2 x c e, fun p hp => by cases (show p ∈ ([] : List (Addr × Obj)) from hp)⟩
  have loop : codeAny (model X.prog X.w) X.A (.compLoop (.DictComp kx vx [⟨tg, iter, ifs, 0⟩] scope pos) 0 (.ref it) (.ref D) ce) (compPost (model X.prog X.w) X.A X.xe none (EP X pins σ Q) (.ref D) t3.heap.objs.size) t4 := by
    apply compLoop_anyD (fun n s' => ∃ i H', Inv (X.blk t3 Hb scope ce fp) [] (wipe σ (own.map (·.2))) H' s' ∧ tn i s'.heap ∧ (∀ b ∈ fp, H' b = none) ∧ W i n H') ?_ m0 ⟨0, Hb, Ic, st4, nofp, w0⟩
    intro n s5 ⟨i, H5, I5, st5, n5, w5⟩
    rcases turn i n H5 w5 with ⟨stop, fin⟩ | ⟨go, Nx, more, step⟩
    · refine thnF (T.done (X.blk t3 Hb scope ce fp) rfl rfl rfl calm i [] s5 _ H5 (fun _ _ => False) I5 (own' I5 n5) st5 stop) fun r s6 k6 => ?_
      obtain ⟨rfl, I6⟩ := k6
      have back : Inv X pins σ H5 s6 := Ib.call' (ch := fp) I6.os I6.base I6.hok I6.bare fun b m => ⟨(fb b m).1.2.2.2.1, (fb b m).1.2.1, (fb b m).1.2.2.2.2.1, (fb b m).1.2.2.2.2.2⟩
      have gone : H5 t3.heap.objs.size = none := ceL ▸ (show H5 ce.locals = none from I6.free)
      obtain ⟨m, ns, _⟩ := I6.loc
      have ns : s6.heap.Ns t3.heap.objs.size m := ceL ▸ (show s6.heap.Ns ce.locals m from ns)
      obtain ⟨f0, f1, f2, f3, f4, f5⟩ := Ib.fpOk (H' := H5) (Nat.le_refl _) gone
      exact ⟨m, ns, fun h'' sb => ⟨.ref D, H5, back.turned (t' := s6.toks) (fun b o hb e => (sb.2 b hb).trans e) f0 f1 f3 f4 f5, rfl, fin⟩⟩
    · refine thnF (T.item (X.blk t3 Hb scope ce fp) rfl rfl rfl calm i [] s5 _ H5 (fun _ _ => False) I5 (own' I5 n5) st5 go) fun r s6 k6 => ?_
      obtain ⟨u, rfl, k6⟩ := k6
      refine thnF k6 fun _ s7 k7 => ?_
      obtain ⟨x, H7, I7, r7, y7, st7, n7⟩ := k7
      have held := T.obj _ _ st7
      have turnEnd : ∀ {σ8 : L2.St} {H' : Hp} {s' : Shared}, wipe σ8 (own.map (·.2)) = wipe σ (own.map (·.2)) → Inv (X.blk t3 Hb scope ce fp) ([] ++ pinsAt fp s7.heap) σ8 H' s' → Nx H' →
          ∃ m, m < n ∧ ∃ i H', Inv (X.blk t3 Hb scope ce fp) [] (wipe σ (own.map (·.2))) H' s' ∧ tn i s'.heap ∧ (∀ b ∈ fp, H' b = none) ∧ W i m H' := by
        intro σ8 H' s' e8 J' nx
        obtain ⟨m', lt, w'⟩ := more H' nx
        have still : ∀ b ∈ fp, ∀ o, s7.heap.get? b = some o → s'.heap.get? b = some o ∧ H' b = none := fun b hb o e => by
          obtain ⟨z1, z2, _⟩ := J'.pin (b, o) (List.mem_append_right _ (List.mem_append_right _ (mem_pinsAt hb e)))
          exact ⟨z1, z2⟩
        have J2 : Inv (X.blk t3 Hb scope ce fp) [] σ8 H' s' := J'.unpinned (pins := [])
        refine ⟨m', lt, i + 1, H', J2.weak (by rw [← e8, wipe_length]) (fun j v e => (wipe_some (vs := own.map (·.2)) (by rw [e8]; exact e)).1), T.keep _ _ _ st7 fun b hb o e => (still b hb o e).1, fun b hb => ?_, w'⟩
        obtain ⟨o, e, _⟩ := held b hb
        exact (still b hb o e).2
      refine thnF (runG.run _ s7 _ H7 x u _ (I7.pinned (own' I7 n7) held) r7 (step x H7 y7)) fun _ s8 k8 => ?_
      obtain ⟨σ8, H8, I8, e8, q8⟩ := k8
      refine thnF (runT.run _ s8 σ8 H8 _ I8 q8) fun b s9 k9 => ?_
      obtain ⟨H9, I9, q9⟩ := k9
      by_cases kept : b = true
      · rw [if_pos kept] at q9 ⊢
        refine thnF (runK.run _ s9 σ8 H9 _ I9 q9) fun z s10 k10 => ?_
        obtain ⟨y, H10, I10, r10, q10⟩ := k10
        refine thnF (runV.run _ s10 σ8 H10 _ I10 q10) fun z2 s11 k11 => ?_
        obtain ⟨y2, H11, I11, r11, kvs, k, qa, rfl, eq, eD, few, nx⟩ := k11
        cases r10
        exact d_dictSetT (X := X.blk t3 Hb scope ce fp) hu I11 eD eq few r11 fun s12 I12 => turnEnd e8 I12 nx
      · rw [if_neg kept] at q9 ⊢
        exact turnEnd e8 I9 q9
  exact codeAny_compStart_dict loop (T.self _ 0 _ _ _ st4 loop)
end
/-- it over a walk -/
theorem dcT_it {J : It} {n : Nat} {G : Hp → Prop} {Y : Nat → Hp → V → Hp → Prop} (w : Walk J n G Y) {g : TG} {tt : TT} {tk tv : TE} {vs : List Nat} {σ : L2.St} {H1 : Hp} {D : Addr} {Qd : Hp → Prop} (Pv : Nat → Hp → Prop) (h0 : Pv 0 (upd H1 D (.dT []))) (hG : ∀ i H, i ≤ n → Pv i H → G H)
    (hs : ∀ i x H H', i < n → Pv i H → Y i H x H' → g x (wipe σ vs) H' fun σ2 h2 => wipe σ2 vs = wipe σ vs ∧ tt σ2 h2 fun b h3 =>
      if b = true then tk σ2 h3 fun y h4 => tv σ2 h4 fun z h5 => ∃ (kvs : List (List L2.Key × V)) (k : List L2.Key) (q : Addr), y = .ref q ∧ h5 q = some (.tup (k.map kV)) ∧ h5 D = some (.dT kvs) ∧ kvs.length < sizeLine ∧ Pv (i + 1) (upd h5 D (.dT (putK kvs k z))) else Pv (i + 1) h3) (hd : ∀ H, Pv n H → Qd H) :
    ∃ W : Nat → Nat → Hp → Prop, (∃ m, W 0 m (upd H1 D (.dT []))) ∧ ∀ i m h0, W i m h0 →
      (J.stop i h0 ∧ Qd h0) ∨ (J.go i h0 ∧ ∃ Nx : Hp → Prop, (∀ h1, Nx h1 → ∃ m', m' < m ∧ W (i + 1) m' h1) ∧ ∀ x h1, J.yld i h0 x h1 → g x (wipe σ vs) h1 fun σ2 h2 => wipe σ2 vs = wipe σ vs ∧ tt σ2 h2 fun b h3 =>
        if b = true then tk σ2 h3 fun y h4 => tv σ2 h4 fun z h5 => ∃ (kvs : List (List L2.Key × V)) (k : List L2.Key) (q : Addr), y = .ref q ∧ h5 q = some (.tup (k.map kV)) ∧ h5 D = some (.dT kvs) ∧ kvs.length < sizeLine ∧ Nx (upd h5 D (.dT (putK kvs k z))) else Nx h3) := by
  refine ⟨fun i m h => i ≤ n ∧ m + i = n ∧ Pv i h, ⟨n, Nat.zero_le _, rfl, h0⟩, fun i m h z => ?_⟩
  obtain ⟨le, em, p⟩ := z
  have gd := hG i h le p
  rcases Nat.lt_or_ge i n with lt | ge
  · exact .inr ⟨w.goes i h lt gd, Pv (i + 1), fun h1 p1 => ⟨m - 1, by omega, lt, by omega, p1⟩, fun x h1 y => hs i x h h1 lt p (w.yields i h x h1 lt gd y)⟩
  · have e : i = n := Nat.le_antisymm le ge
    rw [e] at p ⊢
    exact .inl ⟨w.stops h gd, hd h p⟩
end Bh

set_option Elab.async false
set_option linter.all false
set_option maxRecDepth 100000
set_option maxHeartbeats 2000000
set_option autoImplicit false
namespace Bh
open PySem PySem.Spec PyProof.Rows L2
/-! ### a class's own in, len, [] and []= -/
section
variable {X : Cx} {C f : Addr} {fd : FuncData} {k : Nat} {sp : Sp} {ps : List Str} {CX : CXT} {EX : XK}
/-- the interpreter itself calls the def f -/
theorem own_call (F : FnOk X.prog X.w X.K X.mg X.base CX k f fd ps sp) (hb : Binds X.K fd ps []) (hx : Passes CX X EX) {A : Around} (hr : Room k A) (fr : A.frames = X.A.frames) {pins : List (Addr × Obj)} {s : Shared} {σ : L2.St} {H : Hp} {vs : List V} {us : List Value} {Q : VK}
    (I : Inv X pins σ H s) (r : Vals vs us) (h : sp vs H Q EX) : wpAny (model X.prog X.w) A (call (.ref f) us) (EP X pins σ Q) X.xe s := by
  have en := I.env0
  have e0 : Env0 X.prog X.w X.K X.mg X.base A X.stack s H := ⟨by rw [fr]; exact en.frames, en.mod, en.bs, en.bsz, en.funs, en.frf, en.hok, en.bare⟩
  have hl := F.len _ _ _ _ h
  have bnd := hb s us I.kIn (by rw [List.append_nil, ← r.length]; exact hl)
  rw [List.append_nil] at bnd
  refine wpAny_call (codeAny_mono (F.run A X.stack s H ⟨us, []⟩ us vs Q EX hr e0 bnd r h) fun r s2 z => ?_)
  match r, z with
  | .error e, z => exact hx pins σ H s e s2 I z
  | .ok (.ret w), z => exact I.after z
/-- y in x, y not in x: x an instance of the class at C -/
def rInIns (C : Addr) (sp : Sp) (EX : XK) (neg : Bool) : R2 := fun y x H Q => ∃ (a dx : Addr) (fs : List (Str × V)), x = .ref a ∧ H a = some (.ins C dx fs) ∧ sp [x, y] H (fun v H' => ∃ b, v = .bl b ∧ Q (.bl (b != neg)) H') EX
theorem op_inIns (F : FnOk X.prog X.w X.K X.mg X.base CX k f fd ps sp) (hs : PySem.W.findIn X.K (.ref C) "__contains__" = some (some (.ref f))) (hf : PySem.W.isFn X.K (.ref f) = true) (hb : Binds X.K fd ps []) (hx : Passes CX X EX) (hr : Room k X.A) :
    OpR X (compareOp .In) (rInIns C sp EX false) := by
  intro pins s σ H y x v u Q I ry rx h
  obtain ⟨a, dx, fs, rfl, ha, hsp⟩ := h
  cases rx
  obtain ⟨mA, J, _⟩ := ins_get I.hok ha
  obtain ⟨od, J, _⟩ := J.look
  obtain ⟨m, hF⟩ := I.fr
  refine PySem.W.in_K hF I.ok.mod.kin J hs hf (wpAny_mono (own_call F hb hx hr rfl I (vs := [.ref a, y]) (us := [.ref a, v]) (.cons rfl (.cons ry .nil)) hsp) (fun w s' z => ?_) fun _ _ e => e)
  obtain ⟨vr, H', I', rv, b, rfl, q⟩ := z
  cases rv
  refine wpAny_truthy_bool ?_
  rw [Bool.bne_false] at q
  exact ⟨.bl b, H', I', rfl, q⟩
theorem op_notInIns (F : FnOk X.prog X.w X.K X.mg X.base CX k f fd ps sp) (hs : PySem.W.findIn X.K (.ref C) "__contains__" = some (some (.ref f))) (hf : PySem.W.isFn X.K (.ref f) = true) (hb : Binds X.K fd ps []) (hx : Passes CX X EX) (hr : Room k X.A) :
    OpR X (compareOp .NotIn) (rInIns C sp EX true) := by
  intro pins s σ H y x v u Q I ry rx h
  obtain ⟨a, dx, fs, rfl, ha, hsp⟩ := h
  cases rx
  obtain ⟨mA, J, _⟩ := ins_get I.hok ha
  obtain ⟨od, J, _⟩ := J.look
  obtain ⟨m, hF⟩ := I.fr
  refine PySem.W.notIn_K hF I.ok.mod.kin J hs hf (wpAny_mono (own_call F hb hx hr rfl I (vs := [.ref a, y]) (us := [.ref a, v]) (.cons rfl (.cons ry .nil)) hsp) (fun w s' z => ?_) fun _ _ e => e)
  obtain ⟨vr, H', I', rv, b, rfl, q⟩ := z
  cases rv
  refine wpAny_truthy_bool ?_
  rw [Bool.bne_true] at q
  exact ⟨.bl (!b), H', I', rfl, q⟩
/-- len(x) -/
def rLenIns (C : Addr) (sp : Sp) (EX : XK) : List V → Hp → VK → Prop := fun xs H Q => ∃ (a dx : Addr) (fs : List (Str × V)), xs = [.ref a] ∧ H a = some (.ins C dx fs) ∧ sp xs H (fun v H' => ∃ n : Nat, v = .int n ∧ n ≤ sizeLine ∧ Q v H') EX
theorem call_lenIns (F : FnOk X.prog X.w X.K X.mg X.base CX k f fd ps sp) (hs : PySem.W.findIn X.K (.ref C) "__len__" = some (some (.ref f))) (hf : PySem.W.isFn X.K (.ref f) = true) (hb : Binds X.K fd ps []) (hx : Passes CX X EX) (hr : Room (k + 1) X.A) :
    CallR X (.builtin "len") (rLenIns C sp EX) := by
  intro pins s σ H xs us Q I r h
  obtain ⟨a, dx, fs, rfl, ha, hsp⟩ := h
  obtain ⟨u, rfl, rx⟩ := vals1 r
  cases rx
  obtain ⟨mA, J, _⟩ := ins_get I.hok ha
  obtain ⟨od, J, _⟩ := J.look
  obtain ⟨m, hF⟩ := I.fr
  refine PySem.W.len_K hF I.ok.mod.kin J hs hf (wpAny_mono (own_call F hb hx hr.in1 rfl I (vs := [.ref a]) (us := [.ref a]) (.cons rfl .nil) hsp) (fun w s' z => ?_) fun _ _ e => e)
  obtain ⟨vr, H', I', rv, n, rfl, le, q⟩ := z
  obtain ⟨t, rfl⟩ := rv
  exact ⟨⟨by omega, by have := line63; omega⟩, .int n, H', I'.tok _, ⟨_, rfl⟩, q⟩
/-- x[y] -/
def rIxIns (C : Addr) (sp : Sp) (EX : XK) : R2 := fun x y H Q => ∃ (a dx : Addr) (fs : List (Str × V)), x = .ref a ∧ H a = some (.ins C dx fs) ∧ sp [x, y] H Q EX
theorem ix_ins (F : FnOk X.prog X.w X.K X.mg X.base CX k f fd ps sp) (hs : PySem.W.findIn X.K (.ref C) "__getitem__" = some (some (.ref f))) (hf : PySem.W.isFn X.K (.ref f) = true) (hfn : PySem.W.fnIn X.K f = true) (hb : Binds X.K fd ps []) (hx : Passes CX X EX) (hr : Room (k + 1) X.A)
    {value slice : Expr} {pos : Pos} {ta tb : TE} (ha : PE X value ta) (hi : PE X slice tb) (hsl : ∀ (a : Addr) (i : Value), subscripted slice true (.ref a) i = runValue (.builtin "lifetime.subscript" ⟨[.ref a, i], []⟩)) : PE X (.Subscript value slice pos) (tOp (rIxIns C sp EX) ta tb) := by
  refine ⟨fun pins s σ H Q I h => Subscript_ (binT ha hi I h fun v u s2 x y H2 I2 rx ry q => ?_)⟩
  obtain ⟨a, dx, fs, rfl, hA, hsp⟩ := q
  cases rx
  obtain ⟨mA, J, _⟩ := ins_get I2.hok hA
  obtain ⟨od, J, _⟩ := J.look
  obtain ⟨m, hF⟩ := I2.fr
  exact PySem.W.sub_K hF I2.ok.mod.kin J hs hfn hf (own_call F hb hx hr.in1 rfl I2 (vs := [.ref a, y]) (us := [.ref a, u]) (.cons rfl (.cons ry .nil)) hsp) (hsl a u)
/-- x[y] = v -/
def rSetIns (C : Addr) (sp : Sp) (EX : XK) : V → V → V → Hp → (Hp → Prop) → Prop := fun x y v H Q => ∃ (a dx : Addr) (fs : List (Str × V)), x = .ref a ∧ H a = some (.ins C dx fs) ∧ sp [x, y, v] H (fun _ H' => Q H') EX
theorem set_ins (F : FnOk X.prog X.w X.K X.mg X.base CX k f fd ps sp) (hq : PySem.W.noSeq X.K C = true) (hs : PySem.W.findIn X.K (.ref C) "__setitem__" = some (some (.ref f))) (hf : PySem.W.isFn X.K (.ref f) = true) (hb : Binds X.K fd ps []) (hx : Passes CX X EX) (hr : Room k X.A) :
    PSet X (rSetIns C sp EX) := by
  intro pins s σ H o i v ov iv u Q I ro ri rv h
  obtain ⟨a, dx, fs, rfl, ha, hsp⟩ := h
  cases ro
  obtain ⟨mA, J, _⟩ := ins_get I.hok ha
  obtain ⟨od, J, _⟩ := J.look
  obtain ⟨m, hF⟩ := I.fr
  refine PySem.W.ksp_setItem hF I.ok.mod.kin J hq hs hf (wpAny_mono (own_call F hb hx hr rfl I (vs := [.ref a, i, v]) (us := [.ref a, iv, u]) (.cons rfl (.cons ri (.cons rv .nil))) hsp) (fun w s' z => ?_) fun _ _ e => e)
  obtain ⟨vr, H', I', _, q⟩ := z
  exact ⟨H', I', q⟩
end
theorem u1 {k : Nat} {A : Around} (r : Room k A) : A.units + 1 < cLine := by
  have := r.un
  omega
section
variable {X : Cx}
/-- y in d, y not in d -/
def rInD (neg : Bool) : R2 := fun y x H Q => ∃ (a : Addr) (o : Option V), x = .ref a ∧ DGet H a y o ∧ Q (.bl (o.isSome != neg)) H
theorem op_inD (hu : X.A.units + 1 < cLine) : OpR X (compareOp .In) (rInD false) := by
  intro pins s σ H y x v u Q I ry rx h
  obtain ⟨a, o, rfl, g, q⟩ := h
  cases rx
  rw [Bool.bne_false] at q
  exact d_in hu I g ry fun s2 I2 => ⟨.bl o.isSome, H, I2, rfl, q⟩
theorem op_notInD (hu : X.A.units + 1 < cLine) : OpR X (compareOp .NotIn) (rInD true) := by
  intro pins s σ H y x v u Q I ry rx h
  obtain ⟨a, o, rfl, g, q⟩ := h
  cases rx
  rw [Bool.bne_true] at q
  exact d_notIn hu I g ry fun s2 I2 => ⟨.bl (!o.isSome), H, I2, rfl, q⟩
end
end Bh

set_option Elab.async false
set_option linter.all false
set_option maxRecDepth 100000
set_option maxHeartbeats 2000000
set_option autoImplicit false
namespace Bh
open PySem PySem.Spec PyProof.Rows L2
/-! ### == of two dicts whose keys are tuples and whose values are all True -/
section
variable {prog : Program} {w : World} {κ : Type} [DecidableEq κ] {knd : HeapKind prog w κ} {A : Around} {E : Value → Shared → Prop} {s : Shared}
theorem eq_truths {Q : Bool → Shared → Prop} (h : Q true s) : wpAny (model prog w) A (eqBool (.bool true) (.bool true)) Q E s := by
  have z : SeqAt.EqAt A s (.bool true) (.bool true) true := SeqAt.EqAt.same _
  exact z _ _ _ _ h
theorem samePairsT {nm : String} {a b : Addr} {xa xb : List (κ × Addr × Value)} {Q : Bool → Shared → Prop} (hu : knd.room A) (la : (a == sysModules) = false) (lb : (b == sysModules) = false) (da : s.heap.DictOfH knd a xa) (db : s.heap.DictOfH knd b xb)
    (va : ∀ x ∈ xa, x.2.2 = .bool true) (vb : ∀ x ∈ xb, x.2.2 = .bool true) (h : Q (xa.length == xb.length && xa.all fun x => (atKey xb x.1).isSome) s) : wpAny (model prog w) A (Builtin.Dict.samePairs nm a b) Q E s := by
  obtain ⟨oa, es, ep, ga, _, ea, la', ka, _⟩ := da
  obtain ⟨ob, fs, eq, gb, _, eb, lb', kb, nb⟩ := db
  have za := size_of_entries la'
  have zb := size_of_entries lb'
  unfold Builtin.Dict.samePairs Builtin.Dict.showsAll
  rw [la, lb]
  refine wpAny_bind (wpAny_pure (wpAny_bind (wpAny_pure (wpAny_bind (wpAny_dictEntries ga ea (wpAny_bind (wpAny_dictEntries gb eb ?_)))))))
  rw [za, zb]
  by_cases n : xa.length = xb.length
  · have c1 : ¬ (xa.length != xb.length) = true := by simp [n]
    have c2 : (xa.length == xb.length) = true := by simp [n]
    rw [c2, Bool.true_and] at h
    rw [if_neg c1]
    refine wpAny_bind (wpAny_dictEpoch ga ea ?_)
    refine wpAny_bind ?_
    refine SeqAt.wpAny_forIn_span 0 xa.length _ (fun i c s' => s' = s ∧ c = (none, ()) ∧ (xa.all fun x => (atKey xb x.1).isSome) = ((xa.drop i).all fun x => (atKey xb x.1).isSome)) _ ?_ ?_ _ ⟨rfl, rfl, rfl⟩
    · rintro i c s' - lt ⟨rfl, rfl, e⟩
      refine wpAny_bind (wpAny_dictEntries ga ea ?_)
      have ei : es[i]? = some (entryOfKey knd xa[i]) := by rw [entry_at la', List.getElem?_eq_getElem lt]; rfl
      rw [ei]
      have mi : xa[i] ∈ xa := List.getElem_mem lt
      rw [List.drop_eq_getElem_cons lt, List.all_cons] at e
      dsimp only
      refine wpAny_bind (wpAny_holding (wpAny_bind ?_))
      refine wpAny_dictFind_heap hu (ka _ mi) gb eb lb' kb nb (fun no => ?_) fun j p ej => ?_
      · have nn : atKey xb xa[i].1 = none := by
          unfold atKey
          rw [Option.map_eq_none_iff, List.find?_eq_none]
          intro x hx hd
          obtain ⟨j, hj⟩ := List.mem_iff_getElem?.mp hx
          have e1 := of_decide_eq_true hd
          exact no j x.2 (by rw [hj, ← e1])
        rw [nn] at e
        dsimp only
        rw [e] at h
        exact wpAny_pure (wpAny_pure (wpAny_pure h))
      · have mj : (xa[i].1, p) ∈ xb := List.mem_of_getElem? ej
        have ns : (atKey xb xa[i].1).isSome = true := by
          unfold atKey
          rw [Option.isSome_map, List.find?_isSome]
          exact ⟨_, mj, decide_eq_true rfl⟩
        rw [ns, Bool.true_and] at e
        dsimp only
        refine wpAny_bind (wpAny_dictEntries gb eb ?_)
        have ej' : fs[j]? = some (entryOfKey knd (xa[i].1, p)) := by rw [entry_at lb', ej]; rfl
        rw [ej']
        dsimp only
        have v1 : (entryOfKey knd xa[i]).val = .bool true := va _ mi
        have v2 : (entryOfKey knd (xa[i].1, p)).val = .bool true := vb _ mj
        rw [v1, v2]
        refine wpAny_holding (eq_truths ?_)
        rw [if_neg (by decide)]
        refine wpAny_bind (wpAny_dictEpoch ga ea ?_)
        rw [if_neg (by simp)]
        exact wpAny_pure ⟨rfl, rfl, e⟩
    · rintro c s' ⟨rfl, rfl, e⟩
      have e2 : max 0 xa.length = xa.length := Nat.max_eq_right (Nat.zero_le _)
      rw [e2, List.drop_length] at e
      rw [e] at h
      exact wpAny_pure h
  · have c1 : (xa.length != xb.length) = true := by simp [n]
    have c2 : (xa.length == xb.length) = false := by simp [n]
    rw [c2, Bool.false_and] at h
    rw [if_pos c1]
    exact wpAny_bind (wpAny_rule (wpAny_pure h))
end
theorem kt_truths {H : Hp} : ∀ {ks : List (List L2.Key × V)} {xs : List (List L2.Key × Addr × Value)}, KT H ks xs → (∀ p ∈ ks, p.2 = .bl true) → ∀ x ∈ xs, x.2.2 = .bool true
  | _, _, .nil, _, x, m => nomatch m
  | _, _, .cons (a := p) (b := q) h t, a, x, m => by
    rcases List.mem_cons.mp m with rfl | m
    · have z := h.2.2
      rw [a p List.mem_cons_self] at z
      exact z
    · exact kt_truths t (fun p' m' => a p' (List.mem_cons_of_mem _ m')) x m
theorem kt_all {H : Hp} {ls : List (List L2.Key × V)} {ys : List (List L2.Key × Addr × Value)} (r : KT H ls ys) : ∀ {ks : List (List L2.Key × V)} {xs : List (List L2.Key × Addr × Value)}, KT H ks xs → (xs.all fun x => (atKey ys x.1).isSome) = ks.all fun p => (valV ls p.1).isSome
  | _, _, .nil => rfl
  | _, _, .cons (a := p) (b := q) h t => by
    have e := (r.val p.1).isSome_eq
    rw [Option.isSome_map] at e
    rw [List.all_cons, List.all_cons, kt_all r t, ← h.1, e]
section
variable {X : Cx}
/-- == of two dicts of tuples to True -/
def rEqT : R2 := fun x y H Q => ∃ (a b : Addr) (ks ls : List (List L2.Key × V)), x = .ref a ∧ y = .ref b ∧ H a = some (.dT ks) ∧ H b = some (.dT ls) ∧ (∀ p ∈ ks, p.2 = .bl true) ∧ (∀ p ∈ ls, p.2 = .bl true) ∧
  Q (.bl (ks.length == ls.length && ks.all fun p => (valV ls p.1).isSome)) H
theorem op_eqT (hu : X.A.units + 1 < cLine) : OpR X (compareOp .Eq) rEqT := by
  intro pins s σ H x y v u Q I rx ry h
  obtain ⟨a, b, ks, ls, rfl, rfl, ea, eb, ta, tb, q⟩ := h
  cases rx
  cases ry
  obtain ⟨_, ma, xs, ra, da⟩ := dt_of I.hok ea
  obtain ⟨_, mb, ys, rb, db⟩ := dt_of I.hok eb
  refine wpAny_richCompare_same_room (op := .Eq) da.typeIs db.typeIs PySem.F.slot_dict_eq (wpAny_call_entry PySem.F.slot_dict_eq da.typeIs PySem.F.entry_dict_eq ?_ (PySem.F.args_dict_eq_2 _ _)) (Nat.lt_of_succ_lt hu)
  refine wpAny_bind (m := Builtin.Dict.dictSlotArgs _ _) ?_
  unfold Builtin.Dict.dictSlotArgs
  refine wpAny_bind (wpAny_notOrdered_dict da.typeIs ?_)
  refine wpAny_pure (wpAny_bind (wpAny_isInstance (T := "dict") db.typeIs PySem.F.sub_dict_dict ?_))
  rw [if_neg (by decide)]
  refine wpAny_bind (wpAny_pure (wpAny_bind (wpAny_pure (wpAny_bind (samePairsT (show (tupleKind (mixKind X.prog X.w)).room X.A.in1 from hu) ma mb da db (kt_truths ra ta) (kt_truths rb tb) ?_)))))
  refine wpAny_pure ⟨_, rfl, (fun z => nomatch (show Value.bool _ = Value.notImplemented from z)), ?_⟩
  rw [(by intro b; cases b <;> rfl : ∀ b : Bool, (b == true) = b), ← Paired.length ra, ← Paired.length rb, kt_all rb ra]
  exact ⟨.bl _, H, I, rfl, q⟩
end
end Bh

set_option Elab.async false
set_option linter.all false
set_option maxRecDepth 100000
set_option maxHeartbeats 2000000
set_option autoImplicit false
namespace Bh
open PySem PySem.Spec PyProof.Rows L2
/-! ### text.endswith(tuple of texts) -/
section
variable {prog : Program} {w : World} {A : Around} {E : Value → Shared → Prop} {s : Shared}
theorem ends_loop {z : Str} {a : Addr} {its : List Value} {ps : List Str} {Q : Value → Shared → Prop} (r : Vals (ps.map V.str) its) (ht : IsTup s.heap a its.toArray) (h : Q (.bool (ps.any fun p => Txt.endswith z p)) s) (t : Tok) :
    wpAny (model prog w) A (Builtin.«str.endswith» ⟨[.str z t, .ref a], []⟩) (fun fin s' => ∃ v, fin = .done (.ret v) ∧ Q v s') E s := by
  obtain ⟨o, ho, hc, n, hd⟩ := ht
  have hT : s.TypeIs (.ref a) "tuple" := ⟨o, ho, hc⟩
  unfold Builtin.«str.endswith» Builtin.Str.affixEntry
  refine wpAny_bind (m := Builtin.Str.strSomeArgs _ _ _ _) (wpAny_pure ?_)
  refine wpAny_bind (m := Builtin.Str.searchRange _ _) (wpAny_pure ?_)
  refine wpAny_bind ?_
  refine PySem.W.KPt.asStr_ref ho hd ?_
  dsimp only
  refine wpAny_bind (wpAny_isInstance (T := "tuple") hT PySem.W.KPt.sub_tt ?_)
  rw [if_pos rfl]
  refine wpAny_bind (wpAny_rule ?_)
  refine wpAny_bind (wpAny_seqItems ho hd ?_)
  dsimp only
  refine wpAny_bind ?_
  refine wpAny_forIn_array' _ (fun rest st s' => s' = s ∧ ∃ qs : List Str, Vals (qs.map V.str) rest ∧ (ps.any fun p => Txt.endswith z p) = (qs.any fun p => Txt.endswith z p) ∧ st = (none, ())) _ ?_ ?_ _ _ ⟨rfl, ps, by simpa using r, rfl, rfl⟩
  · rintro x rest b s' ⟨rfl, qs, rq, eq, rfl⟩
    cases qs with
    | nil => cases rq
    | cons p qs =>
      rw [List.map_cons] at rq
      cases rq with
      | cons rx rq =>
        obtain ⟨u, rfl⟩ := rx
        refine wpAny_bind (m := asStr? _) (wpAny_pure ?_)
        dsimp only
        have e1 : (decide (Int.toNat 0 + p.length ≤ min ((z.length : Nat) : Int).toNat z.length) && Builtin.Str.subAt z p (min ((z.length : Nat) : Int).toNat z.length - p.length)) = Txt.endswith z p := by
          rw [Int.toNat_natCast, Nat.min_self]; rfl
        rw [List.any_cons] at eq
        cases hb : Txt.endswith z p with
        | true =>
          rw [hb, Bool.true_or] at eq
          rw [if_pos (e1.trans hb)]
          rw [eq] at h
          exact wpAny_bind (m := ret _) (wpAny_pure (wpAny_pure (wpAny_pure ⟨_, rfl, h⟩)))
        | false =>
          rw [hb, Bool.false_or] at eq
          rw [if_neg (by rw [e1, hb]; decide)]
          exact wpAny_pure ⟨rfl, qs, rq, eq, rfl⟩
  · rintro b s' ⟨rfl, qs, rq, eq, rfl⟩
    have e0 : qs = [] := by
      cases qs with
      | nil => rfl
      | cons _ _ => cases rq
    rw [e0] at eq
    rw [eq] at h
    exact wpAny_pure ⟨_, rfl, h⟩
end
section
variable {X : Cx}
/-- also one text -/
def rEndsT (K : PySem.W.Frag) : V → List V → Hp → VK → Prop := fun x xs H Q => ∃ (z : Str) (a : Addr) (ps : List Str), x = .str z ∧ xs = [.ref a] ∧ SqT K H a (ps.map V.str) ∧ Q (.bl (ps.any fun p => Txt.endswith z p)) H
theorem mt_endsT : MtR X "str.endswith" (rEndsT X.K) := by
  intro pins s σ H x xs v us Q I rx rxs h
  obtain ⟨z, a, ps, rfl, rfl, hq, q⟩ := h
  obtain ⟨t, rfl⟩ := rx
  obtain ⟨u, rfl, ru⟩ := vals1 rxs
  cases ru
  obtain ⟨its, rv, pl, hz⟩ := I.tuple hq
  refine wpAny_call_entry PySem.F.slot_str_endswith (typeIs_str s z t) PySem.F.entry_str_endswith (ends_loop rv pl ⟨.bl _, H, I, rfl, q⟩ t) (PySem.F.args_str_endswith_2 _ _)
theorem mt_endsT_K {K : PySem.W.Frag} (e : X.K = K) : MtR X "str.endswith" (rEndsT K) := by
  subst e
  exact mt_endsT
end
end Bh

set_option Elab.async false
set_option linter.all false
set_option maxRecDepth 100000
set_option maxHeartbeats 1000000
namespace Bh
open PySem PySem.Spec PyProof.Rows L2
structure Top (K : PySem.W.Frag) (mg : Str → Option Value) : Type where
  a_is_name : Addr
  fd_is_name : FuncData
  d_is_name : Df K mg "is_name" s_is_name ["value"] a_is_name fd_is_name
  a_is_word : Addr
  fd_is_word : FuncData
  d_is_word : Df K mg "_is_word" s_is_word ["value", "characters"] a_is_word fd_is_word
  a_kinds_of : Addr
  fd_kinds_of : FuncData
  d_kinds_of : Df K mg "_kinds_of" s_kinds_of ["cells"] a_kinds_of fd_kinds_of
  a_ties_between : Addr
  fd_ties_between : FuncData
  d_ties_between : Df K mg "_ties_between" s_ties_between ["kinds", "ties"] a_ties_between fd_ties_between
  a_check_cell : Addr
  fd_check_cell : FuncData
  d_check_cell : Df K mg "_check_cell" s_check_cell ["kinds", "name", "kind"] a_check_cell fd_check_cell
  a_check_tie : Addr
  fd_check_tie : FuncData
  d_check_tie : Df K mg "_check_tie" s_check_tie ["kinds", "ties", "tie", "source", "target"] a_check_tie fd_check_tie
  a_is_kind : Addr
  fd_is_kind : FuncData
  d_is_kind : Df K mg "_is_kind" s_is_kind ["value"] a_is_kind fd_is_kind
  a_l_bag : Addr
  fd_l_bag : FuncData
  d_l_bag : Df K mg "_law_bag" s_l_bag ["_law_script"] a_l_bag fd_l_bag
  a_l_draw : Addr
  fd_l_draw : FuncData
  d_l_draw : Df K mg "_law_draw" s_l_draw ["_law_bag_here", "_law_many"] a_l_draw fd_l_draw
  a_l_any : Addr
  fd_l_any : FuncData
  d_l_any : Df K mg "_law_any" s_l_any ["_law_bag_here", "_law_row"] a_l_any fd_l_any
  a_l_like : Addr
  fd_l_like : FuncData
  d_l_like : Df K mg "_law_like" s_l_like ["_law_found", "_law_due"] a_l_like fd_l_like
  a_l_words : Addr
  fd_l_words : FuncData
  d_l_words : Df K mg "_law_words" s_l_words ["_law_bag_here", "_law_many"] a_l_words fd_l_words
  a_l_kind_word : Addr
  fd_l_kind_word : FuncData
  d_l_kind_word : Df K mg "_law_kind_word" s_l_kind_word ["_law_bag_here"] a_l_kind_word fd_l_kind_word
  a_l_grow : Addr
  fd_l_grow : FuncData
  d_l_grow : Df K mg "_law_grow" s_l_grow ["_law_bag_here", "_law_web", "_law_names", "_law_cells_z", "_law_ties_z"] a_l_grow fd_l_grow
  a_l_web_so : Addr
  fd_l_web_so : FuncData
  d_l_web_so : Df K mg "_law_web_so" s_l_web_so ["_law_web", "_law_cells_z", "_law_ties_z"] a_l_web_so fd_l_web_so
  b_all : mg "all" = none
  b_dict : mg "dict" = none
  b_isinstance : mg "isinstance" = none
  b_len : mg "len" = none
  b_list : mg "list" = none
  b_range : mg "range" = none
  b_sorted : mg "sorted" = none
  b_tuple : mg "tuple" = none
  b_int : mg "int" = none
  b_zip : mg "zip" = none
  b_bool : mg "bool" = none
  b_str : mg "str" = none
  b_repr : mg "repr" = none
  g_LETTERS : ∃ t, mg "LETTERS" = some (Value.str "abcdefghijklmnopqrstuvwxyz" t)
  g_LONGEST : ∃ t, mg "LONGEST" = some (Value.int 8 t)
  a_NUMBERS : Addr
  g_NUMBERS : mg "NUMBERS" = some (.ref a_NUMBERS)
  k_NUMBERS : ∀ H : Hp, SqT K H a_NUMBERS [V.str ".0", V.str ".1", V.str ".2"]
section
variable {P : Program} {w : World} {K : PySem.W.Frag} {mg : Str → Option Value} {base : Heap}
theorem cut63 (ns : List Int) (h : ns.length ≤ 63) : cutV (ns.map V.int) none (some 63) = ns.map V.int := by
  unfold cutV
  rw [HT.sIx_none, show HT.sIx (ns.map V.int).length (ns.map V.int).length (some 63) = min 63 (ns.map V.int).length from HT.sIx_nat _ _ 63, List.length_map, Nat.min_eq_right h]
  show List.take (ns.length - 0) (List.drop 0 (ns.map V.int)) = _
  rw [List.drop_zero, Nat.sub_zero]
  exact List.take_of_length_le (by rw [List.length_map]; exact Nat.le_refl _)
theorem ok_bag (T : Top K mg) : FnOk P w K mg base CX0 1 T.a_l_bag T.fd_l_bag ["_law_script"] (spBag K) := by
  refine T.d_l_bag.F.ok sc_l_bag (fun vs H Q E h => ?_) (fun cdv A outer s H vs Q E hr h => ?_)
  · obtain ⟨a, ns, rfl, _⟩ := h
    rfl
  obtain ⟨a, ns, rfl, hS, h63, q⟩ := h
  refine ⟨_, (pss_cons (ps_set (i := 1) sc_l_bag.nd rfl (Or.inl rfl) (pe_op op_add pe_int (pe_op op_mul pe_int (pe_callB (call_len_seq_K (K := K) (by rfl)) (by rfl) T.b_len PySem.boot_len (pa_cons (pe_slice (sl_list_K (K := K) (by rfl)) (pv 0) po_none (po_some pe_int)) pa_nil)))))
    (pss_cons (ps_for PassesOwn.never rfl (pi_list_K (K := K) (by rfl) (pe_slice (sl_list_K (K := K) (by rfl)) (pv 0) po_none (po_some pe_int))) (pg_name (i := 2) sc_l_bag.nd rfl (Or.inl rfl))
      (pss_one (ps_set (i := 1) sc_l_bag.nd rfl (Or.inl rfl) (pe_op op_mod (pe_callTy call_int1 (by rfl) T.b_int (by decide +kernel) (pa_cons (pe_op op_add (pe_op op_add (pe_op op_mul (pv 1) pe_int) (pe_op op_mod (pe_callTy call_int1 (by rfl) T.b_int (by decide +kernel) (pa_cons (pv 2) pa_nil)) pe_int)) pe_int) pa_nil)) pe_int))))
    (pss_one (ps_ret (pe_lst (pa_cons (pe_callTy (call_list_of_K (K := K) (by rfl)) (by rfl) T.b_list (by decide +kernel) (pa_cons (pe_slice (sl_list_K (K := K) (by rfl)) (pv 0) po_none (po_some pe_int)) pa_nil)) (pa_cons pe_int (pa_cons pe_int (pa_cons (pv 1) pa_nil))))))))), ?_⟩
  refine ⟨_, rfl, _, rfl, _, _, rfl, hS, fun p1 n1 => ?_⟩
  rw [cut63 ns h63]
  refine ⟨_, _, rfl, .inl (SqL.of upd_same), _, _, rfl, rfl, .inl ⟨by decide, by decide⟩, _, _, rfl, rfl, ?_⟩
  have e1 : Same H (upd H p1 (.lst (ns.map V.int))) := same_new n1
  refine ⟨_, rfl, _, rfl, _, _, rfl, e1.seq hS, fun p2 n2 => ?_⟩
  rw [cut63 ns h63]
  have e2 := e1.trans (same_new (o := .lst (ns.map V.int)) n2)
  refine ⟨p2, rfl, ⟨_, SqL.of upd_same⟩, for_list (K := K) (a := p2) (xs := ns.map V.int) (fun i σ H' => ∃ (z : Int) (v : Option V), σ = [some (.ref a), some (.int z), v] ∧ (0 < i → 0 ≤ z ∧ z < 2147483647) ∧ (z < 100000 ∨ 0 < i) ∧ 0 ≤ z ∧ H' = (upd (upd H p1 (.lst (ns.map V.int))) p2 (.lst (ns.map V.int))))
    ⟨_, none, rfl, fun z => absurd z (Nat.lt_irrefl _), .inl ?_, ?_, rfl⟩ (fun i σ H' _ ⟨_, _, _, _, _, _, e⟩ => by rw [e]; exact SqL.of upd_same) ?_ ?_⟩
  · rw [List.length_map]
    omega
  · rw [List.length_map]
    omega
  · rintro i y σ H' hi ⟨z, v, rfl, z1, z2, z0, rfl⟩
    obtain ⟨u, _, rfl⟩ := get_map hi
    refine ⟨_, rfl, _, _, rfl, rfl, .inr ⟨by decide, by decide⟩, _, rfl, .inl ⟨_, rfl, _, _, rfl, rfl, p31, _, _, rfl, rfl, _, _, rfl, rfl, .inl ⟨_, rfl, _, _, rfl, rfl, p31, ?_⟩⟩⟩
    refine ⟨_, _, rfl, fun _ => ⟨?_, ?_⟩, .inr (Nat.succ_pos i), ?_, rfl⟩ <;> omega
  · rintro σ H' ⟨z, v, rfl, z1, z2, z0, rfl⟩
    refine ⟨_, rfl, _, rfl, _, _, rfl, e2.seq hS, fun p3 n3 => ?_⟩
    rw [cut63 ns h63]
    refine ⟨_, _, rfl, .inl (SqL.of upd_same), fun l nl => ?_⟩
    have e3 := e2.trans (same_new (o := .lst (ns.map V.int)) n3)
    have e4 := e3.trans (same_new (o := .lst (ns.map V.int)) nl)
    refine ⟨_, rfl, (by show 4 ≤ sizeLine; decide), fun b nb => ?_⟩
    have e5 := e4.trans (same_new (o := .lst [.ref l, .int 0, .int 0, .int z]) nb)
    refine q b l _ (e4.free nb) (e3.free nl) e5 ⟨ns, 0, 0, z, upd_same, ?_, h63, by omega, by omega, by omega, z0, by omega⟩
    rw [upd_ne (ne_of_none upd_same nb), upd_same]
theorem ok_draw (T : Top K mg) : FnOk P w K mg base CX0 1 T.a_l_draw T.fd_l_draw ["_law_bag_here", "_law_many"] spDraw := by
  refine T.d_l_draw.F.ok sc_l_draw (fun vs H Q E h => ?_) (fun cdv A outer s H vs Q E hr h => ?_)
  · obtain ⟨b, l, G, n, rfl, _⟩ := h
    rfl
  obtain ⟨b, l, G, n, rfl, n0, n1, wd, q⟩ := h
  refine ⟨_, (Evl.pss_cut (ps_if (PW.pt (pw_and (pt_cmpR op_eq (pe_ix (ix_list_K (K := K) (by rfl)) (pv 0) pe_int (fun _ _ => rfl)) pe_int (nomark _)) (pw_and1 (pt_cmpR op_lt (pe_ix (ix_list_K (K := K) (by rfl)) (pv 0) pe_int (fun _ _ => rfl)) (pe_callB (call_len_seq_K (K := K) (by rfl)) (by rfl) T.b_len PySem.boot_len (pa_cons (pe_ix (ix_list_K (K := K) (by rfl)) (pv 0) pe_int (fun _ _ => rfl)) pa_nil)) (nomark _))))) (pss_cons (ps_set (i := 2) sc_l_draw.nd rfl (Or.inl rfl) (pe_ix (ix_list_K (K := K) (by rfl)) (pe_ix (ix_list_K (K := K) (by rfl)) (pv 0) pe_int (fun _ _ => rfl)) (pe_ix (ix_list_K (K := K) (by rfl)) (pv 0) pe_int (fun _ _ => rfl)) (fun _ _ => rfl)))
      (pss_cons (ps_asg (pe_op op_add (pe_ix (ix_list_K (K := K) (by rfl)) (pv 0) pe_int (fun _ _ => rfl)) pe_int) (pg_sub (pv 0) pe_int set_list))
      (pss_one (ps_if (pt_cmpR op_ge (pv 2) (pe_op op_pow pe_int pe_int) (nomark _)) (pss_one (ps_asg (pv 2) (pg_sub (pv 0) pe_int set_list))) (pss_one (ps_asg (pe_op op_mod (pe_callTy call_int1 (by rfl) T.b_int (by decide +kernel) (pa_cons (pe_op op_add (pe_op op_add (pe_op op_mul (pe_ix (ix_list_K (K := K) (by rfl)) (pv 0) pe_int (fun _ _ => rfl)) pe_int) (pe_op op_mul (pe_op op_mod (pe_callTy call_int1 (by rfl) T.b_int (by decide +kernel) (pa_cons (pv 2) pa_nil)) pe_int) pe_int)) (pe_ix (ix_list_K (K := K) (by rfl)) (pv 0) pe_int (fun _ _ => rfl))) pa_nil)) pe_int) (pg_sub (pv 0) pe_int set_list))))))) pss_nil)
    (pss_cons (ps_if (pt_cmpR op_gt (pe_ix (ix_list_K (K := K) (by rfl)) (pv 0) pe_int (fun _ _ => rfl)) pe_int (nomark _)) (pss_cons (ps_set (i := 3) sc_l_draw.nd rfl (Or.inl rfl) (pe_op op_mod (pe_callTy call_int1 (by rfl) T.b_int (by decide +kernel) (pa_cons (pe_ix (ix_list_K (K := K) (by rfl)) (pv 0) pe_int (fun _ _ => rfl)) pa_nil)) (pv 1)))
      (pss_cons (ps_asg (pe_op op_fdiv (pe_ix (ix_list_K (K := K) (by rfl)) (pv 0) pe_int (fun _ _ => rfl)) (pv 1)) (pg_sub (pv 0) pe_int set_list))
      (pss_one (ps_ret (pv 3))))) pss_nil)
    (pss_cons (ps_set (i := 4) sc_l_draw.nd rfl (Or.inl rfl) (pe_ix (ix_list_K (K := K) (by rfl)) (pv 0) pe_int (fun _ _ => rfl)))
    (pss_cons (ps_asg (pe_op op_mod (pe_callTy call_int1 (by rfl) T.b_int (by decide +kernel) (pa_cons (pe_op op_add (pe_op op_add (pe_op op_mul (pv 4) (pv 4)) (pe_op op_mul (pv 4) pe_int)) pe_int) pa_nil)) pe_int) (pg_sub (pv 0) pe_int set_list))
    (pss_one (ps_ret (pe_op op_mod (pe_callTy call_int1 (by rfl) T.b_int (by decide +kernel) (pa_cons (pe_op op_add (pe_op op_fdiv (pe_ix (ix_list_K (K := K) (by rfl)) (pv 0) pe_int (fun _ _ => rfl)) pe_int) (pe_op op_mul (pe_op op_mod (pe_callTy call_int1 (by rfl) T.b_int (by decide +kernel) (pa_cons (pe_ix (ix_list_K (K := K) (by rfl)) (pv 0) pe_int (fun _ _ => rfl)) pa_nil)) pe_int) pe_int)) pa_nil)) (pv 1)))))))), ?_⟩
  obtain ⟨ns, i, c, s, hb, hl, h63, i0, i1, c0, s0, s1⟩ := id wd.bag
  have lb : l ≠ b := ne_of hl hb (by intro z; cases ns with | nil => cases z | cons x r => cases r with | nil => cases z | cons => cases z)
  have B := SqL.of (K := K) hb
  refine ⟨fun σ' H' => ∃ v, σ' = [some (.ref b), some (.int n), v, none, none] ∧ Wd b l G H', ?_, ?_⟩
  · refine ⟨_, rfl, _, _, _, _, rfl, rfl, B, rfl, rfl, _, rfl, ?_⟩
    refine ite2 (fun _ => ?_) (fun _ => ?_)
    · refine ⟨_, rfl, _, _, _, _, rfl, rfl, B, rfl, _, rfl, _, _, _, _, rfl, rfl, B, rfl, _, _, rfl, .inl (SqL.of hl), _, _, rfl, rfl, _, rfl, ?_⟩
      refine ite2 (fun c1 => ?_) (fun _ => ?_)
      · have c2 := of_decide_eq_true c1
        rw [List.length_map] at c2
        have c3 : i.toNat < ns.length := by omega
        refine ⟨_, rfl, _, _, _, _, rfl, rfl, B, rfl, _, rfl, _, _, _, _, rfl, rfl, B, rfl, _, _, _, .int ns[i.toNat], rfl, rfl, SqL.of hl, at_nn i0 (by rw [List.getElem?_map, List.getElem?_eq_getElem c3]; rfl), ?_⟩
        refine ⟨_, rfl, _, _, _, _, rfl, rfl, B, rfl, _, _, rfl, rfl, _, rfl, _, _, _, 1, rfl, rfl, hb, rfl, ?_⟩
        refine ⟨_, rfl, _, _, rfl, rfl, ⟨by decide, by decide, by decide⟩, _, _, rfl, rfl, _, rfl, ?_⟩
        refine ite2 (fun g1 => ?_) (fun _ => ?_)
        · have g2 := of_decide_eq_true g1
          refine ⟨_, rfl, _, rfl, _, _, _, 2, rfl, rfl, upd_same, rfl, ?_⟩
          refine ⟨_, rfl, ?_⟩
          rw [upd_upd]
          exact wd.bagged ⟨ns, i + 1, _, s, upd_same, by rw [upd_ne lb]; exact hl, h63, by omega, by omega, Int.le_trans (by decide) g2, s0, s1⟩
        · refine ⟨_, rfl, _, _, _, _, rfl, rfl, SqL.of upd_same, rfl, _, _, rfl, rfl, .inr ⟨by decide, by decide⟩, _, rfl, .inl ⟨_, rfl, _, _, rfl, rfl, p31, _, _, rfl, rfl, .inr ⟨by decide, by decide⟩, _, _, rfl, rfl, _, rfl, _, _, _, _, rfl, rfl, SqL.of upd_same, rfl, _, _, rfl, rfl, .inl ⟨_, rfl, _, _, rfl, rfl, p31, ?_⟩⟩⟩
          refine ⟨_, rfl, _, _, _, 3, rfl, rfl, upd_same, rfl, ?_⟩
          refine ⟨_, rfl, ?_⟩
          rw [upd_upd]
          exact wd.bagged ⟨ns, i + 1, c, _, upd_same, by rw [upd_ne lb]; exact hl, h63, by omega, by omega, c0, Int.emod_nonneg _ (by decide), Int.emod_lt_of_pos _ (by decide)⟩
      · exact ⟨_, rfl, wd⟩
    · exact ⟨_, rfl, wd⟩
  · rintro σ' H' ⟨v, rfl, wd⟩
    obtain ⟨ns, i, c, s, hb, hl, h63, i0, i1, c0, s0, s1⟩ := id wd.bag
    have lb : l ≠ b := ne_of hl hb (by intro z; cases ns with | nil => cases z | cons x r => cases r with | nil => cases z | cons => cases z)
    have B := SqL.of (K := K) hb
    refine ⟨_, rfl, _, _, _, _, rfl, rfl, B, rfl, _, _, rfl, rfl, _, rfl, ?_⟩
    refine ite2 (fun g1 => ?_) (fun _ => ?_)
    · refine ⟨_, rfl, _, _, _, _, rfl, rfl, B, rfl, .inl ⟨_, rfl, _, rfl, _, _, rfl, rfl, n0, ?_⟩⟩
      refine ⟨_, rfl, _, _, _, _, rfl, rfl, B, rfl, _, rfl, _, _, rfl, rfl, ⟨n0, n1⟩, _, rfl, _, _, _, 2, rfl, rfl, hb, rfl, ?_⟩
      refine ⟨_, rfl, ?_⟩
      exact q _ _ (Int.emod_nonneg _ (by omega)) (Int.emod_lt_of_pos _ n0) (wd.bagged ⟨ns, i, c / n, s, upd_same, by rw [upd_ne lb]; exact hl, h63, i0, i1, Int.ediv_nonneg c0 (by omega), s0, s1⟩)
    · refine ⟨_, rfl, _, _, _, _, rfl, rfl, B, rfl, ?_⟩
      refine ⟨_, rfl, _, rfl, _, _, rfl, rfl, .inl ⟨by omega, by omega⟩, _, rfl, _, _, rfl, rfl, .inr ⟨by decide, by decide⟩, _, _, rfl, rfl, _, _, rfl, rfl, .inl ⟨_, rfl, _, _, rfl, rfl, p31, ?_⟩⟩
      refine ⟨_, rfl, _, _, _, 3, rfl, rfl, hb, rfl, ?_⟩
      refine ⟨_, rfl, _, _, _, _, rfl, rfl, SqL.of upd_same, rfl, _, _, rfl, rfl, ⟨by decide, by decide⟩, _, rfl, _, _, _, _, rfl, rfl, SqL.of upd_same, rfl, .inl ⟨_, rfl, _, _, rfl, rfl, p8117, _, _, rfl, rfl, .inr ⟨by decide, by decide⟩, _, _, rfl, rfl, .inl ⟨_, rfl, _, rfl, _, _, rfl, rfl, n0, ?_⟩⟩⟩
      exact q _ _ (Int.emod_nonneg _ (by omega)) (Int.emod_lt_of_pos _ n0) (wd.bagged ⟨ns, i, c, _, upd_same, by rw [upd_ne lb]; exact hl, h63, i0, i1, c0, Int.emod_nonneg _ (by decide), Int.emod_lt_of_pos _ (by decide)⟩)
end
end Bh

set_option Elab.async false
set_option linter.all false
set_option maxRecDepth 100000
set_option maxHeartbeats 1000000
namespace Bh
open PySem PySem.Spec PyProof.Rows L2
def spWord : Sp := fun vs H Q _ => ∃ (w z : Str), vs = [.str w, .str z] ∧ w.length ≤ 100000 ∧ ∀ H', Same H H' → Q (.bl (wordB w z)) H'
def spNm (z : Str) : Sp := fun vs H Q _ => ∃ (w : Str), vs = [.str w] ∧ w.length ≤ 100000 ∧ ∀ H', Same H H' → Q (.bl (wordB w z)) H'
/-- the ends that mark a kind -/
def ends3 : List Str := [".0", ".1", ".2"]
def kindB (v : Str) : Bool := if (ends3.any fun p => Txt.endswith v p) = true then wordB (cutS v none (some (-2))) letters else wordB v letters
def spIsKind : Sp := fun vs H Q _ => ∃ (v : Str), vs = [.str v] ∧ v.length ≤ 100000 ∧ ∀ H', Same H H' → Q (.bl (kindB v)) H'
section
variable {P : Program} {w : World} {K : PySem.W.Frag} {mg : Str → Option Value} {base : Heap}
theorem ok_word (T : Top K mg) : FnOk P w K mg base CX0 1 T.a_is_word T.fd_is_word ["value", "characters"] spWord := by
  refine T.d_is_word.F.ok sc_is_word (fun vs H Q E h => ?_) (fun cdv A outer s H vs Q E hr h => ?_)
  · obtain ⟨v, z, rfl, _⟩ := h
    rfl
  obtain ⟨v, z, rfl, hl, q⟩ := h
  refine ⟨_, (pss_cons (ps_if (pt_not (pt_val (pe_callB (call_isi_K (K := K) (by rfl)) (by rfl) T.b_isinstance (by decide +kernel) (pa_cons (pv 0) (pa_cons (pe_tyN "str" (by rfl) T.b_str (by decide +kernel)) pa_nil))))) (pss_one (ps_ret pe_bl)) pss_nil)
    (pss_one (ps_ret (pe_and (pe_chain op_le op_le pe_int (pe_callB call_len_str (by rfl) T.b_len PySem.boot_len (pa_cons (pv 0) pa_nil)) (pe_gI rfl T.g_LONGEST)) (pe_one (pe_callB (cr_all_K (K := K) (by rfl) rfl) (by rfl) T.b_all (by decide +kernel) (pa_cons (pe_lc (own := [("character", 2)]) rfl sc_is_word.nd (pi_str (pv 0)) (blkOk_by (own := [("character", 2)]) (N := ["value", "characters", "character"]) (sc := defScope s_is_word) (by decide +kernel)) (fun _ _ _ _ _ => by exact (pg_name (i := 2) sc_is_word.nd rfl (Or.inl rfl))) (fun _ _ _ _ _ => by exact pts_nil) (fun _ _ _ _ _ => by exact (pe_cmpR op_in_sign (pv 2) (pv 1) (by rfl)))) pa_nil))))))), ?_⟩
  refine ⟨_, rfl, _, _, _, _, true, rfl, .ty _, .base (.str v), kit_ty (by decide +kernel), _, rfl, ?_⟩
  refine iteF ?_
  refine ⟨_, rfl, v, rfl, le_line hl, _, _, rfl, rfl, _, rfl, ?_⟩
  have no : ¬ (1 ≤ v.length ∧ v.length ≤ 8) → Q (.bl false) H := fun z => by
    have k := q H (Same.refl _)
    unfold wordB at k
    rw [decide_eq_false z] at k
    exact k
  refine ite3 (fun h1 => ?_) (fun h1 => ⟨false, rfl, iteF (no (by omega))⟩)
  refine ⟨_, _, rfl, rfl, _, rfl, ite3 (fun h2 => ?_) (fun h2 => no (by omega))⟩
  refine ⟨_, rfl, v, rfl, fun D nD => ?_⟩
  refine lc_it walk_str (fun i H' => Same H H' ∧ H' D = some (.lst ((((TL.tl v).map fun c => decide (c ∈ TL.tl z)).take i).map V.bl))) ⟨same_new nD, upd_same⟩ (fun _ _ _ _ => True.intro) ?_ ?_
  · rintro i y H' H'' hi ⟨s1, hDl⟩ ⟨rfl, c, ec, rfl⟩
    have ec' : (TL.tl v)[i]? = some c := by rw [← ec]; exact Array.getElem?_toList
    refine ⟨rfl, _, rfl, _, rfl, c, z, rfl, rfl, _, hDl, ?_, same_mut s1 nD, ?_⟩
    · rw [List.length_map, List.length_take]
      have : i < v.length := hi
      exact lt_line (by omega)
    · rw [upd_same, List.take_add_one, List.getElem?_map, ec', List.map_append]
      rfl
  · rintro H' ⟨s1, hDl⟩
    rw [List.take_of_length_le (by rw [List.length_map, ← TL.len_tl]; exact Nat.le_refl _)] at hDl
    refine ⟨D, _, rfl, SqL.of hDl, ?_⟩
    have k := q _ s1
    unfold wordB at k
    rw [decide_eq_true (show 1 ≤ v.length ∧ v.length ≤ 8 by omega)] at k
    rw [List.all_map]
    exact k
theorem ok_name (T : Top K mg) : FnOk P w K mg base CX0 2 T.a_is_name T.fd_is_name ["value"] (spNm letters) := by
  have G_is_word := ok_word (P := P) (w := w) (base := base) T
  refine T.d_is_name.F.ok sc_is_name (fun vs H Q E h => ?_) (fun cdv A outer s H vs Q E hr h => ?_)
  · obtain ⟨v, rfl, _⟩ := h
    rfl
  obtain ⟨v, rfl, hl, q⟩ := h
  refine ⟨_, (pss_one (ps_ret (pe_call G_is_word (hr.mono (by decide)) (by rfl) T.d_is_word.g T.d_is_word.kp T.d_is_word.b .nil pass0 (pa_cons (pv 0) (pa_cons (pe_gS rfl T.g_LETTERS) pa_nil))))), ?_⟩
  exact ⟨_, rfl, v, letters, rfl, hl, q⟩
theorem ok_iskind (T : Top K mg) : FnOk P w K mg base CX0 3 T.a_is_kind T.fd_is_kind ["value"] spIsKind := by
  have G_is_name := ok_name (P := P) (w := w) (base := base) T
  refine T.d_is_kind.F.ok sc_is_kind (fun vs H Q E h => ?_) (fun cdv A outer s H vs Q E hr h => ?_)
  · obtain ⟨v, rfl, _⟩ := h
    rfl
  obtain ⟨v, rfl, hl, q⟩ := h
  refine ⟨_, (pss_cons (ps_if (PW.pt (pw_and (pt_val (pe_callB (call_isi_K (K := K) (by rfl)) (by rfl) T.b_isinstance (by decide +kernel) (pa_cons (pv 0) (pa_cons (pe_tyN "str" (by rfl) T.b_str (by decide +kernel)) pa_nil)))) (pw_and1 (pt_val (pe_m1 PySem.F.slot_str_endswith PySem.F.type_str_endswith (mt_endsT_K (K := K) (by rfl)) (pv 0) (pe_gR rfl T.g_NUMBERS)))))) (pss_one (ps_ret (pe_call G_is_name (hr.mono (by decide)) (by rfl) T.d_is_name.g T.d_is_name.kp T.d_is_name.b .nil pass0 (pa_cons (pe_slice sl_str (pv 0) po_none (po_some (pe_un un_neg pe_int))) pa_nil)))) pss_nil)
    (pss_one (ps_ret (pe_call G_is_name (hr.mono (by decide)) (by rfl) T.d_is_name.g T.d_is_name.kp T.d_is_name.b .nil pass0 (pa_cons (pv 0) pa_nil))))), ?_⟩
  refine ⟨_, rfl, _, _, _, _, true, rfl, .ty _, .base (.str v), kit_ty (by decide +kernel), _, rfl, ?_⟩
  refine ⟨_, rfl, ⟨v, rfl⟩, v, _, ends3, rfl, rfl, T.k_NUMBERS _, _, rfl, iteB (fun e => ?_) (fun e => ?_)⟩
  · have := cutS_length v none (some (-2))
    refine ⟨_, rfl, 2, rfl, (-2 : Int), rfl, v, rfl, le_line hl, _, rfl, by omega, fun H' s => ?_⟩
    have k := q H' s
    unfold kindB at k
    rw [if_pos e] at k
    exact k
  · refine ⟨_, rfl, v, rfl, hl, fun H' s => ?_⟩
    have k := q H' s
    unfold kindB at k
    rw [if_neg (by rw [e]; decide)] at k
    exact k
end
end Bh

set_option Elab.async false
set_option linter.all false
set_option maxRecDepth 100000
set_option maxHeartbeats 1000000
set_option autoImplicit false
namespace Bh
open PySem PySem.Spec PyProof.Rows L2
/-- a for over a list or a tuple in a name -/
theorem for_sq {K : PySem.W.Frag} {j : Nat} {a : Addr} {xs : List V} {g : TG} {tb : TS} {D : Ends} {σ : L2.St} {H0 H : Hp} (hv : ∀ Q : VK, Q (.ref a) H → tVar j σ H Q) (hS : SqL K H0 a xs ∨ SqT K H0 a xs) (h00 : Same H0 H) (Pv : Nat → L2.St → Hp → Prop) (h0 : Pv 0 σ H) (hG : ∀ i σ H', i ≤ xs.length → Pv i σ H' → Same H0 H')
    (hs : ∀ i x σ H', i < xs.length → Pv i σ H' → xs[i]? = some x → g x σ H' fun σ2 H2 => tb { D with nx := Pv (i + 1), ct := Pv (i + 1), bk := D.nx } σ2 H2) (hd : ∀ σ H', Pv xs.length σ H' → D.nx σ H') : tFor (iSeq K (tVar j)) g tb D σ H := by
  rcases hS with hS | hS
  · exact .inl (hv _ ⟨a, rfl, ⟨_, h00.seq hS⟩, for_it walk_list Pv h0 (fun i σ H' l p => (hG i σ H' l p).seq hS) (fun i x σ H' H'' hi p y => by
      obtain ⟨rfl, e⟩ := y
      exact hs i x σ _ hi p e) hd⟩)
  · exact .inr (hv _ ⟨a, rfl, ⟨_, Same.tup h00 hS⟩, for_it walk_tup Pv h0 (fun i σ H' l p => Same.tup (hG i σ H' l p) hS) (fun i x σ H' H'' hi p y => by
      obtain ⟨rfl, e⟩ := y
      exact hs i x σ _ hi p e) hd⟩)
/-! ### cells and ties as the two dicts hold them -/
abbrev Cl := Str × Str
abbrev Ti := Str × Str × Str
def eC (c : Cl) : L2.Key × V := (.inr c.1, .str c.2)
def kT (t : Ti) : List L2.Key := [.inr t.1, .inr t.2.1, .inr t.2.2]
def eT (t : Ti) : List L2.Key × V := (kT t, .bl true)
def dCell (c : Cl) : PyData := .tuple [.str c.1, .str c.2]
def dTi (t : Ti) : PyData := .tuple [.str t.1, .str t.2.1, .str t.2.2]
theorem kT_inj {a b : Ti} (h : kT a = kT b) : a = b := by
  obtain ⟨a1, a2, a3⟩ := a
  obtain ⟨b1, b2, b3⟩ := b
  have h : ([.inr a1, .inr a2, .inr a3] : List L2.Key) = [.inr b1, .inr b2, .inr b3] := h
  injection h with h1 h
  injection h with h2 h
  injection h with h3 _
  injection h1 with h1
  injection h2 with h2
  injection h3 with h3
  rw [h1, h2, h3]
def kindAt (cs : List Cl) (n : Str) : Option Str := (cs.find? fun c => decide (c.1 = n)).map (·.2)
theorem val_cells (n : Str) : ∀ cs : List Cl, valV (cs.map eC) (.inr n) = (kindAt cs n).map V.str
  | [] => rfl
  | c :: cs => by
    have ih := val_cells n cs
    rw [List.map_cons]
    by_cases h : c.1 = n
    · rw [valV_pos (by show (Sum.inr c.1 : L2.Key) = Sum.inr n; rw [h])]
      unfold kindAt
      rw [List.find?_cons, decide_eq_true h]
      rfl
    · rw [valV_neg (fun z => h (by have z : (Sum.inr c.1 : L2.Key) = Sum.inr n := z; injection z)), ih]
      unfold kindAt
      rw [List.find?_cons, decide_eq_false h]
theorem kindAt_some {n : Str} {cs : List Cl} (h : n ∈ cs.map (·.1)) : ∃ k, kindAt cs n = some k ∧ (n, k) ∈ cs := by
  obtain ⟨c, hc, rfl⟩ := List.mem_map.mp h
  have : (cs.find? fun d => decide (d.1 = c.1)).isSome = true := List.find?_isSome.mpr ⟨c, hc, by simp⟩
  obtain ⟨d, hd⟩ := Option.isSome_iff_exists.mp this
  have e0 := List.find?_some (p := fun d : Cl => decide (d.1 = c.1)) hd
  have e : d.1 = c.1 := of_decide_eq_true e0
  refine ⟨d.2, by unfold kindAt; rw [hd]; rfl, ?_⟩
  rw [← e]
  exact List.mem_of_find?_eq_some hd
theorem kindAt_none {n : Str} {cs : List Cl} (h : n ∉ cs.map (·.1)) : kindAt cs n = none := by
  unfold kindAt
  rw [Option.map_eq_none_iff, List.find?_eq_none]
  intro c hc z
  exact h (List.mem_map.mpr ⟨c, hc, of_decide_eq_true z⟩)
theorem kindAt_isSome {n : Str} {cs : List Cl} : (kindAt cs n).isSome = decide (n ∈ cs.map (·.1)) := by
  by_cases h : n ∈ cs.map (·.1)
  · obtain ⟨k, e, _⟩ := kindAt_some h
    rw [e, decide_eq_true h]
    rfl
  · rw [kindAt_none h, decide_eq_false h]
    rfl
theorem cells_in {n : Str} {cs : List Cl} : (valV (cs.map eC) (.inr n)).isSome = decide (n ∈ cs.map (·.1)) := by
  rw [val_cells, Option.isSome_map, kindAt_isSome]
theorem val_ties (t : Ti) : ∀ ts : List Ti, valV (ts.map eT) (kT t) = if t ∈ ts then some (.bl true) else none
  | [] => rfl
  | c :: ts => by
    have ih := val_ties t ts
    rw [List.map_cons]
    by_cases h : c = t
    · rw [valV_pos (by rw [h]; rfl), if_pos (by rw [h]; exact List.mem_cons_self)]
      rfl
    · rw [valV_neg (fun z => h (kT_inj z)), ih]
      by_cases m : t ∈ ts
      · rw [if_pos m, if_pos (List.mem_cons_of_mem _ m)]
      · rw [if_neg m, if_neg (fun z => (List.mem_cons.mp z).elim (fun e => h e.symm) m)]
theorem ties_in {t : Ti} {ts : List Ti} : (valV (ts.map eT) (kT t)).isSome = decide (t ∈ ts) := by
  rw [val_ties]
  by_cases m : t ∈ ts
  · rw [if_pos m, decide_eq_true m]
    rfl
  · rw [if_neg m, decide_eq_false m]
    rfl
theorem put_cell {cs : List Cl} {n k : Str} (h : n ∉ cs.map (·.1)) : putK (cs.map eC) (.inr n) (.str k) = (cs ++ [(n, k)]).map eC := by
  rw [putK_new _ (by rw [val_cells, kindAt_none h]; rfl), List.map_append]
  rfl
theorem put_tie {ts : List Ti} {t : Ti} (h : t ∉ ts) : putK (ts.map eT) (kT t) (.bl true) = (ts ++ [t]).map eT := by
  rw [putK_new _ (by rw [val_ties, if_neg h]), List.map_append]
  rfl
/-- one cell's kind -/
def setKind (cs : List Cl) (n k : Str) : List Cl := cs.map fun c => if c.1 = n then (c.1, k) else c
theorem put_kind {cs : List Cl} {n k : Str} (h : n ∈ cs.map (·.1)) : putK (cs.map eC) (.inr n) (.str k) = (setKind cs n k).map eC := by
  unfold putK
  rw [valV_any, cells_in, decide_eq_true h, if_pos rfl]
  unfold setKind
  rw [List.map_map, List.map_map]
  refine List.map_congr_left fun c _ => ?_
  show (if (eC c).1 = Sum.inr n then ((eC c).1, V.str k) else eC c) = eC (if c.1 = n then (c.1, k) else c)
  by_cases e : c.1 = n
  · rw [if_pos e, if_pos (by show (Sum.inr c.1 : L2.Key) = _; rw [e])]
    rfl
  · rw [if_neg e, if_neg (fun z => e (by have z : (Sum.inr c.1 : L2.Key) = Sum.inr n := z; injection z))]
theorem drop_cell {cs : List Cl} {n : Str} : dropK (cs.map eC) (.inr n) = (cs.filter fun c => decide (c.1 ≠ n)).map eC := by
  unfold dropK
  rw [List.filter_map]
  congr 1
  refine List.filter_congr fun c _ => ?_
  show decide ((Sum.inr c.1 : L2.Key) ≠ Sum.inr n) = decide (c.1 ≠ n)
  by_cases e : c.1 = n
  · rw [e]
    simp
  · rw [decide_eq_true (show c.1 ≠ n from e), decide_eq_true (show (Sum.inr c.1 : L2.Key) ≠ Sum.inr n from fun z => e (by injection z))]
theorem drop_tie {ts : List Ti} {t : Ti} : dropK (ts.map eT) (kT t) = (ts.filter fun c => decide (c ≠ t)).map eT := by
  unfold dropK
  rw [List.filter_map]
  congr 1
  refine List.filter_congr fun c _ => ?_
  show decide (kT c ≠ kT t) = decide (c ≠ t)
  by_cases e : c = t
  · rw [e]
    simp
  · rw [decide_eq_true (show c ≠ t from e), decide_eq_true (show kT c ≠ kT t from fun z => e (kT_inj z))]
theorem inCells {neg : Bool} {H : Hp} {d : Addr} {cs : List Cl} {n : Str} {Q : VK} (h : H d = some (.dK (cs.map eC))) (q : Q (.bl (decide (n ∈ cs.map (·.1)) != neg)) H) : rInD neg (.str n) (.ref d) H Q :=
  ⟨d, _, rfl, DGet.k (k := .inr n) h, by rw [cells_in]; exact q⟩
theorem inTies {neg : Bool} {H : Hp} {d p : Addr} {ts : List Ti} {t : Ti} {Q : VK} (h : H d = some (.dT (ts.map eT))) (hp : H p = some (.tup [.str t.1, .str t.2.1, .str t.2.2])) (q : Q (.bl (decide (t ∈ ts) != neg)) H) : rInD neg (.ref p) (.ref d) H Q :=
  ⟨d, _, rfl, DGet.t (k := kT t) h hp, by rw [ties_in]; exact q⟩
end Bh

set_option Elab.async false
set_option linter.all false
set_option maxRecDepth 100000
set_option maxHeartbeats 1000000
set_option autoImplicit false
namespace Bh
open PySem PySem.Spec PyProof.Rows L2
/-- a name of a cell or a tie -/
def NmOk (n : Str) : Prop := wordB n letters = true ∧ n.length ≤ 1000
def KdOk (k : Str) : Prop := kindB k = true ∧ k.length ≤ 1000
structure CsOk (cs : List Cl) : Prop where
  nd : (cs.map (·.1)).Nodup
  nm : ∀ c ∈ cs, NmOk c.1 ∧ KdOk c.2
  few : cs.length ≤ 1000
structure TsOk (cs : List Cl) (ts : List Ti) : Prop where
  nd : ts.Nodup
  nm : ∀ t ∈ ts, NmOk t.1 ∧ t.2.1 ∈ cs.map (·.1) ∧ t.2.2 ∈ cs.map (·.1)
  few : ts.length ≤ 1000
def spChkCell : Sp := fun vs H Q _ => ∃ (d : Addr) (cs : List Cl) (n k : Str), vs = [.ref d, .str n, .str k] ∧ H d = some (.dK (cs.map eC)) ∧ NmOk n ∧ KdOk k ∧ n ∉ cs.map (·.1) ∧ ∀ H', Same H H' → Q .non H'
def spChkTie : Sp := fun vs H Q _ => ∃ (d e : Addr) (cs : List Cl) (ts : List Ti) (t : Ti), vs = [.ref d, .ref e, .str t.1, .str t.2.1, .str t.2.2] ∧ H d = some (.dK (cs.map eC)) ∧ H e = some (.dT (ts.map eT)) ∧ NmOk t.1 ∧ t.2.1 ∈ cs.map (·.1) ∧ t.2.2 ∈ cs.map (·.1) ∧ t ∉ ts ∧ ∀ H', Same H H' → Q .non H'
def spKindsOf (K : PySem.W.Frag) : Sp := fun vs H Q _ => ∃ (v : V) (cs : List Cl), vs = [v] ∧ DpS K H v (cs.map dCell) ∧ CsOk cs ∧ ∀ (p : Addr) (H' : Hp), H p = none → Same H H' → H' p = some (.dK (cs.map eC)) → Q (.ref p) H'
def spTiesBetween (K : PySem.W.Frag) : Sp := fun vs H Q _ => ∃ (d : Addr) (v : V) (cs : List Cl) (ts : List Ti), vs = [.ref d, v] ∧ H d = some (.dK (cs.map eC)) ∧ DpS K H v (ts.map dTi) ∧ TsOk cs ts ∧ ∀ (p : Addr) (H' : Hp), H p = none → Same H H' → H' p = some (.dT (ts.map eT)) → Q (.ref p) H'
theorem dp_cell {K : PySem.W.Frag} {H : Hp} {xs : List V} {cs : List Cl} {i : Nat} {x : V} (h : DpAll K H xs (cs.map dCell)) (e : xs[i]? = some x) : ∃ (c : Cl) (a : Addr), cs[i]? = some c ∧ x = .ref a ∧ SqT K H a [.str c.1, .str c.2] := by
  obtain ⟨d, hd, hx⟩ := DpAll.get h e
  rw [List.getElem?_map] at hd
  obtain ⟨c, hc, rfl⟩ := Option.map_eq_some_iff.mp hd
  obtain ⟨a, ys, rfl, ht, hy⟩ := dp_tup hx
  exact ⟨c, a, hc, rfl, by rw [dp_strs (zs := [c.1, c.2]) hy] at ht; exact ht⟩
theorem dp_ti {K : PySem.W.Frag} {H : Hp} {xs : List V} {ts : List Ti} {i : Nat} {x : V} (h : DpAll K H xs (ts.map dTi)) (e : xs[i]? = some x) : ∃ (t : Ti) (a : Addr), ts[i]? = some t ∧ x = .ref a ∧ SqT K H a [.str t.1, .str t.2.1, .str t.2.2] := by
  obtain ⟨d, hd, hx⟩ := DpAll.get h e
  rw [List.getElem?_map] at hd
  obtain ⟨c, hc, rfl⟩ := Option.map_eq_some_iff.mp hd
  obtain ⟨a, ys, rfl, ht, hy⟩ := dp_tup hx
  exact ⟨c, a, hc, rfl, by rw [dp_strs (zs := [c.1, c.2.1, c.2.2]) hy] at ht; exact ht⟩
theorem take_notMem {α : Type} {xs : List α} {i : Nat} {x : α} (nd : xs.Nodup) (e : xs[i]? = some x) : x ∉ xs.take i := fun m => by
  obtain ⟨j, hj⟩ := List.mem_iff_getElem?.mp m
  obtain ⟨lt, _⟩ := List.getElem?_eq_some_iff.mp hj
  rw [List.length_take] at lt
  rw [List.getElem?_take_of_lt (by omega)] at hj
  obtain ⟨li, _⟩ := List.getElem?_eq_some_iff.mp e
  have := (List.getElem?_inj (by omega) nd).mp (hj.trans e.symm)
  omega
theorem take_next {α : Type} {xs : List α} {i : Nat} {x : α} (e : xs[i]? = some x) : xs.take (i + 1) = xs.take i ++ [x] := by
  rw [List.take_add_one, e]
  rfl
section
variable {P : Program} {w : World} {K : PySem.W.Frag} {mg : Str → Option Value} {base : Heap}
theorem ok_chkcell (T : Top K mg) : FnOk P w K mg base CX0 4 T.a_check_cell T.fd_check_cell ["kinds", "name", "kind"] spChkCell := by
  have G_is_name := ok_name (P := P) (w := w) (base := base) T
  have G_is_kind := ok_iskind (P := P) (w := w) (base := base) T
  refine T.d_check_cell.F.ok sc_check_cell (fun vs H Q E h => ?_) (fun cdv A outer s H vs Q E hr h => ?_)
  · obtain ⟨d, cs, n, k, rfl, _⟩ := h
    rfl
  obtain ⟨d, cs, n, k, rfl, hd, ⟨n1, n2⟩, ⟨k1, k2⟩, nin, q⟩ := h
  refine ⟨_, (pss_cons (ps_if (pt_not (pt_val (pe_call G_is_name (hr.mono (by decide)) (by rfl) T.d_is_name.g T.d_is_name.kp T.d_is_name.b .nil pass0 (pa_cons (pv 1) pa_nil)))) (pss_one ps_dead) pss_nil)
    (pss_cons (ps_if (pt_cmpR (op_inD (u1 hr)) (pv 1) (pv 0) (by rfl)) (pss_one ps_dead) pss_nil)
    (pss_one (ps_if (pt_not (pt_val (pe_call G_is_kind (hr.mono (by decide)) (by rfl) T.d_is_kind.g T.d_is_kind.kp T.d_is_kind.b .nil pass0 (pa_cons (pv 2) pa_nil)))) (pss_one ps_dead) pss_nil)))), ?_⟩
  refine ⟨_, rfl, n, rfl, by omega, fun H1 s1 => ⟨_, rfl, ?_⟩⟩
  rw [n1]
  refine iteF ?_
  refine ⟨_, rfl, _, rfl, inCells (s1 _ _ hd) ⟨_, rfl, ?_⟩⟩
  rw [decide_eq_false nin]
  refine iteF ?_
  refine ⟨_, rfl, k, rfl, by omega, fun H2 s2 => ⟨_, rfl, ?_⟩⟩
  rw [k1]
  exact iteF (q _ (s1.trans s2))
theorem ok_chktie (T : Top K mg) : FnOk P w K mg base CX0 4 T.a_check_tie T.fd_check_tie ["kinds", "ties", "tie", "source", "target"] spChkTie := by
  have G_is_name := ok_name (P := P) (w := w) (base := base) T
  refine T.d_check_tie.F.ok sc_check_tie (fun vs H Q E h => ?_) (fun cdv A outer s H vs Q E hr h => ?_)
  · obtain ⟨d, e, cs, ts, t, rfl, _⟩ := h
    rfl
  obtain ⟨d, e, cs, ts, ⟨t1, t2, t3⟩, rfl, hd, he, ⟨n1, n2⟩, m1, m2, nin, q⟩ := h
  refine ⟨_, (pss_cons (ps_if (pt_not (pt_val (pe_call G_is_name (hr.mono (by decide)) (by rfl) T.d_is_name.g T.d_is_name.kp T.d_is_name.b .nil pass0 (pa_cons (pv 2) pa_nil)))) (pss_one ps_dead) pss_nil)
    (pss_cons (ps_for PassesOwn.never rfl (pi_tup_K (K := K) (by rfl) (pe_tup (pa_cons (pv 3) (pa_cons (pv 4) pa_nil)))) (pg_name (i := 5) sc_check_tie.nd rfl (Or.inl rfl))
      (pss_one (ps_if (PW.pt (pw_or (pt_not (pt_val (pe_callB (call_isi_K (K := K) (by rfl)) (by rfl) T.b_isinstance (by decide +kernel) (pa_cons (pv 5) (pa_cons (pe_tyN "str" (by rfl) T.b_str (by decide +kernel)) pa_nil))))) (pw_or1 (pt_cmpR (op_notInD (u1 hr)) (pv 5) (pv 0) (by rfl))))) (pss_one ps_dead) pss_nil)))
    (pss_one (ps_if (pt_cmpR (op_inD (u1 hr)) (pe_tup (pa_cons (pv 2) (pa_cons (pv 3) (pa_cons (pv 4) pa_nil)))) (pv 1) (by rfl)) (pss_one ps_dead) pss_nil)))), ?_⟩
  refine ⟨_, rfl, t1, rfl, by have : t1.length ≤ 1000 := n2; omega, fun H1 s1 => ⟨_, rfl, ?_⟩⟩
  have n1 : wordB t1 letters = true := n1
  rw [n1]
  refine iteF ?_
  refine ⟨_, rfl, _, rfl, (by show 2 ≤ sizeLine; decide), fun p np => ?_⟩
  have s2 := s1.trans (same_new (o := .tup [.str t2, .str t3]) np)
  refine ⟨p, rfl, ⟨[.str t2, .str t3], .inl (.inl upd_same)⟩, ?_⟩
  refine for_it walk_tup (fun i σ H' => ∃ v, σ = [some (.ref d), some (.ref e), some (.str t1), some (.str t2), some (.str t3), v] ∧ H' = upd H1 p (.tup [.str t2, .str t3])) ⟨none, rfl, rfl⟩ (fun i σ H' _ ⟨_, _, e⟩ => by rw [e]; exact .inl (.inl upd_same)) ?_ ?_
  · rintro i x σ H' H'' hi ⟨v, rfl, rfl⟩ ⟨rfl, ex⟩
    obtain ⟨z, rfl, hz⟩ : ∃ z, x = V.str z ∧ z ∈ cs.map (·.1) := by
      match i, ex with
      | 0, ex => exact ⟨t2, (Option.some.inj ex).symm, m1⟩
      | 1, ex => exact ⟨t3, (Option.some.inj ex).symm, m2⟩
    refine ⟨_, rfl, _, _, _, _, true, rfl, .ty _, .base (.str z), kit_ty (by decide +kernel), _, rfl, ?_⟩
    refine ⟨_, rfl, _, rfl, inCells (s2 _ _ hd) ⟨_, rfl, ?_⟩⟩
    rw [decide_eq_true hz]
    exact iteF ⟨_, rfl, rfl⟩
  · rintro σ H' ⟨v, rfl, rfl⟩
    refine ⟨_, rfl, _, rfl, _, rfl, (by show 3 ≤ sizeLine; decide), fun p3 np3 => ⟨_, rfl, inTies (t := (t1, t2, t3)) ((s2.trans (same_new np3)) _ _ he) upd_same ⟨_, rfl, ?_⟩⟩⟩
    rw [decide_eq_false nin]
    exact iteF (q _ (s2.trans (same_new np3)))
theorem ok_kindsof (T : Top K mg) : FnOk P w K mg base CX0 5 T.a_kinds_of T.fd_kinds_of ["cells"] (spKindsOf K) := by
  have G_check_cell := ok_chkcell (P := P) (w := w) (base := base) T
  refine T.d_kinds_of.F.ok sc_kinds_of (fun vs H Q E h => ?_) (fun cdv A outer s H vs Q E hr h => ?_)
  · obtain ⟨v, cs, rfl, _⟩ := h
    rfl
  obtain ⟨v, cs, rfl, ⟨a, xs, rfl, hS, hp⟩, ok, q⟩ := h
  refine ⟨_, (pss_cons (ps_set (i := 1) sc_kinds_of.nd rfl (Or.inl rfl) pe_dnewK)
    (pss_cons (ps_for PassesOwn.never rfl (pi_seq_K (K := K) (by rfl) (pv 0)) (pg_tup_K (K := K) (by rfl) (n := 2) (by rfl) (pgs_cons (pg_name (i := 2) sc_kinds_of.nd rfl (Or.inl rfl)) (pgs_cons (pg_name (i := 3) sc_kinds_of.nd rfl (Or.inl rfl)) pgs_nil)))
      (pss_cons (ps_expr (pe_call G_check_cell (hr.mono (by decide)) (by rfl) T.d_check_cell.g T.d_check_cell.kp T.d_check_cell.b .nil pass0 (pa_cons (pv 1) (pa_cons (pv 2) (pa_cons (pv 3) pa_nil)))))
      (pss_one (ps_dput (u1 hr) (pv 1) (pv 2) (pv 3) rfl))))
    (pss_one (ps_ret (pv 1))))), ?_⟩
  refine fun p np => ?_
  have lx := DpAll.length hp
  rw [List.length_map] at lx
  have few := ok.few
  refine for_sq (fun Q h => ⟨_, rfl, h⟩) hS (same_new np) (fun i σ H' => ∃ v2 v3, σ = [some (.ref a), some (.ref p), v2, v3] ∧ Same H H' ∧ H' p = some (.dK ((cs.take i).map eC))) ⟨none, none, rfl, same_new np, upd_same⟩ ?_ ?_ ?_
  · rintro i σ H' _ ⟨_, _, _, s1, _⟩
    exact s1
  · rintro i x σ H' hi ⟨v2, v3, rfl, s1, h1⟩ ex
    obtain ⟨c, ca, hc, rfl, ht⟩ := dp_cell hp ex
    have mc := List.mem_of_getElem? hc
    have fresh : c.1 ∉ (cs.take i).map (·.1) := by
      rw [List.map_take]
      exact take_notMem (i := i) ok.nd (by rw [List.getElem?_map, hc]; rfl)
    refine ⟨ca, _, rfl, Same.tup s1 ht, rfl, ?_⟩
    refine ⟨_, _, rfl, _, _, rfl, rfl, ?_⟩
    refine ⟨_, rfl, _, rfl, _, rfl, p, cs.take i, c.1, c.2, rfl, h1, (ok.nm c mc).1, (ok.nm c mc).2, fresh, fun H2 s2 => ?_⟩
    refine ⟨_, rfl, _, rfl, _, rfl, p, _, rfl, DPut.k (k := .inr c.1) (s2 _ _ h1) (by rw [List.length_map, List.length_take]; exact lt_line (by omega)), _, _, rfl, same_mut (s1.trans s2) np, ?_⟩
    rw [upd_same, take_next hc, put_cell fresh]
  · rintro σ H' ⟨v2, v3, rfl, s1, h1⟩
    rw [lx, List.take_length] at h1
    exact ⟨_, rfl, q p H' np s1 h1⟩
theorem ok_tiesbetween (T : Top K mg) : FnOk P w K mg base CX0 5 T.a_ties_between T.fd_ties_between ["kinds", "ties"] (spTiesBetween K) := by
  have G_check_tie := ok_chktie (P := P) (w := w) (base := base) T
  refine T.d_ties_between.F.ok sc_ties_between (fun vs H Q E h => ?_) (fun cdv A outer s H vs Q E hr h => ?_)
  · obtain ⟨d, v, cs, ts, rfl, _⟩ := h
    rfl
  obtain ⟨d, v, cs, ts, rfl, hd, ⟨a, xs, rfl, hS, hp⟩, ok, q⟩ := h
  refine ⟨_, (pss_cons (ps_set (i := 2) sc_ties_between.nd rfl (Or.inl rfl) pe_dnewT)
    (pss_cons (ps_for PassesOwn.never rfl (pi_seq_K (K := K) (by rfl) (pv 1)) (pg_tup_K (K := K) (by rfl) (n := 3) (by rfl) (pgs_cons (pg_name (i := 3) sc_ties_between.nd rfl (Or.inl rfl)) (pgs_cons (pg_name (i := 4) sc_ties_between.nd rfl (Or.inl rfl)) (pgs_cons (pg_name (i := 5) sc_ties_between.nd rfl (Or.inl rfl)) pgs_nil))))
      (pss_cons (ps_expr (pe_call G_check_tie (hr.mono (by decide)) (by rfl) T.d_check_tie.g T.d_check_tie.kp T.d_check_tie.b .nil pass0 (pa_cons (pv 0) (pa_cons (pv 2) (pa_cons (pv 3) (pa_cons (pv 4) (pa_cons (pv 5) pa_nil)))))))
      (pss_one (ps_dput (u1 hr) (pv 2) (pe_tup (pa_cons (pv 3) (pa_cons (pv 4) (pa_cons (pv 5) pa_nil)))) pe_bl rfl))))
    (pss_one (ps_ret (pv 2))))), ?_⟩
  refine fun p np => ?_
  have lx := DpAll.length hp
  rw [List.length_map] at lx
  have few := ok.few
  refine for_sq (fun Q h => ⟨_, rfl, h⟩) hS (same_new np) (fun i σ H' => ∃ v3 v4 v5, σ = [some (.ref d), some (.ref a), some (.ref p), v3, v4, v5] ∧ Same H H' ∧ H' p = some (.dT ((ts.take i).map eT))) ⟨none, none, none, rfl, same_new np, upd_same⟩ ?_ ?_ ?_
  · rintro i σ H' _ ⟨_, _, _, _, s1, _⟩
    exact s1
  · rintro i x σ H' hi ⟨v3, v4, v5, rfl, s1, h1⟩ ex
    obtain ⟨⟨t1, t2, t3⟩, ta, hc, rfl, ht⟩ := dp_ti hp ex
    have mc := List.mem_of_getElem? hc
    have fresh := take_notMem ok.nd hc
    obtain ⟨m1, m2, m3⟩ := ok.nm _ mc
    refine ⟨ta, _, rfl, Same.tup s1 ht, rfl, ?_⟩
    refine ⟨_, _, rfl, _, _, rfl, _, _, rfl, rfl, ?_⟩
    refine ⟨_, rfl, _, rfl, _, rfl, _, rfl, _, rfl, d, p, cs, ts.take i, (t1, t2, t3), rfl, s1 _ _ hd, h1, m1, m2, m3, fresh, fun H2 s2 => ?_⟩
    refine ⟨_, rfl, _, rfl, _, rfl, _, rfl, (by show 3 ≤ sizeLine; decide), fun b nb => ?_⟩
    have s3 := s2.trans (same_new (o := .tup [.str t1, .str t2, .str t3]) nb)
    refine ⟨p, _, rfl, DPut.t (k := kT (t1, t2, t3)) (s3 _ _ h1) upd_same (by rw [List.length_map, List.length_take]; exact lt_line (by omega)), _, _, _, rfl, same_mut (s1.trans s3) np, ?_⟩
    rw [upd_same, take_next hc, put_tie fresh]
  · rintro σ H' ⟨v3, v4, v5, rfl, s1, h1⟩
    rw [lx, List.take_length] at h1
    exact ⟨_, rfl, q p H' np s1 h1⟩
end
end Bh

set_option Elab.async false
set_option linter.all false
set_option maxRecDepth 100000
namespace Bh
open PySem PySem.Spec PyProof.Rows L2
/-! ### an instance called; a method called by keywords alone -/
section
variable {X : Cx} {CX : CXT} {k : Nat} {C f : Addr} {fd : FuncData} {ps ks : List Str} {sp : Sp} {E : XK} {fe e o : Expr} {es : List Expr} {pos apos : Pos} {tf to : TE} {t tk : TA} {m : Str} {kws : List Keyword} {g : List Value → List Value → List Value} {gV : List V → List V → List V}
/-- x(e, ..), x an instance of C -/
def tCallI (C : Addr) (sp : Sp) (E : XK) (tf : TE) (t : TA) : TE := fun σ H Q => tf σ H fun y H1 => ∃ a, y = V.ref a ∧ t σ H1 fun vs H2 => (∃ dx fs, H2 a = some (.ins C dx fs)) ∧ sp (V.ref a :: vs) H2 Q E
theorem pe_callI (hf : PE X fe tf) (c : StX.CallO X.K C f) (F : FnOk X.prog X.w X.K X.mg X.base CX k f fd ps sp) (hr : Room k X.A) (hb : Binds X.K fd ps []) (hx : Passes CX X E) (ha : PA X (e :: es) t)
    (ht : eval (.Call fe (e :: es) [] pos) X.env = (do callWith pos (← eval fe X.env) [] (backTo pos (starEach (e :: es) X.env)) (backToKw pos (keywordEach [] X.env))) := by rfl)
    (he : starEach (e :: es) X.env = (false, eval e X.env) :: starEach es X.env := by rfl) (hpl : (backTo pos (starEach es X.env)).any (·.1) = false := by rfl) : PE X (.Call fe (e :: es) [] pos) (tCallI C sp E tf t) := by
  refine ⟨fun pins s σ H Q I h => ?_⟩
  refine Call_ (thn (hf.run pins s σ H _ I h) fun u s1 ⟨y, H1, I1, ry, a, ey, q⟩ => ?_) ht
  subst ey
  obtain rfl : u = Value.ref a := ry
  refine StX.callO_with (thn (ha.run pos pins s1 σ H1 _ I1 q) fun us s2 ⟨vs, H2, I2, r, hi, q2⟩ => ?_) he hpl
  obtain ⟨ox, od, J, hd⟩ := StX.insC_at I2 (.inr hi)
  refine ⟨⟨C, ox, od, J, hd⟩, ?_⟩
  have l := F.len _ _ _ _ q2
  have bnd := hb s2 (.ref a :: us) I2.kIn (by rw [List.append_nil, ← l, List.length_cons, List.length_cons, r.length])
  rw [List.append_nil] at bnd
  refine wpAny_call (PySem.W.kco_code I2.kIn J hd c.at_ c.fn c.fi (codeAny_mono (F.run X.A X.stack s2 H2 ⟨.ref a :: us, []⟩ (.ref a :: us) (.ref a :: vs) Q E hr I2.env0 bnd (.cons rfl r) q2) fun res s3 z => ?_))
  cases res with
  | error err => exact hx pins σ H2 s2 err s3 I2 z
  | ok fl =>
    cases fl with
    | ret u => exact I2.after z
    | next => exact z.elim
    | brk => exact z.elim
    | cont => exact z.elim
/-- o.m(k = v, ..) -/
def tMethN (C : Addr) (m : Str) (n : Nat) (sp : Sp) (gV : List V → List V → List V) (E : XK) (to : TE) (tk : TA) : TE := fun σ H Q => to σ H fun x H1 => ∃ a dx fs, x = .ref a ∧ H1 a = some (.ins C dx fs) ∧ fs.lookup m = none ∧ tk σ H1 fun zs H2 => zs.length = n ∧ sp (gV [x] zs) H2 Q E
theorem pe_methN {pl : Sem Bool} (he : PE X o to) (c : Cls X.K C) (hm : Meth X.K C m f) (F : FnOk X.prog X.w X.K X.mg X.base CX k f fd ps sp) (hr : Room k X.A) (hb : KBn X.K fd ps 1 ks g gV) (hx : Passes CX X E) (hkw : PK X kws tk)
    (hall : (backToKw pos (keywordEach kws X.env)).all (·.1.isSome) = true := by rfl) (hks : (backToKw pos (keywordEach kws X.env)).filterMap (·.1) = ks := by rfl)
    (hpl : ((backTo pos (starEach [] X.env)).any (·.1) || (backToKw pos (keywordEach kws X.env)).any (·.1.isNone)) = false := by rfl)
    (ht : eval (.Call (.Attribute o m apos) [] kws pos) X.env = (do
      let ov ← eval o X.env
      standAt apos.atName
      let (f, first) ← holding [ov] (getMethod ov m pl)
      callWith pos f first (backTo pos (starEach [] X.env)) (backToKw pos (keywordEach kws X.env))) := by rfl) :
    PE X (.Call (.Attribute o m apos) [] kws pos) (tMethN C m ks.length sp gV E to tk) := by
  refine ⟨fun pins s σ H Q I h => ?_⟩
  refine PySem.W.methodCall_KW (pl := pl) (thn (he.run pins s σ H _ I h) fun u s1 ⟨x, H1, I1, rx, a, dx, fs, ex, ea, l, q⟩ => ?_) ht
  subst ex
  obtain rfl : u = Value.ref a := rx
  refine getmeth_ok I1 ea c hm l ?_
  refine PySem.W.callWith_KW0 (first := [.ref a]) (h₀ := X.base) I.ok.mod.kin hm.kp hall ?_ hpl
  refine thn (hkw.run pos pins s1 σ H1 _ I1 q) fun ws s2 ⟨zs, H2, I2, rz, l2, q2⟩ => ⟨I2.kIn, ?_⟩
  rw [hks]
  exact run_fnN (us := [.ref a]) (vs := [.ref a]) F hr hb hx I2 (.cons rfl .nil) rz rfl l2 q2
end
end Bh

set_option Elab.async false
set_option linter.all false
set_option maxRecDepth 100000
set_option maxHeartbeats 1000000
set_option autoImplicit false
namespace Bh
open PySem PySem.Spec PyProof.Rows L2
/-- a method of the class at C -/
structure Mt (K : PySem.W.Frag) (C : Addr) (m qual : Str) (st : Stmt) (ps : List Str) : Type where
  f : Addr
  fd : FuncData
  F : Fun K m qual st f fd
  M : Meth K C m f
  b : Binds K fd ps []
/-- the class Network -/
structure NtC (K : PySem.W.Frag) (mg : Str → Option Value) : Type where
  C : Addr
  g : mg "Network" = some (.ref C)
  cl : Cls K C
  n1 : NoAttr K C "_cells"
  n2 : NoAttr K C "_ties"
  ha : PySem.W.findIn K (.ref C) "__class__" = some (some (.builtin "object.__class__"))
  hn : PySem.W.specialIn K (.builtin "object.__class__") "__get__" = some (some (.builtin "getset_descriptor.__get__"))
  ht : PySem.W.takesIn K (.builtin "object.__class__") = some true
  hm : PySem.W.mroIn K C (.type "object") = some true
  k1 : PySem.W.kitOne K (.ref C) (.ref C) = some true
  nq : PySem.W.noSeq K C = true
  t2 : PySem.W.subIn K (.type "tuple") (.ref C) = some false
/-- .. with all that is called of it -/
structure NtM (K : PySem.W.Frag) (mg : Str → Option Value) (R : NtC K mg) : Type where
  fI : Addr
  fdI : FuncData
  z1 : Addr
  z2 : Addr
  e1 : ∀ H : Hp, SqT K H z1 []
  e2 : ∀ H : Hp, SqT K H z2 []
  FI : FunD K "__init__" "Network.__init__" (defArgs s_Network__init) (defBody s_Network__init) (defScope s_Network__init) [] [("cells", .ref z1), ("ties", .ref z2)] fI fdI
  mkr : Mk K R.C fI
  add_cell : Mt K R.C "add_cell" "Network.add_cell" s_Network_add_cell ["self", "name", "kind"]
  add_tie : Mt K R.C "add_tie" "Network.add_tie" s_Network_add_tie ["self", "tie", "source", "target"]
  cut : Mt K R.C "cut" "Network.cut" s_Network_cut ["self", "tie", "source", "target"]
  drop : Mt K R.C "drop" "Network.drop" s_Network_drop ["self", "name"]
  cells : Mt K R.C "cells" "Network.cells" s_Network_cells ["self"]
  ties : Mt K R.C "ties" "Network.ties" s_Network_ties ["self"]
  ties_into : Mt K R.C "ties_into" "Network.ties_into" s_Network_ties_into ["self", "name"]
  ties_from : Mt K R.C "ties_from" "Network.ties_from" s_Network_ties_from ["self", "name"]
  getitem : Mt K R.C "__getitem__" "Network.__getitem__" s_Network__getitem ["self", "name"]
  gi : PySem.W.fnIn K getitem.f = true
  setitem : Mt K R.C "__setitem__" "Network.__setitem__" s_Network__setitem ["self", "name", "kind"]
  set_kind : Mt K R.C "set_kind" "Network.set_kind" s_Network_set_kind ["self", "name", "kind"]
  contains : Mt K R.C "__contains__" "Network.__contains__" s_Network__contains ["self", "name"]
  len : Mt K R.C "__len__" "Network.__len__" s_Network__len ["self"]
  eq : Mt K R.C "__eq__" "Network.__eq__" s_Network__eq ["self", "other"]
  repr : Mt K R.C "__repr__" "Network.__repr__" s_Network__repr ["self"]
  check_known : Mt K R.C "_check_known" "Network._check_known" s_Network_check_known ["self", "name"]
  ne : NeC K R.C eq.f
abbrev ntF (dc dt : Addr) : List (Str × V) := [("_cells", .ref dc), ("_ties", .ref dt)]
/-- the network x with its dicts -/
def NetA (H : Hp) (C x dc dt : Addr) (cs : List Cl) (ts : List Ti) : Prop := ∃ dx : Addr, H x = some (.ins C dx (ntF dc dt)) ∧ H dc = some (.dK (cs.map eC)) ∧ H dt = some (.dT (ts.map eT))
theorem NetA.mono {H H' : Hp} {C x dc dt : Addr} {cs : List Cl} {ts : List Ti} (s : Same H H') (h : NetA H C x dc dt cs ts) : NetA H' C x dc dt cs ts := by
  obtain ⟨dx, h0, h1, h2⟩ := h
  exact ⟨dx, s _ _ h0, s _ _ h1, s _ _ h2⟩
theorem kb_ties_cells {K : PySem.W.Frag} {mg : Str → Option Value} {R : NtC K mg} (M : NtM K mg R) : KBn K M.fdI ["self", "cells", "ties"] 1 ["ties", "cells"] (fun us ws => us ++ ws.reverse) (fun vs zs => vs ++ zs.reverse) := by
  obtain ⟨oc, od, dV, kV, doc, pm, an, cdv, ct, osl, e, lk, hcd, hD, hK⟩ := M.FI.ex
  rw [e]
  rcases hD with ⟨_, rfl⟩ | ⟨z, _⟩
  · exact ⟨fun s us ws _ l1 l2 => match us, ws, l1, l2 with
      | [_], [_, _], _, _ => .of_eq rfl, fun r1 r2 => r1.append r2.reverse⟩
  · exact absurd rfl z
theorem kb_cells_ties {K : PySem.W.Frag} {mg : Str → Option Value} {R : NtC K mg} (M : NtM K mg R) : KBn K M.fdI ["self", "cells", "ties"] 1 ["cells", "ties"] (fun us ws => us ++ ws) (fun vs zs => vs ++ zs) := by
  obtain ⟨oc, od, dV, kV, doc, pm, an, cdv, ct, osl, e, lk, hcd, hD, hK⟩ := M.FI.ex
  rw [e]
  rcases hD with ⟨_, rfl⟩ | ⟨z, _⟩
  · exact ⟨fun s us ws _ l1 l2 => match us, ws, l1, l2 with
      | [_], [_, _], _, _ => .of_eq rfl, fun r1 r2 => r1.append r2⟩
  · exact absurd rfl z
theorem kb_none {K : PySem.W.Frag} {mg : Str → Option Value} {R : NtC K mg} (M : NtM K mg R) : ∃ ds, Vals [V.ref M.z1, V.ref M.z2] ds ∧ Binds K M.fdI ["self", "cells", "ties"] ds :=
  M.FI.binds0 (n := 1) (by simp) rfl fun D doc pm an cdv ct us ks l1 l2 => match us, ks, l1, l2 with
    | [_], [_, _], _, _ => by
      refine ⟨_, _, _, _, _, _, rfl, rfl, ?_⟩
      refine ⟨_, _, _, _, _, _, rfl, rfl, ?_⟩
      exact rfl
end Bh

set_option Elab.async false
set_option linter.all false
set_option maxRecDepth 100000
set_option maxHeartbeats 1000000
set_option autoImplicit false
namespace Bh
open PySem PySem.Spec PyProof.Rows L2
/-- a value that is no text -/
def NotStr (K : PySem.W.Frag) (H : Hp) (v : V) : Prop := ∃ t : Value, TyX K H v t ∧ PySem.W.kitOne K t (.type "str") = some false
def spHas (K : PySem.W.Frag) (C : Addr) : Sp := fun vs H Q _ => ∃ (x dc dt : Addr) (cs : List Cl) (ts : List Ti) (v : V) (b : Bool), vs = [.ref x, v] ∧ NetA H C x dc dt cs ts ∧ ((∃ n : Str, v = .str n ∧ b = decide (n ∈ cs.map (·.1))) ∨ (NotStr K H v ∧ b = false)) ∧ Q (.bl b) H
def spKnown (C : Addr) : Sp := fun vs H Q _ => ∃ (x dc dt : Addr) (cs : List Cl) (ts : List Ti) (n : Str), vs = [.ref x, .str n] ∧ NetA H C x dc dt cs ts ∧ n ∈ cs.map (·.1) ∧ Q .non H
def spCells (C : Addr) : Sp := fun vs H Q _ => ∃ (x dc dt : Addr) (cs : List Cl) (ts : List Ti), vs = [.ref x] ∧ NetA H C x dc dt cs ts ∧ ∀ p, H p = none → Q (.ref p) (upd H p (.lst (cs.map fun c => .str c.1)))
/-- a new list of these ties -/
def spTies (K : PySem.W.Frag) (C : Addr) : Sp := fun vs H Q _ => ∃ (x dc dt : Addr) (cs : List Cl) (ts : List Ti), vs = [.ref x] ∧ NetA H C x dc dt cs ts ∧ ∀ p H' ys, H p = none → Same H H' → H' p = some (.lst ys) → DpAll K H' ys (ts.map dTi) → Q (.ref p) H'
def spTiesAt (K : PySem.W.Frag) (C : Addr) (sel : Ti → Str) : Sp := fun vs H Q _ => ∃ (x dc dt : Addr) (cs : List Cl) (ts : List Ti) (n : Str), vs = [.ref x, .str n] ∧ NetA H C x dc dt cs ts ∧ n ∈ cs.map (·.1) ∧ ts.length ≤ 1000 ∧
  ∀ p H' ys, H p = none → Same H H' → H' p = some (.lst ys) → DpAll K H' ys ((ts.filter fun t => decide (sel t = n)).map dTi) → Q (.ref p) H'
def spKindAt (C : Addr) : Sp := fun vs H Q _ => ∃ (x dc dt : Addr) (cs : List Cl) (ts : List Ti) (n k : Str), vs = [.ref x, .str n] ∧ NetA H C x dc dt cs ts ∧ kindAt cs n = some k ∧ Q (.str k) H
def spLen (C : Addr) : Sp := fun vs H Q _ => ∃ (x dc dt : Addr) (cs : List Cl) (ts : List Ti), vs = [.ref x] ∧ NetA H C x dc dt cs ts ∧ Q (.int cs.length) H
def spEq (C : Addr) : Sp := fun vs H Q _ => ∃ (x dc dt y ec et : Addr) (cs ds : List Cl) (ts us : List Ti), vs = [.ref x, .ref y] ∧ NetA H C x dc dt cs ts ∧ NetA H C y ec et ds us ∧ cs = ds ∧ ts = us ∧ (cs.map (·.1)).Nodup ∧ Q (.bl true) H
def face (a b : Nat) : Str := "Network(" ++ toString (a : Int) ++ " cells, " ++ toString (b : Int) ++ " ties)"
def spRepr (C : Addr) : Sp := fun vs H Q _ => ∃ (x dc dt : Addr) (cs : List Cl) (ts : List Ti), vs = [.ref x] ∧ NetA H C x dc dt cs ts ∧ cs.length ≤ 1000 ∧ ts.length ≤ 1000 ∧
  Q (.str (face cs.length ts.length)) H
theorem len_add (a b : Str) : (a ++ b).length = a.length + b.length := by
  show (a.cps ++ b.cps).size = _
  rw [Array.size_append]
  rfl
theorem int_text : ∀ n < 1001, (toString ((n : Nat) : Int) : Str).length ≤ 10 := by decide +kernel
theorem int_log : ∀ n < 1001, (((n : Nat) : Int)).natAbs.log2 < 1920 := by decide +kernel
theorem keys_dp {K : PySem.W.Frag} {H : Hp} : ∀ {ts : List Ti} {bs : List Addr}, IsKeys H (ts.map eT) bs → DpAll K H (bs.map V.ref) (ts.map dTi)
  | [], _, h => by
    cases h
    exact .nil
  | t :: ts, _, h => by
    rw [List.map_cons] at h
    cases h with
    | cons a r => exact .cons (.tup (.inl (.inl a)) (strs_dp [t.1, t.2.1, t.2.2])) (keys_dp r)
theorem kind_nodup {cs : List Cl} (nd : (cs.map (·.1)).Nodup) {c : Cl} (h : c ∈ cs) : kindAt cs c.1 = some c.2 := by
  obtain ⟨k, e, m⟩ := kindAt_some (List.mem_map.mpr ⟨c, h, rfl⟩ : c.1 ∈ cs.map (·.1))
  rw [e]
  obtain ⟨i, hi⟩ := List.mem_iff_getElem?.mp h
  obtain ⟨j, hj⟩ := List.mem_iff_getElem?.mp m
  have li := (List.getElem?_eq_some_iff.mp hi).1
  have q : (cs.map (·.1))[i]? = (cs.map (·.1))[j]? := by rw [List.getElem?_map, List.getElem?_map, hi, hj]; rfl
  have eij := (List.getElem?_inj (by rw [List.length_map]; exact li) nd).mp q
  rw [eij, hj] at hi
  rw [← Option.some.inj hi]
theorem all_ties (ts : List Ti) : (ts.map eT).all (fun p => (valV (ts.map eT) p.1).isSome) = true := by
  rw [List.all_eq_true]
  intro p hp
  obtain ⟨t, ht, rfl⟩ := List.mem_map.mp hp
  show (valV (ts.map eT) (kT t)).isSome = true
  rw [ties_in, decide_eq_true ht]
section
variable {P : Program} {w : World} {K : PySem.W.Frag} {mg : Str → Option Value} {base : Heap} {R : NtC K mg}
theorem ok_mcontains (T : Top K mg) (M : NtM K mg R) : FnOk P w K mg base CX0 1 M.contains.f M.contains.fd ["self", "name"] (spHas K R.C) := by
  refine M.contains.F.ok sc_Network__contains (fun vs H Q E h => ?_) (fun cdv A outer s H vs Q E hr h => ?_)
  · obtain ⟨x, dc, dt, cs, ts, v, b, rfl, _⟩ := h
    rfl
  obtain ⟨x, dc, dt, cs, ts, v, b, rfl, ⟨dx, h0, h1, h2⟩, hv, q⟩ := h
  refine ⟨_, (pss_one (ps_ret (pe_and (pe_callB (call_isi_K (K := K) (by rfl)) (by rfl) T.b_isinstance (by decide +kernel) (pa_cons (pv 1) (pa_cons (pe_tyN "str" (by rfl) T.b_str (by decide +kernel)) pa_nil))) (pe_one (pe_cmpR (op_inD (u1 hr)) (pv 1) (pe_fld (pv 0) (by rfl)) (by rfl)))))), ?_⟩
  rcases hv with ⟨n, rfl, rfl⟩ | ⟨⟨t, ty, kt⟩, rfl⟩
  · refine ⟨_, rfl, _, _, _, _, true, rfl, .ty _, .base (.str n), kit_ty (by decide +kernel), _, rfl, ?_⟩
    refine ⟨_, rfl, _, rfl, x, R.C, dx, _, .ref dc, rfl, h0, R.cl, R.n1, rfl, inCells h1 ?_⟩
    rw [Bool.bne_false]
    exact q
  · refine ⟨_, rfl, _, _, _, _, false, rfl, .ty _, ty, kt, _, rfl, ?_⟩
    exact q
theorem ok_mknown (T : Top K mg) (M : NtM K mg R) : FnOk P w K mg base CX0 2 M.check_known.f M.check_known.fd ["self", "name"] (spKnown R.C) := by
  have G_m_contains := ok_mcontains (P := P) (w := w) (base := base) T M
  refine M.check_known.F.ok sc_Network_check_known (fun vs H Q E h => ?_) (fun cdv A outer s H vs Q E hr h => ?_)
  · obtain ⟨x, dc, dt, cs, ts, n, rfl, _⟩ := h
    rfl
  obtain ⟨x, dc, dt, cs, ts, n, rfl, ⟨dx, h0, h1, h2⟩, hn, q⟩ := h
  refine ⟨_, (pss_one (ps_if (pt_cmpR (op_notInIns G_m_contains M.contains.M.at_ M.contains.M.fn M.contains.b pass0 (hr.mono (by decide))) (pv 1) (pv 0) (by rfl)) (pss_one ps_dead) pss_nil)), ?_⟩
  refine ⟨_, rfl, _, rfl, x, dx, _, rfl, h0, x, dc, dt, cs, ts, .str n, true, rfl, ⟨dx, h0, h1, h2⟩, .inl ⟨n, rfl, (decide_eq_true hn).symm⟩, true, rfl, _, rfl, ?_⟩
  exact iteF q
theorem ok_mcells (T : Top K mg) (M : NtM K mg R) : FnOk P w K mg base CX0 1 M.cells.f M.cells.fd ["self"] (spCells R.C) := by
  refine M.cells.F.ok sc_Network_cells (fun vs H Q E h => ?_) (fun cdv A outer s H vs Q E hr h => ?_)
  · obtain ⟨x, dc, dt, cs, ts, rfl, _⟩ := h
    rfl
  obtain ⟨x, dc, dt, cs, ts, rfl, ⟨dx, h0, h1, h2⟩, q⟩ := h
  refine ⟨_, (pss_one (ps_ret (pe_callTy (call_listD rfl) (by rfl) T.b_list (by decide +kernel) (pa_cons (pe_fld (pv 0) (by rfl)) pa_nil)))), ?_⟩
  refine ⟨_, rfl, x, R.C, dx, _, .ref dc, rfl, h0, R.cl, R.n1, rfl, dc, _, rfl, .inl h1, fun p np => ?_⟩
  rw [List.map_map]
  exact q p np
theorem ok_mties (T : Top K mg) (M : NtM K mg R) : FnOk P w K mg base CX0 1 M.ties.f M.ties.fd ["self"] (spTies K R.C) := by
  refine M.ties.F.ok sc_Network_ties (fun vs H Q E h => ?_) (fun cdv A outer s H vs Q E hr h => ?_)
  · obtain ⟨x, dc, dt, cs, ts, rfl, _⟩ := h
    rfl
  obtain ⟨x, dc, dt, cs, ts, rfl, ⟨dx, h0, h1, h2⟩, q⟩ := h
  refine ⟨_, (pss_one (ps_ret (pe_callTy (call_list_dT rfl) (by rfl) T.b_list (by decide +kernel) (pa_cons (pe_fld (pv 0) (by rfl)) pa_nil)))), ?_⟩
  refine ⟨_, rfl, x, R.C, dx, _, .ref dt, rfl, h0, R.cl, R.n2, rfl, dt, _, rfl, .inl h2, fun p bs np ks => ?_⟩
  exact q p _ _ np (same_new np) upd_same (keys_dp (Paired.mapP ks fun _ _ z => same_new np _ _ z))
theorem ok_mlen (T : Top K mg) (M : NtM K mg R) : FnOk P w K mg base CX0 1 M.len.f M.len.fd ["self"] (spLen R.C) := by
  refine M.len.F.ok sc_Network__len (fun vs H Q E h => ?_) (fun cdv A outer s H vs Q E hr h => ?_)
  · obtain ⟨x, dc, dt, cs, ts, rfl, _⟩ := h
    rfl
  obtain ⟨x, dc, dt, cs, ts, rfl, ⟨dx, h0, h1, h2⟩, q⟩ := h
  refine ⟨_, (pss_one (ps_ret (pe_callB call_lenD (by rfl) T.b_len PySem.boot_len (pa_cons (pe_fld (pv 0) (by rfl)) pa_nil)))), ?_⟩
  refine ⟨_, rfl, x, R.C, dx, _, .ref dc, rfl, h0, R.cl, R.n1, rfl, dc, _, rfl, h1, ?_⟩
  rw [List.length_map]
  exact q
theorem ok_mgetitem (T : Top K mg) (M : NtM K mg R) : FnOk P w K mg base CX0 3 M.getitem.f M.getitem.fd ["self", "name"] (spKindAt R.C) := by
  have G_m_check_known := ok_mknown (P := P) (w := w) (base := base) T M
  refine M.getitem.F.ok sc_Network__getitem (fun vs H Q E h => ?_) (fun cdv A outer s H vs Q E hr h => ?_)
  · obtain ⟨x, dc, dt, cs, ts, n, k, rfl, _⟩ := h
    rfl
  obtain ⟨x, dc, dt, cs, ts, n, k, rfl, ⟨dx, h0, h1, h2⟩, hk, q⟩ := h
  refine ⟨_, (pss_cons (ps_expr (pe_meth (pv 0) R.cl M.check_known.M G_m_check_known (hr.mono (by decide)) M.check_known.b .nil pass0 (pa_cons (pv 1) pa_nil)))
    (pss_one (ps_ret (pe_dget (u1 hr) (pe_fld (pv 0) (by rfl)) (pv 1) (fun _ _ => rfl))))), ?_⟩
  have mn : n ∈ cs.map (·.1) := by
    have z := kindAt_isSome (n := n) (cs := cs)
    rw [hk] at z
    exact of_decide_eq_true z.symm
  refine ⟨_, rfl, x, dx, _, rfl, h0, rfl, _, rfl, x, dc, dt, cs, ts, n, rfl, ⟨dx, h0, h1, h2⟩, mn, ?_⟩
  refine ⟨_, rfl, x, R.C, dx, _, .ref dc, rfl, h0, R.cl, R.n1, rfl, _, rfl, dc, .str k, rfl, ?_, q⟩
  have z := DGet.k (k := .inr n) h1
  rw [val_cells, hk] at z
  exact z
theorem ok_mrepr (T : Top K mg) (M : NtM K mg R) : FnOk P w K mg base CX0 1 M.repr.f M.repr.fd ["self"] (spRepr R.C) := by
  refine M.repr.F.ok sc_Network__repr (fun vs H Q E h => ?_) (fun cdv A outer s H vs Q E hr h => ?_)
  · obtain ⟨x, dc, dt, cs, ts, rfl, _⟩ := h
    rfl
  obtain ⟨x, dc, dt, cs, ts, rfl, ⟨dx, h0, h1, h2⟩, l1, l2, q⟩ := h
  refine ⟨_, (pss_one (ps_ret (pe_joined (.cons pe_str (.cons (pe_fmt (pe_callB call_lenD (by rfl) T.b_len PySem.boot_len (pa_cons (pe_fld (pv 0) (by rfl)) pa_nil))) (.cons pe_str (.cons (pe_fmt (pe_callB call_len_dT (by rfl) T.b_len PySem.boot_len (pa_cons (pe_fld (pv 0) (by rfl)) pa_nil))) (.cons pe_str .nil)))))))), ?_⟩
  have t1 := int_text cs.length (by omega)
  have t2 := int_text ts.length (by omega)
  have e0 : (Str.empty ++ "Network(" : Str) = "Network(" := by decide +kernel
  have b0 : ("Network(" : Str).length = 8 := by decide +kernel
  have b1 : (" cells, " : Str).length = 8 := by decide +kernel
  have b2 : (" ties)" : Str).length = 6 := by decide +kernel
  refine ⟨_, rfl, le_line (by rw [e0]; omega), ?_⟩
  rw [e0]
  refine ⟨_, rfl, x, R.C, dx, _, .ref dc, rfl, h0, R.cl, R.n1, rfl, dc, _, rfl, h1, .inr ⟨_, rfl, ?_, _, rfl, ?_, _, rfl, ?_, ?_⟩⟩
  · rw [List.length_map]; exact int_log _ (by omega)
  · rw [List.length_map]; exact le_line (by rw [len_add]; omega)
  · rw [List.length_map]; exact le_line (by rw [len_add, len_add]; omega)
  rw [List.length_map]
  refine ⟨_, rfl, x, R.C, dx, _, .ref dt, rfl, h0, R.cl, R.n2, rfl, dt, _, rfl, h2, .inr ⟨_, rfl, ?_, _, rfl, ?_, _, rfl, ?_, ?_⟩⟩
  · rw [List.length_map]; exact int_log _ (by omega)
  · rw [List.length_map]; exact le_line (by rw [len_add, len_add, len_add]; omega)
  · rw [List.length_map]; exact le_line (by rw [len_add, len_add, len_add, len_add]; omega)
  rw [List.length_map]
  exact q
theorem ok_meq (T : Top K mg) (M : NtM K mg R) : FnOk P w K mg base CX0 1 M.eq.f M.eq.fd ["self", "other"] (spEq R.C) := by
  refine M.eq.F.ok sc_Network__eq (fun vs H Q E h => ?_) (fun cdv A outer s H vs Q E hr h => ?_)
  · obtain ⟨x, dc, dt, y, ec, et, cs, ds, ts, us, rfl, _⟩ := h
    rfl
  obtain ⟨x, dc, dt, y, ec, et, cs, ds, ts, us, rfl, ⟨dx, h0, h1, h2⟩, ⟨dy, g0, g1, g2⟩, e1, e2, nd, q⟩ := h
  refine ⟨_, (pss_cons (ps_if (pt_not (pt_val (pe_callB (call_isi_K (K := K) (by rfl)) (by rfl) T.b_isinstance (by decide +kernel) (pa_cons (pv 1) (pa_cons (pe_glob (v := .ref R.C) rfl R.g rfl) pa_nil))))) (pss_one (ps_ret pe_bl)) pss_nil)
    (pss_one (ps_ret (pe_and (pe_cmpR (op_eq_dictA (Nat.lt_of_succ_lt (u1 hr))) (pe_fld (pv 0) (by rfl)) (pe_fld (pv 1) (by rfl)) (nomark _)) (pe_one (pe_cmpR (op_eqT (u1 hr)) (pe_fld (pv 0) (by rfl)) (pe_fld (pv 1) (by rfl)) (nomark _))))))), ?_⟩
  subst e1 e2
  refine ⟨_, rfl, _, _, _, _, true, rfl, .own _, .base (.ins g0 R.cl R.ha R.hn R.ht R.hm), R.k1, _, rfl, iteF ?_⟩
  refine ⟨_, rfl, x, R.C, dx, _, .ref dc, rfl, h0, R.cl, R.n1, rfl, _, rfl, y, R.C, dy, _, .ref ec, rfl, g0, R.cl, R.n1, rfl, dc, ec, _, _, rfl, rfl, h1, g1, rfl, ?_, true, rfl, ?_⟩
  · intro p hp
    obtain ⟨c, hc, rfl⟩ := List.mem_map.mp hp
    refine ⟨?_, rfl⟩
    show valV (cs.map eC) (.inr c.1) = some (.str c.2)
    rw [val_cells, kind_nodup nd hc]
    rfl
  · refine ⟨_, rfl, x, R.C, dx, _, .ref dt, rfl, h0, R.cl, R.n2, rfl, _, rfl, y, R.C, dy, _, .ref et, rfl, g0, R.cl, R.n2, rfl, dt, et, _, _, rfl, rfl, h2, g2, ?_, ?_, ?_⟩
    · intro p hp
      obtain ⟨c, hc, rfl⟩ := List.mem_map.mp hp
      rfl
    · intro p hp
      obtain ⟨c, hc, rfl⟩ := List.mem_map.mp hp
      rfl
    · rw [all_ties, beq_self_eq_true]
      exact q
end
end Bh

set_option Elab.async false
set_option linter.all false
set_option maxRecDepth 100000
set_option maxHeartbeats 1000000
set_option autoImplicit false
namespace Bh
open PySem PySem.Spec PyProof.Rows L2
/-- all but these three -/
def h3 (x d e : Addr) (H : Hp) : Hp := fun a => if a = x ∨ a = d ∨ a = e then none else H a
theorem h3_le {x d e : Addr} {H : Hp} : Same (h3 x d e H) H := fun a o k => by
  unfold h3 at k
  split at k
  · cases k
  · exact k
theorem h3_ne {x d e a : Addr} {H : Hp} (n1 : a ≠ x) (n2 : a ≠ d) (n3 : a ≠ e) : h3 x d e H a = H a := if_neg (by rintro (z | z | z); exact n1 z; exact n2 z; exact n3 z)
theorem h3_some {x d e a : Addr} {H : Hp} {o : HO} (k : h3 x d e H a = some o) : a ≠ x ∧ a ≠ d ∧ a ≠ e ∧ H a = some o := by
  unfold h3 at k
  split at k
  · cases k
  · rename_i n
    exact ⟨fun z => n (.inl z), fun z => n (.inr (.inl z)), fun z => n (.inr (.inr z)), k⟩
theorem h3_upd {x d e a : Addr} {H H' : Hp} {o : HO} (s : Same (h3 x d e H) H') (h : a = x ∨ a = d ∨ a = e ∨ H a = none) : Same (h3 x d e H) (upd H' a o) := fun b u k => by
  obtain ⟨n1, n2, n3, kb⟩ := h3_some k
  rw [upd_ne (fun z => by
    rcases h with h | h | h | h
    · exact n1 (z.trans h)
    · exact n2 (z.trans h)
    · exact n3 (z.trans h)
    · rw [z, h] at kb; cases kb)]
  exact s _ _ k
theorem NetA.ne {H : Hp} {C x dc dt : Addr} {cs : List Cl} {ts : List Ti} (h : NetA H C x dc dt cs ts) : dc ≠ x ∧ dt ≠ x ∧ dt ≠ dc := by
  obtain ⟨dx, h0, h1, h2⟩ := h
  refine ⟨fun z => ?_, fun z => ?_, fun z => ?_⟩
  · rw [z, h0] at h1; cases h1
  · rw [z, h0] at h2; cases h2
  · rw [z, h1] at h2; cases h2
theorem NetA.putC {H : Hp} {C x dc dt : Addr} {cs cs' : List Cl} {ts : List Ti} (h : NetA H C x dc dt cs ts) : NetA (upd H dc (.dK (cs'.map eC))) C x dc dt cs' ts := by
  obtain ⟨n1, n2, n3⟩ := h.ne
  obtain ⟨dx, h0, h1, h2⟩ := h
  exact ⟨dx, by rw [upd_ne (Ne.symm n1)]; exact h0, upd_same, by rw [upd_ne n3]; exact h2⟩
theorem NetA.putT {H : Hp} {C x dc dt : Addr} {cs : List Cl} {ts ts' : List Ti} (h : NetA H C x dc dt cs ts) : NetA (upd H dt (.dT (ts'.map eT))) C x dc dt cs ts' := by
  obtain ⟨n1, n2, n3⟩ := h.ne
  obtain ⟨dx, h0, h1, h2⟩ := h
  exact ⟨dx, by rw [upd_ne (Ne.symm n2)]; exact h0, by rw [upd_ne (Ne.symm n3)]; exact h1, upd_same⟩
/-- the network is now this one, all else stays -/
def NetTo (H : Hp) (C x dc dt : Addr) (cs : List Cl) (ts : List Ti) (Q : Hp → Prop) : Prop := ∀ (H' : Hp) (dt' : Addr), (dt' = dt ∨ H dt' = none) → Same (h3 x dc dt H) H' → NetA H' C x dc dt' cs ts → Q H'
def spAddCell (C : Addr) : Sp := fun vs H Q _ => ∃ (x dc dt : Addr) (cs : List Cl) (ts : List Ti) (n k : Str), vs = [.ref x, .str n, .str k] ∧ NetA H C x dc dt cs ts ∧ NmOk n ∧ KdOk k ∧ n ∉ cs.map (·.1) ∧ cs.length < 1000 ∧ NetTo H C x dc dt (cs ++ [(n, k)]) ts fun H' => Q .non H'
def spAddTie (C : Addr) : Sp := fun vs H Q _ => ∃ (x dc dt : Addr) (cs : List Cl) (ts : List Ti) (t : Ti), vs = [.ref x, .str t.1, .str t.2.1, .str t.2.2] ∧ NetA H C x dc dt cs ts ∧ NmOk t.1 ∧ t.2.1 ∈ cs.map (·.1) ∧ t.2.2 ∈ cs.map (·.1) ∧ t ∉ ts ∧ ts.length < 1000 ∧ NetTo H C x dc dt cs (ts ++ [t]) fun H' => Q .non H'
def spCut (C : Addr) : Sp := fun vs H Q _ => ∃ (x dc dt : Addr) (cs : List Cl) (ts : List Ti) (t : Ti), vs = [.ref x, .str t.1, .str t.2.1, .str t.2.2] ∧ NetA H C x dc dt cs ts ∧ t ∈ ts ∧ NetTo H C x dc dt cs (ts.filter fun c => decide (c ≠ t)) fun H' => Q .non H'
def spSet (C : Addr) : Sp := fun vs H Q _ => ∃ (x dc dt : Addr) (cs : List Cl) (ts : List Ti) (n k : Str), vs = [.ref x, .str n, .str k] ∧ NetA H C x dc dt cs ts ∧ KdOk k ∧ n ∈ cs.map (·.1) ∧ cs.length ≤ 1000 ∧ NetTo H C x dc dt (setKind cs n k) ts fun H' => Q .non H'
def dropTies (ts : List Ti) (n : Str) : List Ti := ts.filter fun t => decide (n ≠ t.2.1 ∧ n ≠ t.2.2)
def spDrop (C : Addr) : Sp := fun vs H Q _ => ∃ (x dc dt : Addr) (cs : List Cl) (ts : List Ti) (n : Str), vs = [.ref x, .str n] ∧ NetA H C x dc dt cs ts ∧ n ∈ cs.map (·.1) ∧ ts.Nodup ∧ ts.length ≤ 1000 ∧ NetTo H C x dc dt (cs.filter fun c => decide (c.1 ≠ n)) (dropTies ts n) fun H' => Q .non H'
def spNetInit (K : PySem.W.Frag) (C : Addr) : Sp := fun vs H Q _ => ∃ (x dx : Addr) (v1 v2 : V) (cs : List Cl) (ts : List Ti), vs = [.ref x, v1, v2] ∧ H x = some (.ins C dx []) ∧ DpS K (hid x H) v1 (cs.map dCell) ∧ DpS K (hid x H) v2 (ts.map dTi) ∧ CsOk cs ∧ TsOk cs ts ∧
  ∀ (H' : Hp) (dc dt : Addr), H dc = none → H dt = none → Same (hid x H) H' → NetA H' C x dc dt cs ts → Q .non H'
/-- a tie's own tuple -/
def TiA (H : Hp) (v : V) (t : Ti) : Prop := ∃ b : Addr, v = .ref b ∧ H b = some (.tup [.str t.1, .str t.2.1, .str t.2.2])
theorem tia_mono {H H' : Hp} (k : ∀ b xs, H b = some (.tup xs) → H' b = some (.tup xs)) {ys : List V} {ts : List Ti} (h : Paired (TiA H) ys ts) : Paired (TiA H') ys ts :=
  Paired.mapP h fun _ _ ⟨b, e, z⟩ => ⟨b, e, k _ _ z⟩
theorem tia_upd {H : Hp} {a : Addr} {o o' : HO} (h : H a = some o) (n : ∀ xs, o ≠ .tup xs) {ys : List V} {ts : List Ti} (p : Paired (TiA H) ys ts) : Paired (TiA (upd H a o')) ys ts :=
  tia_mono (fun b xs e => by
    rw [upd_ne (fun z => by rw [z, h] at e; exact n _ (Option.some.inj e))]
    exact e) p
theorem tia_dp {K : PySem.W.Frag} {H : Hp} : ∀ {ys : List V} {ts : List Ti}, Paired (TiA H) ys ts → DpAll K H ys (ts.map dTi)
  | _, _, .nil => .nil
  | _, _, .cons (b := t) ⟨b, e, z⟩ r => by
    rw [e]
    exact .cons (.tup (.inl (.inl z)) (strs_dp [t.1, t.2.1, t.2.2])) (tia_dp r)
theorem hid_in {x a : Addr} {H : Hp} {o : HO} (k : hid x H a = some o) : a ≠ x ∧ H a = some o := by
  unfold hid at k
  split at k
  · cases k
  · rename_i n
    exact ⟨n, k⟩
theorem hid_put {x : Addr} {H H' : Hp} {o : HO} (s : Same (hid x H) H') : Same (hid x H) (upd H' x o) := fun a u k => by
  rw [upd_ne (hid_in k).1]
  exact s _ _ k
/-- a locked thing is let go -/
theorem thaw {d D : Addr} {H H' : Hp} {u o : HO} (h : H d = some u) (s : Same (upd H d o) H') : Same H (upd H' d u) := fun a v e => by
  by_cases z : a = d
  · rw [z, h] at e
    rw [z, upd_same]
    exact e
  · rw [upd_ne z]
    exact s _ _ (by rw [upd_ne z]; exact e)
theorem str_dec (a b : Str) : decide (V.str a = V.str b) = decide (a = b) := by
  by_cases h : a = b
  · rw [decide_eq_true h, decide_eq_true (by rw [h])]
  · rw [decide_eq_false h, decide_eq_false (fun z => h (by injection z))]
theorem tie_at {ts : List Ti} {i : Nat} {k : List L2.Key} {v : V} (e : (ts.map eT)[i]? = some (k, v)) : ∃ t, ts[i]? = some t ∧ k = kT t := by
  rw [List.getElem?_map] at e
  obtain ⟨t, ht, e⟩ := Option.map_eq_some_iff.mp e
  exact ⟨t, ht, congrArg Prod.fst e.symm⟩
theorem filter_next {α : Type} {xs : List α} {i : Nat} {x : α} (p : α → Bool) (e : xs[i]? = some x) : (xs.take (i + 1)).filter p = if p x = true then (xs.take i).filter p ++ [x] else (xs.take i).filter p := by
  rw [take_next e, List.filter_append, List.filter_cons]
  split
  · rfl
  · rw [List.filter_nil, List.append_nil]
section
variable {P : Program} {w : World} {K : PySem.W.Frag} {mg : Str → Option Value} {base : Heap} {R : NtC K mg}
theorem ok_maddcell (T : Top K mg) (M : NtM K mg R) : FnOk P w K mg base CX0 5 M.add_cell.f M.add_cell.fd ["self", "name", "kind"] (spAddCell R.C) := by
  have G_check_cell := ok_chkcell (P := P) (w := w) (base := base) T
  refine M.add_cell.F.ok sc_Network_add_cell (fun vs H Q E h => ?_) (fun cdv A outer s H vs Q E hr h => ?_)
  · obtain ⟨x, dc, dt, cs, ts, n, k, rfl, _⟩ := h
    rfl
  obtain ⟨x, dc, dt, cs, ts, n, k, rfl, na, hn, hk, nin, few, q⟩ := h
  obtain ⟨dx, h0, h1, h2⟩ := id na
  refine ⟨_, (pss_cons (ps_expr (pe_call G_check_cell (hr.mono (by decide)) (by rfl) T.d_check_cell.g T.d_check_cell.kp T.d_check_cell.b .nil pass0 (pa_cons (pe_fld (pv 0) (by rfl)) (pa_cons (pv 1) (pa_cons (pv 2) pa_nil)))))
    (pss_one (ps_dput (u1 hr) (pe_fld (pv 0) (by rfl)) (pv 1) (pv 2) rfl))), ?_⟩
  refine ⟨_, rfl, x, R.C, dx, _, .ref dc, rfl, h0, R.cl, R.n1, rfl, _, rfl, _, rfl, dc, cs, n, k, rfl, h1, hn, hk, nin, fun H1 s1 => ?_⟩
  refine ⟨_, rfl, _, rfl, x, R.C, dx, _, .ref dc, rfl, s1 _ _ h0, R.cl, R.n1, rfl, _, rfl, dc, _, rfl, DPut.k (k := .inr n) (s1 _ _ h1) (by rw [List.length_map]; exact lt_line (by omega)), ?_⟩
  rw [put_cell nin]
  exact q _ dt (.inl rfl) (h3_upd (fun a o e => s1 _ _ (h3_le _ _ e)) (.inr (.inl rfl))) (na.mono s1).putC
theorem ok_maddtie (T : Top K mg) (M : NtM K mg R) : FnOk P w K mg base CX0 5 M.add_tie.f M.add_tie.fd ["self", "tie", "source", "target"] (spAddTie R.C) := by
  have G_check_tie := ok_chktie (P := P) (w := w) (base := base) T
  refine M.add_tie.F.ok sc_Network_add_tie (fun vs H Q E h => ?_) (fun cdv A outer s H vs Q E hr h => ?_)
  · obtain ⟨x, dc, dt, cs, ts, t, rfl, _⟩ := h
    rfl
  obtain ⟨x, dc, dt, cs, ts, ⟨t1, t2, t3⟩, rfl, na, hn, m1, m2, nin, few, q⟩ := h
  obtain ⟨dx, h0, h1, h2⟩ := id na
  refine ⟨_, (pss_cons (ps_expr (pe_call G_check_tie (hr.mono (by decide)) (by rfl) T.d_check_tie.g T.d_check_tie.kp T.d_check_tie.b .nil pass0 (pa_cons (pe_fld (pv 0) (by rfl)) (pa_cons (pe_fld (pv 0) (by rfl)) (pa_cons (pv 1) (pa_cons (pv 2) (pa_cons (pv 3) pa_nil)))))))
    (pss_one (ps_dput (u1 hr) (pe_fld (pv 0) (by rfl)) (pe_tup (pa_cons (pv 1) (pa_cons (pv 2) (pa_cons (pv 3) pa_nil)))) pe_bl rfl))), ?_⟩
  refine ⟨_, rfl, x, R.C, dx, _, .ref dc, rfl, h0, R.cl, R.n1, rfl, _, rfl, x, R.C, dx, _, .ref dt, rfl, h0, R.cl, R.n2, rfl, _, rfl, _, rfl, _, rfl, dc, dt, cs, ts, (t1, t2, t3), rfl, h1, h2, hn, m1, m2, nin, fun H1 s1 => ?_⟩
  refine ⟨_, rfl, x, R.C, dx, _, .ref dt, rfl, s1 _ _ h0, R.cl, R.n2, rfl, _, rfl, _, rfl, _, rfl, (by show 3 ≤ sizeLine; decide), fun p np => ?_⟩
  have s2 := s1.trans (same_new (o := .tup [.str t1, .str t2, .str t3]) np)
  refine ⟨dt, _, rfl, DPut.t (k := kT (t1, t2, t3)) (s2 _ _ h2) upd_same (by rw [List.length_map]; exact lt_line (by omega)), ?_⟩
  rw [put_tie nin]
  exact q _ dt (.inl rfl) (h3_upd (fun a o e => s2 _ _ (h3_le _ _ e)) (.inr (.inr (.inl rfl)))) (na.mono s2).putT
theorem ok_mcut (T : Top K mg) (M : NtM K mg R) : FnOk P w K mg base CX0 1 M.cut.f M.cut.fd ["self", "tie", "source", "target"] (spCut R.C) := by
  refine M.cut.F.ok sc_Network_cut (fun vs H Q E h => ?_) (fun cdv A outer s H vs Q E hr h => ?_)
  · obtain ⟨x, dc, dt, cs, ts, t, rfl, _⟩ := h
    rfl
  obtain ⟨x, dc, dt, cs, ts, ⟨t1, t2, t3⟩, rfl, na, mt, q⟩ := h
  obtain ⟨dx, h0, h1, h2⟩ := id na
  refine ⟨_, (pss_cons (ps_set (i := 4) sc_Network_cut.nd rfl (Or.inl rfl) (pe_tup (pa_cons (pv 1) (pa_cons (pv 2) (pa_cons (pv 3) pa_nil)))))
    (pss_cons (ps_if (PW.pt (pw_or (pt_not (pt_val (pe_callB (cr_all_K (K := K) (by rfl) rfl) (by rfl) T.b_all (by decide +kernel) (pa_cons (pe_lc (own := [("word", 5)]) rfl sc_Network_cut.nd (pi_tup_K (K := K) (by rfl) (pv 4)) (blkOk_by (own := [("word", 5)]) (N := ["self", "tie", "source", "target", "words", "word"]) (sc := defScope s_Network_cut) (by decide +kernel)) (fun _ _ _ _ _ => by exact (pg_name (i := 5) sc_Network_cut.nd rfl (Or.inl rfl))) (fun _ _ _ _ _ => by exact pts_nil) (fun _ _ _ _ _ => by exact (pe_callB (call_isi_K (K := K) (by rfl)) (by rfl) T.b_isinstance (by decide +kernel) (pa_cons (pv 5) (pa_cons (pe_tyN "str" (by rfl) T.b_str (by decide +kernel)) pa_nil))))) pa_nil)))) (pw_or1 (pt_cmpR (op_notInD (u1 hr)) (pv 4) (pe_fld (pv 0) (by rfl)) (by rfl))))) (pss_one ps_dead) pss_nil)
    (pss_one (ps_ddelT (u1 hr) (pe_fld (pv 0) (by rfl)) (pv 4))))), ?_⟩
  refine ⟨_, rfl, _, rfl, _, rfl, (by show 3 ≤ sizeLine; decide), fun p np => ?_⟩
  have s1 : Same H (upd H p (.tup [.str t1, .str t2, .str t3])) := same_new np
  refine ⟨_, rfl, p, rfl, ⟨[.str t1, .str t2, .str t3], .inl (.inl upd_same)⟩, fun D nD => ?_⟩
  have nDp : D ≠ p := fun z => by rw [z, upd_same] at nD; cases nD
  refine lc_it walk_tup (fun i H' => H' = upd (upd H p (.tup [.str t1, .str t2, .str t3])) D (.lst ((List.replicate i true).map V.bl))) rfl (fun i H' _ e => by rw [e, ]; exact .inl (.inl (by rw [upd_ne (Ne.symm nDp)]; exact upd_same))) ?_ ?_
  · rintro i y H' H'' hi rfl ⟨rfl, ey⟩
    obtain ⟨z, rfl⟩ : ∃ z, y = V.str z := by
      match i, ey with
      | 0, ey => exact ⟨t1, (Option.some.inj ey).symm⟩
      | 1, ey => exact ⟨t2, (Option.some.inj ey).symm⟩
      | 2, ey => exact ⟨t3, (Option.some.inj ey).symm⟩
    have hi3 : i < 3 := hi
    refine ⟨rfl, _, rfl, _, _, _, _, true, rfl, .ty _, .base (.str z), kit_ty (by decide +kernel), _, upd_same, ?_, ?_⟩
    · rw [List.length_map, List.length_replicate]; exact lt_line (by omega)
    · rw [upd_upd, List.replicate_succ', List.map_append]
      rfl
  · rintro H' rfl
    have s2 := s1.trans (same_new (o := .lst ((List.replicate 3 true).map V.bl)) nD)
    refine ⟨D, _, rfl, SqL.of upd_same, _, rfl, ?_⟩
    refine ⟨_, rfl, _, rfl, x, R.C, dx, _, .ref dt, rfl, s2 _ _ h0, R.cl, R.n2, rfl, inTies (t := (t1, t2, t3)) (s2 _ _ h2) (by show upd _ D _ p = _; rw [upd_ne (Ne.symm nDp)]; exact upd_same) ⟨_, rfl, ?_⟩⟩
    rw [decide_eq_true mt]
    refine iteF ?_
    refine ⟨_, rfl, x, R.C, dx, _, .ref dt, rfl, s2 _ _ h0, R.cl, R.n2, rfl, _, rfl, dt, p, _, kT (t1, t2, t3), rfl, rfl, s2 _ _ h2, (by show upd _ D _ p = _; rw [upd_ne (Ne.symm nDp)]; exact upd_same), by rw [ties_in, decide_eq_true mt], ?_⟩
    rw [drop_tie]
    exact q _ dt (.inl rfl) (h3_upd (fun a o e => s2 _ _ (h3_le _ _ e)) (.inr (.inr (.inl rfl)))) (na.mono s2).putT
theorem ok_msetitem (T : Top K mg) (M : NtM K mg R) : FnOk P w K mg base CX0 4 M.setitem.f M.setitem.fd ["self", "name", "kind"] (spSet R.C) := by
  have G_m_check_known := ok_mknown (P := P) (w := w) (base := base) T M
  have G_is_kind := ok_iskind (P := P) (w := w) (base := base) T
  refine M.setitem.F.ok sc_Network__setitem (fun vs H Q E h => ?_) (fun cdv A outer s H vs Q E hr h => ?_)
  · obtain ⟨x, dc, dt, cs, ts, n, k, rfl, _⟩ := h
    rfl
  obtain ⟨x, dc, dt, cs, ts, n, k, rfl, na, hk, hn, few, q⟩ := h
  obtain ⟨dx, h0, h1, h2⟩ := id na
  refine ⟨_, (pss_cons (ps_expr (pe_meth (pv 0) R.cl M.check_known.M G_m_check_known (hr.mono (by decide)) M.check_known.b .nil pass0 (pa_cons (pv 1) pa_nil)))
    (pss_cons (ps_if (pt_not (pt_val (pe_call G_is_kind (hr.mono (by decide)) (by rfl) T.d_is_kind.g T.d_is_kind.kp T.d_is_kind.b .nil pass0 (pa_cons (pv 2) pa_nil)))) (pss_one ps_dead) pss_nil)
    (pss_one (ps_dput (u1 hr) (pe_fld (pv 0) (by rfl)) (pv 1) (pv 2) rfl)))), ?_⟩
  refine ⟨_, rfl, x, dx, _, rfl, h0, rfl, _, rfl, x, dc, dt, cs, ts, n, rfl, na, hn, ?_⟩
  have hk2 : k.length ≤ 1000 := hk.2
  refine ⟨_, rfl, k, rfl, by omega, fun H1 s1 => ⟨_, rfl, ?_⟩⟩
  rw [hk.1]
  refine iteF ?_
  refine ⟨_, rfl, _, rfl, x, R.C, dx, _, .ref dc, rfl, s1 _ _ h0, R.cl, R.n1, rfl, _, rfl, dc, _, rfl, DPut.k (k := .inr n) (s1 _ _ h1) (by rw [List.length_map]; exact lt_line (by omega)), ?_⟩
  rw [put_kind hn]
  exact q _ dt (.inl rfl) (h3_upd (fun a o e => s1 _ _ (h3_le _ _ e)) (.inr (.inl rfl))) (na.mono s1).putC
theorem ok_msetkind (T : Top K mg) (M : NtM K mg R) : FnOk P w K mg base CX0 5 M.set_kind.f M.set_kind.fd ["self", "name", "kind"] (spSet R.C) := by
  have G_m_setitem := ok_msetitem (P := P) (w := w) (base := base) T M
  refine M.set_kind.F.ok sc_Network_set_kind (fun vs H Q E h => ?_) (fun cdv A outer s H vs Q E hr h => ?_)
  · obtain ⟨x, dc, dt, cs, ts, n, k, rfl, _⟩ := h
    rfl
  obtain ⟨x, dc, dt, cs, ts, n, k, rfl, na, hk, hn, few, q⟩ := h
  obtain ⟨dx, h0, h1, h2⟩ := id na
  refine ⟨_, (pss_one (ps_asg (pv 2) (pg_sub (pv 0) (pv 1) (set_ins G_m_setitem R.nq M.setitem.M.at_ M.setitem.M.fn M.setitem.b pass0 (hr.mono (by decide)))))), ?_⟩
  exact ⟨_, rfl, _, rfl, _, rfl, x, dx, _, rfl, h0, x, dc, dt, cs, ts, n, k, rfl, na, hk, hn, few, q⟩
theorem ok_mdrop (T : Top K mg) (M : NtM K mg R) : FnOk P w K mg base CX0 4 M.drop.f M.drop.fd ["self", "name"] (spDrop R.C) := by
  have G_m_check_known := ok_mknown (P := P) (w := w) (base := base) T M
  refine M.drop.F.ok sc_Network_drop (fun vs H Q E h => ?_) (fun cdv A outer s H vs Q E hr h => ?_)
  · obtain ⟨x, dc, dt, cs, ts, n, rfl, _⟩ := h
    rfl
  obtain ⟨x, dc, dt, cs, ts, n, rfl, na, hn, nd, few, q⟩ := h
  obtain ⟨dx, h0, h1, h2⟩ := id na
  refine ⟨_, (pss_cons (ps_expr (pe_meth (pv 0) R.cl M.check_known.M G_m_check_known (hr.mono (by decide)) M.check_known.b .nil pass0 (pa_cons (pv 1) pa_nil)))
    (pss_cons (ps_ddel (pe_fld (pv 0) (by rfl)) (pv 1))
    (pss_one (ps_fld (pv 0) (pe_lock (pe_dcT (own := [("tie", 2)]) (u1 hr) rfl sc_Network_drop.nd (pi_keys (pe_fld (pv 0) (by rfl))) (blkOk_by (own := [("tie", 2)]) (N := ["self", "name", "tie"]) (sc := defScope s_Network_drop) (by decide +kernel)) (fun _ _ _ _ _ => by exact (pg_name (i := 2) sc_Network_drop.nd rfl (Or.inl rfl))) (fun _ _ _ _ _ => by exact (pts_one (pt_cmpR (op_notIn_seq_K (K := K) (by rfl)) (pv 1) (pe_slice (sl_tupA_K (K := K) (by rfl)) (pv 2) (po_some pe_int) po_none) (by rfl)))) (fun _ _ _ _ _ => by exact (pv 2)) (fun _ _ _ _ _ => by exact pe_bl))) (by rfl))))), ?_⟩
  refine ⟨_, rfl, x, dx, _, rfl, h0, rfl, _, rfl, x, dc, dt, cs, ts, n, rfl, na, hn, ?_⟩
  refine ⟨_, rfl, x, R.C, dx, _, .ref dc, rfl, h0, R.cl, R.n1, rfl, _, rfl, dc, _, .inr n, rfl, h1, rfl, by rw [cells_in, decide_eq_true hn], ?_⟩
  rw [drop_cell]
  have na2 := na.putC (cs' := cs.filter fun c => decide (c.1 ≠ n))
  have s0 : Same (h3 x dc dt H) (upd H dc (.dK ((cs.filter fun c => decide (c.1 ≠ n)).map eC))) := h3_upd h3_le (.inr (.inl rfl))
  obtain ⟨m1, m2, m3⟩ := na.ne
  generalize hH1 : upd H dc (.dK ((cs.filter fun c => decide (c.1 ≠ n)).map eC)) = H1 at na2 s0 ⊢
  obtain ⟨dx', g0, g1, g2⟩ := id na2
  have edx : dx' = dx := by
    rw [← hH1, upd_ne (Ne.symm m1), h0] at g0
    injection g0 with g0
    injection g0 with _ g0 _
    exact g0.symm
  rw [edx] at g0
  refine ⟨dt, _, g2, True.intro, fun od => ?_⟩
  refine ⟨_, rfl, x, R.C, dx, _, .ref dt, rfl, by rw [upd_ne (Ne.symm m2)]; exact g0, R.cl, R.n2, rfl, dt, od, rfl, .inr ⟨_, upd_same, fun D nD => ?_⟩⟩
  have nDt : D ≠ dt := fun z => by rw [z, upd_same] at nD; cases nD
  refine dcT_it walk_keysT (fun i H' => Same (upd H1 dt (.frz od (.dT (ts.map eT)))) H' ∧ H' D = some (.dT ((dropTies (ts.take i) n).map eT))) ⟨same_new nD, upd_same⟩ ?_ ?_ ?_
  · rintro i H' _ ⟨s1, _⟩
    exact s1 _ _ upd_same
  · rintro i y H' H'' hi ⟨s1, hD⟩ ⟨rfl, k, v, b, e, rfl, hb⟩
    obtain ⟨⟨t1, t2, t3⟩, et, rfl⟩ := tie_at e
    have hb : H'' b = some (.tup [.str t1, .str t2, .str t3]) := hb
    rw [List.length_map] at hi
    have nb : b ≠ D := fun z => by rw [z, hD] at hb; cases hb
    refine ⟨rfl, _, rfl, _, rfl, 1, rfl, ?_⟩
    refine ⟨b, [.str t1, .str t2, .str t3], rfl, SqT.of hb, fun z => absurd z.1 (by show ¬ HT.sIx 3 0 (some 1) = 0; decide), fun _ p np => ?_⟩
    have ec : cutV [V.str t1, V.str t2, V.str t3] (some 1) none = [t2, t3].map V.str := rfl
    rw [ec]
    have s3 : Same H'' (upd H'' p (.tup ([t2, t3].map V.str))) := same_new np
    refine ⟨p, _, rfl, .inr (.inl (.inl upd_same)), rfl, rfl, ?_⟩
    rw [in_strs]
    have en : (if true = true then !decide (n ∈ [t2, t3]) else decide (n ∈ [t2, t3])) = decide (n ≠ t2 ∧ n ≠ t3) := by
      rw [if_pos rfl]
      by_cases c : n ≠ t2 ∧ n ≠ t3
      · rw [decide_eq_true c, decide_eq_false (by simp [c.1, c.2])]
        rfl
      · rw [decide_eq_false c]
        by_cases c1 : n = t2
        · rw [decide_eq_true (by simp [c1])]
          rfl
        · by_cases c2 : n = t3
          · rw [decide_eq_true (by simp [c2])]
            rfl
          · exact absurd ⟨c1, c2⟩ c
    rw [en]
    have dn : dropTies (ts.take (i + 1)) n = if decide (n ≠ t2 ∧ n ≠ t3) = true then dropTies (ts.take i) n ++ [(t1, t2, t3)] else dropTies (ts.take i) n := filter_next (fun t : Ti => decide (n ≠ t.2.1 ∧ n ≠ t.2.2)) et
    rw [dn]
    have fresh : (t1, t2, t3) ∉ dropTies (ts.take i) n := fun m => take_notMem nd et (List.mem_filter.mp m).1
    have ld : (dropTies (ts.take i) n).length ≤ 1000 := Nat.le_trans (List.length_filter_le _ _) (by rw [List.length_take]; omega)
    refine ⟨_, rfl, iteB (fun c => ?_) (fun c => ?_)⟩
    · rw [if_pos c]
      refine ⟨_, rfl, _, kT (t1, t2, t3), b, rfl, s3 _ _ hb, s3 _ _ hD, by rw [List.length_map]; exact lt_line (by omega), same_mut (s1.trans s3) nD, ?_⟩
      rw [upd_same, put_tie fresh]
    · rw [if_neg (by rw [c]; decide)]
      exact ⟨s1.trans s3, s3 _ _ hD⟩
  · rintro H' ⟨s1, hD⟩
    rw [List.length_map, List.take_length] at hD
    refine ⟨s1 _ _ upd_same, ?_⟩
    have hDn : H1 D = none := by rw [upd_ne nDt] at nD; exact nD
    have s2 := thaw (D := D) g2 s1
    have nDx : D ≠ x := fun z => by rw [z, g0] at hDn; cases hDn
    have nDc : D ≠ dc := fun z => by rw [z, g1] at hDn; cases hDn
    refine ⟨_, rfl, x, R.C, dx, _, rfl, s2 _ _ g0, R.cl, R.n2, (by show 2 < 1000; decide), ?_⟩
    have hDH : H D = none := by rw [← hH1, upd_ne nDc] at hDn; exact hDn
    refine q _ D (.inr hDH) (h3_upd (fun a o e => s2 _ _ (s0 _ _ e)) (.inl rfl)) ⟨dx, upd_same, ?_, ?_⟩
    · rw [upd_ne m1]
      exact s2 _ _ g1
    · rw [upd_ne nDx, upd_ne nDt]
      exact hD
theorem ok_minto (T : Top K mg) (M : NtM K mg R) : FnOk P w K mg base CX0 4 M.ties_into.f M.ties_into.fd ["self", "name"] (spTiesAt K R.C fun t => t.2.2) := by
  have G_m_check_known := ok_mknown (P := P) (w := w) (base := base) T M
  refine M.ties_into.F.ok sc_Network_ties_into (fun vs H Q E h => ?_) (fun cdv A outer s H vs Q E hr h => ?_)
  · obtain ⟨x, dc, dt, cs, ts, n, rfl, _⟩ := h
    rfl
  obtain ⟨x, dc, dt, cs, ts, n, rfl, na, hn, few, q⟩ := h
  obtain ⟨dx, h0, h1, h2⟩ := id na
  refine ⟨_, (pss_cons (ps_expr (pe_meth (pv 0) R.cl M.check_known.M G_m_check_known (hr.mono (by decide)) M.check_known.b .nil pass0 (pa_cons (pv 1) pa_nil)))
    (pss_one (ps_ret (pe_lock (pe_lc (own := [("tie", 2)]) rfl sc_Network_ties_into.nd (pi_keys (pe_fld (pv 0) (by rfl))) (blkOk_by (own := [("tie", 2)]) (N := ["self", "name", "tie"]) (sc := defScope s_Network_ties_into) (by decide +kernel)) (fun _ _ _ _ _ => by exact (pg_name (i := 2) sc_Network_ties_into.nd rfl (Or.inl rfl))) (fun _ _ _ _ _ => by exact (pts_one (pt_cmpR op_eq (pe_ix (ix_tup_K (K := K) (by rfl)) (pv 2) pe_int (fun _ _ => rfl)) (pv 1) (nomark _)))) (fun _ _ _ _ _ => by exact (pv 2))))))), ?_⟩
  refine ⟨_, rfl, x, dx, _, rfl, h0, rfl, _, rfl, x, dc, dt, cs, ts, n, rfl, na, hn, ?_⟩
  refine ⟨dt, _, h2, True.intro, fun od => ?_⟩
  have nx : x ≠ dt := Ne.symm na.ne.2.1
  refine ⟨_, rfl, x, R.C, dx, _, .ref dt, rfl, by rw [upd_ne nx]; exact h0, R.cl, R.n2, rfl, dt, od, rfl, .inr ⟨_, upd_same, fun D nD => ?_⟩⟩
  have nDt : D ≠ dt := fun z => by rw [z, upd_same] at nD; cases nD
  refine lc_it walk_keysT (fun i H' => ∃ ys, Same (upd H dt (.frz od (.dT (ts.map eT)))) H' ∧ H' D = some (.lst ys) ∧ ys.length ≤ i ∧ Paired (TiA H') ys ((ts.take i).filter fun t => decide (t.2.2 = n))) ⟨[], same_new nD, upd_same, Nat.le_refl _, .nil⟩ ?_ ?_ ?_
  · rintro i H' _ ⟨ys, s1, _⟩
    exact s1 _ _ upd_same
  · rintro i y H' H'' hi ⟨ys, s1, hD, ly, dp⟩ ⟨rfl, k, v, b, e, rfl, hb⟩
    obtain ⟨⟨t1, t2, t3⟩, et, rfl⟩ := tie_at e
    have hb : H'' b = some (.tup [.str t1, .str t2, .str t3]) := hb
    rw [List.length_map] at hi
    have nb : b ≠ D := fun z => by rw [z, hD] at hb; cases hb
    refine ⟨rfl, _, rfl, b, _, _, .str t3, rfl, rfl, SqT.of hb, rfl, _, rfl, rfl, _, rfl, ?_⟩
    rw [str_dec]
    refine iteB (fun c => ?_) (fun c => ?_)
    · refine ⟨_, rfl, ys, hD, lt_line (by omega), ys ++ [.ref b], same_mut s1 nD, upd_same, by rw [List.length_append]; exact Nat.add_le_add_right ly 1, ?_⟩
      rw [filter_next (fun t : Ti => decide (t.2.2 = n)) et, if_pos c]
      exact Paired.snoc (tia_upd hD (fun _ z => nomatch z) dp) ⟨b, rfl, by rw [upd_ne nb]; exact hb⟩
    · refine ⟨ys, s1, hD, by omega, ?_⟩
      rw [filter_next (fun t : Ti => decide (t.2.2 = n)) et, if_neg (by rw [c]; decide)]
      exact dp
  · rintro H' ⟨ys, s1, hD, ly, dp⟩
    rw [List.length_map, List.take_length] at dp
    refine ⟨s1 _ _ upd_same, ?_⟩
    have hDn : H D = none := by rw [upd_ne nDt] at nD; exact nD
    exact q D _ ys hDn (thaw (D := D) h2 s1) (by rw [upd_ne nDt]; exact hD) (tia_dp (tia_upd (s1 _ _ upd_same) (fun _ z => nomatch z) dp))
theorem ok_mfrom (T : Top K mg) (M : NtM K mg R) : FnOk P w K mg base CX0 4 M.ties_from.f M.ties_from.fd ["self", "name"] (spTiesAt K R.C fun t => t.2.1) := by
  have G_m_check_known := ok_mknown (P := P) (w := w) (base := base) T M
  refine M.ties_from.F.ok sc_Network_ties_from (fun vs H Q E h => ?_) (fun cdv A outer s H vs Q E hr h => ?_)
  · obtain ⟨x, dc, dt, cs, ts, n, rfl, _⟩ := h
    rfl
  obtain ⟨x, dc, dt, cs, ts, n, rfl, na, hn, few, q⟩ := h
  obtain ⟨dx, h0, h1, h2⟩ := id na
  refine ⟨_, (pss_cons (ps_expr (pe_meth (pv 0) R.cl M.check_known.M G_m_check_known (hr.mono (by decide)) M.check_known.b .nil pass0 (pa_cons (pv 1) pa_nil)))
    (pss_one (ps_ret (pe_lock (pe_lc (own := [("tie", 2)]) rfl sc_Network_ties_from.nd (pi_keys (pe_fld (pv 0) (by rfl))) (blkOk_by (own := [("tie", 2)]) (N := ["self", "name", "tie"]) (sc := defScope s_Network_ties_from) (by decide +kernel)) (fun _ _ _ _ _ => by exact (pg_name (i := 2) sc_Network_ties_from.nd rfl (Or.inl rfl))) (fun _ _ _ _ _ => by exact (pts_one (pt_cmpR op_eq (pe_ix (ix_tup_K (K := K) (by rfl)) (pv 2) pe_int (fun _ _ => rfl)) (pv 1) (nomark _)))) (fun _ _ _ _ _ => by exact (pv 2))))))), ?_⟩
  refine ⟨_, rfl, x, dx, _, rfl, h0, rfl, _, rfl, x, dc, dt, cs, ts, n, rfl, na, hn, ?_⟩
  refine ⟨dt, _, h2, True.intro, fun od => ?_⟩
  have nx : x ≠ dt := Ne.symm na.ne.2.1
  refine ⟨_, rfl, x, R.C, dx, _, .ref dt, rfl, by rw [upd_ne nx]; exact h0, R.cl, R.n2, rfl, dt, od, rfl, .inr ⟨_, upd_same, fun D nD => ?_⟩⟩
  have nDt : D ≠ dt := fun z => by rw [z, upd_same] at nD; cases nD
  refine lc_it walk_keysT (fun i H' => ∃ ys, Same (upd H dt (.frz od (.dT (ts.map eT)))) H' ∧ H' D = some (.lst ys) ∧ ys.length ≤ i ∧ Paired (TiA H') ys ((ts.take i).filter fun t => decide (t.2.1 = n))) ⟨[], same_new nD, upd_same, Nat.le_refl _, .nil⟩ ?_ ?_ ?_
  · rintro i H' _ ⟨ys, s1, _⟩
    exact s1 _ _ upd_same
  · rintro i y H' H'' hi ⟨ys, s1, hD, ly, dp⟩ ⟨rfl, k, v, b, e, rfl, hb⟩
    obtain ⟨⟨t1, t2, t3⟩, et, rfl⟩ := tie_at e
    have hb : H'' b = some (.tup [.str t1, .str t2, .str t3]) := hb
    rw [List.length_map] at hi
    have nb : b ≠ D := fun z => by rw [z, hD] at hb; cases hb
    refine ⟨rfl, _, rfl, b, _, _, .str t2, rfl, rfl, SqT.of hb, rfl, _, rfl, rfl, _, rfl, ?_⟩
    rw [str_dec]
    refine iteB (fun c => ?_) (fun c => ?_)
    · refine ⟨_, rfl, ys, hD, lt_line (by omega), ys ++ [.ref b], same_mut s1 nD, upd_same, by rw [List.length_append]; exact Nat.add_le_add_right ly 1, ?_⟩
      rw [filter_next (fun t : Ti => decide (t.2.1 = n)) et, if_pos c]
      exact Paired.snoc (tia_upd hD (fun _ z => nomatch z) dp) ⟨b, rfl, by rw [upd_ne nb]; exact hb⟩
    · refine ⟨ys, s1, hD, by omega, ?_⟩
      rw [filter_next (fun t : Ti => decide (t.2.1 = n)) et, if_neg (by rw [c]; decide)]
      exact dp
  · rintro H' ⟨ys, s1, hD, ly, dp⟩
    rw [List.length_map, List.take_length] at dp
    refine ⟨s1 _ _ upd_same, ?_⟩
    have hDn : H D = none := by rw [upd_ne nDt] at nD; exact nD
    exact q D _ ys hDn (thaw (D := D) h2 s1) (by rw [upd_ne nDt]; exact hD) (tia_dp (tia_upd (s1 _ _ upd_same) (fun _ z => nomatch z) dp))
theorem ok_mnetinit (T : Top K mg) (M : NtM K mg R) : FnOk P w K mg base CX0 6 M.fI M.fdI ["self", "cells", "ties"] (spNetInit K R.C) := by
  have G_kinds_of := ok_kindsof (P := P) (w := w) (base := base) T
  have G_ties_between := ok_tiesbetween (P := P) (w := w) (base := base) T
  refine M.FI.ok sc_Network__init (fun vs H Q E h => ?_) (fun cdv A outer s H vs Q E hr h => ?_)
  · obtain ⟨x, dx, v1, v2, cs, ts, rfl, _⟩ := h
    rfl
  obtain ⟨x, dx, v1, v2, cs, ts, rfl, h0, d1, d2, okc, okt, q⟩ := h
  refine ⟨_, (pss_cons (ps_fld (pv 0) (pe_call G_kinds_of (hr.mono (by decide)) (by rfl) T.d_kinds_of.g T.d_kinds_of.kp T.d_kinds_of.b .nil pass0 (pa_cons (pv 1) pa_nil)) (by rfl))
    (pss_one (ps_fld (pv 0) (pe_call G_ties_between (hr.mono (by decide)) (by rfl) T.d_ties_between.g T.d_ties_between.kp T.d_ties_between.b .nil pass0 (pa_cons (pe_fld (pv 0) (by rfl)) (pa_cons (pv 2) pa_nil))) (by rfl)))), ?_⟩
  refine ⟨_, rfl, v1, cs, rfl, d1.mono hid_le, okc, fun dc H1 nc s1 hc => ?_⟩
  have h0' := s1 _ _ h0
  have ndc : dc ≠ x := fun z => by rw [z, h0] at nc; cases nc
  refine ⟨_, rfl, x, R.C, dx, _, rfl, h0', R.cl, R.n1, by decide, ?_⟩
  have s2 : Same (hid x H) (upd H1 x (.ins R.C dx (putF "_cells" (.ref dc) []))) := hid_put fun a u k => s1 _ _ (hid_in k).2
  refine ⟨_, rfl, x, R.C, dx, _, .ref dc, rfl, upd_same, R.cl, R.n1, rfl, _, rfl, dc, v2, cs, ts, rfl, by rw [upd_ne ndc]; exact hc, d2.mono s2, okt, fun dt H2 nt s3 ht => ?_⟩
  have hx2 := s3 _ _ upd_same
  have ndt : dt ≠ x := fun z => by rw [z, upd_same] at nt; cases nt
  have nt1 : H1 dt = none := by rw [upd_ne ndt] at nt; exact nt
  have ntH : H dt = none := s1.free nt1
  refine ⟨_, rfl, x, R.C, dx, _, rfl, hx2, R.cl, R.n2, (by show 1 < 1000; decide), ?_⟩
  refine q _ dc dt nc ntH (hid_put (s2.trans s3)) ⟨dx, upd_same, ?_, ?_⟩
  · rw [upd_ne ndc]
    exact s3 _ _ (by rw [upd_ne ndc]; exact hc)
  · rw [upd_ne ndt]
    exact ht
end
end Bh

set_option Elab.async false
set_option linter.all false
set_option maxRecDepth 100000
namespace Bh
open PySem PySem.Spec PyProof.Rows L2
/-! ### ends of the law of programs -/
theorem at_last {α : Type} {xs : List α} {v : α} (h : xs.getLast? = some v) : atI xs (-1) = some v := by
  cases xs with
  | nil => cases h
  | cons x r =>
    have e : (x :: r).getLast? = (x :: r)[(x :: r).length - 1]? := List.getLast?_eq_getElem?
    unfold atI ixN
    rw [if_neg (by decide), if_pos (by rw [List.length_cons]; omega)]
    show (x :: r)[(-1 + ((x :: r).length : Int)).toNat]? = some v
    rw [show (-1 + ((x :: r).length : Int)).toNat = (x :: r).length - 1 by rw [List.length_cons]; omega, ← e]
    exact h
theorem vals_first : ∀ (fs : List Fld) (acc : List (List Str)) (h : List Str), acc[0]? = some h → (∀ f ∈ fs, f.2 ≠ []) → ∃ t : List Str, (fs.foldl ext1 acc)[0]? = some (h ++ t) ∧ ∀ f r, fs = f :: r → t[0]? = f.2[0]?
  | [], acc, h, h0, _ => ⟨[], by rw [List.append_nil]; exact h0, fun f r e => by cases e⟩
  | f :: r, acc, h, h0, hn => by
    cases ho : f.2 with
    | nil => exact absurd ho (hn f (List.mem_cons_self ..))
    | cons o os =>
      cases acc with
      | nil => cases h0
      | cons a as =>
        have eh : a = h := Option.some.inj h0
        subst eh
        have e1 : (ext1 (a :: as) f)[0]? = some (a ++ [o]) := by
          unfold ext1
          rw [List.flatMap_cons, ho]
          rfl
        obtain ⟨t, e2, _⟩ := vals_first r (ext1 (a :: as) f) (a ++ [o]) e1 (fun g hg => hn g (List.mem_cons_of_mem _ hg))
        refine ⟨o :: t, ?_, fun g r' e => ?_⟩
        · show (r.foldl ext1 (ext1 (a :: as) f))[0]? = _
          rw [e2, List.append_assoc]
          rfl
        · cases e
          rw [ho]
          rfl
theorem vals_zero {f : Fld} {r : List Fld} (hn : ∀ g ∈ f :: r, g.2 ≠ []) : ∃ v : List Str, (vals (f :: r))[0]? = some v ∧ v[0]? = f.2[0]? := by
  obtain ⟨t, e1, e2⟩ := vals_first (f :: r) [[]] [] rfl hn
  exact ⟨t, e1, e2 f r rfl⟩
theorem plus_steps {f : Fld} {r : List Fld} (nd : f.2.Nodup) : ∀ (m k : Nat) (v : List Str) (o : Str), v[0]? = some o → f.2[k]? = some o → (stepped (f :: r) (List.replicate m ((f.1, "+") : Stp)) v)[0]? = f.2[min (k + m) (f.2.length - 1)]?
  | 0, k, v, o, hv, hk => by
    have hl := (List.getElem?_eq_some_iff.mp hk).1
    show v[0]? = _
    rw [hv, Nat.add_zero, show min k (f.2.length - 1) = k by omega, hk]
  | m + 1, k, v, o, hv, hk => by
    have hl := (List.getElem?_eq_some_iff.mp hk).1
    have hp : posOf (f :: r) f.1 = 0 := by
      show ix (f.1 :: r.map (·.1)) f.1 = 0
      unfold ix
      rw [if_pos rfl]
    have ho : optsOf (f :: r) f.1 = f.2 := by
      unfold optsOf
      rw [hp]
      rfl
    have hlv : 0 < v.length := (List.getElem?_eq_some_iff.mp hv).1
    have hk2 : f.2[min (k + 1) (f.2.length - 1)]? = some (nextO f.2 o) := by
      have q := (next_mem (List.mem_of_getElem? hk)).1
      rw [ix_at nd hk] at q
      exact q
    have hv2 : (stepO (f :: r) v ((f.1, "+") : Stp))[0]? = some (nextO f.2 o) := by
      unfold stepO
      show (v.set (posOf (f :: r) f.1) _)[0]? = _
      rw [hp, List.getElem?_set_self hlv, if_pos rfl, ho, List.getD_eq_getElem?_getD, hv]
      rfl
    rw [List.replicate_succ]
    show (stepped (f :: r) (List.replicate m ((f.1, "+") : Stp)) (stepO (f :: r) v ((f.1, "+") : Stp)))[0]? = _
    rw [plus_steps nd m _ _ _ hv2 hk2]
    congr 1
    omega
def perm3 {α : Type} : List α → List α
  | [a, b, c] => [a, c, b]
  | _ => []
theorem perm3_rel {vs : List V} {us : List Value} (h : Vals vs us) : Vals (perm3 vs) (perm3 us) := by
  cases h with
  | nil => exact .nil
  | cons a h =>
    cases h with
    | nil => exact .nil
    | cons b h =>
      cases h with
      | nil => exact .nil
      | cons c h =>
        cases h with
        | nil => exact .cons a (.cons c (.cons b .nil))
        | cons d h => exact .nil
theorem Sh.strs (n : Nat) (zs : List Str) (h : zs.length ≤ 100000) : Sh (n + 1) (.tuple (zs.map PyData.str)) :=
  .tup (by rw [List.length_map]; exact h) fun d hd => by
    obtain ⟨z, _, rfl⟩ := List.mem_map.mp hd
    exact .str
end Bh

set_option Elab.async false
set_option linter.all false
set_option maxRecDepth 100000
set_option maxHeartbeats 1000000
namespace Bh
open PySem PySem.Spec PyProof.Rows L2
theorem wordsOf_nodup4 {z : Str} {k : Nat} {s : Int} {n : Nat} (h : k ≤ z.length) (hn : n ≤ 7) : (wordsOf z k s n).Nodup := by
  unfold wordsOf
  refine List.pairwise_map.mpr ((List.pairwise_lt_range (n := n)).imp_of_mem fun {a b} ha hb hab e => ?_)
  have h2 := List.mem_range.mp hb
  have q := wordK_inj h e
  omega
theorem tails_noz : ∀ z ∈ tails, z.length = 7 → ∃ c ∈ z.cps.toList, c ≠ 122 := by decide +kernel
theorem wordsOf_noz {z : Str} (hz : z ∈ tails) {k : Nat} {s : Int} {n : Nat} (h : k ≤ z.length) : ∀ w ∈ wordsOf z k s n, w ≠ "zzzzzzzz" := fun w hw e => by
  obtain ⟨i, _, rfl⟩ := List.mem_map.mp hw
  have l1 := wordK_length z k (97 + ((s + 5 * (i : Int)) % 26).toNat) h
  rw [e] at l1
  have l2 : ("zzzzzzzz" : Str).length = 8 := by decide +kernel
  rw [l2] at l1
  obtain ⟨c, hc, nc⟩ := tails_noz z hz (by omega)
  have e2 := wordK_cps z k (97 + ((s + 5 * (i : Int)) % 26).toNat) h
  rw [e] at e2
  have key : ∀ c ∈ ("zzzzzzzz" : Str).cps.toList, c = 122 := by decide +kernel
  refine nc (key c ?_)
  rw [e2]
  rw [← List.take_append_drop k z.cps.toList] at hc
  rcases List.mem_append.mp hc with q | q
  · exact List.mem_append_left _ q
  · exact List.mem_append_right _ (List.mem_cons_of_mem _ q)
def spWords5 : Sp := fun vs H Q _ => ∃ (b l : Addr) (G : Hp) (n : Int), vs = [.ref b, .int n] ∧ 0 ≤ n ∧ n ≤ 7 ∧ Wd b l G H ∧
  ∀ (G' H' : Hp) (p : Addr) (ws : List Str), Same G G' → Wd b l G' H' → G' p = some (.lst (ws.map V.str)) → ws.length = n.toNat → ws.Nodup → (∀ w ∈ ws, IsNm w ∧ w ≠ "zzzzzzzz") → Q (.ref p) H'
/-- the kinds that are drawn -/
def kinds12 : List Str := (["plain", "root", "a", "abcdefgh"] : List Str).flatMap fun w => (["", "", ".0", ".1", ".2"] : List Str).map fun s => w ++ s
theorem kinds12_mem {w s : Str} (hw : w ∈ (["plain", "root", "a", "abcdefgh"] : List Str)) (hs : s ∈ (["", "", ".0", ".1", ".2"] : List Str)) : w ++ s ∈ kinds12 := List.mem_flatMap.mpr ⟨w, hw, List.mem_map.mpr ⟨s, hs, rfl⟩⟩
def spKindWord : Sp := fun vs H Q _ => ∃ (b l : Addr) (G : Hp), vs = [.ref b] ∧ Wd b l G H ∧ ∀ (G' H' : Hp) (k : Str), k ∈ kinds12 → Same G G' → Wd b l G' H' → Q (.str k) H'
section
variable {P : Program} {w : World} {K : PySem.W.Frag} {mg : Str → Option Value} {base : Heap}
theorem ok_any (T : Top K mg) : FnOk P w K mg base CX0 2 T.a_l_any T.fd_l_any ["_law_bag_here", "_law_row"] (spAny K) := by
  have G_l_draw := ok_draw (P := P) (w := w) (base := base) T
  refine T.d_l_any.F.ok sc_l_any (fun vs H Q E h => ?_) (fun cdv A outer s H vs Q E hr h => ?_)
  · obtain ⟨b, l, a, G, xs, rfl, _⟩ := h
    rfl
  obtain ⟨b, l, a, G, xs, rfl, hS, ne, hl, wd, q⟩ := h
  refine ⟨_, (pss_one (ps_ret (pe_ix (ix_seq_K (K := K) (by rfl)) (pv 1) (pe_call G_l_draw (hr.mono (by decide)) (by rfl) T.d_l_draw.g T.d_l_draw.kp T.d_l_draw.b .nil pass0 (pa_cons (pv 0) (pa_cons (pe_callB (call_len_seq_K (K := K) (by rfl)) (by rfl) T.b_len PySem.boot_len (pa_cons (pv 1) pa_nil)) pa_nil))) (fun _ _ => rfl)))), ?_⟩
  have hp : 0 < xs.length := List.length_pos_iff.mpr ne
  refine ⟨_, rfl, _, rfl, _, rfl, a, xs, rfl, seq_mono wd.sm hS, b, l, G, _, rfl, by omega, by omega, wd, fun r H1 r0 r1 w1 => ?_⟩
  obtain ⟨v, e, hm⟩ := at_lt r0 r1
  exact rIx_go (seq_mono w1.sm hS) e (q v H1 hm w1)
theorem ok_words (T : Top K mg) : FnOk P w K mg base CX0 3 T.a_l_words T.fd_l_words ["_law_bag_here", "_law_many"] spWords5 := by
  have G_l_draw := ok_draw (P := P) (w := w) (base := base) T
  have G_l_any := ok_any (P := P) (w := w) (base := base) T
  refine T.d_l_words.F.ok sc_l_words (fun vs H Q E h => ?_) (fun cdv A outer s H vs Q E hr h => ?_)
  · obtain ⟨b, l, G, n, rfl, _⟩ := h
    rfl
  obtain ⟨b, l, G, n, rfl, n0, n3, wd, q⟩ := h
  refine ⟨_, (pss_cons (ps_set (i := 2) sc_l_words.nd rfl (Or.inr rfl) (pe_call G_l_any (hr.mono (by decide)) (by rfl) T.d_l_any.g T.d_l_any.kp T.d_l_any.b .nil pass0 (pa_cons (pv 0) (pa_cons (pe_lst (pa_cons pe_str (pa_cons pe_str (pa_cons pe_str (pa_cons pe_str (pa_cons pe_str pa_nil)))))) pa_nil))))
    (pss_cons (ps_asg (pe_tup (pa_cons (pe_call G_l_draw (hr.mono (by decide)) (by rfl) T.d_l_draw.g T.d_l_draw.kp T.d_l_draw.b .nil pass0 (pa_cons (pv 0) (pa_cons (pe_op op_add (pe_callB call_len_str (by rfl) T.b_len PySem.boot_len (pa_cons (pv 2) pa_nil)) pe_int) pa_nil))) (pa_cons (pe_call G_l_draw (hr.mono (by decide)) (by rfl) T.d_l_draw.g T.d_l_draw.kp T.d_l_draw.b .nil pass0 (pa_cons (pv 0) (pa_cons pe_int pa_nil))) pa_nil))) (pg_tup_K (K := K) (by rfl) (n := 2) (by rfl) (pgs_cons (pg_name (i := 3) sc_l_words.nd rfl (Or.inr rfl)) (pgs_cons (pg_name (i := 4) sc_l_words.nd rfl (Or.inr rfl)) pgs_nil))))
    (pss_cons (ps_set (i := 5) sc_l_words.nd rfl (Or.inr rfl) pe_str)
    (pss_one (ps_ret (pe_lc (own := [("_law_k", 6)]) rfl sc_l_words.nd (pi_range1 rfl T.b_range (pa_cons (pv 1) pa_nil)) (blkOk_by (own := [("_law_k", 6)]) (N := ["_law_bag_here", "_law_many", "_law_tail", "_law_at", "_law_start", "_law_letters", "_law_k"]) (sc := defScope s_l_words) (by decide +kernel)) (fun _ _ _ _ _ => by exact (pg_name (i := 6) sc_l_words.nd rfl (Or.inl rfl))) (fun _ _ _ _ _ => by exact pts_nil) (fun _ _ _ _ _ => by exact (pe_op op_add_str (pe_op op_add_str (pe_slice sl_str (pv 2) po_none (po_some (pv 3))) (pe_ix ix_str (pv 5) (pe_op op_mod (pe_callTy call_int1 (by rfl) T.b_int (by decide +kernel) (pa_cons (pe_op op_add (pv 4) (pe_op op_mul pe_int (pv 6))) pa_nil)) pe_int) (fun _ _ => rfl))) (pe_slice sl_str (pv 2) (po_some (pv 3)) po_none))))))))), ?_⟩
  refine ⟨_, rfl, (by show 5 ≤ sizeLine; decide), fun p np => ?_⟩
  refine ⟨b, l, p, upd G p (.lst (tails.map V.str)), tails.map V.str, rfl, .inl (SqL.of upd_same), (fun z => by cases z), by decide, wd.new np, fun x H1 hx w1 => ?_⟩
  have s1 : Same G (upd G p (.lst (tails.map V.str))) := wd.sameG np
  obtain ⟨z, hz, rfl⟩ := List.mem_map.mp hx
  obtain ⟨z1, z2⟩ := tails_ok z hz
  refine ⟨_, rfl, _, rfl, z, rfl, le_line (by omega), _, _, rfl, rfl, b, l, _, _, rfl, by omega, by omega, w1, fun k H2 k0 k1 w2 => ?_⟩
  refine ⟨_, rfl, b, l, _, 26, rfl, by decide, by decide, w2, fun st H3 t0 t1 w3 => ?_⟩
  refine ⟨(by show 2 ≤ sizeLine; decide), fun t nt => ?_⟩
  have w4 := w3.new (o := .tup [.int k, .int st]) nt
  have s2 := s1.trans (w3.sameG (o := .tup [.int k, .int st]) nt)
  refine ⟨t, _, rfl, .inl (.inl upd_same), rfl, _, _, rfl, _, _, rfl, rfl, ?_⟩
  obtain ⟨kn, rfl⟩ : ∃ m : Nat, k = (m : Int) := ⟨k.toNat, by omega⟩
  have hk : kn ≤ z.length := by omega
  refine ⟨_, rfl, n, rfl, by omega, by omega, fun D nD => ?_⟩
  have gD := w4.free nD
  refine lc_it walk_range (fun i H' => ∃ G', Same G G' ∧ Wd b l G' H' ∧ G' D = some (.lst ((wordsOf z kn st i).map V.str))) ⟨_, s2.trans (w4.sameG nD), w4.new nD, upd_same⟩ (fun _ _ _ _ => True.intro) ?_ ?_
  · rintro i v H' H'' hi ⟨G', sg, w5, hD⟩ ⟨rfl, rfl⟩
    refine ⟨rfl, ?_⟩
    have a0 : (0 : Int) + (i : Int) = (i : Int) := by omega
    have ln1 : (cutS z none (some (kn : Int))).length ≤ z.length := cutS_length z _ _
    have ln2 : (cutS z (some (kn : Int)) none).length ≤ z.length := cutS_length z _ _
    have m0 := Int.emod_nonneg (st + 5 * ((0 : Int) + (i : Int))) (show (26 : Int) ≠ 0 by decide)
    have m1 := Int.emod_lt_of_pos (st + 5 * ((0 : Int) + (i : Int))) (show (0 : Int) < 26 by decide)
    refine ⟨_, rfl, _, rfl, _, rfl, z, rfl, le_line (by omega), _, rfl, _, rfl, _, rfl, _, _, rfl, rfl, .inl ⟨by decide, by decide⟩, _, _, rfl, rfl, .inl ⟨_, rfl, _, _, rfl, rfl, (show (0 : Int) < 26 by decide), letters, _, _, rfl, rfl, le_line (by decide +kernel), letters_at m0 m1, ?_⟩⟩
    refine ⟨_, _, rfl, rfl, ?_, _, rfl, _, rfl, _, rfl, z, rfl, le_line (by omega), _, _, rfl, rfl, ?_, _, w5.sm _ _ hD, ?_, ?_⟩
    · exact le_line (by show _ + 1 ≤ _; omega)
    · refine le_line ?_
      have e : (cutS z none (some (kn : Int)) ++ (⟨#[97 + ((st + 5 * ((0 : Int) + (i : Int))) % 26).toNat]⟩ : Str)).length = (cutS z none (some (kn : Int))).length + 1 := by
        show ((cutS z none (some (kn : Int))).cps ++ #[_]).size = _
        rw [Array.size_append]
        rfl
      rw [e]
      omega
    · rw [List.length_map, wordsOf_len]
      exact lt_line (by omega)
    · refine ⟨_, same_mut sg (s2.free gD), w5.mut hD, ?_⟩
      rw [upd_same]
      have e : wordsOf z kn st (i + 1) = wordsOf z kn st i ++ [wordK z kn (97 + ((st + 5 * (i : Int)) % 26).toNat)] := by
        unfold wordsOf
        rw [List.range_succ, List.map_append]
        rfl
      rw [e, List.map_append, a0]
      rfl
  · rintro H' ⟨G', sg, w5, hD⟩
    exact q G' H' D _ sg w5 hD wordsOf_len (wordsOf_nodup4 hk (by omega)) fun w hw => ⟨wordsOf_nm hz hk w hw, wordsOf_noz hz hk w hw⟩
theorem ok_kindword (T : Top K mg) : FnOk P w K mg base CX0 3 T.a_l_kind_word T.fd_l_kind_word ["_law_bag_here"] spKindWord := by
  have G_l_any := ok_any (P := P) (w := w) (base := base) T
  refine T.d_l_kind_word.F.ok sc_l_kind_word (fun vs H Q E h => ?_) (fun cdv A outer s H vs Q E hr h => ?_)
  · obtain ⟨b, l, G, rfl, _⟩ := h
    rfl
  obtain ⟨b, l, G, rfl, wd, q⟩ := h
  refine ⟨_, (pss_cons (ps_set (i := 1) sc_l_kind_word.nd rfl (Or.inl rfl) (pe_call G_l_any (hr.mono (by decide)) (by rfl) T.d_l_any.g T.d_l_any.kp T.d_l_any.b .nil pass0 (pa_cons (pv 0) (pa_cons (pe_lst (pa_cons pe_str (pa_cons pe_str (pa_cons pe_str (pa_cons pe_str pa_nil))))) pa_nil))))
    (pss_one (ps_ret (pe_op op_add_str (pv 1) (pe_call G_l_any (hr.mono (by decide)) (by rfl) T.d_l_any.g T.d_l_any.kp T.d_l_any.b .nil pass0 (pa_cons (pv 0) (pa_cons (pe_lst (pa_cons pe_str (pa_cons pe_str (pa_cons pe_str (pa_cons pe_str (pa_cons pe_str pa_nil)))))) pa_nil))))))), ?_⟩
  refine ⟨_, rfl, (by show 4 ≤ sizeLine; decide), fun p np => ?_⟩
  refine ⟨b, l, p, upd G p (.lst ((["plain", "root", "a", "abcdefgh"] : List Str).map V.str)), _, rfl, .inl (SqL.of upd_same), (fun z => by cases z), by decide, wd.new np, fun x H1 hx w1 => ?_⟩
  have s1 := wd.sameG (o := .lst ((["plain", "root", "a", "abcdefgh"] : List Str).map V.str)) np
  obtain ⟨z, hz, rfl⟩ := List.mem_map.mp hx
  refine ⟨_, rfl, _, rfl, (by show 5 ≤ sizeLine; decide), fun p2 np2 => ?_⟩
  refine ⟨b, l, p2, _, (["", "", ".0", ".1", ".2"] : List Str).map V.str, rfl, .inl (SqL.of upd_same), (fun z => by cases z), by decide, w1.new np2, fun y H2 hy w2 => ?_⟩
  obtain ⟨u, hu, rfl⟩ := List.mem_map.mp hy
  have lz : ∀ z ∈ (["plain", "root", "a", "abcdefgh"] : List Str), z.length ≤ 8 := by decide +kernel
  have lu : ∀ z ∈ (["", "", ".0", ".1", ".2"] : List Str), z.length ≤ 8 := by decide +kernel
  have := lz z hz
  have := lu u hu
  refine ⟨z, u, rfl, rfl, le_line (by omega), ?_⟩
  exact q _ _ _ (kinds12_mem hz hu) (s1.trans (w1.sameG np2)) w2
end
end Bh

set_option Elab.async false
set_option linter.all false
set_option maxRecDepth 100000
set_option maxHeartbeats 1000000
set_option autoImplicit false
namespace Bh
open PySem PySem.Spec PyProof.Rows L2
structure Good (ns : List Str) (cs : List Cl) (ts : List Ti) : Prop where
  c : CsOk cs
  t : TsOk cs ts
  m : ∀ c ∈ cs, c.1 ∈ ns
theorem kinds12_ok : ∀ k ∈ kinds12, KdOk k := by
  have h : ∀ k ∈ kinds12, kindB k = true ∧ k.length ≤ 1000 := by decide +kernel
  exact h
theorem good_cell {ns : List Str} {cs : List Cl} {ts : List Ti} {n k : Str} (g : Good ns cs ts) (hn : n ∈ ns) (nm : NmOk n) (kd : KdOk k) (nin : n ∉ cs.map (·.1)) (few : cs.length < 1000) : Good ns (cs ++ [(n, k)]) ts := by
  refine ⟨⟨?_, ?_, ?_⟩, ⟨g.t.nd, fun t ht => ?_, g.t.few⟩, ?_⟩
  · rw [List.map_append, List.nodup_append]
    refine ⟨g.c.nd, by simp, fun a ha b hb => ?_⟩
    have e : b = n := by simpa using hb
    rw [e]
    exact fun z => nin (z ▸ ha)
  · intro c hc
    rcases List.mem_append.mp hc with h | h
    · exact g.c.nm c h
    · have e : c = (n, k) := by simpa using h
      rw [e]
      exact ⟨nm, kd⟩
  · rw [List.length_append]; exact few
  · obtain ⟨a, b, d⟩ := g.t.nm t ht
    rw [List.map_append]
    exact ⟨a, List.mem_append_left _ b, List.mem_append_left _ d⟩
  · intro c hc
    rcases List.mem_append.mp hc with h | h
    · exact g.m c h
    · have e : c = (n, k) := by simpa using h
      rw [e]
      exact hn
theorem good_tie {ns : List Str} {cs : List Cl} {ts : List Ti} {t : Ti} (g : Good ns cs ts) (nm : NmOk t.1) (m1 : t.2.1 ∈ cs.map (·.1)) (m2 : t.2.2 ∈ cs.map (·.1)) (nin : t ∉ ts) (few : ts.length < 1000) : Good ns cs (ts ++ [t]) := by
  refine ⟨g.c, ⟨?_, fun u hu => ?_, ?_⟩, g.m⟩
  · rw [List.nodup_append]
    refine ⟨g.t.nd, by simp, fun a ha b hb => ?_⟩
    have e : b = t := by simpa using hb
    rw [e]
    exact fun z => nin (z ▸ ha)
  · rcases List.mem_append.mp hu with h | h
    · exact g.t.nm u h
    · have e : u = t := by simpa using h
      rw [e]
      exact ⟨nm, m1, m2⟩
  · rw [List.length_append]; exact few
theorem good_cut {ns : List Str} {cs : List Cl} {ts : List Ti} (p : Ti → Bool) (g : Good ns cs ts) : Good ns cs (ts.filter p) :=
  ⟨g.c, ⟨g.t.nd.sublist List.filter_sublist, fun u hu => g.t.nm u (List.mem_filter.mp hu).1, Nat.le_trans (List.length_filter_le _ _) g.t.few⟩, g.m⟩
theorem good_drop {ns : List Str} {cs : List Cl} {ts : List Ti} {n : Str} (g : Good ns cs ts) : Good ns (cs.filter fun c => decide (c.1 ≠ n)) (dropTies ts n) := by
  have sb : ((cs.filter fun c => decide (c.1 ≠ n)).map (·.1)).Sublist (cs.map (·.1)) := List.filter_sublist.map _
  refine ⟨⟨g.c.nd.sublist sb, fun c hc => g.c.nm c (List.mem_filter.mp hc).1, Nat.le_trans (List.length_filter_le _ _) g.c.few⟩, ⟨g.t.nd.sublist List.filter_sublist, fun u hu => ?_, Nat.le_trans (List.length_filter_le _ _) g.t.few⟩, fun c hc => g.m c (List.mem_filter.mp hc).1⟩
  obtain ⟨hu, hp⟩ := List.mem_filter.mp hu
  obtain ⟨n1, n2⟩ := of_decide_eq_true hp
  obtain ⟨a, b, d⟩ := g.t.nm u hu
  have keep : ∀ z, z ∈ cs.map (·.1) → n ≠ z → z ∈ (cs.filter fun c => decide (c.1 ≠ n)).map (·.1) := fun z hz hn => by
    obtain ⟨c, hc, rfl⟩ := List.mem_map.mp hz
    exact List.mem_map.mpr ⟨c, List.mem_filter.mpr ⟨hc, decide_eq_true (Ne.symm hn)⟩, rfl⟩
  exact ⟨a, keep _ b n1, keep _ d n2⟩
theorem setKind_names (cs : List Cl) (n k : Str) : (setKind cs n k).map (·.1) = cs.map (·.1) := by
  unfold setKind
  rw [List.map_map]
  refine List.map_congr_left fun c _ => ?_
  show (if c.1 = n then (c.1, k) else c).1 = c.1
  split <;> rfl
theorem good_kind {ns : List Str} {cs : List Cl} {ts : List Ti} {n k : Str} (g : Good ns cs ts) (kd : KdOk k) : Good ns (setKind cs n k) ts := by
  have mem : ∀ c ∈ setKind cs n k, ∃ d ∈ cs, c = if d.1 = n then (d.1, k) else d := fun c hc => by
    obtain ⟨d, hd, e⟩ := List.mem_map.mp hc
    exact ⟨d, hd, e.symm⟩
  refine ⟨⟨by rw [setKind_names]; exact g.c.nd, fun c hc => ?_, ?_⟩, ⟨g.t.nd, fun t ht => by rw [setKind_names]; exact g.t.nm t ht, g.t.few⟩, fun c hc => ?_⟩
  · obtain ⟨d, hd, rfl⟩ := mem c hc
    obtain ⟨a, b⟩ := g.c.nm d hd
    split
    · exact ⟨a, kd⟩
    · exact ⟨a, b⟩
  · unfold setKind
    rw [List.length_map]
    exact g.c.few
  · obtain ⟨d, hd, rfl⟩ := mem c hc
    split <;> exact g.m d hd
/-- what stays of a known world behind a change of the network -/
theorem wd_net {b l x dc dt : Addr} {G H H' : Hp} {C dt' : Addr} {cs cs' : List Cl} {ts ts' : List Ti} (w : Wd b l G H) (na : NetA G C x dc dt cs ts) (hd : dt' = dt ∨ H dt' = none) (s : Same (h3 x dc dt H) H') (na' : NetA H' C x dc dt' cs' ts') :
    ∃ G', Wd b l G' H' ∧ NetA G' C x dc dt' cs' ts' ∧ Same (h3 x dc dt G) G' ∧ ∀ a o, G' a = some o → G a = none → a = dt' := by
  obtain ⟨dx, h0, h1, h2⟩ := na'
  obtain ⟨dy, g0, g1, g2⟩ := na
  have bx : b ≠ x := fun z => by rw [← z, w.nb] at g0; cases g0
  have bc : b ≠ dc := fun z => by rw [← z, w.nb] at g1; cases g1
  have bt : b ≠ dt := fun z => by rw [← z, w.nb] at g2; cases g2
  have lx : l ≠ x := fun z => by rw [← z, w.nl] at g0; cases g0
  have lc : l ≠ dc := fun z => by rw [← z, w.nl] at g1; cases g1
  have lt : l ≠ dt := fun z => by rw [← z, w.nl] at g2; cases g2
  have bd : b ≠ dt' := fun z => by
    rcases hd with e | e
    · exact bt (z.trans e)
    · exact absurd e (by rw [← z]; obtain ⟨o, k⟩ := w.bag.b_some; rw [k]; exact fun y => nomatch y)
  have ld : l ≠ dt' := fun z => by
    rcases hd with e | e
    · exact lt (z.trans e)
    · exact absurd e (by rw [← z]; obtain ⟨o, k⟩ := w.bag.l_some; rw [k]; exact fun y => nomatch y)
  let G' : Hp := fun a => if a = x ∨ a = dc ∨ a = dt ∨ a = dt' then H' a else G a
  have gx : ∀ a, (a = x ∨ a = dc ∨ a = dt ∨ a = dt') → G' a = H' a := fun a h => if_pos h
  have gn : ∀ a, ¬ (a = x ∨ a = dc ∨ a = dt ∨ a = dt') → G' a = G a := fun a h => if_neg h
  have nb : G' b = none := (gn b (by rintro (z | z | z | z); exact bx z; exact bc z; exact bt z; exact bd z)).trans w.nb
  have nl : G' l = none := (gn l (by rintro (z | z | z | z); exact lx z; exact lc z; exact lt z; exact ld z)).trans w.nl
  have sm : Same G' H' := fun a o e => by
    by_cases h : a = x ∨ a = dc ∨ a = dt ∨ a = dt'
    · rw [gx a h] at e
      exact e
    · rw [gn a h] at e
      refine s a o ?_
      rw [h3_ne (fun z => h (.inl z)) (fun z => h (.inr (.inl z))) (fun z => h (.inr (.inr (.inl z))))]
      exact w.sm _ _ e
  have bag : BagAt b l H' := by
    obtain ⟨ns, i, c, z, k1, k2, k3⟩ := w.bag
    refine ⟨ns, i, c, z, s _ _ ?_, s _ _ ?_, k3⟩
    · rw [h3_ne bx bc bt]; exact k1
    · rw [h3_ne lx lc lt]; exact k2
  refine ⟨G', ⟨nb, nl, sm, bag⟩, ⟨dx, (gx x (.inl rfl)).trans h0, (gx dc (.inr (.inl rfl))).trans h1, (gx dt' (.inr (.inr (.inr rfl)))).trans h2⟩, fun a o e => ?_, fun a o e n => ?_⟩
  · obtain ⟨n1, n2, n3, k⟩ := h3_some e
    by_cases z : a = dt'
    · rcases hd with y | y
      · exact absurd (z.trans y) n3
      · rw [z] at k
        rw [w.sm _ _ k] at y
        cases y
    · rw [gn a (by rintro (q | q | q | q); exact n1 q; exact n2 q; exact n3 q; exact z q)]
      exact k
  · by_cases h : a = x ∨ a = dc ∨ a = dt ∨ a = dt'
    · rcases h with h | h | h | h
      · rw [h, g0] at n; cases n
      · rw [h, g1] at n; cases n
      · rw [h, g2] at n; cases n
      · exact h
    · rw [gn a h, n] at e
      cases e
theorem eqv_str (a b : Str) : PyData.eqv (.str a) (.str b) = decide (a = b) := by
  show (a == b) = decide (a = b)
  by_cases h : a = b
  · rw [h]; simp
  · rw [decide_eq_false h]; exact beq_eq_false_iff_ne.mpr h
theorem eqv_ti (a b : Ti) : PyData.eqv (dTi a) (dTi b) = decide (a = b) := by
  obtain ⟨a1, a2, a3⟩ := a
  obtain ⟨b1, b2, b3⟩ := b
  show (PyData.eqv (.str a1) (.str b1) && (PyData.eqv (.str a2) (.str b2) && (PyData.eqv (.str a3) (.str b3) && true))) = _
  rw [eqv_str, eqv_str, eqv_str, Bool.and_true]
  by_cases h1 : a1 = b1
  · by_cases h2 : a2 = b2
    · by_cases h3 : a3 = b3
      · rw [h1, h2, h3]; simp
      · simp [h3]
    · simp [h2]
  · simp [h1]
theorem eqv_nil (ds : List PyData) : PyData.eqv (.list ds) (.list []) = decide (ds = []) := by
  cases ds with
  | nil => rfl
  | cons a r => rfl
theorem any_ti (t : Ti) : ∀ ts : List Ti, ((ts.map dTi).any fun z => PyData.eqv z (dTi t)) = decide (t ∈ ts)
  | [] => rfl
  | u :: ts => by
    rw [List.map_cons, List.any_cons, any_ti t ts, eqv_ti]
    by_cases h : u = t
    · subst h
      rw [decide_eq_true rfl, Bool.true_or, decide_eq_true List.mem_cons_self]
    · rw [decide_eq_false h, Bool.false_or]
      by_cases m : t ∈ ts
      · rw [decide_eq_true m, decide_eq_true (List.mem_cons_of_mem _ m)]
      · rw [decide_eq_false m, decide_eq_false (fun z => (List.mem_cons.mp z).elim (fun e => h e.symm) m)]
theorem IsNm.ok {z : Str} (h : IsNm z) : NmOk z := ⟨h.word, by
  have k := h.word
  unfold wordB at k
  rw [Bool.and_eq_true] at k
  have := of_decide_eq_true k.1
  omega⟩
theorem strOk_nm {o : Str} (h : NmOk o) : PySem.PyData.strOk o = true := by
  unfold PySem.PyData.strOk
  rw [Array.all_eq_true_iff_forall_mem]
  intro c hc
  have k := h.1
  unfold wordB at k
  have k2 := List.all_eq_true.mp (Bool.and_eq_true_iff.mp k).2 c (by simpa [TL.tl] using hc)
  have k3 : ∀ z ∈ TL.tl letters, z < 0x110000 := by decide +kernel
  exact decide_eq_true (k3 c (of_decide_eq_true k2))
theorem lay_ti {t : Ti} (h1 : NmOk t.1) (h2 : NmOk t.2.1) (h3 : NmOk t.2.2) : (dTi t).canLay0 = true := by
  show (PySem.PyData.strOk t.1 && (PySem.PyData.strOk t.2.1 && (PySem.PyData.strOk t.2.2 && true))) = true
  rw [strOk_nm h1, strOk_nm h2, strOk_nm h3]
  rfl
theorem shaped_ti {t : Ti} (h1 : NmOk t.1) (h2 : NmOk t.2.1) (h3 : NmOk t.2.2) : SeqAt.shaped (dTi t) = true := by
  unfold SeqAt.shaped
  rw [lay_ti h1 h2 h3, Bool.true_and]
  rfl
theorem lay_tis : ∀ {ts : List Ti}, (∀ t ∈ ts, NmOk t.1 ∧ NmOk t.2.1 ∧ NmOk t.2.2) → PyData.canLayAll0 (ts.map dTi) = true
  | [], _ => rfl
  | t :: ts, h => by
    obtain ⟨a, b, c⟩ := h t List.mem_cons_self
    show ((dTi t).canLay0 && PyData.canLayAll0 (ts.map dTi)) = true
    rw [lay_ti a b c, lay_tis fun m hm => h m (List.mem_cons_of_mem _ hm)]
    rfl
theorem shaped_tis {ts : List Ti} (h : ∀ t ∈ ts, NmOk t.1 ∧ NmOk t.2.1 ∧ NmOk t.2.2) : SeqAt.shaped (.list (ts.map dTi)) = true := by
  unfold SeqAt.shaped
  rw [Bool.and_eq_true, decide_eq_true_iff]
  refine ⟨lay_tis h, ?_⟩
  exact Nat.le_trans (Nat.succ_le_succ (depth_all (n := 1) fun d hd => by
    obtain ⟨u, _, rfl⟩ := List.mem_map.mp hd
    exact Nat.le_refl 1)) (by decide)
theorem name_ok {cs : List Cl} (h : CsOk cs) {z : Str} (hz : z ∈ cs.map (·.1)) : NmOk z := by
  obtain ⟨c, hc, rfl⟩ := List.mem_map.mp hz
  exact (h.nm c hc).1
end Bh

set_option Elab.async false
set_option linter.all false
set_option maxRecDepth 100000
set_option maxHeartbeats 1000000
namespace Bh
open PySem PySem.Spec PyProof.Rows L2
section
variable {P : Program} {w : World} {K : PySem.W.Frag} {mg : Str → Option Value} {base : Heap}
theorem like_step (T : Top K mg) (n : Nat) (G_l_like : FnOk P w K mg base CX0 n T.a_l_like T.fd_l_like ["_law_found", "_law_due"] (spLk K n)) : FnOk P w K mg base CX0 (n + 1) T.a_l_like T.fd_l_like ["_law_found", "_law_due"] (spLk K (n + 1)) := by
  refine T.d_l_like.F.ok sc_l_like (fun vs H Q E h => ?_) (fun cdv A outer s H vs Q E hr h => ?_)
  · obtain ⟨x, y, d, rfl, _⟩ := h
    rfl
  obtain ⟨x, y, d, rfl, hx, hy, hs, q⟩ := h
  refine ⟨_, (pss_cons (ps_if (pt_cmpR op_isN (pv 1) pe_non (nomark _)) (pss_one (ps_ret (pe_cmpR op_isN (pv 0) pe_non (nomark _)))) pss_nil)
    (pss_cons (ps_if (pt_val (pe_callB (call_isi_K (K := K) (by rfl)) (by rfl) T.b_isinstance (by decide +kernel) (pa_cons (pv 1) (pa_cons (pe_tyN "dict" (by rfl) T.b_dict (by decide +kernel)) pa_nil)))) (pss_cons ps_never
      (pss_one ps_never)) pss_nil)
    (pss_cons (ps_if (pt_val (pe_callB (call_isiT_K (K := K) (by rfl)) (by rfl) T.b_isinstance (by decide +kernel) (pa_cons (pv 1) (pa_cons (pe_tup (pa_cons (pe_tyN "list" (by rfl) T.b_list (by decide +kernel)) (pa_cons (pe_tyN "tuple" (by rfl) T.b_tuple (by decide +kernel)) pa_nil))) pa_nil)))) (pss_cons (ps_if (PW.pt (pw_or (pt_cmpR op_ne (pe_callB (call_isi_K (K := K) (by rfl)) (by rfl) T.b_isinstance (by decide +kernel) (pa_cons (pv 0) (pa_cons (pe_tyN "list" (by rfl) T.b_list (by decide +kernel)) pa_nil))) (pe_callB (call_isi_K (K := K) (by rfl)) (by rfl) T.b_isinstance (by decide +kernel) (pa_cons (pv 1) (pa_cons (pe_tyN "list" (by rfl) T.b_list (by decide +kernel)) pa_nil))) (nomark _)) (pw_or1 (pt_cmpR op_ne (pe_callB (call_isi_K (K := K) (by rfl)) (by rfl) T.b_isinstance (by decide +kernel) (pa_cons (pv 0) (pa_cons (pe_tyN "tuple" (by rfl) T.b_tuple (by decide +kernel)) pa_nil))) (pe_callB (call_isi_K (K := K) (by rfl)) (by rfl) T.b_isinstance (by decide +kernel) (pa_cons (pv 1) (pa_cons (pe_tyN "tuple" (by rfl) T.b_tuple (by decide +kernel)) pa_nil))) (nomark _))))) (pss_one (ps_ret pe_bl)) pss_nil)
      (pss_one (ps_ret (pe_and (pe_cmpR op_eq (pe_callB (call_len_seq_K (K := K) (by rfl)) (by rfl) T.b_len PySem.boot_len (pa_cons (pv 0) pa_nil)) (pe_callB (call_len_seq_K (K := K) (by rfl)) (by rfl) T.b_len PySem.boot_len (pa_cons (pv 1) pa_nil)) (nomark _)) (pe_one (pe_callB (cr_all_K (K := K) (by rfl) rfl) (by rfl) T.b_all (by decide +kernel) (pa_cons (pe_lc (own := [("_law_one", 3), ("_law_other", 4)]) rfl sc_l_like.nd (pi_zipA_K (K := K) (by rfl) (by rfl) T.b_zip (pa_cons (pv 0) (pa_cons (pv 1) pa_nil))) (blkOk_by (own := [("_law_one", 3), ("_law_other", 4)]) (N := ["_law_found", "_law_due", "_law_key", "_law_one", "_law_other"]) (sc := defScope s_l_like) (by decide +kernel)) (fun _ _ _ _ _ => by exact (pg_tup_K (K := K) (by rfl) (n := 2) (by rfl) (pgs_cons (pg_name (i := 3) sc_l_like.nd rfl (Or.inl rfl)) (pgs_cons (pg_name (i := 4) sc_l_like.nd rfl (Or.inl rfl)) pgs_nil)))) (fun _ _ _ _ _ => by exact pts_nil) (fun _ _ _ _ _ => by exact (pe_call G_l_like hr (by rfl) T.d_l_like.g T.d_l_like.kp T.d_l_like.b .nil pass0 (pa_cons (pv 3) (pa_cons (pv 4) pa_nil))))) pa_nil))))))) pss_nil)
    (pss_cons (ps_if (PW.pt (pw_or (pt_cmpR op_ne (pe_callB (call_isi_K (K := K) (by rfl)) (by rfl) T.b_isinstance (by decide +kernel) (pa_cons (pv 0) (pa_cons (pe_tyN "bool" (by rfl) T.b_bool (by decide +kernel)) pa_nil))) (pe_callB (call_isi_K (K := K) (by rfl)) (by rfl) T.b_isinstance (by decide +kernel) (pa_cons (pv 1) (pa_cons (pe_tyN "bool" (by rfl) T.b_bool (by decide +kernel)) pa_nil))) (nomark _)) (pw_or1 (pt_cmpR op_ne (pe_callB (call_isi_K (K := K) (by rfl)) (by rfl) T.b_isinstance (by decide +kernel) (pa_cons (pv 0) (pa_cons (pe_tyN "int" (by rfl) T.b_int (by decide +kernel)) pa_nil))) (pe_callB (call_isi_K (K := K) (by rfl)) (by rfl) T.b_isinstance (by decide +kernel) (pa_cons (pv 1) (pa_cons (pe_tyN "int" (by rfl) T.b_int (by decide +kernel)) pa_nil))) (nomark _))))) (pss_one (ps_ret pe_bl)) pss_nil)
    (pss_one (ps_ret (pe_and (pe_cmpR op_eq (pe_callB (call_isi_K (K := K) (by rfl)) (by rfl) T.b_isinstance (by decide +kernel) (pa_cons (pv 0) (pa_cons (pe_tyN "str" (by rfl) T.b_str (by decide +kernel)) pa_nil))) (pe_callB (call_isi_K (K := K) (by rfl)) (by rfl) T.b_isinstance (by decide +kernel) (pa_cons (pv 1) (pa_cons (pe_tyN "str" (by rfl) T.b_str (by decide +kernel)) pa_nil))) (nomark _)) (pe_one (pe_cmpR op_eq (pv 0) (pv 1) (nomark _)))))))))), ?_⟩
  cases hx with
  | non =>
    cases hy
    refine ⟨_, rfl, rfl, _, rfl, iteY rfl ⟨_, rfl, rfl, ?_⟩⟩
    exact q _ (Same.refl _)
  | bl b =>
    cases hy
    refine ⟨_, rfl, rfl, _, rfl, iteN (by intro z; cases z) ?_⟩
    refine ⟨_, rfl, _, _, _, _, false, rfl, .ty _, .base (.bl b), kit_ty (by decide +kernel), _, rfl, iteF ?_⟩
    refine ⟨_, rfl, (by show 2 ≤ sizeLine; decide), fun p np => ⟨_, p, _, _, _, false, rfl, upd_same, .cons (.ty _) (.cons (.ty _) .nil), .base (.bl b), kitAny_cons (kit_ty (b := "list") (r := false) (by decide +kernel)) (fun _ => kitAny_cons (kit_ty (r := false) (by decide +kernel)) (fun _ => kitAny_nil) (fun z => nomatch z)) (fun z => nomatch z), _, rfl, iteF ?_⟩⟩
    refine ⟨_, rfl, _, _, _, _, true, rfl, .ty _, .base (.bl b), kit_ty (by decide +kernel), _, rfl, _, _, _, _, true, rfl, .ty _, .base (.bl b), kit_ty (by decide +kernel), rfl, _, rfl, iteNS rfl ?_⟩
    refine ⟨_, rfl, _, _, _, _, true, rfl, .ty _, .base (.bl b), kit_ty (by decide +kernel), _, rfl, _, _, _, _, true, rfl, .ty _, .base (.bl b), kit_ty (by decide +kernel), rfl, _, rfl, iteNS rfl ?_⟩
    refine ⟨_, rfl, _, _, _, _, false, rfl, .ty _, .base (.bl b), kit_ty (by decide +kernel), _, rfl, _, _, _, _, false, rfl, .ty _, .base (.bl b), kit_ty (by decide +kernel), rfl, _, rfl, iteY rfl ⟨_, rfl, _, rfl, rfl, q_eq (q _ (same_new np))⟩⟩
  | int i =>
    cases hy
    refine ⟨_, rfl, rfl, _, rfl, iteN (by intro z; cases z) ?_⟩
    refine ⟨_, rfl, _, _, _, _, false, rfl, .ty _, .base (.int i), kit_ty (by decide +kernel), _, rfl, iteF ?_⟩
    refine ⟨_, rfl, (by show 2 ≤ sizeLine; decide), fun p np => ⟨_, p, _, _, _, false, rfl, upd_same, .cons (.ty _) (.cons (.ty _) .nil), .base (.int i), kitAny_cons (kit_ty (b := "list") (r := false) (by decide +kernel)) (fun _ => kitAny_cons (kit_ty (r := false) (by decide +kernel)) (fun _ => kitAny_nil) (fun z => nomatch z)) (fun z => nomatch z), _, rfl, iteF ?_⟩⟩
    refine ⟨_, rfl, _, _, _, _, false, rfl, .ty _, .base (.int i), kit_ty (by decide +kernel), _, rfl, _, _, _, _, false, rfl, .ty _, .base (.int i), kit_ty (by decide +kernel), rfl, _, rfl, iteNS rfl ?_⟩
    refine ⟨_, rfl, _, _, _, _, true, rfl, .ty _, .base (.int i), kit_ty (by decide +kernel), _, rfl, _, _, _, _, true, rfl, .ty _, .base (.int i), kit_ty (by decide +kernel), rfl, _, rfl, iteNS rfl ?_⟩
    refine ⟨_, rfl, _, _, _, _, false, rfl, .ty _, .base (.int i), kit_ty (by decide +kernel), _, rfl, _, _, _, _, false, rfl, .ty _, .base (.int i), kit_ty (by decide +kernel), rfl, _, rfl, iteY rfl ⟨_, rfl, _, rfl, rfl, q_eq (q _ (same_new np))⟩⟩
  | str z =>
    cases hy
    refine ⟨_, rfl, rfl, _, rfl, iteN (by intro z; cases z) ?_⟩
    refine ⟨_, rfl, _, _, _, _, false, rfl, .ty _, .base (.str z), kit_ty (by decide +kernel), _, rfl, iteF ?_⟩
    refine ⟨_, rfl, (by show 2 ≤ sizeLine; decide), fun p np => ⟨_, p, _, _, _, false, rfl, upd_same, .cons (.ty _) (.cons (.ty _) .nil), .base (.str z), kitAny_cons (kit_ty (b := "list") (r := false) (by decide +kernel)) (fun _ => kitAny_cons (kit_ty (r := false) (by decide +kernel)) (fun _ => kitAny_nil) (fun z => nomatch z)) (fun z => nomatch z), _, rfl, iteF ?_⟩⟩
    refine ⟨_, rfl, _, _, _, _, false, rfl, .ty _, .base (.str z), kit_ty (by decide +kernel), _, rfl, _, _, _, _, false, rfl, .ty _, .base (.str z), kit_ty (by decide +kernel), rfl, _, rfl, iteNS rfl ?_⟩
    refine ⟨_, rfl, _, _, _, _, false, rfl, .ty _, .base (.str z), kit_ty (by decide +kernel), _, rfl, _, _, _, _, false, rfl, .ty _, .base (.str z), kit_ty (by decide +kernel), rfl, _, rfl, iteNS rfl ?_⟩
    refine ⟨_, rfl, _, _, _, _, true, rfl, .ty _, .base (.str z), kit_ty (by decide +kernel), _, rfl, _, _, _, _, true, rfl, .ty _, .base (.str z), kit_ty (by decide +kernel), rfl, _, rfl, iteY rfl ⟨_, rfl, _, rfl, rfl, q_eq (q _ (same_new np))⟩⟩
  | @lst a xs ds h1 h2 =>
    cases hy with
    | @lst b ys _ k1 k2 =>
    cases hs with
    | @lst m _ hl hall =>
    have lxy : xs.length = ys.length := (DpAll.length h2).trans (DpAll.length k2).symm
    refine ⟨_, rfl, rfl, _, rfl, iteN (by intro z; cases z) ?_⟩
    refine ⟨_, rfl, _, _, _, _, false, rfl, .ty _, tyL k1, kit_ty (by decide +kernel), _, rfl, iteF ?_⟩
    refine ⟨_, rfl, (by show 2 ≤ sizeLine; decide), fun p np => ⟨_, p, _, _, _, true, rfl, upd_same, .cons (.ty _) (.cons (.ty _) .nil), tyL ((same_new np).seq k1), kitAny_cons (kit_ty (b := "list") (r := true) (by decide +kernel)) (fun z => nomatch z) (fun _ => rfl), _, rfl, iteT ?_⟩⟩
    have e1 : Same H (upd H p (.tup [.ty "list", .ty "tuple"])) := same_new np
    have h1' := e1.seq h1
    have k1' := e1.seq k1
    refine ⟨_, rfl, _, _, _, _, true, rfl, .ty _, tyL h1', kit_ty (by decide +kernel), _, rfl, _, _, _, _, true, rfl, .ty _, tyL k1', kit_ty (by decide +kernel), rfl, _, rfl, iteNS rfl ?_⟩
    refine ⟨_, rfl, _, _, _, _, false, rfl, .ty _, tyL h1', kit_ty (by decide +kernel), _, rfl, _, _, _, _, false, rfl, .ty _, tyL k1', kit_ty (by decide +kernel), rfl, _, rfl, iteNS rfl ?_⟩
    refine ⟨_, rfl, a, xs, rfl, .inl h1', _, rfl, b, ys, rfl, .inl k1', rfl, _, rfl, iteY (by rw [lxy]) ?_⟩
    refine ⟨_, rfl, _, rfl, a, b, xs, ys, rfl, .inl ⟨h1', k1', fun D nD => ?_⟩⟩
    refine lc_it (walk_zip (n := xs.length) (by omega)) (fun i H' => Same (upd H p (.tup [.ty "list", .ty "tuple"])) H' ∧ H' D = some (.lst ((List.replicate i true).map V.bl))) ⟨same_new nD, upd_same⟩ (fun i H' _ p => ⟨p.1.seq h1', p.1.seq k1'⟩) ?_ ?_
    · rintro i v H' H'' hi ⟨s1, hD⟩ ⟨Tp, x', y', rfl, nT, rfl, ex, ey⟩
      refine ⟨Tp, [x', y'], rfl, .inl (.inl upd_same), rfl, x', [y'], rfl, y', [], rfl, rfl, rfl, ?_⟩
      obtain ⟨d', hm, hx', hy'⟩ := dpa_at h2 k2 ex ey
      have s2 := e1.trans (s1.trans (same_new (o := .tup [x', y']) nT))
      refine ⟨_, rfl, _, rfl, x', y', d', rfl, Dp.mono s2 hx', Dp.mono s2 hy', hall _ hm, fun H4 s4 => ?_⟩
      have lz : xs.length = ds.length := DpAll.length h2
      refine ⟨_, s4 _ _ ((upd_ne (ne_of_none hD nT)).trans hD), by rw [List.length_map, List.length_replicate]; exact lt_line (by omega), fun b' o e' => ?_, ?_⟩
      · have nb : b' ≠ D := ne_of_none e' nD
        rw [upd_ne nb]
        exact s4 _ _ (same_new nT _ _ (s1 _ _ e'))
      · rw [upd_same, List.replicate_succ', List.map_append]
        rfl
    · rintro H' ⟨s1, hD⟩
      refine ⟨D, List.replicate xs.length true, rfl, SqL.of hD, ?_⟩
      rw [bls_true]
      exact q _ (e1.trans s1)
  | @tup a xs ds h1 h2 =>
    cases hy with
    | @tup b ys _ k1 k2 =>
    cases hs with
    | @tup m _ hl hall =>
    have lxy : xs.length = ys.length := (DpAll.length h2).trans (DpAll.length k2).symm
    refine ⟨_, rfl, rfl, _, rfl, iteN (by intro z; cases z) ?_⟩
    refine ⟨_, rfl, _, _, _, _, false, rfl, .ty _, tyT k1, kit_ty (by decide +kernel), _, rfl, iteF ?_⟩
    refine ⟨_, rfl, (by show 2 ≤ sizeLine; decide), fun p np => ⟨_, p, _, _, _, true, rfl, upd_same, .cons (.ty _) (.cons (.ty _) .nil), tyT (Same.tup (same_new np) k1), kitAny_cons (kit_ty (b := "list") (r := false) (by decide +kernel)) (fun _ => kitAny_cons (kit_ty (r := true) (by decide +kernel)) (fun z => nomatch z) (fun _ => rfl)) (fun z => nomatch z), _, rfl, iteT ?_⟩⟩
    have e1 : Same H (upd H p (.tup [.ty "list", .ty "tuple"])) := same_new np
    have h1' := Same.tup e1 h1
    have k1' := Same.tup e1 k1
    refine ⟨_, rfl, _, _, _, _, false, rfl, .ty _, tyT h1', kit_ty (by decide +kernel), _, rfl, _, _, _, _, false, rfl, .ty _, tyT k1', kit_ty (by decide +kernel), rfl, _, rfl, iteNS rfl ?_⟩
    refine ⟨_, rfl, _, _, _, _, true, rfl, .ty _, tyT h1', kit_ty (by decide +kernel), _, rfl, _, _, _, _, true, rfl, .ty _, tyT k1', kit_ty (by decide +kernel), rfl, _, rfl, iteNS rfl ?_⟩
    refine ⟨_, rfl, a, xs, rfl, .inr h1', _, rfl, b, ys, rfl, .inr k1', rfl, _, rfl, iteY (by rw [lxy]) ?_⟩
    refine ⟨_, rfl, _, rfl, a, b, xs, ys, rfl, .inr ⟨h1', k1', fun D nD => ?_⟩⟩
    refine lc_it (walk_zipT (n := xs.length) (by omega)) (fun i H' => Same (upd H p (.tup [.ty "list", .ty "tuple"])) H' ∧ H' D = some (.lst ((List.replicate i true).map V.bl))) ⟨same_new nD, upd_same⟩ (fun i H' _ p => ⟨Same.tup p.1 h1', Same.tup p.1 k1'⟩) ?_ ?_
    · rintro i v H' H'' hi ⟨s1, hD⟩ ⟨Tp, x', y', rfl, nT, rfl, ex, ey⟩
      refine ⟨Tp, [x', y'], rfl, .inl (.inl upd_same), rfl, x', [y'], rfl, y', [], rfl, rfl, rfl, ?_⟩
      obtain ⟨d', hm, hx', hy'⟩ := dpa_at h2 k2 ex ey
      have s2 := e1.trans (s1.trans (same_new (o := .tup [x', y']) nT))
      refine ⟨_, rfl, _, rfl, x', y', d', rfl, Dp.mono s2 hx', Dp.mono s2 hy', hall _ hm, fun H4 s4 => ?_⟩
      have lz : xs.length = ds.length := DpAll.length h2
      refine ⟨_, s4 _ _ ((upd_ne (ne_of_none hD nT)).trans hD), by rw [List.length_map, List.length_replicate]; exact lt_line (by omega), fun b' o e' => ?_, ?_⟩
      · have nb : b' ≠ D := ne_of_none e' nD
        rw [upd_ne nb]
        exact s4 _ _ (same_new nT _ _ (s1 _ _ e'))
      · rw [upd_same, List.replicate_succ', List.map_append]
        rfl
    · rintro H' ⟨s1, hD⟩
      refine ⟨D, List.replicate xs.length true, rfl, SqL.of hD, ?_⟩
      rw [bls_true]
      exact q _ (e1.trans s1)
theorem ok_like (T : Top K mg) : ∀ n : Nat, FnOk P w K mg base CX0 n T.a_l_like T.fd_l_like ["_law_found", "_law_due"] (spLk K n)
  | 0 => ⟨fun _ _ _ _ h => h.elim, fun _ _ _ _ _ _ _ _ _ _ _ _ _ h => h.elim⟩
  | n + 1 => like_step T n (ok_like T n)
end
end Bh

set_option Elab.async false
set_option linter.all false
set_option maxRecDepth 100000
namespace Bh
open PySem PySem.Spec PyProof.Rows L2
/-! ### l.clear() of a list -/
def rLClear : V → List V → Hp → VK → Prop := fun x vs H Q => ∃ l xs, x = .ref l ∧ vs = [] ∧ H l = some (.lst xs) ∧ Q .non (upd H l (.lst []))
theorem mt_lclear {X : Cx} : MtM X "list.clear" rLClear := by
  intro pins s σ H x vs v us Q I rx rv h
  obtain ⟨l, xs, rfl, rfl, hH, q⟩ := h
  cases rx
  cases rv
  obtain ⟨z, its, n, r, hl, e⟩ := I.lstM hH
  refine call_meets PySem.F.slot_list_clear ⟨_, e, rfl⟩ PySem.F.entry_list_clear (PySem.F.args_list_clear_1 _) (PySem.AutoSeq1.list_clear_list_0 l its.toArray n ?_) ⟨e, ?_⟩
  · rw [List.size_toArray, ← r.length]; exact z
  · exact ⟨.non, _, I.lset (its' := []) hH e (by simp) .nil (Nat.zero_le _), rfl, q⟩
theorem pe_bm0_K {X : Cx} {K : PySem.W.Frag} (hK : X.K = K) {o : Expr} {to : TE} {name : Str} {apos cpos : Pos} {T id : String} {r : V → List V → Hp → VK → Prop}
    (pa : PlainAttrs T) (slot : Slot T name id) (hty : typeOf (.builtin id) = pure (.type "method_descriptor")) (hm : MtR X id r) (ho : PE X o to)
    (hbase : attributeBase o name X.env (eval o X.env) = eval o X.env := by rfl) (hline : (apos.endLine == cpos.line) = true := by rfl) : PE X (.Call (.Attribute o name apos) [] [] cpos) (tBM0 K T r to) := by
  subst hK
  exact pe_bm0 pa slot hty hm ho hbase hline
end Bh

set_option Elab.async false
set_option linter.all false
set_option maxRecDepth 100000
set_option maxHeartbeats 2000000
namespace Bh
open PySem PySem.Spec PyProof.Rows L2
/-! ### a list comprehension whose item knows the def's own state at the block's beginning -/
section
variable {X : Cx}
/-- what one turn is to do (the parts of tLc, under names) -/
def StepW (J : It) (g : TG) (tt : TT) (te : TE) (ws : L2.St) (vs : List Nat) (D : Addr) (i : Nat) (Nx : Hp → Prop) (h0 : Hp) : Prop :=
  ∀ x h1, J.yld i h0 x h1 → g x ws h1 fun σ2 h2 => wipe σ2 vs = ws ∧ tt σ2 h2 fun b h3 =>
    if b = true then te σ2 h3 fun y h4 => ∃ acc, h4 D = some (.lst acc) ∧ acc.length < sizeLine ∧ Nx (upd h4 D (.lst (acc ++ [y]))) else Nx h3
theorem pe_lcx {elt tg iter : Expr} {ifs : List Expr} {scope : Scope} {own : List (Str × Nat)} {pos : Pos} {wi : TI} {g : TG} {tt : TT} {te : L2.St → TE} (calm : X.calm = true) (nd : X.N.Nodup) (hi : PI X tg iter wi) (blk : BlkOk X.N X.env.scope scope own)
    (hg : ∀ s H C cl fp, PG (X.blk s H scope (compEnvC scope cl C X.env) fp) tg g) (ht : ∀ s H C cl fp, PTs (X.blk s H scope (compEnvC scope cl C X.env) fp) ifs tt)
    (he : ∀ σ s H C cl fp, (∃ pins, Inv X pins σ H s ∧ ∀ b ∈ fp, FpOk X pins H b) → PE (X.blk s H scope (compEnvC scope cl C X.env) fp) elt (te σ)) (hs : ∀ x, foldedSetIterable iter X.env x = pure x := by intro _; rfl) :
    PE X (.ListComp elt [⟨tg, iter, ifs, 0⟩] scope pos) (fun σ H Q => tLc wi g tt (te σ) (own.map (·.2)) σ H Q) := by
  constructor
  intro pins s σ H Q I h
  rw [eval_ListComp]
  have caught : ∀ y ∈ scope.names, y.2 = .free → ∃ c, X.env.cells.lookup y.1 = some c := fun y hy e => (blk.free y hy e).elim (fun k => I.ok.has _ (.inl k)) fun k => I.ok.has _ (.inr k)
  apply wpAny_comprehension_free (use := none) rfl hs (closure_ok caught) blk.kind (fun y hy e => (blk.uniq y hy).trans (congrArg some e))
  refine thn (hi.run pins s σ H _ I h) fun w1 t1 k1 => thn k1 fun w2 t2 k2 => ?_
  obtain ⟨it, fp, tn, J, Ha, rfl, Ia, T, sta, fa, q⟩ := k2
  refine wpAny_newObj_type (newEnv_comp ?_) (Nat.zero_le _)
  -- the list to be, at D
  obtain ⟨D, hD⟩ : ∃ D, D = t2.heap.objs.size := ⟨_, rfl⟩
  have freeD : Ha D = none := Ia.hok.fresh (Nat.le_of_eq hD.symm)
  obtain ⟨W, ⟨m0, w0⟩, turn⟩ := q D freeD
  rw [← hD]
  obtain ⟨t3, h3⟩ : ∃ t3 : Shared, t3 = { t2 with heap := t2.heap.push { cls := .type "list", data := .seq ([] : List Value).toArray } } := ⟨_, rfl⟩
  obtain ⟨Hb, hb⟩ : ∃ Hb, Hb = upd Ha D (.lst []) := ⟨_, rfl⟩
  have keep3 : ∀ b o, t2.heap.get? b = some o → t3.heap.get? b = some o := fun b o e => by subst h3; exact Heap.get?_push_of_some _ e
  have Ib : Inv X pins σ Hb t3 := by
    subst h3 hb
    exact Ia.laid (t' := t2.toks) (fun b o e => Heap.get?_push_of_some _ e) (Nat.le_of_eq hD.symm) ⟨Nat.zero_le _, [], 0, .nil, by rw [hD]; exact Heap.get?_push_size _ rfl⟩
  have low : ∀ b ∈ fp, b < t2.heap.objs.size := fun b m => (T.obj _ _ sta b m).elim fun o e => Heap.lt_size e.1
  have size3 : t3.heap.objs.size = t2.heap.objs.size + 1 := by subst h3; exact Heap.size_push _ _
  have fb : ∀ b ∈ fp, FpOk X pins Hb b ∧ b < t3.heap.objs.size := fun b m => by
    have l := low b m
    refine ⟨⟨?_, (fa b m).2⟩, Nat.lt_of_lt_of_le l (by rw [size3]; exact Nat.le_succ _)⟩
    subst hb
    rw [upd_ne (by rw [hD]; exact Nat.ne_of_lt l)]
    exact (fa b m).1
  have Ic := block_start Ib blk nd fb
  have nofp : ∀ b ∈ fp, Hb b = none := fun b m => (fb b m).1.1
  rw [show ({ t2 with heap := t2.heap.push { cls := .type "list", data := .seq ([] : List Value).toArray } } : Shared) = t3 from h3.symm]
  obtain ⟨cells, hcells⟩ : ∃ l, l = cellsFrom (t3.heap.objs.size + 1) scope.names (cloFrom X.env.cells scope.names []) := ⟨_, rfl⟩
  rw [← hcells] at Ic ⊢
  have runG := hg t3 Hb t3.heap.objs.size cells fp
  have runT := ht t3 Hb t3.heap.objs.size cells fp
  have runE := he σ t3 Hb t3.heap.objs.size cells fp ⟨pins, Ib, fun b m => (fb b m).1⟩
  obtain ⟨ce, hce⟩ : ∃ ce, ce = compEnvC scope cells t3.heap.objs.size X.env := ⟨_, rfl⟩
  have ceL : ce.locals = t3.heap.objs.size := by subst hce; rfl
  show codeAny _ _ (.compStart (.ListComp elt [⟨tg, iter, ifs, 0⟩] scope pos) 0 (.ref it) (.ref D) (compEnvC scope cells t3.heap.objs.size X.env)) (compPost (model X.prog X.w) X.A X.xe none (EP X pins σ Q) (.ref D) t3.heap.objs.size) { t3 with heap := pushCells (t3.heap.push { cls := .type "dict", data := .dict #[] }) scope.names }
  rw [← hce] at Ic runG runT runE ⊢
  rw [← hb] at w0
  obtain ⟨t4, h4⟩ : ∃ t4 : Shared, t4 = { t3 with heap := pushCells (t3.heap.push { cls := .type "dict", data := .dict #[] }) scope.names } := ⟨_, rfl⟩
  rw [← h4] at Ic ⊢
  have st3 : tn 0 t3.heap := T.keep _ _ _ sta fun b _ o e => keep3 b o e
  have st4 : tn 0 t4.heap := T.keep _ _ _ st3 fun b _ o e => by subst h4; exact pushCells_keeps _ _ _ _ (Heap.get?_push_of_some _ e)
  have own' : ∀ {σ' : L2.St} {H' : Hp} {s' : Shared}, Inv (X.blk t3 Hb scope ce fp) [] σ' H' s' → (∀ b ∈ fp, H' b = none) → ∀ b ∈ fp, FpOk (X.blk t3 Hb scope ce fp) [] H' b := fun J' n b m =>
    ⟨n b m, (J'.ok.exf b m).1, J'.ok.exfs b m, .inl m, fun x c e => (J'.ok.exf b m).2 x c e, fun p hp => by cases (show p ∈ ([] : List (Addr × Obj)) from hp)⟩
  have loop : codeAny (model X.prog X.w) X.A (.compLoop (.ListComp elt [⟨tg, iter, ifs, 0⟩] scope pos) 0 (.ref it) (.ref D) ce) (compPost (model X.prog X.w) X.A X.xe none (EP X pins σ Q) (.ref D) t3.heap.objs.size) t4 := by
    apply compLoop_any (fun n s' => ∃ i H', Inv (X.blk t3 Hb scope ce fp) [] (wipe σ (own.map (·.2))) H' s' ∧ tn i s'.heap ∧ (∀ b ∈ fp, H' b = none) ∧ W i n H') ?_ m0 ⟨0, Hb, Ic, st4, nofp, w0⟩
    intro n s5 ⟨i, H5, I5, st5, n5, w5⟩
    rcases turn i n H5 w5 with ⟨stop, fin⟩ | ⟨go, Nx, more, step⟩
    · refine thnF (T.done (X.blk t3 Hb scope ce fp) rfl rfl rfl calm i [] s5 _ H5 (fun _ _ => False) I5 (own' I5 n5) st5 stop) fun r s6 k6 => ?_
      obtain ⟨rfl, I6⟩ := k6
      have back : Inv X pins σ H5 s6 := Ib.call' (ch := fp) I6.os I6.base I6.hok I6.bare fun b m => ⟨(fb b m).1.2.2.2.1, (fb b m).1.2.1, (fb b m).1.2.2.2.2.1, (fb b m).1.2.2.2.2.2⟩
      have gone : H5 t3.heap.objs.size = none := ceL ▸ (show H5 ce.locals = none from I6.free)
      obtain ⟨m, ns, _⟩ := I6.loc
      have ns : s6.heap.Ns t3.heap.objs.size m := ceL ▸ (show s6.heap.Ns ce.locals m from ns)
      obtain ⟨f0, f1, f2, f3, f4, f5⟩ := Ib.fpOk (H' := H5) (Nat.le_refl _) gone
      exact ⟨m, ns, fun h'' sb => ⟨.ref D, H5, back.turned (t' := s6.toks) (fun b o hb e => (sb.2 b hb).trans e) f0 f1 f3 f4 f5, rfl, fin⟩⟩
    · refine thnF (T.item (X.blk t3 Hb scope ce fp) rfl rfl rfl calm i [] s5 _ H5 (fun _ _ => False) I5 (own' I5 n5) st5 go) fun r s6 k6 => ?_
      obtain ⟨u, rfl, k6⟩ := k6
      refine thnF k6 fun _ s7 k7 => ?_
      obtain ⟨x, H7, I7, r7, y7, st7, n7⟩ := k7
      have held := T.obj _ _ st7
      have turnEnd : ∀ {σ8 : L2.St} {H' : Hp} {s' : Shared}, wipe σ8 (own.map (·.2)) = wipe σ (own.map (·.2)) → Inv (X.blk t3 Hb scope ce fp) ([] ++ pinsAt fp s7.heap) σ8 H' s' → Nx H' →
          ∃ m, m < n ∧ ∃ i H', Inv (X.blk t3 Hb scope ce fp) [] (wipe σ (own.map (·.2))) H' s' ∧ tn i s'.heap ∧ (∀ b ∈ fp, H' b = none) ∧ W i m H' := by
        intro σ8 H' s' e8 J' nx
        obtain ⟨m', lt, w'⟩ := more H' nx
        have still : ∀ b ∈ fp, ∀ o, s7.heap.get? b = some o → s'.heap.get? b = some o ∧ H' b = none := fun b hb o e => by
          obtain ⟨z1, z2, _⟩ := J'.pin (b, o) (List.mem_append_right _ (List.mem_append_right _ (mem_pinsAt hb e)))
          exact ⟨z1, z2⟩
        have J2 : Inv (X.blk t3 Hb scope ce fp) [] σ8 H' s' := J'.unpinned (pins := [])
        refine ⟨m', lt, i + 1, H', J2.weak (by rw [← e8, wipe_length]) (fun j v e => (wipe_some (vs := own.map (·.2)) (by rw [e8]; exact e)).1), T.keep _ _ _ st7 fun b hb o e => (still b hb o e).1, fun b hb => ?_, w'⟩
        obtain ⟨o, e, _⟩ := held b hb
        exact (still b hb o e).2
      refine thnF (runG.run _ s7 _ H7 x u _ (I7.pinned (own' I7 n7) held) r7 (step x H7 y7)) fun _ s8 k8 => ?_
      obtain ⟨σ8, H8, I8, e8, q8⟩ := k8
      refine thnF (runT.run _ s8 σ8 H8 _ I8 q8) fun b s9 k9 => ?_
      obtain ⟨H9, I9, q9⟩ := k9
      by_cases kept : b = true
      · rw [if_pos kept] at q9 ⊢
        refine thnF (runE.run _ s9 σ8 H9 _ I9 q9) fun z s10 k10 => ?_
        obtain ⟨y, H10, I10, r10, acc, at10, few, nx⟩ := k10
        exact app_ok (X := X.blk t3 Hb scope ce fp) I10 at10 few r10 fun s11 I11 => turnEnd e8 I11 nx
      · rw [if_neg kept] at q9 ⊢
        exact turnEnd e8 I9 q9
  exact codeAny_compStart_list loop (T.self _ 0 _ _ _ st4 loop)
end
end Bh

set_option Elab.async false
set_option linter.all false
set_option maxRecDepth 100000
set_option maxHeartbeats 1000000
set_option autoImplicit false
namespace Bh
open PySem PySem.Spec PyProof.Rows L2
/-- the law's own two lists -/
structure LsA (K : PySem.W.Frag) (H : Hp) (p1 p2 : Addr) (cs : List Cl) (ts : List Ti) : Prop where
  c : ∃ xs, H p1 = some (.lst xs) ∧ DpAll K H xs (cs.map dCell)
  t : ∃ ys, H p2 = some (.lst ys) ∧ DpAll K H ys (ts.map dTi)
theorem LsA.mono {K : PySem.W.Frag} {H H' : Hp} {p1 p2 : Addr} {cs : List Cl} {ts : List Ti} (s : Same H H') (h : LsA K H p1 p2 cs ts) : LsA K H' p1 p2 cs ts := by
  obtain ⟨⟨xs, h1, d1⟩, ys, h2, d2⟩ := h
  exact ⟨⟨xs, s _ _ h1, DpAll.mono s d1⟩, ys, s _ _ h2, DpAll.mono s d2⟩
/-- data stays where the network changes -/
def Ndict (x dc dt : Addr) (H : Hp) : Prop := ∀ a ∈ [x, dc, dt], ∀ o, H a = some o → (∀ xs, o ≠ .lst xs) ∧ (∀ xs, o ≠ .tup xs) ∧ ∀ ob u, o ≠ .frz ob u
theorem NetA.nd {H : Hp} {C x dc dt : Addr} {cs : List Cl} {ts : List Ti} (h : NetA H C x dc dt cs ts) : Ndict x dc dt H := fun a ha o e => by
  obtain ⟨dx, h0, h1, h2⟩ := h
  have : a = x ∨ a = dc ∨ a = dt := by simpa using ha
  rcases this with rfl | rfl | rfl
  · rw [h0] at e; cases e; exact ⟨(fun _ z => nomatch z), (fun _ z => nomatch z), (fun _ _ z => nomatch z)⟩
  · rw [h1] at e; cases e; exact ⟨(fun _ z => nomatch z), (fun _ z => nomatch z), (fun _ _ z => nomatch z)⟩
  · rw [h2] at e; cases e; exact ⟨(fun _ z => nomatch z), (fun _ z => nomatch z), (fun _ _ z => nomatch z)⟩
section
variable {K : PySem.W.Frag} {H : Hp} {x dc dt : Addr} (n : Ndict x dc dt H)
include n
theorem nd_lst {a : Addr} {xs : List V} (e : H a = some (.lst xs)) : h3 x dc dt H a = some (.lst xs) := by
  rw [h3_ne (fun z => (n a (by simp [z]) _ e).1 _ rfl) (fun z => (n a (by simp [z]) _ e).1 _ rfl) (fun z => (n a (by simp [z]) _ e).1 _ rfl)]
  exact e
theorem nd_tup {a : Addr} {xs : List V} (h : SqT K H a xs) : SqT K (h3 x dc dt H) a xs := by
  rcases h with (e | ⟨o, e⟩) | h
  · exact .inl (.inl (by rw [h3_ne (fun z => (n a (by simp [z]) _ e).2.1 _ rfl) (fun z => (n a (by simp [z]) _ e).2.1 _ rfl) (fun z => (n a (by simp [z]) _ e).2.1 _ rfl)]; exact e))
  · exact .inl (.inr ⟨o, by rw [h3_ne (fun z => (n a (by simp [z]) _ e).2.2 _ _ rfl) (fun z => (n a (by simp [z]) _ e).2.2 _ _ rfl) (fun z => (n a (by simp [z]) _ e).2.2 _ _ rfl)]; exact e⟩)
  · exact .inr h
theorem nd_sql {a : Addr} {xs : List V} (h : SqL K H a xs) : SqL K (h3 x dc dt H) a xs := by
  rcases h with (e | ⟨o, e⟩) | h
  · exact .inl (.inl (nd_lst n e))
  · exact .inl (.inr ⟨o, by rw [h3_ne (fun z => (n a (by simp [z]) _ e).2.2 _ _ rfl) (fun z => (n a (by simp [z]) _ e).2.2 _ _ rfl) (fun z => (n a (by simp [z]) _ e).2.2 _ _ rfl)]; exact e⟩)
  · exact .inr h
mutual
theorem nd_dp : ∀ {v : V} {d : PyData}, Dp K H v d → Dp K (h3 x dc dt H) v d
  | _, _, .non => .non
  | _, _, .bl b => .bl b
  | _, _, .int i => .int i
  | _, _, .str z => .str z
  | _, _, .lst h all => .lst (nd_sql n h) (nd_dps all)
  | _, _, .tup h all => .tup (nd_tup n h) (nd_dps all)
theorem nd_dps : ∀ {vs : List V} {ds : List PyData}, DpAll K H vs ds → DpAll K (h3 x dc dt H) vs ds
  | _, _, .nil => .nil
  | _, _, .cons h t => .cons (nd_dp h) (nd_dps t)
end
end
theorem LsA.net {K : PySem.W.Frag} {H H' : Hp} {C x dc dt p1 p2 : Addr} {cs ds : List Cl} {ts us : List Ti} (h : LsA K H p1 p2 cs ts) (na : NetA H C x dc dt ds us) (s : Same (h3 x dc dt H) H') : LsA K H' p1 p2 cs ts := by
  obtain ⟨⟨xs, h1, d1⟩, ys, h2, d2⟩ := h
  exact ⟨⟨xs, s _ _ (nd_lst na.nd h1), DpAll.mono s (nd_dps na.nd d1)⟩, ys, s _ _ (nd_lst na.nd h2), DpAll.mono s (nd_dps na.nd d2)⟩
/-- the names of the cells, by a comprehension over the law's list -/
theorem names_lc {K : PySem.W.Frag} {b l p1 : Addr} {G H : Hp} {cs : List Cl} {a0 a1 a2 a4 a5 a6 a7 a8 a9 a10 a11 a12 a13 a14 : Option V} {Q : VK} (w : Wd b l G H) (h : ∃ xs, G p1 = some (.lst xs) ∧ DpAll K G xs (cs.map dCell)) (few : cs.length ≤ 1000)
    (q : ∀ (G' H' : Hp) (D : Addr), Same G G' → Wd b l G' H' → G' D = some (.lst ((cs.map (·.1)).map V.str)) → Q (.ref D) H') :
    tLc (iList K (tVar 3)) (gTup K 2 (gCons (gName 12) (gCons (gName 8) gNil))) tYes (tVar 12) (List.map (fun x => x.snd) [(Str.ofString "_law_cell", 12), (Str.ofString "_law_kind", 8)]) [a0, a1, a2, some (.ref p1), a4, a5, a6, a7, a8, a9, a10, a11, a12, a13, a14] H Q := by
  obtain ⟨xs, hx, dp⟩ := h
  have lx := DpAll.length dp
  rw [List.length_map] at lx
  refine ⟨_, rfl, p1, rfl, ⟨_, SqL.of (w.sm _ _ hx)⟩, fun D nD => ?_⟩
  refine lc_it walk_list (fun i H' => ∃ G', Same G G' ∧ Wd b l G' H' ∧ G' D = some (.lst (((cs.take i).map (·.1)).map V.str))) ⟨_, w.sameG nD, w.new nD, upd_same⟩ (fun i H' _ ⟨G', s, w', _⟩ => SqL.of (w'.sm _ _ (s _ _ hx))) ?_ ?_
  · rintro i y H' H'' hi ⟨G', s, w', hD⟩ ⟨rfl, ey⟩
    obtain ⟨c, ca, hc, rfl, ht⟩ := dp_cell dp ey
    refine ⟨ca, _, rfl, Same.tup (s.trans w'.sm) ht, rfl, ?_⟩
    refine ⟨_, _, rfl, _, _, rfl, rfl, rfl, _, rfl, _, w'.sm _ _ hD, ?_, ?_⟩
    · rw [List.length_map, List.length_map, List.length_take]; exact lt_line (by omega)
    · refine ⟨_, same_mut s (w.free nD), w'.mut hD, ?_⟩
      rw [upd_same, take_next hc, List.map_append, List.map_append]
      rfl
  · rintro H' ⟨G', s, w', hD⟩
    rw [lx, List.take_length] at hD
    exact q G' H' D s w' hD
theorem not_two (n a c : Str) : (if true = true then !decide (n ∈ [a, c]) else decide (n ∈ [a, c])) = decide (n ≠ a ∧ n ≠ c) := by
  rw [if_pos rfl, ← decide_not]
  congr 1
  simp [not_or]
theorem gn_step {i : Nat} {v : V} {σ : L2.St} {H : Hp} {Q : L2.St → Hp → Prop} (h : Q (σ.set i (some v)) H) : gName i v σ H Q := h
theorem sq_asg {te : TE} {g : TG} {B : TS} {D : Ends} {σ : L2.St} {H : Hp} (h : te σ H fun x H1 => g x σ H1 (B D)) : tSeq (tAsg te g) B D σ H := h
theorem h3_same {x d e : Addr} {H H' : Hp} (s : Same H H') : Same (h3 x d e H) (h3 x d e H') := fun a o k => by
  obtain ⟨n1, n2, n3, k⟩ := h3_some k
  rw [h3_ne n1 n2 n3]
  exact s _ _ k
def GrowTo (K : PySem.W.Frag) (C b l x dc dt : Addr) (G : Hp) (ns : List Str) (cs : List Cl) (ts : List Ti) (Q : V → Hp → Prop) : Prop :=
  ∀ (G' H' : Hp) (t q1 q2 dt' : Addr) (cs' : List Cl) (ts' : List Ti), Same (h3 x dc dt G) G' → Wd b l G' H' → NetA G' C x dc dt' cs' ts' → G' t = some (.tup [.ref q1, .ref q2]) → LsA K G' q1 q2 cs' ts' → Good ns cs' ts' → cs'.length ≤ cs.length + 1 → ts'.length ≤ ts.length + 1 → Q (.ref t) H'
theorem GrowTo.mono {K : PySem.W.Frag} {C b l x dc dt : Addr} {G G2 : Hp} {ns : List Str} {cs : List Cl} {ts : List Ti} {Q : V → Hp → Prop} (s : Same G G2) (q : GrowTo K C b l x dc dt G ns cs ts Q) : GrowTo K C b l x dc dt G2 ns cs ts Q :=
  fun G' H' t q1 q2 dt' cs' ts' s' => q G' H' t q1 q2 dt' cs' ts' ((h3_same s).trans s')
/-- add_cell's way -/
theorem add_body {K : PySem.W.Frag} {C b l x dc dt pn p1 p2 Df : Addr} {G H : Hp} {ns fr : List Str} {cs : List Cl} {ts : List Ti} {D : Ends} {a5 a7 a8 a9 a10 a11 a12 a13 a14 : Option V} (w : Wd b l G H) (na : NetA G C x dc dt cs ts) (ls : LsA K G p1 p2 cs ts) (hf : G Df = some (.lst (fr.map V.str))) (f0 : fr ≠ []) (f1 : fr.length ≤ 1000)
    (fn : ∀ z ∈ fr, z ∈ ns ∧ NmOk z ∧ z ∉ cs.map (·.1)) (good : Good ns cs ts) (l1 : cs.length ≤ 500) (l2 : ts.length ≤ 500) (q : GrowTo K C b l x dc dt G ns cs ts D.rt) :
    tSeq (tAsg (tTup (tCons (tCall (spAny K) [] E0 (tCons (tVar 0) (tCons (tVar 6) tNil))) (tCons (tCall spKindWord [] E0 (tCons (tVar 0) tNil)) tNil))) (gTup K 2 (gCons (gName 7) (gCons (gName 8) gNil))))
      (tSeq (tDrop (tMeth C (Str.ofString "add_cell") (spAddCell C) [] E0 (tVar 1) (tCons (tVar 7) (tCons (tVar 8) tNil))))
        (tRet (tTup (tCons (tOp rCat (tVar 3) (tLst (tCons (tTup (tCons (tVar 7) (tCons (tVar 8) tNil))) tNil))) (tCons (tVar 4) tNil)))))
      D [some (.ref b), some (.ref x), some (.ref pn), some (.ref p1), some (.ref p2), a5, some (.ref Df), a7, a8, a9, a10, a11, a12, a13, a14] H := by
  refine ⟨_, rfl, _, rfl, b, l, Df, G, fr.map V.str, rfl, .inl (SqL.of hf), (by simpa using f0), by rw [List.length_map]; omega, w, fun v H1 hv w1 => ?_⟩
  obtain ⟨z, hz, rfl⟩ := List.mem_map.mp hv
  obtain ⟨z1, z2, z3⟩ := fn z hz
  refine ⟨_, rfl, b, l, G, rfl, w1, fun G2 H2 k hk s2 w2 => ⟨(by show 2 ≤ sizeLine; decide), fun t nt => ?_⟩⟩
  have s3 := s2.trans (w2.sameG (o := .tup [.str z, .str k]) nt)
  have w3 := w2.new (o := .tup [.str z, .str k]) nt
  refine ⟨t, _, rfl, .inl (.inl upd_same), rfl, _, _, rfl, _, _, rfl, rfl, ?_⟩
  have na3 := na.mono s3
  have kd := kinds12_ok k hk
  obtain ⟨dx, g0, g1, g2⟩ := id (na3.mono w3.sm)
  refine ⟨_, rfl, x, dx, _, rfl, g0, rfl, _, rfl, _, rfl, x, dc, dt, cs, ts, z, k, rfl, na3.mono w3.sm, z2, kd, z3, by omega, fun H4 dt' hd s4 na4 => ?_⟩
  obtain ⟨G5, w5, na5, s5, _⟩ := wd_net w3 na3 hd s4 na4
  have ls5 := (ls.mono s3).net na3 s5
  obtain ⟨⟨xs, hx, dx1⟩, ys, hy, dy1⟩ := id ls5
  have lx := DpAll.length dx1
  rw [List.length_map] at lx
  refine ⟨_, rfl, _, rfl, _, rfl, (by show 2 ≤ sizeLine; decide), fun t2 nt2 => ⟨(by show 1 ≤ sizeLine; decide), fun c2 nc2 => ?_⟩⟩
  have w6 := w5.new (o := .tup [.str z, .str k]) nt2
  have w7 := w6.new (o := .lst [.ref t2]) nc2
  have s6 : Same G5 (upd G5 t2 (.tup [.str z, .str k])) := w5.sameG nt2
  have s7 := s6.trans (w6.sameG (o := .lst [.ref t2]) nc2)
  refine ⟨p1, c2, xs, [.ref t2], rfl, rfl, w7.sm _ _ (s7 _ _ hx), upd_same, le_line (by rw [lx]; show cs.length + 1 ≤ _; omega), fun p np => ?_⟩
  have w8 := w7.new (o := .lst (xs ++ [.ref t2])) np
  have s8 := s7.trans (w7.sameG (o := .lst (xs ++ [.ref t2])) np)
  refine ⟨_, rfl, (by show 2 ≤ sizeLine; decide), fun tt ntt => ?_⟩
  have w9 := w8.new (o := .tup [.ref p, .ref p2]) ntt
  have s89 := w8.sameG (o := .tup [.ref p, .ref p2]) ntt
  have s9 := s8.trans s89
  have ht2 : SqT K _ t2 [.str z, .str k] := .inl (.inl ((w6.sameG nc2 |>.trans (w7.sameG np) |>.trans s89) _ _ upd_same))
  refine q _ _ tt p p2 dt' (cs ++ [(z, k)]) ts (((h3_same s3).trans s5).trans s9) w9 (na5.mono s9) upd_same ⟨⟨xs ++ [.ref t2], s89 _ _ upd_same, ?_⟩, ys, s9 _ _ hy, DpAll.mono s9 dy1⟩ (good_cell good z1 z2 kd z3 (by omega)) (by rw [List.length_append]; exact Nat.le_refl _) (by omega)
  rw [List.map_append]
  exact DpAll.append (DpAll.mono s9 dx1) (.cons (.tup ht2 (strs_dp [z, k])) .nil)
theorem kind_next {cs : List Cl} {i : Nat} {c : Cl} {n k : Str} (h : cs[i]? = some c) : setKind (cs.take (i + 1)) n k = setKind (cs.take i) n k ++ [if c.1 = n then (c.1, k) else c] := by
  rw [take_next h]
  unfold setKind
  rw [List.map_append]
  rfl
theorem kind_ret {K : PySem.W.Frag} {b l x pn p1 p2 t : Addr} {G H : Hp} {cs : List Cl} {ts : List Ti} {t1 t2 t3 k : Str} {D : Ends} {a5 a6 a7 a9 a11 a12 a13 a14 : Option V} (w : Wd b l G H) (ls : LsA K G p1 p2 cs ts) (ht : SqT K G t [.str t1, .str t2, .str t3]) (few : cs.length ≤ 500)
    (q : ∀ (G' H' : Hp) (tt q1 : Addr), Same G G' → Wd b l G' H' → G' tt = some (.tup [.ref q1, .ref p2]) → LsA K G' q1 p2 (setKind cs t2 k) ts → D.rt (.ref tt) H') :
    tRet (tTup (tCons (tLc (iList K (tVar 3)) (gTup K 2 (gCons (gName 12) (gCons (gName 14) gNil))) tYes (tTup (tCons (tVar 12) (tCons (tIf (tTest (tOp rEq (tVar 12) (tOp (rIxT K) (tVar 10) (tC (V.int 1))))) (tVar 8) (tVar 14)) tNil))) (List.map (fun x => x.snd) [(Str.ofString "_law_cell", 12), (Str.ofString "_law_old", 14)])) (tCons (tVar 4) tNil)))
      D [some (.ref b), some (.ref x), some (.ref pn), some (.ref p1), some (.ref p2), a5, a6, a7, some (.str k), a9, some (.ref t), a11, a12, a13, a14] H := by
  obtain ⟨⟨xs, hx, dxs⟩, ys, hy, dys⟩ := id ls
  have lx := DpAll.length dxs
  rw [List.length_map] at lx
  refine ⟨_, rfl, p1, rfl, ⟨_, SqL.of (w.sm _ _ hx)⟩, fun F nF => ?_⟩
  refine lc_it walk_list (fun i H' => ∃ G' zs, Same G G' ∧ Wd b l G' H' ∧ G' F = some (.lst zs) ∧ zs.length ≤ i ∧ DpAll K G' zs ((setKind (cs.take i) t2 k).map dCell)) ⟨_, [], w.sameG nF, w.new nF, upd_same, Nat.le_refl _, .nil⟩ (fun i H' _ ⟨G', _, s, w', _⟩ => SqL.of (w'.sm _ _ (s _ _ hx))) ?_ ?_
  · rintro i y H' H'' hi ⟨G', zs, s7, w7, hF, lz, dz⟩ ⟨rfl, ey⟩
    obtain ⟨c, ca, hc, rfl, hca⟩ := dp_cell dxs ey
    refine ⟨ca, _, rfl, Same.tup (s7.trans w7.sm) hca, rfl, ?_⟩
    refine ⟨_, _, rfl, _, _, rfl, rfl, rfl, _, rfl, _, rfl, _, rfl, t, _, (1 : Int), .str t2, rfl, rfl, Same.tup (s7.trans w7.sm) ht, rfl, rfl, _, rfl, ?_⟩
    refine ite3 (fun e => ?_) (fun e => ?_)
    · have e : c.1 = t2 := by injection e
      refine ⟨_, rfl, (by show 2 ≤ sizeLine; decide), fun tp ntp => ?_⟩
      have w8 := w7.new (o := .tup [.str c.1, .str k]) ntp
      have s8 := w7.sameG (o := .tup [.str c.1, .str k]) ntp
      have hF8 := s8 _ _ hF
      refine ⟨zs, w8.sm _ _ hF8, lt_line (by omega), _, zs ++ [.ref tp], same_mut (s7.trans s8) (w.free nF), w8.mut hF8, upd_same, by rw [List.length_append]; exact Nat.add_le_add_right lz 1, ?_⟩
      rw [kind_next hc, if_pos e, List.map_append]
      exact DpAll.append (DpAll.imm (imm_upd hF8) (noLs_map (fun _ => rfl) _) (DpAll.mono s8 dz)) (.cons (.tup ((imm_upd hF8).tup (SqT.of upd_same)) (strs_dp [c.1, k])) .nil)
    · have e : ¬ c.1 = t2 := fun z => e (by rw [z])
      refine ⟨_, rfl, (by show 2 ≤ sizeLine; decide), fun tp ntp => ?_⟩
      have w8 := w7.new (o := .tup [.str c.1, .str c.2]) ntp
      have s8 := w7.sameG (o := .tup [.str c.1, .str c.2]) ntp
      have hF8 := s8 _ _ hF
      refine ⟨zs, w8.sm _ _ hF8, lt_line (by omega), _, zs ++ [.ref tp], same_mut (s7.trans s8) (w.free nF), w8.mut hF8, upd_same, by rw [List.length_append]; exact Nat.add_le_add_right lz 1, ?_⟩
      rw [kind_next hc, if_neg e, List.map_append]
      exact DpAll.append (DpAll.imm (imm_upd hF8) (noLs_map (fun _ => rfl) _) (DpAll.mono s8 dz)) (.cons (.tup ((imm_upd hF8).tup (SqT.of upd_same)) (strs_dp [c.1, c.2])) .nil)
  · rintro H' ⟨G', zs, s7, w7, hF, lz, dz⟩
    rw [lx, List.take_length] at dz
    refine ⟨_, rfl, (by show 2 ≤ sizeLine; decide), fun tt ntt => ?_⟩
    have w8 := w7.new (o := .tup [.ref F, .ref p2]) ntt
    have s8 := w7.sameG (o := .tup [.ref F, .ref p2]) ntt
    exact q _ _ tt F (s7.trans s8) w8 upd_same ⟨⟨zs, s8 _ _ hF, DpAll.mono s8 dz⟩, ys, (s7.trans s8) _ _ hy, DpAll.mono (s7.trans s8) dys⟩
def spGrow (K : PySem.W.Frag) (C : Addr) : Sp := fun vs H Q _ => ∃ (b l x dc dt pn p1 p2 : Addr) (G : Hp) (ns : List Str) (cs : List Cl) (ts : List Ti), vs = [.ref b, .ref x, .ref pn, .ref p1, .ref p2] ∧ Wd b l G H ∧ NetA G C x dc dt cs ts ∧ LsA K G p1 p2 cs ts ∧
  G pn = some (.lst (ns.map V.str)) ∧ ns ≠ [] ∧ ns.length ≤ 1000 ∧ (∀ z ∈ ns, NmOk z) ∧ Good ns cs ts ∧ cs.length ≤ 500 ∧ ts.length ≤ 500 ∧
  GrowTo K C b l x dc dt G ns cs ts Q
section
variable {P : Program} {w : World} {K : PySem.W.Frag} {mg : Str → Option Value} {base : Heap} {R : NtC K mg}
theorem ok_grow (T : Top K mg) (M : NtM K mg R) : FnOk P w K mg base CX0 7 T.a_l_grow T.fd_l_grow ["_law_bag_here", "_law_web", "_law_names", "_law_cells_z", "_law_ties_z"] (spGrow K R.C) := by
  have G_l_draw := ok_draw (P := P) (w := w) (base := base) T
  have G_l_any := ok_any (P := P) (w := w) (base := base) T
  have G_l_kind_word := ok_kindword (P := P) (w := w) (base := base) T
  have G_m_add_cell := ok_maddcell (P := P) (w := w) (base := base) T M
  have G_m_add_tie := ok_maddtie (P := P) (w := w) (base := base) T M
  have G_m_cut := ok_mcut (P := P) (w := w) (base := base) T M
  have G_m_drop := ok_mdrop (P := P) (w := w) (base := base) T M
  have G_m_setitem := ok_msetitem (P := P) (w := w) (base := base) T M
  have G_m_set_kind := ok_msetkind (P := P) (w := w) (base := base) T M
  refine T.d_l_grow.F.ok sc_l_grow (fun vs H Q E h => ?_) (fun cdv A outer s H vs Q E hr h => ?_)
  · obtain ⟨b, l, x, dc, dt, pn, p1, p2, G, ns, cs, ts, rfl, _⟩ := h
    rfl
  obtain ⟨b, l, x, dc, dt, pn, p1, p2, G, ns, cs, ts, rfl, wd, na, ls, hn, n0, n1, nm, good, l1, l2, q⟩ := h
  refine ⟨_, (pss_cons (ps_set (i := 5) sc_l_grow.nd rfl (Or.inl rfl) (pe_call G_l_draw (hr.mono (by decide)) (by rfl) T.d_l_draw.g T.d_l_draw.kp T.d_l_draw.b .nil pass0 (pa_cons (pv 0) (pa_cons pe_int pa_nil))))
    (pss_cons (ps_setLc (i := 6) (own := [("_law_name_z", 7)]) rfl sc_l_grow.nd rfl rfl (sw_true rfl rfl rfl (by decide +kernel)) (pi_list_K (K := K) (by rfl) (pv 2)) (blkOk_by (own := [("_law_name_z", 7)]) (N := ["_law_bag_here", "_law_web", "_law_names", "_law_cells_z", "_law_ties_z", "_law_way", "_law_fresh", "_law_name_z", "_law_kind", "_law_there", "_law_row", "_law_kept", "_law_cell", "_law_tie", "_law_old"]) (sc := defScope s_l_grow) (by decide +kernel)) (fun _ _ _ _ _ => by exact (pg_name (i := 7) sc_l_grow.nd rfl (Or.inl rfl))) (fun _ _ _ _ _ => by exact (pts_one (pt_cmpR (op_notIn_seq_K (K := K) (by rfl)) (pv 7) (pe_lc (own := [("_law_cell", 12), ("_law_kind", 8)]) rfl sc_l_grow.nd (pi_list_K (K := K) (by rfl) (pv 3)) (blkOk_by (own := [("_law_cell", 12), ("_law_kind", 8)]) (N := ["_law_bag_here", "_law_web", "_law_names", "_law_cells_z", "_law_ties_z", "_law_way", "_law_fresh", "_law_name_z", "_law_kind", "_law_there", "_law_row", "_law_kept", "_law_cell", "_law_tie", "_law_old"]) (sc := { kind := ScopeKind.function, names := [(".0", NameKind.local), ("_law_name_z", NameKind.local), ("_law_cells_z", NameKind.cell)], isGenerator := false, isCoroutine := false }) (by decide +kernel)) (fun _ _ _ _ _ => by exact (pg_tup_K (K := K) (by rfl) (n := 2) (by rfl) (pgs_cons (pg_name (i := 12) sc_l_grow.nd rfl (Or.inl rfl)) (pgs_cons (pg_name (i := 8) sc_l_grow.nd rfl (Or.inl rfl)) pgs_nil)))) (fun _ _ _ _ _ => by exact pts_nil) (fun _ _ _ _ _ => by exact (pv 12))) (by rfl)))) (fun _ _ _ _ _ => by exact (pv 7)))
    (pss_cons (ps_setLc (i := 9) (own := [("_law_cell", 12), ("_law_kind", 8)]) rfl sc_l_grow.nd rfl rfl (sw_true rfl rfl rfl (by decide +kernel)) (pi_list_K (K := K) (by rfl) (pv 3)) (blkOk_by (own := [("_law_cell", 12), ("_law_kind", 8)]) (N := ["_law_bag_here", "_law_web", "_law_names", "_law_cells_z", "_law_ties_z", "_law_way", "_law_fresh", "_law_name_z", "_law_kind", "_law_there", "_law_row", "_law_kept", "_law_cell", "_law_tie", "_law_old"]) (sc := defScope s_l_grow) (by decide +kernel)) (fun _ _ _ _ _ => by exact (pg_tup_K (K := K) (by rfl) (n := 2) (by rfl) (pgs_cons (pg_name (i := 12) sc_l_grow.nd rfl (Or.inl rfl)) (pgs_cons (pg_name (i := 8) sc_l_grow.nd rfl (Or.inl rfl)) pgs_nil)))) (fun _ _ _ _ _ => by exact pts_nil) (fun _ _ _ _ _ => by exact (pv 12)))
    (Evl.pss_cut (ps_if (PW.pt (pw_or (PW.pt (pw_and (pt_cmpR op_lt (pv 5) pe_int (nomark _)) (pw_and1 (pt_cmpR (op_neP (K := K) (by rfl) hr.units) (pv 6) (pe_lst pa_nil) (nomark _))))) (pw_or1 (pt_cmpR (op_eqP (K := K) (by rfl) hr.units) (pv 9) (pe_lst pa_nil) (nomark _))))) (pss_cons (ps_asg (pe_tup (pa_cons (pe_call G_l_any (hr.mono (by decide)) (by rfl) T.d_l_any.g T.d_l_any.kp T.d_l_any.b .nil pass0 (pa_cons (pv 0) (pa_cons (pv 6) pa_nil))) (pa_cons (pe_call G_l_kind_word (hr.mono (by decide)) (by rfl) T.d_l_kind_word.g T.d_l_kind_word.kp T.d_l_kind_word.b .nil pass0 (pa_cons (pv 0) pa_nil)) pa_nil))) (pg_tup_K (K := K) (by rfl) (n := 2) (by rfl) (pgs_cons (pg_name (i := 7) sc_l_grow.nd rfl (Or.inl rfl)) (pgs_cons (pg_name (i := 8) sc_l_grow.nd rfl (Or.inr rfl)) pgs_nil))))
      (pss_cons (ps_expr (pe_meth (pv 1) R.cl M.add_cell.M G_m_add_cell (hr.mono (by decide)) M.add_cell.b .nil pass0 (pa_cons (pv 7) (pa_cons (pv 8) pa_nil))))
      (pss_one (ps_ret (pe_tup (pa_cons (pe_op op_cat (pv 3) (pe_lst (pa_cons (pe_tup (pa_cons (pv 7) (pa_cons (pv 8) pa_nil))) pa_nil))) (pa_cons (pv 4) pa_nil))))))) pss_nil)
    (pss_cons (ps_set (i := 10) sc_l_grow.nd rfl (Or.inr rfl) (pe_tup (pa_cons (pe_call G_l_any (hr.mono (by decide)) (by rfl) T.d_l_any.g T.d_l_any.kp T.d_l_any.b .nil pass0 (pa_cons (pv 0) (pa_cons (pe_lst (pa_cons pe_str (pa_cons pe_str pa_nil))) pa_nil))) (pa_cons (pe_call G_l_any (hr.mono (by decide)) (by rfl) T.d_l_any.g T.d_l_any.kp T.d_l_any.b .nil pass0 (pa_cons (pv 0) (pa_cons (pv 9) pa_nil))) (pa_cons (pe_call G_l_any (hr.mono (by decide)) (by rfl) T.d_l_any.g T.d_l_any.kp T.d_l_any.b .nil pass0 (pa_cons (pv 0) (pa_cons (pv 9) pa_nil))) pa_nil)))))
    (Evl.pss_cut (ps_if (PW.pt (pw_and (pt_cmpR op_lt (pv 5) pe_int (nomark _)) (pw_and1 (pt_cmpR (op_notInDK (K := K) (by rfl) (r65 hr)) (pv 10) (pv 4) (by rfl))))) (pss_cons (ps_expr (pe_meth (pv 1) R.cl M.add_tie.M G_m_add_tie (hr.mono (by decide)) M.add_tie.b .nil pass0 (pa_cons (pe_ix (ix_tup_K (K := K) (by rfl)) (pv 10) pe_int (fun _ _ => rfl)) (pa_cons (pe_ix (ix_tup_K (K := K) (by rfl)) (pv 10) pe_int (fun _ _ => rfl)) (pa_cons (pe_ix (ix_tup_K (K := K) (by rfl)) (pv 10) pe_int (fun _ _ => rfl)) pa_nil)))))
      (pss_one (ps_ret (pe_tup (pa_cons (pv 3) (pa_cons (pe_op op_cat (pv 4) (pe_lst (pa_cons (pv 10) pa_nil))) pa_nil)))))) pss_nil)
    (Evl.pss_cut (ps_if (PW.pt (pw_and (pt_cmpR op_eq (pv 5) pe_int (nomark _)) (pw_and1 (pt_cmpR (op_neP (K := K) (by rfl) hr.units) (pv 4) (pe_lst pa_nil) (nomark _))))) (pss_cons (ps_set (i := 10) sc_l_grow.nd rfl (Or.inr rfl) (pe_call G_l_any (hr.mono (by decide)) (by rfl) T.d_l_any.g T.d_l_any.kp T.d_l_any.b .nil pass0 (pa_cons (pv 0) (pa_cons (pv 4) pa_nil))))
      (pss_cons (ps_expr (pe_meth (pv 1) R.cl M.cut.M G_m_cut (hr.mono (by decide)) M.cut.b .nil pass0 (pa_cons (pe_ix (ix_tup_K (K := K) (by rfl)) (pv 10) pe_int (fun _ _ => rfl)) (pa_cons (pe_ix (ix_tup_K (K := K) (by rfl)) (pv 10) pe_int (fun _ _ => rfl)) (pa_cons (pe_ix (ix_tup_K (K := K) (by rfl)) (pv 10) pe_int (fun _ _ => rfl)) pa_nil)))))
      (pss_one (ps_ret (pe_tup (pa_cons (pv 3) (pa_cons (pe_lc (own := [("_law_tie", 13)]) rfl sc_l_grow.nd (pi_list_K (K := K) (by rfl) (pv 4)) (blkOk_by (own := [("_law_tie", 13)]) (N := ["_law_bag_here", "_law_web", "_law_names", "_law_cells_z", "_law_ties_z", "_law_way", "_law_fresh", "_law_name_z", "_law_kind", "_law_there", "_law_row", "_law_kept", "_law_cell", "_law_tie", "_law_old"]) (sc := defScope s_l_grow) (by decide +kernel)) (fun _ _ _ _ _ => by exact (pg_name (i := 13) sc_l_grow.nd rfl (Or.inl rfl))) (fun _ _ _ _ _ => by exact (pts_one (pt_cmpR (op_neP (K := K) (by rfl) hr.units) (pv 13) (pv 10) (nomark _)))) (fun _ _ _ _ _ => by exact (pv 13))) pa_nil))))))) pss_nil)
    (pss_cons (ps_if (pt_cmpR op_eq (pv 5) pe_int (nomark _)) (pss_cons (ps_expr (pe_meth (pv 1) R.cl M.drop.M G_m_drop (hr.mono (by decide)) M.drop.b .nil pass0 (pa_cons (pe_ix (ix_tup_K (K := K) (by rfl)) (pv 10) pe_int (fun _ _ => rfl)) pa_nil)))
      (pss_cons (ps_setLc (i := 11) (own := [("_law_tie", 13)]) rfl sc_l_grow.nd rfl rfl (sw_true rfl rfl rfl (by decide +kernel)) (pi_list_K (K := K) (by rfl) (pv 4)) (blkOk_by (own := [("_law_tie", 13)]) (N := ["_law_bag_here", "_law_web", "_law_names", "_law_cells_z", "_law_ties_z", "_law_way", "_law_fresh", "_law_name_z", "_law_kind", "_law_there", "_law_row", "_law_kept", "_law_cell", "_law_tie", "_law_old"]) (sc := defScope s_l_grow) (by decide +kernel)) (fun _ _ _ _ _ => by exact (pg_name (i := 13) sc_l_grow.nd rfl (Or.inl rfl))) (fun _ _ _ _ _ => by exact (pts_one (pt_cmpR (op_notIn_seq_K (K := K) (by rfl)) (pe_ix (ix_tup_K (K := K) (by rfl)) (pv 10) pe_int (fun _ _ => rfl)) (pe_slice (sl_tupA_K (K := K) (by rfl)) (pv 13) (po_some pe_int) po_none) (by rfl)))) (fun _ _ _ _ _ => by exact (pv 13)))
      (pss_one (ps_ret (pe_tup (pa_cons (pe_lc (own := [("_law_cell", 12)]) rfl sc_l_grow.nd (pi_list_K (K := K) (by rfl) (pv 3)) (blkOk_by (own := [("_law_cell", 12)]) (N := ["_law_bag_here", "_law_web", "_law_names", "_law_cells_z", "_law_ties_z", "_law_way", "_law_fresh", "_law_name_z", "_law_kind", "_law_there", "_law_row", "_law_kept", "_law_cell", "_law_tie", "_law_old"]) (sc := defScope s_l_grow) (by decide +kernel)) (fun _ _ _ _ _ => by exact (pg_name (i := 12) sc_l_grow.nd rfl (Or.inl rfl))) (fun _ _ _ _ _ => by exact (pts_one (pt_cmpR op_ne (pe_ix (ix_tup_K (K := K) (by rfl)) (pv 12) pe_int (fun _ _ => rfl)) (pe_ix (ix_tup_K (K := K) (by rfl)) (pv 10) pe_int (fun _ _ => rfl)) (nomark _)))) (fun _ _ _ _ _ => by exact (pv 12))) (pa_cons (pv 11) pa_nil))))))) pss_nil)
    (pss_cons (ps_set (i := 8) sc_l_grow.nd rfl (Or.inr rfl) (pe_call G_l_kind_word (hr.mono (by decide)) (by rfl) T.d_l_kind_word.g T.d_l_kind_word.kp T.d_l_kind_word.b .nil pass0 (pa_cons (pv 0) pa_nil)))
    (pss_cons (ps_if (pt_cmpR op_eq (pe_call G_l_draw (hr.mono (by decide)) (by rfl) T.d_l_draw.g T.d_l_draw.kp T.d_l_draw.b .nil pass0 (pa_cons (pv 0) (pa_cons pe_int pa_nil))) pe_int (nomark _)) (pss_one (ps_asg (pv 8) (pg_sub (pv 1) (pe_ix (ix_tup_K (K := K) (by rfl)) (pv 10) pe_int (fun _ _ => rfl)) (set_ins G_m_setitem R.nq M.setitem.M.at_ M.setitem.M.fn M.setitem.b pass0 (hr.mono (by decide)))))) (pss_one (ps_expr (pe_meth (pv 1) R.cl M.set_kind.M G_m_set_kind (hr.mono (by decide)) M.set_kind.b .nil pass0 (pa_cons (pe_ix (ix_tup_K (K := K) (by rfl)) (pv 10) pe_int (fun _ _ => rfl)) (pa_cons (pv 8) pa_nil))))))
    (pss_one (ps_ret (pe_tup (pa_cons (pe_lc (own := [("_law_cell", 12), ("_law_old", 14)]) rfl sc_l_grow.nd (pi_list_K (K := K) (by rfl) (pv 3)) (blkOk_by (own := [("_law_cell", 12), ("_law_old", 14)]) (N := ["_law_bag_here", "_law_web", "_law_names", "_law_cells_z", "_law_ties_z", "_law_way", "_law_fresh", "_law_name_z", "_law_kind", "_law_there", "_law_row", "_law_kept", "_law_cell", "_law_tie", "_law_old"]) (sc := defScope s_l_grow) (by decide +kernel)) (fun _ _ _ _ _ => by exact (pg_tup_K (K := K) (by rfl) (n := 2) (by rfl) (pgs_cons (pg_name (i := 12) sc_l_grow.nd rfl (Or.inl rfl)) (pgs_cons (pg_name (i := 14) sc_l_grow.nd rfl (Or.inl rfl)) pgs_nil)))) (fun _ _ _ _ _ => by exact pts_nil) (fun _ _ _ _ _ => by exact (pe_tup (pa_cons (pv 12) (pa_cons (pe_ifExp (pt_cmpR op_eq (pv 12) (pe_ix (ix_tup_K (K := K) (by rfl)) (pv 10) pe_int (fun _ _ => rfl)) (nomark _)) (pv 8) (pv 14)) pa_nil))))) (pa_cons (pv 4) pa_nil))))))))))))))), ?_⟩
  rw [show L2.start ["_law_bag_here", "_law_web", "_law_names", "_law_cells_z", "_law_ties_z", "_law_way", "_law_fresh", "_law_name_z", "_law_kind", "_law_there", "_law_row", "_law_kept", "_law_cell", "_law_tie", "_law_old"] [.ref b, .ref x, .ref pn, .ref p1, .ref p2] = [some (.ref b), some (.ref x), some (.ref pn), some (.ref p1), some (.ref p2), none, none, none, none, none, none, none, none, none, none] from rfl]
  refine ⟨_, rfl, b, l, G, 8, rfl, by decide, by decide, wd, fun way H1 y0 y1 w1 => ?_⟩
  refine ⟨_, rfl, pn, rfl, ⟨_, SqL.of (w1.sm _ _ hn)⟩, fun D nD => ?_⟩
  refine lc_it walk_list (fun i H' => ∃ G', Same G G' ∧ Wd b l G' H' ∧ G' D = some (.lst (((ns.take i).filter fun z => decide (z ∉ cs.map (·.1))).map V.str))) ⟨_, w1.sameG nD, w1.new nD, upd_same⟩ (fun i H' _ ⟨G', s, w', _⟩ => SqL.of (w'.sm _ _ (s _ _ hn))) ?_ ?_
  · rintro i y H' H'' hi ⟨G', s2, w2, hD⟩ ⟨rfl, ey⟩
    rw [List.getElem?_map] at ey
    obtain ⟨z, hz, rfl⟩ := Option.map_eq_some_iff.mp ey
    refine ⟨rfl, _, rfl, ?_⟩
    refine names_lc w2 (ls.mono s2).c (by omega) fun G3 H3 D2 s3 w3 hD2 => ?_
    refine ⟨D2, _, rfl, .inl (SqL.of (w3.sm _ _ hD2)), rfl, ?_, ?_⟩
    · rw [List.all_map]
      exact List.all_eq_true.mpr fun _ _ => rfl
    · rw [in_strs, filter_next (fun z => decide (z ∉ cs.map (·.1))) hz]
      have en : (if true = true then !decide (z ∈ cs.map (·.1)) else decide (z ∈ cs.map (·.1))) = decide (z ∉ cs.map (·.1)) := by
        rw [if_pos rfl, decide_not]
      rw [en]
      have hD3 := s3 _ _ hD
      refine ⟨_, rfl, iteB (fun c => ?_) (fun c => ?_)⟩
      · rw [if_pos c]
        refine ⟨_, rfl, _, w3.sm _ _ hD3, ?_, _, same_mut (s2.trans s3) (w1.free nD), w3.mut hD3, ?_⟩
        · rw [List.length_map]
          exact lt_line (Nat.le_trans (List.length_filter_le _ _) (Nat.le_trans (List.length_take_le _ _) (by rw [List.length_map] at hi; omega)))
        · rw [upd_same, List.map_append]
          rfl
      · rw [if_neg (by rw [c]; decide)]
        exact ⟨G3, s2.trans s3, w3, hD3⟩
  · rintro H' ⟨G', s2, w2, hD⟩
    rw [List.length_map, List.take_length] at hD
    refine gn_step ?_
    dsimp only [List.set]
    refine sq_asg ?_
    refine names_lc w2 (ls.mono s2).c (by omega) fun G3 H3 D2 s3 w3 hD2 => ?_
    have hD3 := s3 _ _ hD
    have s4 := s2.trans s3
    have wn : way = way := rfl
    have frs : ∀ z ∈ ns.filter (fun z => decide (z ∉ cs.map (·.1))), z ∈ ns ∧ NmOk z ∧ z ∉ cs.map (·.1) := fun z hz => by
      obtain ⟨m1, m2⟩ := List.mem_filter.mp hz
      exact ⟨m1, nm z m1, of_decide_eq_true m2⟩
    have frl : (ns.filter fun z => decide (z ∉ cs.map (·.1))).length ≤ 1000 := Nat.le_trans (List.length_filter_le _ _) n1
    have dfr : ∀ {H5 : Hp}, Same G3 H5 → Dp K H5 (.ref D) (.list ((ns.filter fun z => decide (z ∉ cs.map (·.1))).map PyData.str)) := fun s5 => .lst (SqL.of (s5 _ _ hD3)) (strs_dp _)
    have dth : ∀ {H5 : Hp}, Same G3 H5 → Dp K H5 (.ref D2) (.list ((cs.map (·.1)).map PyData.str)) := fun s5 => .lst (SqL.of (s5 _ _ hD2)) (strs_dp _)
    refine ⟨fun σ' H' => ∃ G4, σ' = [some (.ref b), some (.ref x), some (.ref pn), some (.ref p1), some (.ref p2), some (.int way), some (.ref D), none, none, some (.ref D2), none, none, none, none, none] ∧ Same G3 G4 ∧ Wd b l G4 H' ∧ cs ≠ [], ?_, ?_⟩
    · refine ⟨_, rfl, _, _, rfl, rfl, _, rfl, ite3 (fun c1 => ?_) (fun c1 => ?_)⟩
      · refine ⟨_, rfl, Nat.zero_le _, fun e1 ne1 => ?_⟩
        have w4 := w3.new (o := .lst []) ne1
        have t4 := w3.sameG (o := .lst []) ne1
        refine ⟨_, .list [], dfr (t4.trans w4.sm), .lst (SqL.of upd_same) .nil, by show min _ 1 ≤ 64; omega, _, rfl, ?_⟩
        rw [eqv_nil]
        refine iteB (fun c => ?_) (fun c => ?_)
        · have ne : (ns.filter fun z => decide (z ∉ cs.map (·.1))) ≠ [] := fun z => by rw [z] at c; exact absurd c (by decide)
          try dsimp only [List.set]
          exact add_body w4 (na.mono (s4.trans t4)) (ls.mono (s4.trans t4)) (t4 _ _ hD3) ne frl frs good l1 l2 (q.mono (s4.trans t4))
        ·
          refine ⟨_, rfl, Nat.zero_le _, fun e2 ne2 => ?_⟩
          have w6 := w4.new (o := .lst []) ne2
          have t6 := t4.trans (w4.sameG (o := .lst []) ne2)
          refine ⟨_, .list [], dth (t6.trans w6.sm), .lst (SqL.of upd_same) .nil, by show min _ 1 ≤ 64; omega, _, rfl, ?_⟩
          rw [eqv_nil]
          refine iteB (fun c => ?_) (fun c => ?_)
          · have ce : cs = [] := by simpa using of_decide_eq_true c
            try dsimp only [List.set]
            refine add_body w6 (na.mono (s4.trans t6)) (ls.mono (s4.trans t6)) (t6 _ _ hD3) ?_ frl frs good l1 l2 (q.mono (s4.trans t6))
            rw [ce, List.filter_eq_self.mpr (fun a _ => by simp)]
            exact n0
          · have ce : cs ≠ [] := fun z => by rw [z] at c; exact absurd c (by decide)
            exact ⟨_, rfl, t6, w6, ce⟩
      ·
        refine ⟨_, rfl, Nat.zero_le _, fun e2 ne2 => ?_⟩
        have w6 := w3.new (o := .lst []) ne2
        have t6 := (Same.refl G3).trans (w3.sameG (o := .lst []) ne2)
        refine ⟨_, .list [], dth (t6.trans w6.sm), .lst (SqL.of upd_same) .nil, by show min _ 1 ≤ 64; omega, _, rfl, ?_⟩
        rw [eqv_nil]
        refine iteB (fun c => ?_) (fun c => ?_)
        · have ce : cs = [] := by simpa using of_decide_eq_true c
          try dsimp only [List.set]
          refine add_body w6 (na.mono (s4.trans t6)) (ls.mono (s4.trans t6)) (t6 _ _ hD3) ?_ frl frs good l1 l2 (q.mono (s4.trans t6))
          rw [ce, List.filter_eq_self.mpr (fun a _ => by simp)]
          exact n0
        · have ce : cs ≠ [] := fun z => by rw [z] at c; exact absurd c (by decide)
          exact ⟨_, rfl, t6, w6, ce⟩
    · rintro σ' H' ⟨G4, rfl, s5, w5, c0⟩
      refine ⟨_, rfl, (by show 2 ≤ sizeLine; decide), fun p np => ?_⟩
      have w6 := w5.new (o := .lst ((["link", "t"] : List Str).map V.str)) np
      have s6 := s5.trans (w5.sameG (o := .lst ((["link", "t"] : List Str).map V.str)) np)
      have nc0 : (cs.map (·.1)).map V.str ≠ [] := by simpa using c0
      have nl0 : ((cs.map (·.1)).map V.str).length ≤ 100000 := by rw [List.length_map, List.length_map]; omega
      refine ⟨b, l, p, _, (["link", "t"] : List Str).map V.str, rfl, .inl (SqL.of upd_same), (fun z => by cases z), by decide, w6, fun v1 H1 hv1 w7 => ?_⟩
      refine ⟨_, rfl, _, rfl, b, l, D2, _, (cs.map (·.1)).map V.str, rfl, .inl (SqL.of (s6 _ _ hD2)), nc0, nl0, w7, fun v2 H2 hv2 w8 => ?_⟩
      refine ⟨_, rfl, _, rfl, b, l, D2, _, (cs.map (·.1)).map V.str, rfl, .inl (SqL.of (s6 _ _ hD2)), nc0, nl0, w8, fun v3 H3 hv3 w9 => ?_⟩
      obtain ⟨t1, ht1, rfl⟩ := List.mem_map.mp hv1
      obtain ⟨t2, ht2, rfl⟩ := List.mem_map.mp hv2
      obtain ⟨t3, ht3, rfl⟩ := List.mem_map.mp hv3
      refine ⟨(by show 3 ≤ sizeLine; decide), fun t nt => ?_⟩
      have wA := w9.new (o := .tup [.str t1, .str t2, .str t3]) nt
      have sA := s6.trans (w9.sameG (o := .tup [.str t1, .str t2, .str t3]) nt)
      have hta : (upd (upd G4 p (.lst ((["link", "t"] : List Str).map V.str))) t (.tup [.str t1, .str t2, .str t3])) t = some (.tup [.str t1, .str t2, .str t3]) := upd_same
      have ok1 : NmOk t1 := by
        have k : ∀ z ∈ (["link", "t"] : List Str), wordB z letters = true ∧ z.length ≤ 1000 := by decide +kernel
        exact k _ ht1
      generalize upd (upd G4 p (.lst ((["link", "t"] : List Str).map V.str))) t (.tup [.str t1, .str t2, .str t3]) = GA at wA sA hta
      have sG := s4.trans sA
      have naA := na.mono sG
      have lsA := ls.mono sG
      have qA := q.mono sG
      obtain ⟨⟨xs, hx, dxs⟩, ys, hy, dys⟩ := id lsA
      obtain ⟨dx, g0, g1, g2⟩ := id (naA.mono wA.sm)
      refine gn_step ?_
      dsimp only [List.set]
      refine ⟨fun σ' H' => ∃ G5, σ' = [some (.ref b), some (.ref x), some (.ref pn), some (.ref p1), some (.ref p2), some (.int way), some (.ref D), none, none, some (.ref D2), some (.ref t), none, none, none, none] ∧ Same GA G5 ∧ Wd b l G5 H', ?_, ?_⟩
      · have mid : ∀ {H5 : Hp}, Wd b l GA H5 → ∃ G5, [some (V.ref b), some (.ref x), some (.ref pn), some (.ref p1), some (.ref p2), some (.int way), some (.ref D), none, none, some (.ref D2), some (.ref t), none, none, none, none] = [some (V.ref b), some (.ref x), some (.ref pn), some (.ref p1), some (.ref p2), some (.int way), some (.ref D), none, none, some (.ref D2), some (.ref t), none, none, none, none] ∧ Same GA G5 ∧ Wd b l G5 H5 := fun w => ⟨GA, rfl, Same.refl GA, w⟩
        refine ⟨_, rfl, _, _, rfl, rfl, _, rfl, ite3 (fun c1 => ?_) (fun c1 => mid wA)⟩
        have tsn : ∀ u ∈ ts, NmOk u.1 ∧ NmOk u.2.1 ∧ NmOk u.2.2 := fun u hu => ⟨(good.t.nm u hu).1, name_ok good.c (good.t.nm u hu).2.1, name_ok good.c (good.t.nm u hu).2.2⟩
        refine ⟨_, rfl, _, rfl, dTi (t1, t2, t3), ts.map dTi, .tup (SqT.of (wA.sm _ _ hta)) (strs_dp [t1, t2, t3]), .lst (SqL.of (wA.sm _ _ hy)) (DpAll.mono wA.sm dys), shaped_ti ok1 (name_ok good.c ht2) (name_ok good.c ht3), shaped_tis tsn, _, rfl, ?_⟩
        rw [any_ti]
        refine iteB (fun c => ?_) (fun c => mid wA)
        have nin : (t1, t2, t3) ∉ ts := fun z => by rw [decide_eq_true z] at c; cases c
        have at0 := SqT.of (K := K) (wA.sm _ _ hta)
        refine ⟨_, rfl, x, dx, _, rfl, g0, rfl, _, rfl, t, _, (0 : Int), .str t1, rfl, rfl, at0, rfl, _, rfl, t, _, (1 : Int), .str t2, rfl, rfl, at0, rfl, _, rfl, t, _, (2 : Int), .str t3, rfl, rfl, at0, rfl, ?_⟩
        refine ⟨x, dc, dt, cs, ts, (t1, t2, t3), rfl, naA.mono wA.sm, ok1, ht2, ht3, nin, by omega, fun H5 dt' hd s5' na5 => ?_⟩
        obtain ⟨G5, wB, naB, sB, _⟩ := wd_net wA naA hd s5' na5
        have lsB := lsA.net naA sB
        obtain ⟨⟨xs', hx', dxs'⟩, ys', hy', dys'⟩ := id lsB
        have ly := DpAll.length dys'
        rw [List.length_map] at ly
        refine ⟨_, rfl, _, rfl, _, rfl, (by show 1 ≤ sizeLine; decide), fun c2 nc2 => ?_⟩
        have wC := wB.new (o := .lst [.ref t]) nc2
        have sC := wB.sameG (o := .lst [.ref t]) nc2
        refine ⟨p2, c2, ys', [.ref t], rfl, rfl, wC.sm _ _ (sC _ _ hy'), upd_same, le_line (by rw [ly]; show ts.length + 1 ≤ _; omega), fun q2 nq2 => ⟨(by show 2 ≤ sizeLine; decide), fun tt ntt => ?_⟩⟩
        have wD := wC.new (o := .lst (ys' ++ [.ref t])) nq2
        have sD := sC.trans (wC.sameG (o := .lst (ys' ++ [.ref t])) nq2)
        have wE := wD.new (o := .tup [.ref p1, .ref q2]) ntt
        have sDE := wD.sameG (o := .tup [.ref p1, .ref q2]) ntt
        have sE := sD.trans sDE
        have htE := Same.tup sE (Same.tup sB (nd_tup naA.nd (SqT.of (K := K) hta)))
        refine qA _ _ tt p1 q2 dt' cs (ts ++ [(t1, t2, t3)]) (sB.trans sE) wE (naB.mono sE) upd_same ⟨⟨xs', sE _ _ hx', DpAll.mono sE dxs'⟩, ys' ++ [.ref t], sDE _ _ upd_same, ?_⟩ (good_tie good ok1 ht2 ht3 nin (by omega)) (by omega) (by rw [List.length_append]; exact Nat.le_refl _)
        rw [List.map_append]
        exact DpAll.append (DpAll.mono sE dys') (.cons (.tup htE (strs_dp [t1, t2, t3])) .nil)
      · rintro σ' H' ⟨GB, rfl, sB, wB⟩
        have naB := naA.mono sB
        have lsB := lsA.mono sB
        have qB := qA.mono sB
        have htB := sB _ _ hta
        clear hx dxs hy dys g0 g1 g2
        obtain ⟨⟨xs, hx, dxs⟩, ys, hy, dys⟩ := id lsB
        obtain ⟨dx, g0, g1, g2⟩ := id (naB.mono wB.sm)
        refine ⟨fun σ' H' => ∃ G5, σ' = [some (.ref b), some (.ref x), some (.ref pn), some (.ref p1), some (.ref p2), some (.int way), some (.ref D), none, none, some (.ref D2), some (.ref t), none, none, none, none] ∧ Same GB G5 ∧ Wd b l G5 H', ?_, ?_⟩
        · have mid : ∀ {G5 H5 : Hp}, Same GB G5 → Wd b l G5 H5 → ∃ G5, [some (V.ref b), some (.ref x), some (.ref pn), some (.ref p1), some (.ref p2), some (.int way), some (.ref D), none, none, some (.ref D2), some (.ref t), none, none, none, none] = [some (V.ref b), some (.ref x), some (.ref pn), some (.ref p1), some (.ref p2), some (.int way), some (.ref D), none, none, some (.ref D2), some (.ref t), none, none, none, none] ∧ Same GB G5 ∧ Wd b l G5 H5 := fun {G5 _} s w => ⟨G5, rfl, s, w⟩
          refine ⟨_, rfl, rfl, _, rfl, ite3 (fun c1 => ?_) (fun c1 => mid (Same.refl GB) wB)⟩
          refine ⟨_, rfl, Nat.zero_le _, fun e1 ne1 => ?_⟩
          have w4 := wB.new (o := .lst []) ne1
          have t4 := wB.sameG (o := .lst []) ne1
          refine ⟨_, .list [], .lst (SqL.of (w4.sm _ _ (t4 _ _ hy))) (DpAll.mono (t4.trans w4.sm) dys), .lst (SqL.of upd_same) .nil, by show min _ 1 ≤ 64; omega, _, rfl, ?_⟩
          rw [eqv_nil]
          refine iteB (fun c => ?_) (fun c => mid t4 w4)
          have tn0 : ts ≠ [] := fun z => by rw [z] at c; exact absurd c (by decide)
          have ly := DpAll.length dys
          rw [List.length_map] at ly
          have yn0 : ys ≠ [] := fun z => tn0 (by rw [z] at ly; exact List.eq_nil_of_length_eq_zero ly.symm)
          refine ⟨_, rfl, _, rfl, b, l, p2, _, ys, rfl, .inl (SqL.of (t4 _ _ hy)), yn0, by omega, w4, fun v H5 hv w5 => ?_⟩
          obtain ⟨iv, hiv⟩ := List.mem_iff_getElem?.mp hv
          obtain ⟨⟨u1, u2, u3⟩, ra, hu, rfl, hra⟩ := dp_ti dys hiv
          have mu := List.mem_of_getElem? hu
          have na5 := naB.mono t4
          have ls5 := lsB.mono t4
          obtain ⟨dx', g0', g1', g2'⟩ := id (na5.mono w5.sm)
          have hr5 := Same.tup (t4.trans w5.sm) hra
          refine ⟨_, rfl, x, dx', _, rfl, g0', rfl, _, rfl, ra, _, (0 : Int), .str u1, rfl, rfl, hr5, rfl, _, rfl, ra, _, (1 : Int), .str u2, rfl, rfl, hr5, rfl, _, rfl, ra, _, (2 : Int), .str u3, rfl, rfl, hr5, rfl, ?_⟩
          refine ⟨x, dc, dt, cs, ts, (u1, u2, u3), rfl, na5.mono w5.sm, mu, fun H6 dt' hd s6 na6 => ?_⟩
          obtain ⟨G6, w6, naC, sC, _⟩ := wd_net w5 na5 hd s6 na6
          have lsC := ls5.net na5 sC
          obtain ⟨⟨xs', hx', dxs'⟩, ys', hy', dys'⟩ := id lsC
          have hrC := Same.tup sC (nd_tup na5.nd (Same.tup t4 hra))
          have ly' := DpAll.length dys'
          rw [List.length_map] at ly'
          refine ⟨_, rfl, _, rfl, p2, rfl, ⟨_, SqL.of (w6.sm _ _ hy')⟩, fun F nF => ?_⟩
          refine lc_it walk_list (fun i H' => ∃ G' zs, Same G6 G' ∧ Wd b l G' H' ∧ G' F = some (.lst zs) ∧ zs.length ≤ i ∧ DpAll K G' zs (((ts.take i).filter fun c => decide (c ≠ (u1, u2, u3))).map dTi)) ⟨_, [], w6.sameG nF, w6.new nF, upd_same, Nat.le_refl _, .nil⟩ (fun i H' _ ⟨G', _, s, w', _⟩ => SqL.of (w'.sm _ _ (s _ _ hy'))) ?_ ?_
          · rintro i y H' H'' hi ⟨G', zs, s7, w7, hF, lz, dz⟩ ⟨rfl, ey⟩
            obtain ⟨⟨v1, v2, v3⟩, va, hv', rfl, hva⟩ := dp_ti dys' ey
            refine ⟨rfl, _, rfl, _, rfl, dTi (v1, v2, v3), dTi (u1, u2, u3), .tup (Same.tup (s7.trans w7.sm) hva) (strs_dp [v1, v2, v3]), .tup (Same.tup (s7.trans w7.sm) hrC) (strs_dp [u1, u2, u3]), by show min 1 1 ≤ 64; decide, _, rfl, ?_⟩
            rw [eqv_ti, filter_next (fun c : Ti => decide (c ≠ (u1, u2, u3))) hv', ← decide_not]
            refine iteB (fun c => ?_) (fun c => ?_)
            · rw [if_pos c]
              refine ⟨_, rfl, zs, w7.sm _ _ hF, lt_line (by omega), _, zs ++ [.ref va], same_mut s7 (w6.free nF), w7.mut hF, upd_same, by rw [List.length_append]; exact Nat.add_le_add_right lz 1, ?_⟩
              have im : Imm G' (upd G' F (.lst (zs ++ [.ref va]))) := imm_upd hF
              rw [List.map_append]
              exact DpAll.append (DpAll.imm im (noLs_map (fun _ => rfl) _) dz) (.cons (.tup (im.tup (Same.tup s7 hva)) (strs_dp [v1, v2, v3])) .nil)
            · rw [if_neg (by rw [c]; decide)]
              exact ⟨G', zs, s7, w7, hF, by omega, dz⟩
          · rintro H' ⟨G', zs, s7, w7, hF, lz, dz⟩
            rw [ly', List.take_length] at dz
            refine ⟨(by show 2 ≤ sizeLine; decide), fun tt ntt => ?_⟩
            have w8 := w7.new (o := .tup [.ref p1, .ref F]) ntt
            have s8 := w7.sameG (o := .tup [.ref p1, .ref F]) ntt
            have s78 := s7.trans s8
            exact qB _ _ tt p1 F dt' cs _ (((h3_same t4).trans sC).trans s78) w8 (naC.mono s78) upd_same ⟨⟨xs', s78 _ _ hx', DpAll.mono s78 dxs'⟩, zs, s8 _ _ hF, DpAll.mono s8 dz⟩ (good_cut _ good) (by omega) (Nat.le_succ_of_le (List.length_filter_le _ _))
        · rintro σ' H' ⟨GC, rfl, sC, wC⟩
          have naC := naB.mono sC
          have lsC := lsB.mono sC
          have qC := qB.mono sC
          have htC := sC _ _ htB
          clear hx dxs hy dys g0 g1 g2
          obtain ⟨⟨xs, hx, dxs⟩, ys, hy, dys⟩ := id lsC
          obtain ⟨dx, g0, g1, g2⟩ := id (naC.mono wC.sm)
          have at0 := SqT.of (K := K) (wC.sm _ _ htC)
          refine ⟨_, rfl, rfl, _, rfl, ite3 (fun c1 => ?_) (fun c1 => ?_)⟩
          · refine ⟨_, rfl, x, dx, _, rfl, g0, rfl, _, rfl, t, _, (1 : Int), .str t2, rfl, rfl, at0, rfl, ?_⟩
            refine ⟨x, dc, dt, cs, ts, t2, rfl, naC.mono wC.sm, ht2, good.t.nd, by omega, fun H5 dt' hd s5' na5 => ?_⟩
            obtain ⟨G5, w5, naD, sD, _⟩ := wd_net wC naC hd s5' na5
            have lsD := lsC.net naC sD
            obtain ⟨⟨xs', hx', dxs'⟩, ys', hy', dys'⟩ := id lsD
            have htD := Same.tup (K := K) sD (nd_tup naC.nd (SqT.of htC))
            have lx' := DpAll.length dxs'
            rw [List.length_map] at lx'
            have ly' := DpAll.length dys'
            rw [List.length_map] at ly'
            refine ⟨_, rfl, p2, rfl, ⟨_, SqL.of (w5.sm _ _ hy')⟩, fun F nF => ?_⟩
            refine lc_it walk_list (fun i H' => ∃ G' zs, Same G5 G' ∧ Wd b l G' H' ∧ G' F = some (.lst zs) ∧ zs.length ≤ i ∧ DpAll K G' zs ((dropTies (ts.take i) t2).map dTi)) ⟨_, [], w5.sameG nF, w5.new nF, upd_same, Nat.le_refl _, .nil⟩ (fun i H' _ ⟨G', _, s, w', _⟩ => SqL.of (w'.sm _ _ (s _ _ hy'))) ?_ ?_
            · rintro i y H' H'' hi ⟨G', zs, s7, w7, hF, lz, dz⟩ ⟨rfl, ey⟩
              obtain ⟨⟨v1, v2, v3⟩, va, hv', rfl, hva⟩ := dp_ti dys' ey
              refine ⟨rfl, _, rfl, t, _, (1 : Int), .str t2, rfl, rfl, Same.tup (s7.trans w7.sm) htD, rfl, _, rfl, 1, rfl, ?_⟩
              refine ⟨va, [.str v1, .str v2, .str v3], rfl, Same.tup (s7.trans w7.sm) hva, fun z => absurd z.1 (by show ¬ HT.sIx 3 0 (some 1) = 0; decide), fun _ pp npp => ?_⟩
              have ec : cutV [V.str v1, V.str v2, V.str v3] (some 1) none = [v2, v3].map V.str := rfl
              rw [ec]
              have w8 := w7.new (o := .tup ([v2, v3].map V.str)) npp
              have s8 := s7.trans (w7.sameG (o := .tup ([v2, v3].map V.str)) npp)
              refine ⟨pp, _, rfl, .inr (.inl (.inl upd_same)), rfl, rfl, ?_⟩
              rw [in_strs, not_two]
              have dn : dropTies (ts.take (i + 1)) t2 = if decide (t2 ≠ v2 ∧ t2 ≠ v3) = true then dropTies (ts.take i) t2 ++ [(v1, v2, v3)] else dropTies (ts.take i) t2 := filter_next (fun t : Ti => decide (t2 ≠ t.2.1 ∧ t2 ≠ t.2.2)) hv'
              rw [dn]
              have hF8 := (w7.sameG (o := .tup ([v2, v3].map V.str)) npp) _ _ hF
              have dz8 := DpAll.mono (w7.sameG (o := .tup ([v2, v3].map V.str)) npp) dz
              refine ⟨_, rfl, iteB (fun c => ?_) (fun c => ?_)⟩
              · rw [if_pos c]
                refine ⟨_, rfl, zs, w8.sm _ _ hF8, lt_line (by omega), _, zs ++ [.ref va], same_mut s8 (w5.free nF), w8.mut hF8, upd_same, by rw [List.length_append]; exact Nat.add_le_add_right lz 1, ?_⟩
                rw [List.map_append]
                exact DpAll.append (DpAll.imm (imm_upd hF8) (noLs_map (fun _ => rfl) _) dz8) (.cons (.tup ((imm_upd hF8).tup (Same.tup s8 hva)) (strs_dp [v1, v2, v3])) .nil)
              · rw [if_neg (by rw [c]; decide)]
                exact ⟨_, zs, s8, w8, hF8, by omega, dz8⟩
            · rintro H' ⟨G', zs, s7, w7, hF, lz, dz⟩
              rw [ly', List.take_length] at dz
              refine gn_step ?_
              dsimp only [List.set]
              refine ⟨_, rfl, p1, rfl, ⟨_, SqL.of (w7.sm _ _ (s7 _ _ hx'))⟩, fun E2 nE => ?_⟩
              refine lc_it walk_list (fun i H' => ∃ G2 us, Same G' G2 ∧ Wd b l G2 H' ∧ G2 E2 = some (.lst us) ∧ us.length ≤ i ∧ DpAll K G2 us (((cs.take i).filter fun c => decide (c.1 ≠ t2)).map dCell)) ⟨_, [], w7.sameG nE, w7.new nE, upd_same, Nat.le_refl _, .nil⟩ (fun i H' _ ⟨G', _, s, w', _⟩ => SqL.of (w'.sm _ _ (s _ _ (s7 _ _ hx')))) ?_ ?_
              · rintro i y H2 H3' hi ⟨G2, us, s9, w9', hE, lu, du⟩ ⟨rfl, ey⟩
                obtain ⟨c, ca, hc, rfl, hca⟩ := dp_cell dxs' ey
                refine ⟨rfl, _, rfl, ca, _, (0 : Int), .str c.1, rfl, rfl, Same.tup ((s7.trans s9).trans w9'.sm) hca, rfl, _, rfl, t, _, (1 : Int), .str t2, rfl, rfl, Same.tup ((s7.trans s9).trans w9'.sm) htD, rfl, rfl, _, rfl, ?_⟩
                rw [str_dec, ← decide_not, filter_next (fun c : Cl => decide (c.1 ≠ t2)) hc]
                refine iteB (fun cc => ?_) (fun cc => ?_)
                · rw [if_pos cc]
                  refine ⟨_, rfl, us, w9'.sm _ _ hE, lt_line (by omega), _, us ++ [.ref ca], same_mut s9 (w7.free nE), w9'.mut hE, upd_same, by rw [List.length_append]; exact Nat.add_le_add_right lu 1, ?_⟩
                  rw [List.map_append]
                  exact DpAll.append (DpAll.imm (imm_upd hE) (noLs_map (fun _ => rfl) _) du) (.cons (.tup ((imm_upd hE).tup (Same.tup (s7.trans s9) hca)) (strs_dp [c.1, c.2])) .nil)
                · rw [if_neg (by rw [cc]; decide)]
                  exact ⟨G2, us, s9, w9', hE, by omega, du⟩
              · rintro H2 ⟨G2, us, s9, w9', hE, lu, du⟩
                rw [lx', List.take_length] at du
                refine ⟨_, rfl, (by show 2 ≤ sizeLine; decide), fun tt ntt => ?_⟩
                have wF := w9'.new (o := .tup [.ref E2, .ref F]) ntt
                have sF := w9'.sameG (o := .tup [.ref E2, .ref F]) ntt
                have sT := (s7.trans s9).trans sF
                exact qC _ _ tt E2 F dt' _ _ (sD.trans sT) wF (naD.mono sT) upd_same ⟨⟨us, sF _ _ hE, DpAll.mono sF du⟩, zs, (s9.trans sF) _ _ hF, DpAll.mono (s9.trans sF) dz⟩ (good_drop good) (Nat.le_succ_of_le (List.length_filter_le _ _)) (Nat.le_succ_of_le (List.length_filter_le _ _))
          · refine ⟨_, rfl, b, l, _, rfl, wC, fun G6 H6 k hk s6 w6 => ?_⟩
            refine gn_step ?_
            dsimp only [List.set]
            have kd := kinds12_ok k hk
            have naE := naC.mono s6
            have lsE := lsC.mono s6
            have qE := qC.mono s6
            have htE := s6 _ _ htC
            refine ⟨_, rfl, b, l, _, 2, rfl, by decide, by decide, w6, fun r H7' r0 r1 w7 => ?_⟩
            obtain ⟨dx', g0', g1', g2'⟩ := id (naE.mono w7.sm)
            have at7 := SqT.of (K := K) (w7.sm _ _ htE)
            refine ⟨rfl, _, rfl, ite3 (fun c2 => ?_) (fun c2 => ?_)⟩
            · refine ⟨_, rfl, _, rfl, _, rfl, t, _, (1 : Int), .str t2, rfl, rfl, at7, rfl, x, dx', _, rfl, g0', ?_⟩
              refine ⟨x, dc, dt, cs, ts, t2, k, rfl, naE.mono w7.sm, kd, ht2, by omega, fun H7 dt' hd s7 na7 => ?_⟩
              obtain ⟨G8, w8, naF, sF, _⟩ := wd_net w7 naE hd s7 na7
              have lsF := lsE.net naE sF
              have htF := Same.tup (K := K) sF (nd_tup naE.nd (SqT.of htE))
              try dsimp only [List.set]
              refine kind_ret w8 lsF htF l1 fun G9 H9 tt q1 s9 w9 ht9 ls9 => ?_
              exact qE _ _ tt q1 p2 dt' _ ts (sF.trans s9) w9 (naF.mono s9) ht9 ls9 (good_kind good kd) (by unfold setKind; rw [List.length_map]; exact Nat.le_succ _) (Nat.le_succ _)
            · refine ⟨_, rfl, x, dx', _, rfl, g0', rfl, _, rfl, t, _, (1 : Int), .str t2, rfl, rfl, at7, rfl, _, rfl, ?_⟩
              refine ⟨x, dc, dt, cs, ts, t2, k, rfl, naE.mono w7.sm, kd, ht2, by omega, fun H7 dt' hd s7 na7 => ?_⟩
              obtain ⟨G8, w8, naF, sF, _⟩ := wd_net w7 naE hd s7 na7
              have lsF := lsE.net naE sF
              have htF := Same.tup (K := K) sF (nd_tup naE.nd (SqT.of htE))
              try dsimp only [List.set]
              refine kind_ret w8 lsF htF l1 fun G9 H9 tt q1 s9 w9 ht9 ls9 => ?_
              exact qE _ _ tt q1 p2 dt' _ ts (sF.trans s9) w9 (naF.mono s9) ht9 ls9 (good_kind good kd) (by unfold setKind; rw [List.length_map]; exact Nat.le_succ _) (Nat.le_succ _)
end
end Bh

set_option Elab.async false
set_option linter.all false
set_option maxRecDepth 100000
set_option maxHeartbeats 1000000
set_option autoImplicit false
namespace Bh
open PySem PySem.Spec PyProof.Rows L2
theorem cons_step {ta : TE} {t : TA} {σ : L2.St} {H : Hp} {Q : List V → Hp → Prop} (h : ta σ H fun x H1 => t σ H1 fun xs H2 => Q (x :: xs) H2) : tCons ta t σ H Q := h
theorem lst_step {t : TA} {σ : L2.St} {H : Hp} {Q : VK} (h : t σ H fun xs H1 => xs.length ≤ sizeLine ∧ ∀ p, H1 p = none → Q (.ref p) (upd H1 p (.lst xs))) : tLst t σ H Q := h
theorem names_so {K : PySem.W.Frag} {p1 : Addr} {H : Hp} {cs : List Cl} {a0 a2 a3 a4 a5 a6 a7 a8 a9 a10 a11 : Option V} {Q : VK} (h : ∃ xs, H p1 = some (.lst xs) ∧ DpAll K H xs (cs.map dCell)) (few : cs.length ≤ 1000)
    (q : ∀ (H' : Hp) (D : Addr), H D = none → Same H H' → H' D = some (.lst ((cs.map (·.1)).map V.str)) → Q (.ref D) H') :
    tLc (iList K (tVar 1)) (gTup K 2 (gCons (gName 5) (gCons (gName 6) gNil))) tYes (tVar 5) (List.map (fun x => x.snd) [(Str.ofString "_law_cell", 5), (Str.ofString "_law_kind", 6)]) [a0, some (.ref p1), a2, a3, a4, a5, a6, a7, a8, a9, a10, a11] H Q := by
  obtain ⟨xs, hx, dp⟩ := h
  have lx := DpAll.length dp
  rw [List.length_map] at lx
  refine ⟨_, rfl, p1, rfl, ⟨_, SqL.of hx⟩, fun D nD => ?_⟩
  refine lc_it walk_list (fun i H' => Same H H' ∧ H' D = some (.lst (((cs.take i).map (·.1)).map V.str))) ⟨same_new nD, upd_same⟩ (fun i H' _ ⟨s, _⟩ => SqL.of (s _ _ hx)) ?_ ?_
  · rintro i y H' H'' hi ⟨s, hD⟩ ⟨rfl, ey⟩
    obtain ⟨c, ca, hc, rfl, ht⟩ := dp_cell dp ey
    refine ⟨ca, _, rfl, Same.tup s ht, rfl, ?_⟩
    refine ⟨_, _, rfl, _, _, rfl, rfl, rfl, _, rfl, _, hD, ?_, same_mut s nD, ?_⟩
    · rw [List.length_map, List.length_map, List.length_take]; exact lt_line (by omega)
    · rw [upd_same, take_next hc, List.map_append, List.map_append]
      rfl
  · rintro H' ⟨s, hD⟩
    rw [lx, List.take_length] at hD
    exact q H' D nD s hD
theorem ties_so2 {K : PySem.W.Frag} {p2 : Addr} {H : Hp} {ts : List Ti} {n : Str} {a0 a1 a3 a4 a6 a7 a8 a9 a10 a11 : Option V} {Q : VK} (h : ∃ xs, H p2 = some (.lst xs) ∧ DpAll K H xs (ts.map dTi)) (few : ts.length ≤ 1000)
    (q : ∀ (H' : Hp) (D : Addr) (ys : List V), H D = none → Same H H' → H' D = some (.lst ys) → DpAll K H' ys ((ts.filter fun t => decide (t.2.2 = n)).map dTi) → Q (.ref D) H') :
    tLc (iList K (tVar 2)) (gName 11) (tTest (tOp rEq (tOp (rIxT K) (tVar 11) (tC (V.int 2))) (tVar 5))) (tVar 11) (List.map (fun x => x.snd) [(Str.ofString "_law_row", 11)]) [a0, a1, some (.ref p2), a3, a4, some (.str n), a6, a7, a8, a9, a10, a11] H Q := by
  obtain ⟨xs, hx, dp⟩ := h
  have lx := DpAll.length dp
  rw [List.length_map] at lx
  refine ⟨_, rfl, p2, rfl, ⟨_, SqL.of hx⟩, fun D nD => ?_⟩
  refine lc_it walk_list (fun i H' => ∃ ys, Same H H' ∧ H' D = some (.lst ys) ∧ ys.length ≤ i ∧ DpAll K H' ys (((ts.take i).filter fun t => decide (t.2.2 = n)).map dTi)) ⟨[], same_new nD, upd_same, Nat.le_refl _, .nil⟩ (fun i H' _ ⟨_, s, _⟩ => SqL.of (s _ _ hx)) ?_ ?_
  · rintro i y H' H'' hi ⟨ys, s, hD, ly, dy⟩ ⟨rfl, ey⟩
    obtain ⟨⟨t1, t2, t3⟩, ta, hc, rfl, ht⟩ := dp_ti dp ey
    refine ⟨rfl, _, rfl, ta, _, (2 : Int), .str t3, rfl, rfl, Same.tup s ht, rfl, _, rfl, rfl, _, rfl, ?_⟩
    rw [str_dec, filter_next (fun t : Ti => decide (t.2.2 = n)) hc]
    refine iteB (fun c => ?_) (fun c => ?_)
    · rw [if_pos c]
      refine ⟨_, rfl, ys, hD, lt_line (by omega), ys ++ [.ref ta], same_mut s nD, upd_same, by rw [List.length_append]; exact Nat.add_le_add_right ly 1, ?_⟩
      rw [List.map_append]
      exact DpAll.append (DpAll.imm (imm_upd hD) (noLs_map (fun _ => rfl) _) dy) (.cons (.tup ((imm_upd hD).tup (Same.tup s ht)) (strs_dp [t1, t2, t3])) .nil)
    · rw [if_neg (by rw [c]; decide)]
      exact ⟨ys, s, hD, by omega, dy⟩
  · rintro H' ⟨ys, s, hD, ly, dy⟩
    rw [lx, List.take_length] at dy
    exact q H' D ys nD s hD dy
theorem ties_so1 {K : PySem.W.Frag} {p2 : Addr} {H : Hp} {ts : List Ti} {n : Str} {a0 a1 a3 a4 a6 a7 a8 a9 a10 a11 : Option V} {Q : VK} (h : ∃ xs, H p2 = some (.lst xs) ∧ DpAll K H xs (ts.map dTi)) (few : ts.length ≤ 1000)
    (q : ∀ (H' : Hp) (D : Addr) (ys : List V), H D = none → Same H H' → H' D = some (.lst ys) → DpAll K H' ys ((ts.filter fun t => decide (t.2.1 = n)).map dTi) → Q (.ref D) H') :
    tLc (iList K (tVar 2)) (gName 11) (tTest (tOp rEq (tOp (rIxT K) (tVar 11) (tC (V.int 1))) (tVar 5))) (tVar 11) (List.map (fun x => x.snd) [(Str.ofString "_law_row", 11)]) [a0, a1, some (.ref p2), a3, a4, some (.str n), a6, a7, a8, a9, a10, a11] H Q := by
  obtain ⟨xs, hx, dp⟩ := h
  have lx := DpAll.length dp
  rw [List.length_map] at lx
  refine ⟨_, rfl, p2, rfl, ⟨_, SqL.of hx⟩, fun D nD => ?_⟩
  refine lc_it walk_list (fun i H' => ∃ ys, Same H H' ∧ H' D = some (.lst ys) ∧ ys.length ≤ i ∧ DpAll K H' ys (((ts.take i).filter fun t => decide (t.2.1 = n)).map dTi)) ⟨[], same_new nD, upd_same, Nat.le_refl _, .nil⟩ (fun i H' _ ⟨_, s, _⟩ => SqL.of (s _ _ hx)) ?_ ?_
  · rintro i y H' H'' hi ⟨ys, s, hD, ly, dy⟩ ⟨rfl, ey⟩
    obtain ⟨⟨t1, t2, t3⟩, ta, hc, rfl, ht⟩ := dp_ti dp ey
    refine ⟨rfl, _, rfl, ta, _, (1 : Int), .str t2, rfl, rfl, Same.tup s ht, rfl, _, rfl, rfl, _, rfl, ?_⟩
    rw [str_dec, filter_next (fun t : Ti => decide (t.2.1 = n)) hc]
    refine iteB (fun c => ?_) (fun c => ?_)
    · rw [if_pos c]
      refine ⟨_, rfl, ys, hD, lt_line (by omega), ys ++ [.ref ta], same_mut s nD, upd_same, by rw [List.length_append]; exact Nat.add_le_add_right ly 1, ?_⟩
      rw [List.map_append]
      exact DpAll.append (DpAll.imm (imm_upd hD) (noLs_map (fun _ => rfl) _) dy) (.cons (.tup ((imm_upd hD).tup (Same.tup s ht)) (strs_dp [t1, t2, t3])) .nil)
    · rw [if_neg (by rw [c]; decide)]
      exact ⟨ys, s, hD, by omega, dy⟩
  · rintro H' ⟨ys, s, hD, ly, dy⟩
    rw [lx, List.take_length] at dy
    exact q H' D ys nD s hD dy
theorem sh_nm {n : Nat} {zs : List Str} (h : zs.length ≤ 1000) : Sh (n + 1) (.list (zs.map PyData.str)) :=
  .lst (by rw [List.length_map]; omega) fun d hd => by
    obtain ⟨z, _, rfl⟩ := List.mem_map.mp hd
    exact .str
theorem sh_tis {n : Nat} {ts : List Ti} (h : ts.length ≤ 1000) : Sh (n + 2) (.list (ts.map dTi)) :=
  .lst (by rw [List.length_map]; omega) fun d hd => by
    obtain ⟨t, _, rfl⟩ := List.mem_map.mp hd
    refine .tup (by show 3 ≤ 100000; decide) fun e he => ?_
    rcases (by simpa using he : e = .str t.1 ∨ e = .str t.2.1 ∨ e = .str t.2.2) with rfl | rfl | rfl <;> exact .str
def spWebSo (K : PySem.W.Frag) (C : Addr) : Sp := fun vs H Q _ => ∃ (x dc dt p1 p2 : Addr) (ns : List Str) (cs : List Cl) (ts : List Ti), vs = [.ref x, .ref p1, .ref p2] ∧ NetA H C x dc dt cs ts ∧ LsA K H p1 p2 cs ts ∧ Good ns cs ts ∧ cs.length ≤ 500 ∧ ts.length ≤ 500 ∧ ∀ H', Same H H' → Q (.bl true) H'
section
variable {P : Program} {w : World} {K : PySem.W.Frag} {mg : Str → Option Value} {base : Heap} {R : NtC K mg}
theorem kb_ties_from_name (M : NtM K mg R) : KBn K M.ties_from.fd ["self", "name"] 1 ["name"] (fun us ws => us ++ ws) (fun vs zs => vs ++ zs) := by
  obtain ⟨oc, od, kV, doc, pm, an, cdv, ct, osl, e, _⟩ := M.ties_from.F.ex
  rw [e]
  exact ⟨fun s us ws _ l1 l2 => match us, ws, l1, l2 with
    | [_], [_], _, _ => .of_eq rfl, fun r1 r2 => r1.append r2⟩
theorem ok_webso (T : Top K mg) (M : NtM K mg R) : FnOk P w K mg base CX0 8 T.a_l_web_so T.fd_l_web_so ["_law_web", "_law_cells_z", "_law_ties_z"] (spWebSo K R.C) := by
  have G_l_like := ok_like (P := P) (w := w) (base := base) T 6
  have G_m_cells := ok_mcells (P := P) (w := w) (base := base) T M
  have G_m_ties := ok_mties (P := P) (w := w) (base := base) T M
  have G_m_ties_into := ok_minto (P := P) (w := w) (base := base) T M
  have G_m_ties_from := ok_mfrom (P := P) (w := w) (base := base) T M
  have G_m_getitem := ok_mgetitem (P := P) (w := w) (base := base) T M
  have G_m_contains := ok_mcontains (P := P) (w := w) (base := base) T M
  have G_m_len := ok_mlen (P := P) (w := w) (base := base) T M
  have G_m_repr := ok_mrepr (P := P) (w := w) (base := base) T M
  refine T.d_l_web_so.F.ok sc_l_web_so (fun vs H Q E h => ?_) (fun cdv A outer s H vs Q E hr h => ?_)
  · obtain ⟨x, dc, dt, p1, p2, ns, cs, ts, rfl, _⟩ := h
    rfl
  obtain ⟨x, dc, dt, p1, p2, ns, cs, ts, rfl, na, ls, good, l1, l2, q⟩ := h
  refine ⟨_, (pss_cons (ps_par (i := 3) (j := 4) (by rfl) sc_l_web_so.nd rfl rfl (by decide) rfl rfl (pa_cons (pe_meth0 (pv 0) R.cl M.cells.M G_m_cells (hr.mono (by decide)) M.cells.b .nil pass0) (pa_cons (pe_meth0 (pv 0) R.cl M.ties.M G_m_ties (hr.mono (by decide)) M.ties.b .nil pass0) pa_nil)) (by rfl))
    (pss_cons (ps_if (pt_not (pt_val (pe_call G_l_like (hr.mono (by decide)) (by rfl) T.d_l_like.g T.d_l_like.kp T.d_l_like.b .nil pass0 (pa_cons (pe_lst (pa_cons (pv 3) (pa_cons (pv 4) (pa_cons (pe_callB (call_lenIns G_m_len M.len.M.at_ M.len.M.fn M.len.b pass0 (hr.mono (by decide))) (by rfl) T.b_len PySem.boot_len (pa_cons (pv 0) pa_nil)) pa_nil)))) (pa_cons (pe_lst (pa_cons (pe_lc (own := [("_law_cell", 5), ("_law_kind", 6)]) rfl sc_l_web_so.nd (pi_list_K (K := K) (by rfl) (pv 1)) (blkOk_by (own := [("_law_cell", 5), ("_law_kind", 6)]) (N := ["_law_web", "_law_cells_z", "_law_ties_z", "_law_found", "_law_rows", "_law_cell", "_law_kind", "_law_into", "_law_away", "_law_due", "_law_face", "_law_row"]) (sc := defScope s_l_web_so) (by decide +kernel)) (fun _ _ _ _ _ => by exact (pg_tup_K (K := K) (by rfl) (n := 2) (by rfl) (pgs_cons (pg_name (i := 5) sc_l_web_so.nd rfl (Or.inl rfl)) (pgs_cons (pg_name (i := 6) sc_l_web_so.nd rfl (Or.inl rfl)) pgs_nil)))) (fun _ _ _ _ _ => by exact pts_nil) (fun _ _ _ _ _ => by exact (pv 5))) (pa_cons (pv 2) (pa_cons (pe_callB (call_len_seq_K (K := K) (by rfl)) (by rfl) T.b_len PySem.boot_len (pa_cons (pv 1) pa_nil)) pa_nil)))) pa_nil))))) (pss_one (ps_ret pe_bl)) pss_nil)
    (pss_cons (ps_expr (pe_bm0_K (K := K) (by rfl) PySem.F.plainAttrs_list PySem.F.slot_list_clear PySem.F.type_list_clear mt_lclear (pv 3)))
    (pss_cons (ps_expr (pe_bm0_K (K := K) (by rfl) PySem.F.plainAttrs_list PySem.F.slot_list_clear PySem.F.type_list_clear mt_lclear (pv 4)))
    (pss_cons (ps_for PassesOwn.never rfl (pi_list_K (K := K) (by rfl) (pv 1)) (pg_tup_K (K := K) (by rfl) (n := 2) (by rfl) (pgs_cons (pg_name (i := 5) sc_l_web_so.nd rfl (Or.inr rfl)) (pgs_cons (pg_name (i := 6) sc_l_web_so.nd rfl (Or.inl rfl)) pgs_nil)))
      (pss_cons (ps_par (i := 7) (j := 8) (by rfl) sc_l_web_so.nd rfl rfl (by decide) rfl rfl (pa_cons (pe_meth (pv 0) R.cl M.ties_into.M G_m_ties_into (hr.mono (by decide)) M.ties_into.b .nil pass0 (pa_cons (pv 5) pa_nil)) (pa_cons (pe_methN (pv 0) R.cl M.ties_from.M G_m_ties_from (hr.mono (by decide)) (kb_ties_from_name M) pass0 (pk_cons (pv 5) pk_nil)) pa_nil)) (by rfl))
      (pss_cons (ps_set (i := 9) sc_l_web_so.nd rfl (Or.inl rfl) (pe_lst (pa_cons (pe_lc (own := [("_law_row", 11)]) rfl sc_l_web_so.nd (pi_list_K (K := K) (by rfl) (pv 2)) (blkOk_by (own := [("_law_row", 11)]) (N := ["_law_web", "_law_cells_z", "_law_ties_z", "_law_found", "_law_rows", "_law_cell", "_law_kind", "_law_into", "_law_away", "_law_due", "_law_face", "_law_row"]) (sc := defScope s_l_web_so) (by decide +kernel)) (fun _ _ _ _ _ => by exact (pg_name (i := 11) sc_l_web_so.nd rfl (Or.inl rfl))) (fun _ _ _ _ _ => by exact (pts_one (pt_cmpR op_eq (pe_ix (ix_tup_K (K := K) (by rfl)) (pv 11) pe_int (fun _ _ => rfl)) (pv 5) (nomark _)))) (fun _ _ _ _ _ => by exact (pv 11))) (pa_cons (pe_lc (own := [("_law_row", 11)]) rfl sc_l_web_so.nd (pi_list_K (K := K) (by rfl) (pv 2)) (blkOk_by (own := [("_law_row", 11)]) (N := ["_law_web", "_law_cells_z", "_law_ties_z", "_law_found", "_law_rows", "_law_cell", "_law_kind", "_law_into", "_law_away", "_law_due", "_law_face", "_law_row"]) (sc := defScope s_l_web_so) (by decide +kernel)) (fun _ _ _ _ _ => by exact (pg_name (i := 11) sc_l_web_so.nd rfl (Or.inl rfl))) (fun _ _ _ _ _ => by exact (pts_one (pt_cmpR op_eq (pe_ix (ix_tup_K (K := K) (by rfl)) (pv 11) pe_int (fun _ _ => rfl)) (pv 5) (nomark _)))) (fun _ _ _ _ _ => by exact (pv 11))) pa_nil))))
      (pss_cons (ps_if (pt_not (pt_val (pe_call G_l_like (hr.mono (by decide)) (by rfl) T.d_l_like.g T.d_l_like.kp T.d_l_like.b .nil pass0 (pa_cons (pe_lst (pa_cons (pv 7) (pa_cons (pv 8) (pa_cons (ix_ins G_m_getitem M.getitem.M.at_ M.getitem.M.fn M.gi M.getitem.b pass0 (hr.mono (by decide)) (pv 0) (pv 5) (fun _ _ => by with_unfolding_all rfl)) (pa_cons (pe_cmpR (op_inIns G_m_contains M.contains.M.at_ M.contains.M.fn M.contains.b pass0 (hr.mono (by decide))) (pv 5) (pv 0) (by rfl)) pa_nil))))) (pa_cons (pe_op op_cat (pv 9) (pe_lst (pa_cons (pv 6) (pa_cons pe_bl pa_nil)))) pa_nil))))) (pss_one (ps_ret pe_bl)) pss_nil)
      (pss_cons (ps_expr (pe_bm0_K (K := K) (by rfl) PySem.F.plainAttrs_list PySem.F.slot_list_clear PySem.F.type_list_clear mt_lclear (pv 7)))
      (pss_one (ps_expr (pe_bm_K (K := K) (by rfl) PySem.F.plainAttrs_list PySem.F.slot_list_append PySem.F.type_list_append mt_append (pv 8) (pa_cons pe_int pa_nil)))))))))
    (pss_cons (ps_set (i := 10) sc_l_web_so.nd rfl (Or.inl rfl) (pe_op op_add_str (pe_op op_add_str (pe_op op_add_str (pe_op op_add_str pe_str (pe_callTy call_str_int (by rfl) T.b_str (by decide +kernel) (pa_cons (pe_callB (call_len_seq_K (K := K) (by rfl)) (by rfl) T.b_len PySem.boot_len (pa_cons (pv 1) pa_nil)) pa_nil))) pe_str) (pe_callTy call_str_int (by rfl) T.b_str (by decide +kernel) (pa_cons (pe_callB (call_len_seq_K (K := K) (by rfl)) (by rfl) T.b_len PySem.boot_len (pa_cons (pv 2) pa_nil)) pa_nil))) pe_str))
    (pss_one (ps_ret (pe_and (pe_cmpR op_eq (pe_callB (call_reprIns G_m_repr M.repr.M.at_ M.repr.M.fn M.repr.b (hr.mono (by decide))) (by rfl) T.b_repr (by decide +kernel) (pa_cons (pv 0) pa_nil)) (pv 10) (nomark _)) (pe_one (pe_call G_l_like (hr.mono (by decide)) (by rfl) T.d_l_like.g T.d_l_like.kp T.d_l_like.b .nil pass0 (pa_cons (pe_lst (pa_cons (pe_meth0 (pv 0) R.cl M.cells.M G_m_cells (hr.mono (by decide)) M.cells.b .nil pass0) (pa_cons (pe_meth0 (pv 0) R.cl M.ties.M G_m_ties (hr.mono (by decide)) M.ties.b .nil pass0) pa_nil))) (pa_cons (pe_lst (pa_cons (pe_lc (own := [("_law_cell", 5), ("_law_kind", 6)]) rfl sc_l_web_so.nd (pi_list_K (K := K) (by rfl) (pv 1)) (blkOk_by (own := [("_law_cell", 5), ("_law_kind", 6)]) (N := ["_law_web", "_law_cells_z", "_law_ties_z", "_law_found", "_law_rows", "_law_cell", "_law_kind", "_law_into", "_law_away", "_law_due", "_law_face", "_law_row"]) (sc := defScope s_l_web_so) (by decide +kernel)) (fun _ _ _ _ _ => by exact (pg_tup_K (K := K) (by rfl) (n := 2) (by rfl) (pgs_cons (pg_name (i := 5) sc_l_web_so.nd rfl (Or.inl rfl)) (pgs_cons (pg_name (i := 6) sc_l_web_so.nd rfl (Or.inl rfl)) pgs_nil)))) (fun _ _ _ _ _ => by exact pts_nil) (fun _ _ _ _ _ => by exact (pv 5))) (pa_cons (pv 2) pa_nil))) pa_nil))))))))))))), ?_⟩
  rw [show L2.start ["_law_web", "_law_cells_z", "_law_ties_z", "_law_found", "_law_rows", "_law_cell", "_law_kind", "_law_into", "_law_away", "_law_due", "_law_face", "_law_row"] [.ref x, .ref p1, .ref p2] = [some (.ref x), some (.ref p1), some (.ref p2), none, none, none, none, none, none, none, none, none] from rfl]
  obtain ⟨⟨xs, hx, dxs⟩, ys, hy, dys⟩ := id ls
  obtain ⟨dx, h0, h1, h2⟩ := id na
  have lx := DpAll.length dxs
  rw [List.length_map] at lx
  have ly := DpAll.length dys
  rw [List.length_map] at ly
  refine ⟨_, rfl, x, dx, _, rfl, h0, rfl, x, dc, dt, cs, ts, rfl, na, fun pc npc => ?_⟩
  have s1 : Same H (upd H pc (.lst (cs.map fun c => .str c.1))) := same_new npc
  refine ⟨_, rfl, x, dx, _, rfl, s1 _ _ h0, rfl, x, dc, dt, cs, ts, rfl, na.mono s1, fun pt H2 zs npt s2 hpt dpt => ?_⟩
  have s12 := s1.trans s2
  have hpc := s2 _ _ (show upd H pc (.lst (cs.map fun c => .str c.1)) pc = _ from upd_same)
  have enm : (cs.map fun c => V.str c.1) = (cs.map (·.1)).map V.str := by rw [List.map_map]; rfl
  rw [enm] at hpc
  have few := good.c.few
  have fewt := good.t.few
  refine ⟨_, _, rfl, ?_⟩
  try dsimp only [List.set]
  refine ⟨_, rfl, _, rfl, _, rfl, x, dx, _, rfl, s12 _ _ h0, x, dc, dt, cs, ts, rfl, na.mono s12, cs.length, rfl, le_line (by omega), ?_⟩
  refine ⟨(by show 3 ≤ sizeLine; decide), fun e1 ne1 => ?_⟩
  have s3 := s12.trans (same_new (o := .lst [.ref pc, .ref pt, .int cs.length]) ne1)
  have s23 : Same H2 _ := same_new (o := .lst [.ref pc, .ref pt, .int cs.length]) ne1
  refine cons_step (lst_step (cons_step ?_))
  refine names_so (ls.mono s3).c few fun H3 D nD s4 hD => ?_
  refine ⟨_, rfl, _, rfl, p1, xs, rfl, .inl (SqL.of (s4 _ _ (s3 _ _ hx))), (by show 3 ≤ sizeLine; decide), fun e2 ne2 => ?_⟩
  have s5 := s3.trans (s4.trans (same_new (o := .lst [.ref D, .ref p2, .int xs.length]) ne2))
  have s45 := s4.trans (same_new (o := .lst [.ref D, .ref p2, .int xs.length]) ne2)
  have s5n : Same H3 _ := same_new (o := .lst [.ref D, .ref p2, .int xs.length]) ne2
  have elx : (xs.length : Int) = (cs.length : Int) := by rw [lx]
  refine ⟨.ref e1, .ref e2, .list [.list ((cs.map (·.1)).map PyData.str), .list (ts.map dTi), .int cs.length], rfl, .lst (SqL.of (s45 _ _ upd_same)) (.cons (.lst (SqL.of (s45 _ _ (s23 _ _ hpc))) (strs_dp _)) (.cons (.lst (SqL.of (s45 _ _ (s23 _ _ hpt))) (DpAll.mono (s23.trans s45) dpt)) (.cons (.int _) .nil))),
    .lst (SqL.of upd_same) (.cons (.lst (SqL.of (s5n _ _ hD)) (strs_dp _)) (.cons (.lst (SqL.of (s5 _ _ hy)) (DpAll.mono s5 dys)) (.cons (by rw [elx]; exact .int _) .nil))), ?_, fun H4 s6 => ⟨_, rfl, iteF ?_⟩⟩
  · refine .lst (by show 3 ≤ 100000; decide) fun d hd => ?_
    rcases (by simpa using hd : d = .list ((cs.map (·.1)).map PyData.str) ∨ d = .list (ts.map dTi) ∨ d = .int cs.length) with rfl | rfl | rfl
    · exact sh_nm (by rw [List.length_map]; omega)
    · exact sh_tis fewt
    · exact .int
  have sH4 := s5.trans s6
  have hpc4 := s6 _ _ (s45 _ _ (s23 _ _ hpc))
  have hpt4 := s6 _ _ (s45 _ _ (s23 _ _ hpt))
  have nptH : H pt = none := s1.free npt
  refine ⟨_, rfl, .inl ⟨rfl, _, SqL.of hpc4⟩, pc, _, rfl, rfl, hpc4, ?_⟩
  have sH5 := same_mut (o := .lst []) sH4 npc
  have npe : pt ≠ pc := fun z => by rw [z, upd_same] at npt; cases npt
  have hpt5 : upd H4 pc (.lst []) pt = some (.lst zs) := by rw [upd_ne npe]; exact hpt4
  refine ⟨_, rfl, .inl ⟨rfl, _, SqL.of hpt5⟩, pt, _, rfl, rfl, hpt5, ?_⟩
  have sH6 := same_mut (o := .lst []) sH5 nptH
  refine ⟨_, rfl, p1, rfl, ⟨_, SqL.of (sH6 _ _ hx)⟩, for_it walk_list (fun i σ H' => ∃ v5 v6 v7 v8 v9 v11 : Option V, σ = [some (.ref x), some (.ref p1), some (.ref p2), some (.ref pc), some (.ref pt), v5, v6, v7, v8, v9, none, v11] ∧ Same H H') ⟨_, _, _, _, _, _, rfl, sH6⟩ (fun i σ H' _ ⟨_, _, _, _, _, _, _, s⟩ => SqL.of (s _ _ hx)) ?_ ?_⟩
  · rintro i y σ H' H'' hi ⟨v5, v6, v7, v8, v9, v11, rfl, t0⟩ ⟨rfl, ey⟩
    obtain ⟨⟨n, k⟩, ca, hc, rfl, hca⟩ := dp_cell dxs ey
    have mc := List.mem_of_getElem? hc
    have mn : n ∈ cs.map (·.1) := List.mem_map.mpr ⟨_, mc, rfl⟩
    refine ⟨ca, _, rfl, Same.tup t0 hca, rfl, ?_⟩
    refine ⟨_, _, rfl, _, _, rfl, rfl, ?_⟩
    refine ⟨_, rfl, x, dx, _, rfl, t0 _ _ h0, rfl, _, rfl, x, dc, dt, cs, ts, n, rfl, na.mono t0, mn, fewt, fun qa K1 as nqa t1 hqa da => ?_⟩
    have t01 := t0.trans t1
    refine ⟨_, rfl, x, dx, _, rfl, t01 _ _ h0, rfl, _, rfl, rfl, x, dc, dt, cs, ts, n, rfl, na.mono t01, mn, fewt, fun qb K2 bs nqb t2 hqb db => ?_⟩
    have t02 := t01.trans t2
    refine ⟨_, _, rfl, ?_⟩
    try dsimp only [List.set]
    refine sq_asg (lst_step (cons_step ?_))
    refine ties_so2 (ls.mono t02).t fewt fun K3 D1 d1 nD1 t3 hD1 dd1 => ?_
    have t03 := t02.trans t3
    refine cons_step ?_
    refine ties_so1 (ls.mono t03).t fewt fun K4 D2 d2 nD2 t4 hD2 dd2 => ?_
    have t04 := t03.trans t4
    refine ⟨(by show 2 ≤ sizeLine; decide), fun e3 ne3 => ?_⟩
    have t5 : Same K4 _ := same_new (o := .lst [.ref D1, .ref D2]) ne3
    have t05 := t04.trans t5
    refine gn_step ?_
    try dsimp only [List.set]
    have na5 := na.mono t05
    have hkd := kind_nodup good.c.nd mc
    refine ⟨_, rfl, _, rfl, _, rfl, _, rfl, x, dx, _, rfl, t05 _ _ h0, x, dc, dt, cs, ts, n, k, rfl, na5, hkd, ?_⟩
    refine ⟨_, rfl, _, rfl, x, dx, _, rfl, t05 _ _ h0, x, dc, dt, cs, ts, .str n, true, rfl, na5, .inl ⟨n, rfl, (decide_eq_true mn).symm⟩, true, rfl, (by show 4 ≤ sizeLine; decide), fun e4 ne4 => ?_⟩
    have t6 : Same _ _ := same_new (o := .lst [.ref qa, .ref qb, .str k, .bl (true != false)]) ne4
    refine ⟨_, rfl, _, rfl, (by show 2 ≤ sizeLine; decide), fun e5 ne5 => ?_⟩
    have t7 : Same _ _ := same_new (o := .lst [.str k, .bl true]) ne5
    refine ⟨e3, e5, [.ref D1, .ref D2], [.str k, .bl true], rfl, rfl, (t6.trans t7) _ _ upd_same, upd_same, (by show 4 ≤ sizeLine; decide), fun e6 ne6 => ?_⟩
    have t8 : Same _ _ := same_new (o := .lst ([.ref D1, .ref D2] ++ [.str k, .bl true])) ne6
    have t58 := t6.trans (t7.trans t8)
    have t48 := t5.trans t58
    have t38 := t4.trans t48
    have t28 := t3.trans t38
    have t18 := t2.trans t28
    have t08 := t05.trans t58
    let fi := ts.filter fun t : Ti => decide (t.2.2 = n)
    let fo := ts.filter fun t : Ti => decide (t.2.1 = n)
    have li : fi.length ≤ 1000 := Nat.le_trans (List.length_filter_le _ _) fewt
    have lo : fo.length ≤ 1000 := Nat.le_trans (List.length_filter_le _ _) fewt
    refine ⟨.ref e4, .ref e6, .list [.list (fi.map dTi), .list (fo.map dTi), .str k, .bool true], rfl,
      .lst (SqL.of ((t7.trans t8) _ _ upd_same)) (.cons (.lst (SqL.of (t18 _ _ hqa)) (DpAll.mono t18 da)) (.cons (.lst (SqL.of (t28 _ _ hqb)) (DpAll.mono t28 db)) (.cons (.str k) (.cons (.bl true) .nil)))),
      .lst (SqL.of upd_same) (.cons (.lst (SqL.of (t38 _ _ hD1)) (DpAll.mono t38 dd1)) (.cons (.lst (SqL.of (t48 _ _ hD2)) (DpAll.mono t48 dd2)) (.cons (.str k) (.cons (.bl true) .nil)))), ?_, fun H9 t9 => ⟨_, rfl, iteF ?_⟩⟩
    · refine .lst (by show 4 ≤ 100000; decide) fun d hd => ?_
      rcases (by simpa using hd : d = .list (fi.map dTi) ∨ d = .list (fo.map dTi) ∨ d = .str k ∨ d = .bool true) with rfl | rfl | rfl | rfl
      · exact sh_tis li
      · exact sh_tis lo
      · exact .str
      · exact .bl
    have hqa9 := t9 _ _ (t18 _ _ hqa)
    have hqb9 := t9 _ _ (t28 _ _ hqb)
    have nqaH := t0.free nqa
    have nqbH := t01.free nqb
    have qne : qb ≠ qa := fun z => by rw [z, hqa] at nqb; cases nqb
    refine ⟨_, rfl, .inl ⟨rfl, _, SqL.of hqa9⟩, qa, _, rfl, rfl, hqa9, ?_⟩
    have hqb10 : upd H9 qa (.lst []) qb = some (.lst bs) := by rw [upd_ne qne]; exact hqb9
    have lbs := DpAll.length db
    rw [List.length_map] at lbs
    refine ⟨_, rfl, .inl ⟨rfl, _, SqL.of hqb10⟩, qb, _, .int 0, rfl, rfl, hqb10, lt_line (by rw [lbs]; exact Nat.le_trans lo (by decide)), ?_⟩
    exact ⟨_, _, _, _, _, _, rfl, same_mut (same_mut (t08.trans t9) nqaH) nqbH⟩
  · rintro σ H' ⟨v5, v6, v7, v8, v9, v11, rfl, t0⟩
    have c1 := int_text cs.length (by omega)
    have c2 := int_text ts.length (by omega)
    have b0 : ("Network(" : Str).length = 8 := by decide +kernel
    have b1 : (" cells, " : Str).length = 8 := by decide +kernel
    have b2 : (" ties)" : Str).length = 6 := by decide +kernel
    have ely : (ys.length : Int) = (ts.length : Int) := by rw [ly]
    have elx2 : (xs.length : Int) = (cs.length : Int) := by rw [lx]
    refine ⟨_, rfl, p1, xs, rfl, .inl (SqL.of (t0 _ _ hx)), _, rfl, ?_, ?_⟩
    · rw [lx]; exact int_log _ (by omega)
    rw [lx]
    refine ⟨_, _, rfl, rfl, le_line (by omega), _, _, rfl, rfl, le_line (by rw [len_add]; omega), _, rfl, p2, ys, rfl, .inl (SqL.of (t0 _ _ hy)), _, rfl, ?_, ?_⟩
    · rw [ly]; exact int_log _ (by omega)
    rw [ly]
    refine ⟨_, _, rfl, rfl, le_line (by rw [len_add, len_add]; omega), _, _, rfl, rfl, le_line (by rw [len_add, len_add, len_add]; omega), ?_⟩
    refine gn_step ?_
    try dsimp only [List.set]
    refine ⟨_, rfl, x, dx, _, rfl, t0 _ _ h0, ⟨x, dc, dt, cs, ts, rfl, na.mono t0, few, fewt, ⟨_, rfl⟩, ?_⟩⟩
    refine ⟨_, rfl, rfl, _, rfl, ite3 (fun _ => ?_) (fun z => absurd rfl z)⟩
    refine ⟨_, rfl, x, dx, _, rfl, t0 _ _ h0, rfl, x, dc, dt, cs, ts, rfl, na.mono t0, fun qc nqc => ?_⟩
    rw [enm]
    have u1 : Same H' (upd H' qc (.lst ((cs.map (·.1)).map V.str))) := same_new nqc
    have u01 := t0.trans u1
    refine ⟨_, rfl, x, dx, _, rfl, u01 _ _ h0, rfl, x, dc, dt, cs, ts, rfl, na.mono u01, fun qt K2 ws nqt u2 hqt dqt => ?_⟩
    have u02 := u01.trans u2
    refine ⟨(by show 2 ≤ sizeLine; decide), fun f1 nf1 => ?_⟩
    have u3 : Same K2 _ := same_new (o := .lst [.ref qc, .ref qt]) nf1
    have u03 := u02.trans u3
    refine cons_step (lst_step (cons_step ?_))
    refine names_so (ls.mono u03).c few fun K3 D nD u4 hD => ?_
    refine ⟨_, rfl, (by show 2 ≤ sizeLine; decide), fun f2 nf2 => ?_⟩
    have u5 : Same K3 _ := same_new (o := .lst [.ref D, .ref p2]) nf2
    have u45 := u4.trans u5
    have u35 := u3.trans u45
    have u05 := u02.trans u35
    refine ⟨.ref f1, .ref f2, .list [.list ((cs.map (·.1)).map PyData.str), .list (ts.map dTi)], rfl, .lst (SqL.of (u45 _ _ upd_same)) (.cons (.lst (SqL.of ((u2.trans u35) _ _ upd_same)) (strs_dp _)) (.cons (.lst (SqL.of (u35 _ _ hqt)) (DpAll.mono u35 dqt)) .nil)),
      .lst (SqL.of upd_same) (.cons (.lst (SqL.of (u5 _ _ hD)) (strs_dp _)) (.cons (.lst (SqL.of (u05 _ _ hy)) (DpAll.mono u05 dys)) .nil)), ?_, fun H9 u9 => q _ (u05.trans u9)⟩
    refine .lst (by show 2 ≤ 100000; decide) fun d hd => ?_
    rcases (by simpa using hd : d = .list ((cs.map (·.1)).map PyData.str) ∨ d = .list (ts.map dTi)) with rfl | rfl
    · exact sh_nm (by rw [List.length_map]; omega)
    · exact sh_tis fewt
end
end Bh

set_option Elab.async false
set_option linter.all false
set_option maxRecDepth 100000
set_option maxHeartbeats 1000000
set_option autoImplicit false
namespace Bh
open PySem PySem.Spec PyProof.Rows L2
def spLaw (K : PySem.W.Frag) : Sp := fun vs H Q _ => ∃ (a : Addr) (ns : List Int), vs = [.ref a] ∧ SqL K H a (ns.map V.int) ∧ ns.length ≤ 63 ∧ ∀ H', Q (.bl true) H'
theorem net_made {K : PySem.W.Frag} {C : Addr} {Q : Hp → Prop} {E : XK} {H : Hp} {x dx : Addr} {v1 v2 : V} {cs : List Cl} {ts : List Ti} (nx : H x = none) (nd : H dx = none) (ne : dx ≠ x) (d1 : DpS K H v1 (cs.map dCell)) (d2 : DpS K H v2 (ts.map dTi)) (okc : CsOk cs) (okt : TsOk cs ts)
    (q : ∀ (H' : Hp) (dc dt : Addr), Same H H' → H dc = none → H dt = none → NetA H' C x dc dt cs ts → Q H') : spNetInit K C [.ref x, v1, v2] (upd (upd H dx (.own x)) x (.ins C dx [])) (fun v H3 => v = .non ∧ Q H3) E := by
  have s1 : Same H (hid x (upd (upd H dx (.own x)) x (.ins C dx []))) := by
    rw [hid_upd]
    exact hid_of (same_new nd) nx
  have non : ∀ {a : Addr}, upd (upd H dx (.own x)) x (.ins C dx []) a = none → H a = none := fun {a} e => by
    cases k : H a with
    | none => rfl
    | some o =>
      have := hid_le _ _ (s1 _ _ k)
      rw [e] at this
      cases this
  exact ⟨x, dx, v1, v2, cs, ts, rfl, upd_same, d1.mono s1, d2.mono s1, okc, okt, fun H' dc dt n1 n2 s na => ⟨rfl, q H' dc dt (s1.trans s) (non n1) (non n2) na⟩⟩
theorem wd_made {b l x dc dt C : Addr} {G H H' : Hp} {cs : List Cl} {ts : List Ti} (w : Wd b l G H) (s : Same H H') (na : NetA H' C x dc dt cs ts) (nx : H x = none) (n1 : H dc = none) (n2 : H dt = none) : ∃ G', Wd b l G' H' ∧ Same G G' ∧ NetA G' C x dc dt cs ts := by
  obtain ⟨dx, h0, h1, h2⟩ := na
  let G' : Hp := fun a => if a = x ∨ a = dc ∨ a = dt then H' a else G a
  have gx : ∀ a, (a = x ∨ a = dc ∨ a = dt) → G' a = H' a := fun a h => if_pos h
  have gn : ∀ a, ¬ (a = x ∨ a = dc ∨ a = dt) → G' a = G a := fun a h => if_neg h
  have sg : Same G G' := fun a o e => by
    by_cases h : a = x ∨ a = dc ∨ a = dt
    · have k := w.sm _ _ e
      rcases h with h | h | h
      · rw [h, nx] at k; cases k
      · rw [h, n1] at k; cases k
      · rw [h, n2] at k; cases k
    · rw [gn a h]; exact e
  refine ⟨G', w.grow s (fun a o e => ?_) (fun a o e n => ?_), sg, dx, (gx x (.inl rfl)).trans h0, (gx dc (.inr (.inl rfl))).trans h1, (gx dt (.inr (.inr rfl))).trans h2⟩
  · by_cases h : a = x ∨ a = dc ∨ a = dt
    · rw [gx a h] at e; exact e
    · rw [gn a h] at e; exact s _ _ (w.sm _ _ e)
  · by_cases h : a = x ∨ a = dc ∨ a = dt
    · rcases h with h | h | h
      · rw [h]; exact nx
      · rw [h]; exact n1
      · rw [h]; exact n2
    · rw [gn a h, n] at e
      cases e
theorem NetA.lst {H : Hp} {C x dc dt p : Addr} {cs : List Cl} {ts : List Ti} {ys : List V} {o : HO} (h : NetA H C x dc dt cs ts) (hp : H p = some (.lst ys)) : NetA (upd H p o) C x dc dt cs ts := by
  obtain ⟨dx, h0, h1, h2⟩ := h
  exact ⟨dx, by rw [upd_ne (fun z => by rw [z, hp] at h0; cases h0)]; exact h0, by rw [upd_ne (fun z => by rw [z, hp] at h1; cases h1)]; exact h1, by rw [upd_ne (fun z => by rw [z, hp] at h2; cases h2)]; exact h2⟩
theorem cs_nil : CsOk [] := ⟨.nil, (fun c hc => nomatch hc), Nat.zero_le _⟩
theorem ts_nil (cs : List Cl) : TsOk cs [] := ⟨.nil, (fun c hc => nomatch hc), Nat.zero_le _⟩
theorem good_nil (ns : List Str) : Good ns [] [] := ⟨cs_nil, ts_nil [], (fun c hc => nomatch hc)⟩
section
variable {P : Program} {w : World} {K : PySem.W.Frag} {mg : Str → Option Value} {base : Heap} {R : NtC K mg}
theorem ok_law {f : Addr} {fd : FuncData} (T : Top K mg) (M : NtM K mg R) (F : Fun K "law" "law" s_law f fd) : FnOk P w K mg base CX0 9 f fd ["_law_script"] (spLaw K) := by
  have G_l_bag := ok_bag (P := P) (w := w) (base := base) T
  have G_l_draw := ok_draw (P := P) (w := w) (base := base) T
  have G_l_words := ok_words (P := P) (w := w) (base := base) T
  have G_l_grow := ok_grow (P := P) (w := w) (base := base) T M
  have G_l_web_so := ok_webso (P := P) (w := w) (base := base) T M
  have G_Network := ok_mnetinit (P := P) (w := w) (base := base) T M
  have G_m_contains := ok_mcontains (P := P) (w := w) (base := base) T M
  have G_m_eq := ok_meq (P := P) (w := w) (base := base) T M
  obtain ⟨dN, rN, bN⟩ := kb_none M
  refine F.ok sc_law (fun vs H Q E h => ?_) (fun cdv A outer s H vs Q E hr h => ?_)
  · obtain ⟨a, ns, rfl, _⟩ := h
    rfl
  obtain ⟨a, ns, rfl, hS, h63, q⟩ := h
  refine ⟨_, (pss_cons (ps_set (i := 1) sc_law.nd rfl (Or.inl rfl) (pe_call G_l_bag (hr.mono (by decide)) (by rfl) T.d_l_bag.g T.d_l_bag.kp T.d_l_bag.b .nil pass0 (pa_cons (pv 0) pa_nil)))
    (pss_cons (ps_set (i := 2) sc_law.nd rfl (Or.inl rfl) (pe_call G_l_words (hr.mono (by decide)) (by rfl) T.d_l_words.g T.d_l_words.kp T.d_l_words.b .nil pass0 (pa_cons (pv 1) (pa_cons pe_int pa_nil))))
    (pss_cons (ps_asg (pe_tup (pa_cons (pe_make0 M.mkr G_Network (hr.mono (by decide)) (by rfl) R.g bN rN pass0) (pa_cons (pe_lst pa_nil) (pa_cons (pe_lst pa_nil) pa_nil)))) (pg_tup_K (K := K) (by rfl) (n := 3) (by rfl) (pgs_cons (pg_name (i := 3) sc_law.nd rfl (Or.inr rfl)) (pgs_cons (pg_name (i := 4) sc_law.nd rfl (Or.inl rfl)) (pgs_cons (pg_name (i := 5) sc_law.nd rfl (Or.inl rfl)) pgs_nil)))))
    (pss_cons (ps_for PassesOwn.never rfl (pi_range1 rfl T.b_range (pa_cons (pe_call G_l_draw (hr.mono (by decide)) (by rfl) T.d_l_draw.g T.d_l_draw.kp T.d_l_draw.b .nil pass0 (pa_cons (pv 1) (pa_cons pe_int pa_nil))) pa_nil)) (pg_name (i := 6) sc_law.nd rfl (Or.inl rfl))
      (pss_cons (ps_asg (pe_call G_l_grow (hr.mono (by decide)) (by rfl) T.d_l_grow.g T.d_l_grow.kp T.d_l_grow.b .nil pass0 (pa_cons (pv 1) (pa_cons (pv 3) (pa_cons (pv 2) (pa_cons (pv 4) (pa_cons (pv 5) pa_nil)))))) (pg_tup_K (K := K) (by rfl) (n := 2) (by rfl) (pgs_cons (pg_name (i := 4) sc_law.nd rfl (Or.inl rfl)) (pgs_cons (pg_name (i := 5) sc_law.nd rfl (Or.inl rfl)) pgs_nil))))
      (pss_one (ps_if (pt_not (pt_val (pe_call G_l_web_so (hr.mono (by decide)) (by rfl) T.d_l_web_so.g T.d_l_web_so.kp T.d_l_web_so.b .nil pass0 (pa_cons (pv 3) (pa_cons (pv 4) (pa_cons (pv 5) pa_nil)))))) (pss_one (ps_ret pe_bl)) pss_nil))))
    (pss_cons (ps_set (i := 7) sc_law.nd rfl (Or.inl rfl) (pe_lst (pa_cons (pe_callTy (call_list_of_K (K := K) (by rfl)) (by rfl) T.b_list (by decide +kernel) (pa_cons (pv 4) pa_nil)) (pa_cons (pe_callTy (call_list_of_K (K := K) (by rfl)) (by rfl) T.b_list (by decide +kernel) (pa_cons (pv 5) pa_nil)) pa_nil))))
    (pss_cons (ps_set (i := 8) sc_law.nd rfl (Or.inl rfl) (pe_makeK0 M.mkr G_Network (hr.mono (by decide)) (by rfl) R.g (kb_ties_cells M) pass0 (pk_cons (pe_ix (ix_list_K (K := K) (by rfl)) (pv 7) pe_int (fun _ _ => rfl)) (pk_cons (pe_ix (ix_list_K (K := K) (by rfl)) (pv 7) pe_int (fun _ _ => rfl)) pk_nil))))
    (pss_cons (ps_expr (pe_bm0_K (K := K) (by rfl) PySem.F.plainAttrs_list PySem.F.slot_list_clear PySem.F.type_list_clear mt_lclear (pe_ix (ix_list_K (K := K) (by rfl)) (pv 7) pe_int (fun _ _ => rfl))))
    (pss_cons (ps_expr (pe_bm0_K (K := K) (by rfl) PySem.F.plainAttrs_list PySem.F.slot_list_clear PySem.F.type_list_clear mt_lclear (pe_ix (ix_list_K (K := K) (by rfl)) (pv 7) pe_int (fun _ _ => rfl))))
    (pss_cons (ps_if (PW.pt (pw_or (pt_not (pt_val (pe_call G_l_web_so (hr.mono (by decide)) (by rfl) T.d_l_web_so.g T.d_l_web_so.kp T.d_l_web_so.b .nil pass0 (pa_cons (pv 8) (pa_cons (pv 4) (pa_cons (pv 5) pa_nil)))))) (pw_or1 (pt_cmpR (op_neIns G_m_eq M.ne M.eq.b (hr.mono (by decide))) (pv 8) (pv 3) (nomark _))))) (pss_one (ps_ret pe_bl)) pss_nil)
    (pss_cons (ps_set (i := 9) sc_law.nd rfl (Or.inl rfl) (pe_lst (pa_cons pe_str (pa_cons pe_str (pa_cons pe_non (pa_cons pe_int (pa_cons (pe_lst (pa_cons pe_str pa_nil)) (pa_cons pe_bl (pa_cons (pe_tup (pa_cons pe_str pa_nil)) (pa_cons pe_str pa_nil))))))))))
    (pss_cons (ps_if (pt_cmpR (op_neP (K := K) (by rfl) hr.units) (pe_lc (own := [("_law_one", 10)]) rfl sc_law.nd (pi_list_K (K := K) (by rfl) (pv 9)) (blkOk_by (own := [("_law_one", 10)]) (N := ["_law_script", "_law_bag_here", "_law_names", "_law_web", "_law_cells_z", "_law_ties_z", "_law_step", "_law_handed", "_law_twin", "_law_odd", "_law_one"]) (sc := defScope s_law) (by decide +kernel)) (fun _ _ _ _ _ => by exact (pg_name (i := 10) sc_law.nd rfl (Or.inl rfl))) (fun _ _ _ _ _ => by exact pts_nil) (fun _ _ _ _ _ => by exact (pe_cmpR (op_inIns G_m_contains M.contains.M.at_ M.contains.M.fn M.contains.b pass0 (hr.mono (by decide))) (pv 10) (pv 3) (by rfl)))) (pe_op op_rep (pe_lst (pa_cons pe_bl pa_nil)) pe_int) (nomark _)) (pss_one (ps_ret pe_bl)) pss_nil)
    (pss_one (ps_ret (pe_and (pe_call G_l_web_so (hr.mono (by decide)) (by rfl) T.d_l_web_so.g T.d_l_web_so.kp T.d_l_web_so.b .nil pass0 (pa_cons (pe_make0 M.mkr G_Network (hr.mono (by decide)) (by rfl) R.g bN rN pass0) (pa_cons (pe_lst pa_nil) (pa_cons (pe_lst pa_nil) pa_nil)))) (pe_one (pe_cmpR (op_eqIns G_m_eq M.eq.M.at_ M.eq.M.fn M.eq.b (hr.mono (by decide)) R.t2) (pe_make0 M.mkr G_Network (hr.mono (by decide)) (by rfl) R.g bN rN pass0) (pe_makeK0 M.mkr G_Network (hr.mono (by decide)) (by rfl) R.g (kb_cells_ties M) pass0 (pk_cons (pe_tup pa_nil) (pk_cons (pe_tup pa_nil) pk_nil))) (nomark _))))))))))))))))), ?_⟩
  refine ⟨_, rfl, a, ns, rfl, hS, h63, fun b l H1 nb nl s1 hb => ?_⟩
  have wd := wd_start nb nl s1 hb
  refine ⟨_, rfl, b, l, H, 7, rfl, by decide, by decide, wd, fun G2 H2 pn ws s2 w2 hpn lw ndw nmw => ?_⟩
  have dz1 : ∀ H' : Hp, DpS K H' (.ref M.z1) (([] : List Cl).map dCell) := fun H' => ⟨_, [], rfl, .inr (M.e1 _), .nil⟩
  have dz2 : ∀ H' : Hp, DpS K H' (.ref M.z2) (([] : List Ti).map dTi) := fun H' => ⟨_, [], rfl, .inr (M.e2 _), .nil⟩
  refine fun x dx nx nd ne => ?_
  refine net_made nx nd ne (dz1 _) (dz2 _) cs_nil (ts_nil []) fun H3 dc dt s3 ndc ndt na3 => ?_
  obtain ⟨G3, w3, sg3, naG⟩ := wd_made w2 s3 na3 nx ndc ndt
  refine ⟨Nat.zero_le _, fun p1 np1 => ⟨Nat.zero_le _, fun p2 np2 => ⟨(by show 3 ≤ sizeLine; decide), fun t nt => ?_⟩⟩⟩
  have w4 := w3.new (o := .lst []) np1
  have t4 := w3.sameG (o := .lst []) np1
  have w5 := w4.new (o := .lst []) np2
  have t5 := w4.sameG (o := .lst []) np2
  have w6 := w5.new (o := .tup [.ref x, .ref p1, .ref p2]) nt
  have t6 := w5.sameG (o := .tup [.ref x, .ref p1, .ref p2]) nt
  refine ⟨t, _, rfl, .inl (.inl upd_same), rfl, _, _, rfl, _, _, rfl, _, _, rfl, rfl, ?_⟩
  have ws0 : ws ≠ [] := fun z => by rw [z] at lw; cases lw
  have wsl : ws.length ≤ 1000 := by rw [lw]; decide
  refine ⟨_, rfl, b, l, _, 25, rfl, by decide, by decide, w6, fun r H7 r0 r1 w7 => ⟨_, rfl, by omega, by omega, ?_⟩⟩
  refine for_it walk_range (fun i σ H' => ∃ (v6 : Option V) (G' : Hp) (dt' q1 q2 : Addr) (cs : List Cl) (ts : List Ti), σ = [some (.ref a), some (.ref b), some (.ref pn), some (.ref x), some (.ref q1), some (.ref q2), v6, none, none, none, none] ∧ Wd b l G' H' ∧ NetA G' R.C x dc dt' cs ts ∧ LsA K G' q1 q2 cs ts ∧ G' pn = some (.lst (ws.map V.str)) ∧ Good ws cs ts ∧ cs.length ≤ i ∧ ts.length ≤ i)
    ⟨none, _, dt, p1, p2, [], [], rfl, w7, naG.mono (t4.trans (t5.trans t6)), ⟨⟨[], (t5.trans t6) _ _ upd_same, .nil⟩, [], t6 _ _ upd_same, .nil⟩, (t4.trans (t5.trans t6)) _ _ (sg3 _ _ hpn), good_nil ws, Nat.le_refl _, Nat.le_refl _⟩ (fun _ _ _ _ _ => True.intro) ?_ ?_
  · rintro i v σ H' H'' hi ⟨v6, G', dt', q1, q2, cs, ts, rfl, w8, na, ls, hp, good, l1, l2⟩ ⟨rfl, rfl⟩
    have hi25 : i < 25 := by omega
    refine ⟨_, rfl, _, rfl, _, rfl, _, rfl, _, rfl, b, l, x, dc, dt', pn, q1, q2, G', ws, cs, ts, rfl, w8, na, ls, hp, ws0, wsl, fun z hz => (nmw z hz).1.ok, good, by omega, by omega, fun G4 H4 t4' r1' r2' dt4 cs4 ts4 s4 w9 na4 ht ls4 good4 m1 m2 => ?_⟩
    refine ⟨t4', _, rfl, SqT.of (w9.sm _ _ ht), rfl, _, _, rfl, _, _, rfl, rfl, ?_⟩
    refine ⟨_, rfl, _, rfl, _, rfl, x, dc, dt4, r1', r2', ws, cs4, ts4, rfl, na4.mono w9.sm, ls4.mono w9.sm, good4, by omega, by omega, fun H5 s5 => ⟨_, rfl, iteF ?_⟩⟩
    exact ⟨_, G4, dt4, r1', r2', cs4, ts4, rfl, w9.same s5, na4, ls4, s4 _ _ (nd_lst na.nd hp), good4, by omega, by omega⟩
  · rintro σ H' ⟨v6, G', dt', q1, q2, cs, ts, rfl, w8, na0, ls0, hp, good, l1, l2⟩
    have na := na0.mono w8.sm
    have ls := ls0.mono w8.sm
    have l1 : cs.length ≤ 25 := by omega
    have l2 : ts.length ≤ 25 := by omega
    clear na0 ls0
    obtain ⟨⟨xs, hx, dxs⟩, ys, hy, dys⟩ := id ls
    have lx := DpAll.length dxs
    rw [List.length_map] at lx
    have ly := DpAll.length dys
    rw [List.length_map] at ly
    refine ⟨_, rfl, q1, xs, rfl, .inl (SqL.of hx), fun e1 ne1 => ?_⟩
    have s4 : Same H' (upd H' e1 (.lst xs)) := same_new ne1
    refine ⟨_, rfl, q2, ys, rfl, .inl (SqL.of (s4 _ _ hy)), fun e2 ne2 => ⟨(by show 2 ≤ sizeLine; decide), fun e3 ne3 => ?_⟩⟩
    have s5 : Same (upd H' e1 (.lst xs)) _ := same_new (o := .lst ys) ne2
    have s6 : Same (upd (upd H' e1 (.lst xs)) e2 (.lst ys)) _ := same_new (o := .lst [.ref e1, .ref e2]) ne3
    have s46 := s4.trans (s5.trans s6)
    have he1 := (s5.trans s6) _ _ (show upd H' e1 (.lst xs) e1 = _ from upd_same)
    have he2 := s6 _ _ (show upd (upd H' e1 (.lst xs)) e2 (.lst ys) e2 = _ from upd_same)
    have he3 : upd (upd (upd H' e1 (.lst xs)) e2 (.lst ys)) e3 (.lst [.ref e1, .ref e2]) e3 = _ := upd_same
    have n21 : e2 ≠ e1 := fun z => by rw [z, upd_same] at ne2; cases ne2
    have ne2H : H' e2 = none := s4.free ne2
    have n31 : e3 ≠ e1 := fun z => by rw [z, s5 _ _ (show upd H' e1 (.lst xs) e1 = _ from upd_same)] at ne3; cases ne3
    generalize upd (upd (upd H' e1 (.lst xs)) e2 (.lst ys)) e3 (.lst [.ref e1, .ref e2]) = Ha at s46 he1 he2 he3 ⊢
    refine gn_step ?_
    dsimp only [List.set]
    refine ⟨_, rfl, e3, _, (1 : Int), .ref e2, rfl, rfl, SqL.of he3, rfl, _, rfl, e3, _, (0 : Int), .ref e1, rfl, rfl, SqL.of he3, rfl, rfl, rfl, fun x2 dx2 nx2 nd2 nn2 => ?_⟩
    refine net_made nx2 nd2 nn2 ⟨e1, _, rfl, .inl (SqL.of he1), DpAll.mono s46 dxs⟩ ⟨e2, _, rfl, .inl (SqL.of he2), DpAll.mono s46 dys⟩ good.c good.t fun Hb dc2 dt2 s7 _ _ na2 => ?_
    have s47 := s46.trans s7
    have hb1 := s7 _ _ he1
    have hb2 := s7 _ _ he2
    have hb3 := s7 _ _ he3
    refine ⟨_, rfl, e3, _, (0 : Int), .ref e1, rfl, rfl, SqL.of hb3, rfl, .inl ⟨rfl, _, SqL.of hb1⟩, e1, _, rfl, rfl, hb1, ?_⟩
    have hc3 : upd Hb e1 (.lst []) e3 = some (.lst [.ref e1, .ref e2]) := by rw [upd_ne n31]; exact hb3
    have hc2 : upd Hb e1 (.lst []) e2 = some (.lst ys) := by rw [upd_ne n21]; exact hb2
    refine ⟨_, rfl, e3, _, (1 : Int), .ref e2, rfl, rfl, SqL.of hc3, rfl, .inl ⟨rfl, _, SqL.of hc2⟩, e2, _, rfl, rfl, hc2, ?_⟩
    have na2c := (na2.lst (o := .lst []) hb1).lst (o := .lst []) hc2
    have s48 := same_mut (o := .lst []) (same_mut (o := .lst []) s47 ne1) ne2H
    generalize upd (upd Hb e1 (.lst [])) e2 (.lst []) = Hc at na2c s48 ⊢
    have nac := na.mono s48
    have lsc := ls.mono s48
    obtain ⟨dxa, ga, _, _⟩ := id nac
    obtain ⟨dxb, gb, _, _⟩ := id na2c
    refine ⟨_, rfl, _, rfl, _, rfl, x2, dc2, dt2, q1, q2, ws, cs, ts, rfl, na2c, lsc, good, by omega, by omega, fun H9 s9 => ⟨_, rfl, ?_⟩⟩
    refine ⟨_, rfl, _, rfl, x2, dxb, _, x, dxa, _, rfl, s9 _ _ gb, rfl, s9 _ _ ga, x2, dc2, dt2, x, dc, dt', cs, cs, ts, ts, rfl, na2c.mono s9, nac.mono s9, rfl, rfl, good.c.nd, true, rfl, _, rfl, iteF ?_⟩
    have naD := nac.mono s9
    obtain ⟨dxd, gd, _, _⟩ := id naD
    refine ⟨(by show 1 ≤ sizeLine; decide), fun o1 no1 => ⟨(by show 1 ≤ sizeLine; decide), fun o2 no2 => ⟨(by show 8 ≤ sizeLine; decide), fun o9 no9 => ?_⟩⟩⟩
    have v1 : Same H9 (upd H9 o1 (.lst [.str "a"])) := same_new no1
    have v2 : Same (upd H9 o1 (.lst [.str "a"])) _ := same_new (o := .tup [.str "a"]) no2
    have v3 : Same (upd (upd H9 o1 (.lst [.str "a"])) o2 (.tup [.str "a"])) _ := same_new (o := .lst [.str "", .str "Z", .non, .int 3, .ref o1, .bl true, .ref o2, .str "zzzzzzzzz"]) no9
    have ho1 := (v2.trans v3) _ _ (show upd H9 o1 (.lst [.str "a"]) o1 = _ from upd_same)
    have ho2 := v3 _ _ (show upd (upd H9 o1 (.lst [.str "a"])) o2 (.tup [.str "a"]) o2 = _ from upd_same)
    have ho9 : upd (upd (upd H9 o1 (.lst [.str "a"])) o2 (.tup [.str "a"])) o9 (.lst [.str "", .str "Z", .non, .int 3, .ref o1, .bl true, .ref o2, .str "zzzzzzzzz"]) o9 = _ := upd_same
    have v13 := v1.trans (v2.trans v3)
    generalize upd (upd (upd H9 o1 (.lst [.str "a"])) o2 (.tup [.str "a"])) o9 (.lst [.str "", .str "Z", .non, .int 3, .ref o1, .bl true, .ref o2, .str "zzzzzzzzz"]) = He at v13 ho1 ho2 ho9 ⊢
    refine gn_step ?_
    dsimp only [List.set]
    have ni : ∀ z : Str, wordB z letters = false → false = decide (z ∈ cs.map (·.1)) := fun z hz => by
      refine (decide_eq_false fun m => ?_).symm
      have k := (name_ok good.c m).1
      rw [hz] at k
      cases k
    refine ⟨_, rfl, o9, rfl, ⟨_, SqL.of ho9⟩, fun D nD => ?_⟩
    refine lc_it walk_list (fun i H' => Same He H' ∧ H' D = some (.lst ((List.replicate i false).map V.bl))) ⟨same_new nD, upd_same⟩ (fun i H' _ ⟨s, _⟩ => SqL.of (s _ _ ho9)) ?_ ?_
    · rintro i y H2 H3' hi ⟨u1, hD⟩ ⟨rfl, ey⟩
      have hi8 : i < 8 := hi
      have odd : (∃ n : Str, y = .str n ∧ false = decide (n ∈ cs.map (·.1))) ∨ (NotStr K H3' y ∧ false = false) := by
        match i, ey with
        | 0, ey => exact .inl ⟨_, (Option.some.inj ey).symm, ni _ (by decide +kernel)⟩
        | 1, ey => exact .inl ⟨_, (Option.some.inj ey).symm, ni _ (by decide +kernel)⟩
        | 2, ey => rw [← Option.some.inj ey]; exact .inr ⟨⟨_, .base .non, kit_ty (by decide +kernel)⟩, rfl⟩
        | 3, ey => rw [← Option.some.inj ey]; exact .inr ⟨⟨_, .base (.int 3), kit_ty (by decide +kernel)⟩, rfl⟩
        | 4, ey => rw [← Option.some.inj ey]; exact .inr ⟨⟨_, .base (.lst (u1 _ _ ho1)), kit_ty (by decide +kernel)⟩, rfl⟩
        | 5, ey => rw [← Option.some.inj ey]; exact .inr ⟨⟨_, .base (.bl true), kit_ty (by decide +kernel)⟩, rfl⟩
        | 6, ey => rw [← Option.some.inj ey]; exact .inr ⟨⟨_, .base (.tup (u1 _ _ ho2)), kit_ty (by decide +kernel)⟩, rfl⟩
        | 7, ey => exact .inl ⟨_, (Option.some.inj ey).symm, ni _ (by decide +kernel)⟩
      refine ⟨rfl, _, rfl, _, rfl, x, dxd, _, rfl, u1 _ _ (v13 _ _ gd), x, dc, dt', cs, ts, y, false, rfl, naD.mono (v13.trans u1), odd, false, rfl, _, hD, ?_, same_mut u1 nD, ?_⟩
      · rw [List.length_map, List.length_replicate]; exact lt_line (by omega)
      · rw [upd_same, List.replicate_succ', List.map_append]
        rfl
    · rintro H2 ⟨u1, hD⟩
      refine ⟨(by show 1 ≤ sizeLine; decide), fun f1 nf1 => ⟨f1, 8, [.bl false], rfl, rfl, upd_same, by decide, by decide, (by show 1 * 8 ≤ sizeLine; decide), fun f2 nf2 => ?_⟩⟩
      have u2 : Same H2 _ := same_new (o := .lst [.bl false]) nf1
      have u3 : Same (upd H2 f1 (.lst [.bl false])) _ := same_new (o := .lst (List.replicate (8 : Int).toNat [V.bl false]).flatten) nf2
      have u13 := u1.trans (u2.trans u3)
      have e8 : ∀ H : Hp, DpAll K H [.bl false, .bl false, .bl false, .bl false, .bl false, .bl false, .bl false, .bl false] (List.replicate 8 (PyData.bool false)) := fun H => .cons (.bl _) (.cons (.bl _) (.cons (.bl _) (.cons (.bl _) (.cons (.bl _) (.cons (.bl _) (.cons (.bl _) (.cons (.bl _) .nil)))))))
      refine ⟨.list (List.replicate 8 (.bool false)), .list (List.replicate 8 (.bool false)), .lst (SqL.of ((u2.trans u3) _ _ hD)) (e8 _), .lst (SqL.of upd_same) (e8 _), by decide, _, rfl, ?_⟩
      rw [show PyData.eqv (.list (List.replicate 8 (.bool false))) (.list (List.replicate 8 (.bool false))) = true from by decide +kernel]
      refine iteF ?_
      refine fun x4 dx4 nx4 nd4 nn4 => ?_
      refine net_made nx4 nd4 nn4 (dz1 _) (dz2 _) cs_nil (ts_nil []) fun H4 dc4 dt4 _ _ _ na4 => ⟨Nat.zero_le _, fun p4 np4 => ⟨Nat.zero_le _, fun p5 np5 => ?_⟩⟩
      have y1 : Same H4 _ := same_new (o := .lst []) np4
      have y2 : Same (upd H4 p4 (.lst [])) _ := same_new (o := .lst []) np5
      refine ⟨x4, dc4, dt4, p4, p5, ws, [], [], rfl, na4.mono (y1.trans y2), ⟨⟨[], y2 _ _ upd_same, .nil⟩, [], upd_same, .nil⟩, good_nil ws, Nat.zero_le _, Nat.zero_le _, fun H5 _ => ⟨true, rfl, ?_⟩⟩
      refine fun x5 dx5 nx5 nd5 nn5 => ?_
      refine net_made nx5 nd5 nn5 (dz1 _) (dz2 _) cs_nil (ts_nil []) fun H6 dc5 dt5 _ _ _ na5 => ?_
      refine ⟨Nat.zero_le _, fun g1 ng1 => ⟨Nat.zero_le _, fun g2 ng2 => ⟨rfl, rfl, fun x6 dx6 nx6 nd6 nn6 => ?_⟩⟩⟩
      have y3 : Same H6 _ := same_new (o := .tup []) ng1
      have y4 : Same (upd H6 g1 (.tup [])) _ := same_new (o := .tup []) ng2
      refine net_made nx6 nd6 nn6 ⟨g1, [], rfl, .inr (SqT.of (y4 _ _ upd_same)), .nil⟩ ⟨g2, [], rfl, .inr (SqT.of upd_same), .nil⟩ cs_nil (ts_nil []) fun H7 dc6 dt6 s7 _ _ na6 => ?_
      have na5' := na5.mono (y3.trans (y4.trans s7))
      obtain ⟨d5, k5, _, _⟩ := id na5'
      obtain ⟨d6, k6, _, _⟩ := id na6
      exact ⟨x5, d5, _, rfl, k5, .inl ⟨x6, d6, _, rfl, k6⟩, x5, dc5, dt5, x6, dc6, dt6, [], [], [], [], rfl, na5', na6, rfl, rfl, .nil, ⟨_, rfl⟩, q _⟩
end
end Bh

set_option Elab.async false
set_option linter.all false
set_option maxRecDepth 100000
set_option maxHeartbeats 2000000
namespace Bh
open PySem PySem.Spec PyProof.Rows L2
/-! ### the end of a law by one run of the top: facts out of a Hook -/
section
variable {K : PySem.W.Frag} {h : Heap} {mg : Str → Option Value} {fa : List He.Fa} {fn : List He.DefD}
theorem funD_none {x q : Str} {ar : Arguments} {bd : List Stmt} {sc : Scope} {f : Addr} {fd : FuncData} (F : FunD K x q ar bd sc [] [] f fd) :
    ∃ (oc : Value) (od : Option Addr) (kV doc pm : Value) (an : Option Addr) (cdv ct : Value) (osl : Array (Option Value)), fd = PySem.W.fnOf x q ar bd sc .none kV doc pm an cdv ct ∧ K.lookup f = some ⟨oc, od, .func fd, osl⟩ ∧ PySem.W.codeIn K cdv q = true := by
  obtain ⟨oc, od, dV, kV, doc, pm, an, cdv, ct, osl, e, lk, hc, hd, _⟩ := F.ex
  rcases hd with ⟨_, e2⟩ | ⟨e2, _⟩
  · rw [e2] at e
    exact ⟨oc, od, kV, doc, pm, an, cdv, ct, osl, e, lk, hc⟩
  · exact absurd rfl e2
theorem fun_ofD {x q : Str} {st : Stmt} {f : Addr} {fd : FuncData} (F : FunD K x q (defArgs st) (defBody st) (defScope st) [] [] f fd) : Fun K x q st f fd := ⟨funD_none F, F.kp⟩
abbrev BindsAs (x q : Str) (st : Stmt) (ps : List Str) : Prop := ∀ (kV doc pm : Value) (an : Option Addr) (cdv ct : Value) (us : List Value), us.length = ps.length → bindArgs (PySem.W.fnOf x q (defArgs st) (defBody st) (defScope st) .none kV doc pm an cdv ct) ⟨us, []⟩ = pure (ps.zip us)
theorem df_of (c : He.SaysD fa fn K) (X : K.In h) (G : h.Ns mainGlobals mg) {x : Str} {st : Stmt} {ps : List Str} (i j : Nat) (hb : BindsAs x x st ps) (h1 : fn[i]? = some (dd x st)) (h2 : fa[j]? = some (.glo x)) : ∃ fd, Df K mg x st ps (He.ga K x) fd := by
  obtain ⟨fd, F⟩ := c.def_ i (d := dd x st) h1
  have F2 : Fun K x x st (He.ga K x) fd := fun_ofD F
  exact ⟨fd, F2, He.glo_ok X G (c.fact j h2), F2.binds hb⟩
theorem meth_of (c : He.SaysD fa fn K) {C m q : Str} {st : Stmt} {ps : List Str} (i j : Nat) (hb : BindsAs m q st ps) (h1 : fn[i]? = some (dm C m q st)) (h2 : fa[j]? = some (.meth C m)) :
    ∃ fd, Fun K m q st (He.ma K (He.ga K C) m) fd ∧ Meth K (He.ga K C) m (He.ma K (He.ga K C) m) ∧ Binds K fd ps [] := by
  obtain ⟨fd, F⟩ := c.def_ i (d := dm C m q st) h1
  have F2 : Fun K m q st (He.ma K (He.ga K C) m) fd := fun_ofD F
  exact ⟨fd, F2, He.meth_ok (c.fact j h2), F2.binds hb⟩
/-- a def whose table of code objects is wanted -/
theorem tab_def (c : He.SaysD fa fn K) {d : He.DefD} (i : Nat) (h1 : fn[i]? = some d) (hd : d.dfl = []) (hk : d.kwd = []) :
    ∃ (oc : Value) (od : Option Addr) (kV doc pm : Value) (an : Option Addr) (ct : Value) (osl : Array (Option Value)), K.lookup (He.fAd K d.at_) = some ⟨oc, od, .func (PySem.W.fnOf d.name d.qual d.params d.body d.scope .none kV doc pm an (.ref (He.cT K d.at_).1) ct), osl⟩ ∧ PySem.W.codeIn K (.ref (He.cT K d.at_).1) d.qual = true := by
  obtain ⟨fd, F⟩ := c.def_ i (d := d) h1
  have e1 : d.dvs K = [] := by unfold He.DefD.dvs; rw [hd]; rfl
  have e2 : d.kws K = [] := by unfold He.DefD.kws; rw [hk]; rfl
  rw [e1, e2] at F
  obtain ⟨oc, od, kV, doc, pm, an, cdv, ct, osl, e, lk, hc⟩ := funD_none F
  obtain ⟨cc, rfl⟩ := He.codeIn_ref hc
  have k := He.codeOf_eq lk (by rw [e])
  refine ⟨oc, od, kV, doc, pm, an, ct, osl, ?_, ?_⟩
  · show K.lookup (He.fAd K d.at_) = some ⟨oc, od, .func (PySem.W.fnOf d.name d.qual d.params d.body d.scope .none kV doc pm an (.ref (He.codeOf K d.at_)) ct), osl⟩
    rw [k, ← e]
    exact lk
  · show PySem.W.codeIn K (.ref (He.codeOf K d.at_)) d.qual = true
    rw [k]
    exact hc
/-! ### own exceptions -/
theorem fam_of {C : Addr} {B newId initId : String} {bmB : List Value} (FB : ExcBaseFacts B newId initId bmB) (SF : StoreFacts B bmB "object.__setattr__" "object") (q : PySem.W.excInitIn K C bmB newId = true) (ov : PySem.W.excOver K C bmB = true) (hd : PySem.W.hasDictIn K C = true) :
    ∃ (B newId initId : String) (bmB : List Value), ExcBaseFacts B newId initId bmB ∧ StoreFacts B bmB "object.__setattr__" "object" ∧ PySem.W.excOver K C bmB = true ∧
    ∃ nm q N bs bm sn sub ab col dd k0 k1 k2 k3 k5, K.lookup C = some (excClassObj nm q C N bs bm true sn sub ab col dd k0 k1 k2 k3 k5 newId) ∧ ∀ Y : String, bm.contains (.type Y) = bmB.contains (.type Y) := by
  refine ⟨B, newId, initId, bmB, FB, SF, ov, ?_⟩
  unfold PySem.W.excInitIn at q
  split at q
  · rename_i d1 cd1 sl1 look
    split at q
    · rename_i C2 bm2 z0 z1 z2 z3 n z5 em es
      rw [Bool.and_eq_true, Bool.and_eq_true, Bool.and_eq_true, beq_iff_eq, beq_iff_eq, Bool.not_eq_true'] at q
      obtain ⟨⟨⟨e1, e2⟩, e3⟩, tl⟩ := q
      subst e1 e2
      have hh : (PySem.W.clsIn K C2).any (·.hasDict) = true := hd
      unfold PySem.W.clsIn at hh
      rw [look] at hh
      obtain ⟨a1, a2, a3, a4, a5, a6, a7, a8, a9, a10, a11⟩ := cd1
      have h6 : a6 = true := hh
      have em2 : a3 = .ref C2 :: bm2 := em
      have e32 : a11 = false := e3
      subst h6 em2 e32
      have e6 : sl1 = #[z0, z1, z2, z3, some (.builtin n), z5] := by
        exact Array.ext' es
      subst e6
      exact ⟨_, _, _, _, _, _, _, _, _, _, _, _, _, _, _, look, fun Y => PySem.W.excTail_contains Y _ tl⟩
    · cases q
  · cases q
theorem exg_of {x : Str} {B newId initId : String} {bmB : List Value} (FB : ExcBaseFacts B newId initId bmB) (SF : StoreFacts B bmB "object.__setattr__" "object") (p : ExcP K x bmB newId) : ExG K (He.ga K x) :=
  ⟨fam_of FB SF p.1 p.2.1 p.2.2.1, p.2.2.2.1, p.2.2.2.2.2.2.2.2.2.2.2.1, p.2.2.2.2.2.2.2.2.2.2.2.2, p.2.2.2.2.2.2.2.2.2.2.1, p.2.2.1⟩
theorem xfc_of {x : Str} {newId : String} {bmB : List Value} (p : ExcP K x bmB newId) : XfC K (He.ga K x) :=
  ⟨p.2.2.2.2.1, p.2.2.2.2.2.1, p.2.2.2.2.2.2.2.2.2.2.2.1, p.2.2.1⟩
theorem excc_of {x : Str} {newId : String} {bmB : List Value} (p : ExcP K x bmB newId) : ExcC K (He.ga K x) :=
  ⟨p.2.2.2.2.1, p.2.2.2.2.2.1, p.2.2.2.2.2.2.2.2.2.2.2.1, p.2.2.1, p.2.2.2.2.2.2.1, p.2.2.2.2.2.2.2.2.1, p.2.2.2.2.2.2.2.2.2.1, p.2.2.2.2.2.2.2.1⟩
theorem exr_of (c : He.SaysD fa fn K) (X : K.In h) (G : h.Ns mainGlobals mg) {x q : Str} {st : Stmt} {ps at_ : List Str} {B newId initId : String} {bmB : List Value} (FB : ExcBaseFacts B newId initId bmB) (SF : StoreFacts B bmB "object.__setattr__" "object") (i j : Nat)
    (p : ExcP K x bmB newId) (p2 : ExcI K x) (p3 : NoAt K x at_) (hb : BindsAs "__init__" q st ps) (h1 : fn[i]? = some (dm x "__init__" q st)) (h2 : fa[j]? = some (.glo x)) : ∃ r : ExR K mg x q st ps at_, r.c = He.ga K x := by
  obtain ⟨fd, F⟩ := c.def_ i (d := dm x "__init__" q st) h1
  have F2 : Fun K "__init__" q st (He.ma K (He.ga K x) "__init__") fd := fun_ofD F
  exact ⟨⟨He.ga K x, He.ma K (He.ga K x) "__init__", fd, F2, F2.binds hb, He.glo_ok X G (c.fact j h2), exg_of FB SF p, p2.1, p2.2, p3, xfc_of p, excc_of p⟩, rfl⟩
theorem erc_of {x y1 y2 f : Str} {newId : String} {bmB : List Value} (p : ExcP K x bmB newId) (p3 : NoAt K x ["code", f]) (h1 : PySem.W.exmAny K (.ref (He.ga K x)) [.ref (He.ga K y1), .ref (He.ga K y2)] = some true) : ErC K (He.ga K y1) (He.ga K y2) (He.ga K x) x f :=
  ⟨xfc_of p, p3 _ (List.mem_cons_self ..), p3 _ (List.mem_cons_of_mem _ (List.mem_cons_self ..)), h1⟩
/-! ### classes -/
theorem callO_of {x : Str} (p : CallP K x) (m : Meth K (He.ga K x) "__call__" (He.ma K (He.ga K x) "__call__")) : StX.CallO K (He.ga K x) (He.ma K (He.ga K x) "__call__") := ⟨m.at_, m.fn, p⟩
end
end Bh

set_option Elab.async false
set_option linter.all false
set_option maxRecDepth 100000
set_option maxHeartbeats 2000000
namespace Bh
open PySem PySem.Spec PyProof.Rows L2
/-! ### a class over object alone; defaults that are empty tuples -/
theorem neC_of {K : PySem.W.Frag} {C f : Addr} (q : neB K C f = true) (p : fnB K f = true) : NeC K C f := by
  refine ⟨?_, ?_⟩
  · unfold neB at q
    split at q
    · rename_i d1 cd1 sl1 look
      split at q
      · rename_i C2 o2 z0 z1 z2 z3 n z5 em es
        rw [Bool.and_eq_true, Bool.and_eq_true, Bool.and_eq_true, Bool.and_eq_true, beq_iff_eq, decide_eq_true_eq, Bool.not_eq_true'] at q
        obtain ⟨e1, e2, e3, e4, e5⟩ := q
        subst e1 e2
        obtain ⟨a1, a2, a3, a4, a5, a6, a7, a8, a9, a10, a11⟩ := cd1
        have em2 : a3 = [.ref C2, .type "object"] := em
        have e32 : a11 = false := e3
        have h6 : a6 = true := e4
        subst em2 e32 h6
        have e6 : sl1 = #[z0, z1, z2, z3, some (.builtin n), z5] := Array.ext' es
        subst e6
        exact ⟨_, _, _, _, _, _, _, _, _, _, _, _, _, _, _, _, look, e5⟩
      · cases q
    · cases q
  · unfold fnB at p
    split at p
    · rename_i c d dt sl look
      rw [decide_eq_true_eq] at p
      subst p
      exact ⟨_, look, rfl⟩
    · cases p
theorem tupE_ok {K : PySem.W.Frag} {z : Addr} (h : tupE K z = true) (H : Hp) : SqT K H z [] := by
  unfold tupE at h
  split at h
  · rename_i c d its n sl look
    rw [Bool.and_eq_true, decide_eq_true_eq, decide_eq_true_eq] at h
    obtain ⟨h1, h2⟩ := h
    subst h1
    have e : its = #[] := Array.ext' h2
    subst e
    exact .inr ⟨_, _, _, look, rfl, rfl, Nat.zero_le _, .nil⟩
  · cases h
end Bh

set_option Elab.async false
set_option linter.all false
set_option maxRecDepth 100000
set_option maxHeartbeats 4000000
set_option synthInstance.maxSize 10000
set_option synthInstance.maxHeartbeats 400000
namespace Bh
open PySem PySem.Spec PyProof.Rows L2
open LamX NdefX
theorem law_at {l : PySem.W.OpenLaw} {w : World} {K : PySem.W.Frag} {h : Heap} {mg : Str → Option Value} {fa : Addr} (X : K.In h) (G : h.Ns mainGlobals mg) (hfa : mg "law" = some (.ref fa)) (c : He.SaysX hFa hFn [] hTf hEx w h K) :
    LamX.LawAtS l w K CX0 9 63 "_law_script" mg fa h := by
  have D := c.t.d
  obtain ⟨E0, E1, E2, E3, E4, E5, E6, E7, E8⟩ := hEx_of c.more
  obtain ⟨f_is_name, d_is_name⟩ := df_of (ps := ["value"]) D X G 0 0 (fun _ _ _ _ _ _ us hl => match us, hl with | [_], _ => rfl) rfl rfl
  obtain ⟨f_is_word, d_is_word⟩ := df_of (ps := ["value", "characters"]) D X G 1 1 (fun _ _ _ _ _ _ us hl => match us, hl with | [_, _], _ => rfl) rfl rfl
  obtain ⟨f_kinds_of, d_kinds_of⟩ := df_of (ps := ["cells"]) D X G 2 2 (fun _ _ _ _ _ _ us hl => match us, hl with | [_], _ => rfl) rfl rfl
  obtain ⟨f_ties_between, d_ties_between⟩ := df_of (ps := ["kinds", "ties"]) D X G 3 3 (fun _ _ _ _ _ _ us hl => match us, hl with | [_, _], _ => rfl) rfl rfl
  obtain ⟨f_check_cell, d_check_cell⟩ := df_of (ps := ["kinds", "name", "kind"]) D X G 4 4 (fun _ _ _ _ _ _ us hl => match us, hl with | [_, _, _], _ => rfl) rfl rfl
  obtain ⟨f_check_tie, d_check_tie⟩ := df_of (ps := ["kinds", "ties", "tie", "source", "target"]) D X G 5 5 (fun _ _ _ _ _ _ us hl => match us, hl with | [_, _, _, _, _], _ => rfl) rfl rfl
  obtain ⟨f_is_kind, d_is_kind⟩ := df_of (ps := ["value"]) D X G 6 6 (fun _ _ _ _ _ _ us hl => match us, hl with | [_], _ => rfl) rfl rfl
  obtain ⟨f_l_bag, d_l_bag⟩ := df_of (ps := ["_law_script"]) D X G 7 7 (fun _ _ _ _ _ _ us hl => match us, hl with | [_], _ => rfl) rfl rfl
  obtain ⟨f_l_draw, d_l_draw⟩ := df_of (ps := ["_law_bag_here", "_law_many"]) D X G 8 8 (fun _ _ _ _ _ _ us hl => match us, hl with | [_, _], _ => rfl) rfl rfl
  obtain ⟨f_l_any, d_l_any⟩ := df_of (ps := ["_law_bag_here", "_law_row"]) D X G 9 9 (fun _ _ _ _ _ _ us hl => match us, hl with | [_, _], _ => rfl) rfl rfl
  obtain ⟨f_l_like, d_l_like⟩ := df_of (ps := ["_law_found", "_law_due"]) D X G 10 10 (fun _ _ _ _ _ _ us hl => match us, hl with | [_, _], _ => rfl) rfl rfl
  obtain ⟨f_l_words, d_l_words⟩ := df_of (ps := ["_law_bag_here", "_law_many"]) D X G 11 11 (fun _ _ _ _ _ _ us hl => match us, hl with | [_, _], _ => rfl) rfl rfl
  obtain ⟨f_l_kind_word, d_l_kind_word⟩ := df_of (ps := ["_law_bag_here"]) D X G 12 12 (fun _ _ _ _ _ _ us hl => match us, hl with | [_], _ => rfl) rfl rfl
  obtain ⟨f_l_grow, d_l_grow⟩ := df_of (ps := ["_law_bag_here", "_law_web", "_law_names", "_law_cells_z", "_law_ties_z"]) D X G 13 13 (fun _ _ _ _ _ _ us hl => match us, hl with | [_, _, _, _, _], _ => rfl) rfl rfl
  obtain ⟨f_l_web_so, d_l_web_so⟩ := df_of (ps := ["_law_web", "_law_cells_z", "_law_ties_z"]) D X G 14 14 (fun _ _ _ _ _ _ us hl => match us, hl with | [_, _, _], _ => rfl) rfl rfl
  have T : Top K mg := {
    a_is_name := _, fd_is_name := f_is_name, d_is_name := d_is_name,
    a_is_word := _, fd_is_word := f_is_word, d_is_word := d_is_word,
    a_kinds_of := _, fd_kinds_of := f_kinds_of, d_kinds_of := d_kinds_of,
    a_ties_between := _, fd_ties_between := f_ties_between, d_ties_between := d_ties_between,
    a_check_cell := _, fd_check_cell := f_check_cell, d_check_cell := d_check_cell,
    a_check_tie := _, fd_check_tie := f_check_tie, d_check_tie := d_check_tie,
    a_is_kind := _, fd_is_kind := f_is_kind, d_is_kind := d_is_kind,
    a_l_bag := _, fd_l_bag := f_l_bag, d_l_bag := d_l_bag,
    a_l_draw := _, fd_l_draw := f_l_draw, d_l_draw := d_l_draw,
    a_l_any := _, fd_l_any := f_l_any, d_l_any := d_l_any,
    a_l_like := _, fd_l_like := f_l_like, d_l_like := d_l_like,
    a_l_words := _, fd_l_words := f_l_words, d_l_words := d_l_words,
    a_l_kind_word := _, fd_l_kind_word := f_l_kind_word, d_l_kind_word := d_l_kind_word,
    a_l_grow := _, fd_l_grow := f_l_grow, d_l_grow := d_l_grow,
    a_l_web_so := _, fd_l_web_so := f_l_web_so, d_l_web_so := d_l_web_so,
    b_all := He.free_ok X G (D.fact 16 rfl),
    b_dict := He.free_ok X G (D.fact 17 rfl),
    b_isinstance := He.free_ok X G (D.fact 18 rfl),
    b_len := He.free_ok X G (D.fact 19 rfl),
    b_list := He.free_ok X G (D.fact 20 rfl),
    b_range := He.free_ok X G (D.fact 21 rfl),
    b_sorted := He.free_ok X G (D.fact 22 rfl),
    b_tuple := He.free_ok X G (D.fact 23 rfl),
    b_int := He.free_ok X G (D.fact 24 rfl),
    b_zip := He.free_ok X G (D.fact 25 rfl),
    b_bool := He.free_ok X G (D.fact 26 rfl),
    b_str := He.free_ok X G (D.fact 27 rfl),
    b_repr := He.free_ok X G (D.fact 28 rfl),
    g_LETTERS := He.str_ok X G (D.fact 29 rfl),
    g_LONGEST := He.int_ok X G (D.fact 30 rfl),
    a_NUMBERS := _, g_NUMBERS := He.glo_ok X G (D.fact 31 rfl), k_NUMBERS := He.tupB_ok E0 }
  obtain ⟨f_Network_add_cell, F_Network_add_cell, M_Network_add_cell, B_Network_add_cell⟩ := meth_of (ps := ["self", "name", "kind"]) D 16 37 (fun _ _ _ _ _ _ us hl => match us, hl with | [_, _, _], _ => rfl) rfl rfl
  obtain ⟨f_Network_add_tie, F_Network_add_tie, M_Network_add_tie, B_Network_add_tie⟩ := meth_of (ps := ["self", "tie", "source", "target"]) D 17 38 (fun _ _ _ _ _ _ us hl => match us, hl with | [_, _, _, _], _ => rfl) rfl rfl
  obtain ⟨f_Network_cut, F_Network_cut, M_Network_cut, B_Network_cut⟩ := meth_of (ps := ["self", "tie", "source", "target"]) D 18 39 (fun _ _ _ _ _ _ us hl => match us, hl with | [_, _, _, _], _ => rfl) rfl rfl
  obtain ⟨f_Network_drop, F_Network_drop, M_Network_drop, B_Network_drop⟩ := meth_of (ps := ["self", "name"]) D 19 40 (fun _ _ _ _ _ _ us hl => match us, hl with | [_, _], _ => rfl) rfl rfl
  obtain ⟨f_Network_cells, F_Network_cells, M_Network_cells, B_Network_cells⟩ := meth_of (ps := ["self"]) D 20 41 (fun _ _ _ _ _ _ us hl => match us, hl with | [_], _ => rfl) rfl rfl
  obtain ⟨f_Network_ties, F_Network_ties, M_Network_ties, B_Network_ties⟩ := meth_of (ps := ["self"]) D 21 42 (fun _ _ _ _ _ _ us hl => match us, hl with | [_], _ => rfl) rfl rfl
  obtain ⟨f_Network_ties_into, F_Network_ties_into, M_Network_ties_into, B_Network_ties_into⟩ := meth_of (ps := ["self", "name"]) D 22 43 (fun _ _ _ _ _ _ us hl => match us, hl with | [_, _], _ => rfl) rfl rfl
  obtain ⟨f_Network_ties_from, F_Network_ties_from, M_Network_ties_from, B_Network_ties_from⟩ := meth_of (ps := ["self", "name"]) D 23 44 (fun _ _ _ _ _ _ us hl => match us, hl with | [_, _], _ => rfl) rfl rfl
  obtain ⟨f_Network__getitem, F_Network__getitem, M_Network__getitem, B_Network__getitem⟩ := meth_of (ps := ["self", "name"]) D 24 45 (fun _ _ _ _ _ _ us hl => match us, hl with | [_, _], _ => rfl) rfl rfl
  obtain ⟨f_Network__setitem, F_Network__setitem, M_Network__setitem, B_Network__setitem⟩ := meth_of (ps := ["self", "name", "kind"]) D 25 46 (fun _ _ _ _ _ _ us hl => match us, hl with | [_, _, _], _ => rfl) rfl rfl
  obtain ⟨f_Network_set_kind, F_Network_set_kind, M_Network_set_kind, B_Network_set_kind⟩ := meth_of (ps := ["self", "name", "kind"]) D 26 47 (fun _ _ _ _ _ _ us hl => match us, hl with | [_, _, _], _ => rfl) rfl rfl
  obtain ⟨f_Network__contains, F_Network__contains, M_Network__contains, B_Network__contains⟩ := meth_of (ps := ["self", "name"]) D 27 48 (fun _ _ _ _ _ _ us hl => match us, hl with | [_, _], _ => rfl) rfl rfl
  obtain ⟨f_Network__len, F_Network__len, M_Network__len, B_Network__len⟩ := meth_of (ps := ["self"]) D 28 49 (fun _ _ _ _ _ _ us hl => match us, hl with | [_], _ => rfl) rfl rfl
  obtain ⟨f_Network__eq, F_Network__eq, M_Network__eq, B_Network__eq⟩ := meth_of (ps := ["self", "other"]) D 29 50 (fun _ _ _ _ _ _ us hl => match us, hl with | [_, _], _ => rfl) rfl rfl
  obtain ⟨f_Network__repr, F_Network__repr, M_Network__repr, B_Network__repr⟩ := meth_of (ps := ["self"]) D 30 51 (fun _ _ _ _ _ _ us hl => match us, hl with | [_], _ => rfl) rfl rfl
  obtain ⟨f_Network_check_known, F_Network_check_known, M_Network_check_known, B_Network_check_known⟩ := meth_of (ps := ["self", "name"]) D 31 52 (fun _ _ _ _ _ _ us hl => match us, hl with | [_, _], _ => rfl) rfl rfl
  have e0 := hfa.symm.trans (He.glo_ok X G (D.fact 15 rfl))
  cases e0
  let R : NtC K mg := { C := He.ga K "Network", g := He.glo_ok X G (D.fact 32 rfl), cl := He.cls_ok (D.fact 33 rfl), n1 := He.noat_ok (D.fact 35 rfl), n2 := He.noat_ok (D.fact 36 rfl), ha := E1.1, hn := E1.2.1, ht := E1.2.2.1, hm := E1.2.2.2.1, k1 := E1.2.2.2.2.1, nq := E2, t2 := E3 }
  obtain ⟨f_I, F_I⟩ := D.def_ 32 (d := ⟨("Network", some "__init__"), "__init__", "Network.__init__", defArgs s_Network__init, defBody s_Network__init, defScope s_Network__init, [], [("cells", .adr (kwAd "Network" "__init__" "cells")), ("ties", .adr (kwAd "Network" "__init__" "ties"))]⟩) rfl
  have M : NtM K mg R := {
    fI := _, fdI := f_I, z1 := kwAd "Network" "__init__" "cells" K, z2 := kwAd "Network" "__init__" "ties" K, e1 := tupE_ok E7, e2 := tupE_ok E8, FI := F_I, mkr := He.mkr_ok (D.fact 34 rfl),
    add_cell := ⟨_, f_Network_add_cell, F_Network_add_cell, M_Network_add_cell, B_Network_add_cell⟩,
    add_tie := ⟨_, f_Network_add_tie, F_Network_add_tie, M_Network_add_tie, B_Network_add_tie⟩,
    cut := ⟨_, f_Network_cut, F_Network_cut, M_Network_cut, B_Network_cut⟩,
    drop := ⟨_, f_Network_drop, F_Network_drop, M_Network_drop, B_Network_drop⟩,
    cells := ⟨_, f_Network_cells, F_Network_cells, M_Network_cells, B_Network_cells⟩,
    ties := ⟨_, f_Network_ties, F_Network_ties, M_Network_ties, B_Network_ties⟩,
    ties_into := ⟨_, f_Network_ties_into, F_Network_ties_into, M_Network_ties_into, B_Network_ties_into⟩,
    ties_from := ⟨_, f_Network_ties_from, F_Network_ties_from, M_Network_ties_from, B_Network_ties_from⟩,
    getitem := ⟨_, f_Network__getitem, F_Network__getitem, M_Network__getitem, B_Network__getitem⟩,
    setitem := ⟨_, f_Network__setitem, F_Network__setitem, M_Network__setitem, B_Network__setitem⟩,
    set_kind := ⟨_, f_Network_set_kind, F_Network_set_kind, M_Network_set_kind, B_Network_set_kind⟩,
    contains := ⟨_, f_Network__contains, F_Network__contains, M_Network__contains, B_Network__contains⟩,
    len := ⟨_, f_Network__len, F_Network__len, M_Network__len, B_Network__len⟩,
    eq := ⟨_, f_Network__eq, F_Network__eq, M_Network__eq, B_Network__eq⟩,
    repr := ⟨_, f_Network__repr, F_Network__repr, M_Network__repr, B_Network__repr⟩,
    check_known := ⟨_, f_Network_check_known, F_Network_check_known, M_Network_check_known, B_Network_check_known⟩,
    gi := E4, ne := neC_of E5 E6 }
  obtain ⟨f_w, F_w0⟩ := D.def_ 15 (d := dd "law" s_law) rfl
  have F_w : Fun K "law" "law" s_law _ f_w := fun_ofD F_w0
  obtain ⟨oc, od, kV, doc, pm, an, cdv, ct, osl, e, _⟩ := id F_w.ex
  subst e
  refine ⟨_, [], spLaw K, (fun p hp => by cases hp), (fun p hp => by cases hp), (fun p hp => by cases hp), fun s u => .of_eq rfl, fun H a ns hl _ hH hS => ⟨a, ns, rfl, hS, hl, fun _ => rfl⟩,
    fun base _ _ hTB => ok_law T M F_w⟩
end Bh

open PySem PySem.W PySem.Calls PyProof.Rows in
set_option maxRecDepth 100000 in
set_option maxHeartbeats 0 in
theorem PySem.Challenge.cw_bestheard_k12_networks_built_holds : PySem.Challenge.rw_bestheard_k12_networks_built.Holds := by
  w_on; o_law
  refine HandSHeadRun.head_any (r := OpenLaw.row PySem.Challenge.rw_bestheard_k12_networks_built) (q := view (OpenLaw.row PySem.Challenge.rw_bestheard_k12_networks_built).prog [35]) (H := Bh.hHk) (ob := Bh.hOb) (M := 7000) (loose := Bh.hLo) (d := HandSHeadRun.topDef (OpenLaw.row PySem.Challenge.rw_bestheard_k12_networks_built).prog 35) (kwd := []) Bh.hOb_eq
    (by kernel_rfl) (fun s => by kernel_rfl) Bh.hRun (by kernel_rfl) (by kernel_rfl) (by kernel_rfl) (by rfl) (by first | assumption | decide +kernel) (by decide +kernel) ⟨rfl, rfl, rfl, rfl, rfl, by decide +kernel⟩ ?hw ?hc
  case hw => w_witness2
  case hc =>
    refine LamX.walk_ofTsE (l := PySem.Challenge.rw_bestheard_k12_networks_built) (n := 63) (k := 9) (x := "_law_script") (CX := fun _ => L2.CX0) rfl (by decide) (by kernel_rfl) ⟨rfl, by decide, by decide⟩ ?F (fun _ _ _ _ _ z => z)
    intro w mg fa h Y G hmg0
    obtain ⟨K, KX, c⟩ := Y
    have hmg : mg ("law" : PySem.Str) = some (.ref fa) := by
      have e : (HandSHeadRun.topDef (OpenLaw.row PySem.Challenge.rw_bestheard_k12_networks_built).prog 35).name = ("law" : PySem.Str) := by kernel_rfl
      rw [← e]
      exact hmg0
    exact ⟨K, KX, Bh.law_at KX G hmg c⟩
