import PyProof.Rows.All
import Wide.All
import OpenK.AllK
import Wide.FinOn
import KE.KStateDown
import KE.KExcInit
import HandS.ForMost
import HandS.Walk
import HandS.Defaults
import HandS.Head2
import HandS.HeadEnd
import HandS.HeadHook4
import HandS.HeadWalk
import PyProof.InstNe
import HandS.HeadNt
import PySem.Challenge.RW_bestheard_k16_whole_networks_there_and_b
import HandS.IsInst
import HandS.Deep
import HandS.Evl
import HandS.Steps
import HandS.More
import HandS.Zip
import HandS.Strs
import HandS.TupAny
import HandS.TupMul
import HandS.StrMore
import HandS.Style
import KE.DataEq
import HandS.StrSplit
import HandS.Nested
import HandS.NestedK
import HandS.CallLocal
import HandS.Star
import HandS.ExcField
import HandS.ExcInit
import HandS.ExcIs
import KE.KTryMore
import KE.KExcIs
import HandS.HotCalls
import HandS.Lambda
import HandS.EndTab
import HandS.MakeKwOnly
import HandS.WordsExc
import HandS.OwnEq
import HandS.Dict
import HandS.DictComp
import PyProof.DictMoreH
import OpenK.KOps
import KE.KOpsOwn
import PyProof.SeqIndex
import HandS.DictEq
import HandS.Text
import KE.KxPercentT
import PyProof.MeetsSeq2
import PyProof.Tail
import KE.KUnpackStar
import HandS.ClsMeth
import HandS.MakeKw
import HandS.ExcOwn
import HandS.MethStar
import HandS.FStr
import HandS.Conv
import HandS.WordsDict
import HandS.TupLen
import HandS.ListItems
import KE.KDflt
import PyProof.StrBlock2
set_option Elab.async false
set_option linter.all false
set_option maxRecDepth 100000
set_option maxHeartbeats 2000000
namespace Bh
open PySem PySem.Spec PyProof.Rows L2
/-! ### the end of a law by one run of the top: what the Hook looks at -/
/-- a def of the top; a method -/
def dd (x : Str) (st : Stmt) : He.DefD := ⟨(x, none), x, x, defArgs st, defBody st, defScope st, [], []⟩
def dm (C m q : Str) (st : Stmt) : He.DefD := ⟨(C, some m), m, q, defArgs st, defBody st, defScope st, [], []⟩
abbrev ExcP (K : PySem.W.Frag) (x : Str) (bmB : List Value) (newId : String) : Prop :=
  PySem.W.excInitIn K (He.ga K x) bmB newId = true ∧ PySem.W.excOver K (He.ga K x) bmB = true ∧ PySem.W.hasDictIn K (He.ga K x) = true ∧ PySem.W.findIn K (.ref (He.ga K x)) "__setattr__" = some (some (.builtin "object.__setattr__")) ∧
  PySem.W.findIn K (.ref (He.ga K x)) "__getattribute__" = some (some (.builtin "BaseException.__getattribute__")) ∧ PySem.W.findIn K (.ref (He.ga K x)) "__getattr__" = some none ∧
  PySem.W.findIn K (.ref (He.ga K x)) "__class__" = some (some (.builtin "object.__class__")) ∧ PySem.W.mroIn K (He.ga K x) (.type "object") = some true ∧
  PySem.W.specialIn K (.builtin "object.__class__") "__get__" = some (some (.builtin "getset_descriptor.__get__")) ∧ PySem.W.takesIn K (.builtin "object.__class__") = some true ∧
  PySem.W.keepIn K (.ref (He.ga K x)) = true ∧ PySem.W.subIn K (.ref (He.ga K x)) (.type "BaseException") = some true ∧ PySem.W.typeIn K (.ref (He.ga K x)) = some (.type "type")
abbrev ExcI (K : PySem.W.Frag) (x : Str) : Prop := PySem.W.findIn K (.ref (He.ga K x)) "__init__" = some (some (.ref (He.ma K (He.ga K x) "__init__"))) ∧ PySem.W.typeIn K (.ref (He.ma K (He.ga K x) "__init__")) = some (.type "function")
abbrev NoAt (K : PySem.W.Frag) (x : Str) (ys : List Str) : Prop := ∀ y ∈ ys, PySem.W.findIn K (.ref (He.ga K x)) y = some none
abbrev ClsP (K : PySem.W.Frag) (x : Str) : Prop :=
  PySem.W.findIn K (.ref (He.ga K x)) "__class__" = some (some (.builtin "object.__class__")) ∧ PySem.W.specialIn K (.builtin "object.__class__") "__get__" = some (some (.builtin "getset_descriptor.__get__")) ∧ PySem.W.takesIn K (.builtin "object.__class__") = some true ∧
  PySem.W.mroIn K (He.ga K x) (.type "object") = some true ∧ PySem.W.kitOne K (.ref (He.ga K x)) (.ref (He.ga K x)) = some true ∧ PySem.W.kitOne K (.type "tuple") (.ref (He.ga K x)) = some false
abbrev CallP (K : PySem.W.Frag) (x : Str) : Prop := PySem.W.fnIn K (He.ma K (He.ga K x) "__call__") = true
abbrev veB : List Value := [.type "ValueError", .type "Exception", .type "BaseException", .type "object"]
abbrev leB : List Value := [.type "LookupError", .type "Exception", .type "BaseException", .type "object"]
/-! ### a Hook over fewer objects: what the module's names hold, the classes' own names, the code objects -/
def pickO (o : Obj) : List Addr := match o.data with
  | .dict es _ => es.toList.flatMap fun e => He.refV e.val
  | .func fd => He.refV fd.code ++ He.refV fd.defaults ++ He.refV fd.kwdefaults
  | .cls cd => [cd.ns]
  | _ => []
def nextA (g : Addr → Option Obj) (as : List Addr) : List Addr := as.flatMap fun a => match g a with
  | some o => pickO o
  | none => []
def asY (g : Addr → Option Obj) : List Addr := mainGlobals :: (nextA g [mainGlobals] ++ (nextA g (nextA g [mainGlobals]) ++ (nextA g (nextA g (nextA g [mainGlobals])) ++ nextA g (nextA g (nextA g (nextA g [mainGlobals]))) ++ nextA g (nextA g (nextA g (nextA g (nextA g [mainGlobals])))))))
def obsY (fa : List He.Fa) (fn : List He.DefD) (ts : List He.Tab) (tf : List He.Defn) (ex : PySem.W.Frag → Bool) (g : Addr → Option Obj) : He.AlX := (He.obsT fa fn ts (He.frT g (asY g)), ex (He.frT g (asY g)) && He.tabsB g tf (He.frT g (asY g)))
theorem says_any {fa : List He.Fa} {fn : List He.DefD} {ts : List He.Tab} {tf : List He.Defn} {ex : PySem.W.Frag → Bool} {w : World} {h : Heap} {K : PySem.W.Frag} (e1 : He.obsT fa fn ts K = He.valT fn ts w) (e2 : (ex K && He.tabsB h.get? tf K) = true)
    (no : ∀ a o, h.get? a = some o → He.emptyTab o = true → K.lookup a = none) : He.SaysX fa fn ts tf ex w h K := by
  obtain ⟨m1, m2⟩ := He.ba e2
  have all : ∀ p ∈ tf, PySem.W.codeHdIn K (He.cT K p).1 (He.cT K p).2 = true ∧ ∃ o, h.get? (He.cT K p).2 = some o ∧ He.emptyTab o = true := by
    intro p hp
    have z := He.ba (List.all_eq_true.mp m2 p hp)
    refine ⟨z.1, ?_⟩
    have z2 := z.2
    revert z2
    cases h.get? (He.cT K p).2 with
    | none => exact fun c => nomatch c
    | some o => exact fun c => ⟨o, rfl, c⟩
  refine { t := e1, more := m1, hd := fun p hp => (all p hp).1, out := fun p hp => ?_, empty := fun p hp => ?_ }
  · obtain ⟨o, g1, g2⟩ := (all p hp).2
    exact no _ o g1 g2
  · obtain ⟨o, g1, g2⟩ := (all p hp).2
    rw [g1, He.emptyTab_eq g2]
def hookY (fa : List He.Fa) (fn : List He.DefD) (ts : List He.Tab) (tf : List He.Defn) (ex : PySem.W.Frag → Bool) : PySem.W.Hook where
  α := He.AlX
  obs s := obsY fa fn ts tf ex s.heap.get?
  val w := He.valX fn ts w
  says w h := ∃ K : PySem.W.Frag, K.In h ∧ He.SaysX fa fn ts tf ex w h K
  of w s e := ⟨_, He.frT_in, says_any (congrArg (fun z : He.AlX => z.1) e) (congrArg (fun z : He.AlX => z.2) e) fun _ _ => He.frT_none⟩
  keeps w h h' := fun ⟨K, k1, k2⟩ k => ⟨K, PySem.W.Frag.In.keeps k1 k, { t := k2.t, more := k2.more, hd := k2.hd, out := k2.out, empty := fun p hp => k _ _ (k2.empty p hp) }⟩
theorem obsY_eq {fa : List He.Fa} {fn : List He.DefD} {ts : List He.Tab} {tf : List He.Defn} {ex : PySem.W.Frag → Bool} {g : Addr → Option Obj} {s : Shared} (e : ∀ a, g a = s.heap.get? a) : obsY fa fn ts tf ex g = (hookY fa fn ts tf ex).obs s := by
  rw [show g = s.heap.get? from funext e]
  rfl
end Bh

set_option Elab.async false
set_option linter.all false
set_option maxRecDepth 100000
set_option maxHeartbeats 2000000
namespace Bh
open PySem PySem.Spec PyProof.Rows L2
/-! ### what the Hook looks at besides: a class over object alone, defaults that are objects -/
def nsB2 (K : PySem.W.Frag) (N f : Addr) : Bool := match K.lookup N with
  | some ⟨_, _, .dict es _, _⟩ => (es.toList.all fun e => match e.key with
      | .str _ _ => true
      | _ => false) && (decide (nsFind es "__eq__" = some (.ref f)) && decide (nsFind es "__ne__" = none))
  | _ => false
def neB (K : PySem.W.Frag) (C f : Addr) : Bool := match K.lookup C with
  | some ⟨.type "type", _, .cls cd, sl⟩ => (match cd.mro, sl.toList with
    | [.ref C', .type o], [_, _, _, _, some (.builtin _), _] => C' == C && (decide (o = "object") && (!cd.hasDel && (cd.hasDict && nsB2 K cd.ns f)))
    | _, _ => false)
  | _ => false
def fnB (K : PySem.W.Frag) (f : Addr) : Bool := match K.lookup f with
  | some ⟨.type c, _, _, _⟩ => decide (c = "function")
  | _ => false
/-- a keyword-only default that is an object -/
def kwAd (C m k : Str) (K : PySem.W.Frag) : Addr := match K.lookup (He.fAd K (C, some m)) with
  | some ⟨_, _, .func fd, _⟩ => (match fd.kwdefaults with
    | .ref D => (match PySem.W.nsIn K D k with
      | some (some (.ref a)) => a
      | _ => 0)
    | _ => 0)
  | _ => 0
def tupE (K : PySem.W.Frag) (z : Addr) : Bool := match K.lookup z with
  | some ⟨.type c, _, .seq its _, _⟩ => decide (c = "tuple") && decide (its.toList = [])
  | _ => false
end Bh

set_option Elab.async false
set_option linter.all false
set_option maxRecDepth 100000
set_option maxHeartbeats 2000000
namespace Bh
open PySem PySem.Spec PyProof.Rows L2
/-! ### the Hook, with the defs that a staticmethod or a classmethod holds -/
def wrapP (g : Addr → Option Obj) (a : Addr) : List Addr := match g a with
  | some ⟨.type c, _, .fields vs, _⟩ => if decide (c = "classmethod") || decide (c = "staticmethod") then vs.toList.flatMap He.refV else []
  | _ => []
def asZ1 (g : Addr → Option Obj) (A : List Addr) (W : List Addr) : List Addr := A ++ (cStatics :: (W ++ nextA g W))
def asZ0 (g : Addr → Option Obj) (A : List Addr) : List Addr := asZ1 g A (A.flatMap (wrapP g))
def asZ (g : Addr → Option Obj) : List Addr := asZ0 g (asY g)
abbrev AlZ : Type := He.AlX × He.AlD
def obsZ1 (fa : List He.Fa) (fn : List He.DefD) (ts : List He.Tab) (tf : List He.Defn) (ex : PySem.W.Frag → Bool) (fw : List He5.DefA) (g : Addr → Option Obj) (K : PySem.W.Frag) : AlZ := ((He.obsT fa fn ts K, ex K && He.tabsB g tf K), He5.obsA [] fw K)
def obsZ (fa : List He.Fa) (fn : List He.DefD) (ts : List He.Tab) (tf : List He.Defn) (ex : PySem.W.Frag → Bool) (fw : List He5.DefA) (g : Addr → Option Obj) : AlZ := obsZ1 fa fn ts tf ex fw g (He.frT g (asZ g))
def hookZ (fa : List He.Fa) (fn : List He.DefD) (ts : List He.Tab) (tf : List He.Defn) (ex : PySem.W.Frag → Bool) (fw : List He5.DefA) : PySem.W.Hook where
  α := AlZ
  obs s := obsZ fa fn ts tf ex fw s.heap.get?
  val w := (He.valX fn ts w, He5.valA fw)
  says w h := ∃ K : PySem.W.Frag, K.In h ∧ He.SaysX fa fn ts tf ex w h K ∧ He5.SaysA [] fw K
  of w s e := ⟨_, He.frT_in, says_any (congrArg (fun z : AlZ => z.1.1) e) (congrArg (fun z : AlZ => z.1.2) e) fun _ _ => He.frT_none, congrArg (fun z : AlZ => z.2) e⟩
  keeps w h h' := fun ⟨K, k1, k2, k3⟩ k => ⟨K, PySem.W.Frag.In.keeps k1 k, { t := k2.t, more := k2.more, hd := k2.hd, out := k2.out, empty := fun p hp => k _ _ (k2.empty p hp) }, k3⟩
theorem obsZ_eq {fa : List He.Fa} {fn : List He.DefD} {ts : List He.Tab} {tf : List He.Defn} {ex : PySem.W.Frag → Bool} {fw : List He5.DefA} {g : Addr → Option Obj} {s : Shared} (e : ∀ a, g a = s.heap.get? a) : obsZ fa fn ts tf ex fw g = (hookZ fa fn ts tf ex fw).obs s := by
  rw [show g = s.heap.get? from funext e]
  rfl
end Bh

set_option Elab.async false
set_option linter.all false
set_option maxRecDepth 100000
set_option maxHeartbeats 1000000
namespace Bh
open PySem PySem.Spec PyProof.Rows L2
def topS (i : Nat) : Stmt := PySem.Challenge.pw_bestheard_k16_whole_networks_there_and_b.main.body.getD i (.Pass ⟨0, 0, 0, 0⟩)
abbrev s_copy_of : Stmt := topS 2
theorem sc_copy_of : FnScope ["value", "item", "key", "worth"] ["value"] (defScope s_copy_of) := ⟨rfl, rfl, rfl, by decide +kernel, rfl, by decide +kernel, by decide +kernel⟩
abbrev s_InvalidName__init : Stmt := inClass (topS 6) 0
theorem sc_InvalidName__init : FnScope ["self", "given"] ["self", "given"] (defScope s_InvalidName__init) := ⟨rfl, rfl, rfl, by decide +kernel, rfl, by decide +kernel, by decide +kernel⟩
abbrev s_InvalidNetwork__init : Stmt := inClass (topS 7) 0
theorem sc_InvalidNetwork__init : FnScope ["self", "line"] ["self", "line"] (defScope s_InvalidNetwork__init) := ⟨rfl, rfl, rfl, by decide +kernel, rfl, by decide +kernel, by decide +kernel⟩
abbrev s_DuplicateCell__init : Stmt := inClass (topS 8) 0
theorem sc_DuplicateCell__init : FnScope ["self", "name"] ["self", "name"] (defScope s_DuplicateCell__init) := ⟨rfl, rfl, rfl, by decide +kernel, rfl, by decide +kernel, by decide +kernel⟩
abbrev s_DuplicateTie__init : Stmt := inClass (topS 9) 0
theorem sc_DuplicateTie__init : FnScope ["self", "tie"] ["self", "tie"] (defScope s_DuplicateTie__init) := ⟨rfl, rfl, rfl, by decide +kernel, rfl, by decide +kernel, by decide +kernel⟩
abbrev s_UnknownCell__init : Stmt := inClass (topS 11) 0
theorem sc_UnknownCell__init : FnScope ["self", "name"] ["self", "name"] (defScope s_UnknownCell__init) := ⟨rfl, rfl, rfl, by decide +kernel, rfl, by decide +kernel, by decide +kernel⟩
abbrev s_is_name : Stmt := topS 15
theorem sc_is_name : FnScope ["value"] ["value"] (defScope s_is_name) := ⟨rfl, rfl, rfl, by decide +kernel, rfl, by decide +kernel, by decide +kernel⟩
abbrev s_is_word : Stmt := topS 16
theorem sc_is_word : FnScope ["value", "characters", "character"] ["value", "characters"] (defScope s_is_word) := ⟨rfl, rfl, rfl, by decide +kernel, rfl, by decide +kernel, by decide +kernel⟩
abbrev s_Network__init : Stmt := inClass (topS 19) 0
theorem sc_Network__init : FnScope ["self", "cells", "ties"] ["self", "cells", "ties"] (defScope s_Network__init) := ⟨rfl, rfl, rfl, by decide +kernel, rfl, by decide +kernel, by decide +kernel⟩
abbrev s_Network_read : Stmt := inClass (topS 19) 1
theorem sc_Network_read : FnScope ["cls", "text", "lines", "rest", "network", "number", "line"] ["cls", "text"] (defScope s_Network_read) := ⟨rfl, rfl, rfl, by decide +kernel, rfl, by decide +kernel, by decide +kernel⟩
abbrev s_Network_take : Stmt := inClass (topS 19) 2
theorem sc_Network_take : FnScope ["self", "line", "words"] ["self", "line"] (defScope s_Network_take) := ⟨rfl, rfl, rfl, by decide +kernel, rfl, by decide +kernel, by decide +kernel⟩
abbrev s_Network_add_cell : Stmt := inClass (topS 19) 3
theorem sc_Network_add_cell : FnScope ["self", "name", "kind"] ["self", "name", "kind"] (defScope s_Network_add_cell) := ⟨rfl, rfl, rfl, by decide +kernel, rfl, by decide +kernel, by decide +kernel⟩
abbrev s_Network_add_tie : Stmt := inClass (topS 19) 4
theorem sc_Network_add_tie : FnScope ["self", "tie", "source", "target"] ["self", "tie", "source", "target"] (defScope s_Network_add_tie) := ⟨rfl, rfl, rfl, by decide +kernel, rfl, by decide +kernel, by decide +kernel⟩
abbrev s_Network_cells : Stmt := inClass (topS 19) 7
theorem sc_Network_cells : FnScope ["self"] ["self"] (defScope s_Network_cells) := ⟨rfl, rfl, rfl, by decide +kernel, rfl, by decide +kernel, by decide +kernel⟩
abbrev s_Network_ties : Stmt := inClass (topS 19) 8
theorem sc_Network_ties : FnScope ["self"] ["self"] (defScope s_Network_ties) := ⟨rfl, rfl, rfl, by decide +kernel, rfl, by decide +kernel, by decide +kernel⟩
abbrev s_Network__getitem : Stmt := inClass (topS 19) 11
theorem sc_Network__getitem : FnScope ["self", "name"] ["self", "name"] (defScope s_Network__getitem) := ⟨rfl, rfl, rfl, by decide +kernel, rfl, by decide +kernel, by decide +kernel⟩
abbrev s_Network__contains : Stmt := inClass (topS 19) 15
theorem sc_Network__contains : FnScope ["self", "name"] ["self", "name"] (defScope s_Network__contains) := ⟨rfl, rfl, rfl, by decide +kernel, rfl, by decide +kernel, by decide +kernel⟩
abbrev s_Network__eq : Stmt := inClass (topS 19) 17
theorem sc_Network__eq : FnScope ["self", "other"] ["self", "other"] (defScope s_Network__eq) := ⟨rfl, rfl, rfl, by decide +kernel, rfl, by decide +kernel, by decide +kernel⟩
abbrev s_Network_text : Stmt := inClass (topS 19) 23
theorem sc_Network_text : FnScope ["self", "cells", "ties", "name", "kind", "tie", "source", "target"] ["self"] (defScope s_Network_text) := ⟨rfl, rfl, rfl, by decide +kernel, rfl, by decide +kernel, by decide +kernel⟩
abbrev s_Network_check_known : Stmt := inClass (topS 19) 25
theorem sc_Network_check_known : FnScope ["self", "name"] ["self", "name"] (defScope s_Network_check_known) := ⟨rfl, rfl, rfl, by decide +kernel, rfl, by decide +kernel, by decide +kernel⟩
abbrev s_kinds_of : Stmt := topS 20
theorem sc_kinds_of : FnScope ["cells", "kinds", "name", "kind"] ["cells"] (defScope s_kinds_of) := ⟨rfl, rfl, rfl, by decide +kernel, rfl, by decide +kernel, by decide +kernel⟩
abbrev s_ties_between : Stmt := topS 21
theorem sc_ties_between : FnScope ["kinds", "ties", "found", "tie", "source", "target"] ["kinds", "ties"] (defScope s_ties_between) := ⟨rfl, rfl, rfl, by decide +kernel, rfl, by decide +kernel, by decide +kernel⟩
abbrev s_check_cell : Stmt := topS 22
theorem sc_check_cell : FnScope ["kinds", "name", "kind"] ["kinds", "name", "kind"] (defScope s_check_cell) := ⟨rfl, rfl, rfl, by decide +kernel, rfl, by decide +kernel, by decide +kernel⟩
abbrev s_check_tie : Stmt := topS 23
theorem sc_check_tie : FnScope ["kinds", "ties", "tie", "source", "target", "name"] ["kinds", "ties", "tie", "source", "target"] (defScope s_check_tie) := ⟨rfl, rfl, rfl, by decide +kernel, rfl, by decide +kernel, by decide +kernel⟩
abbrev s_is_kind : Stmt := topS 24
theorem sc_is_kind : FnScope ["value"] ["value"] (defScope s_is_kind) := ⟨rfl, rfl, rfl, by decide +kernel, rfl, by decide +kernel, by decide +kernel⟩
abbrev s_l_bag : Stmt := topS 26
theorem sc_l_bag : FnScope ["_law_script", "_law_seed", "_law_cell"] ["_law_script"] (defScope s_l_bag) := ⟨rfl, rfl, rfl, by decide +kernel, rfl, by decide +kernel, by decide +kernel⟩
abbrev s_l_draw : Stmt := topS 27
theorem sc_l_draw : FnScope ["_law_bag_here", "_law_many", "_law_cell", "_law_found", "_law_old"] ["_law_bag_here", "_law_many"] (defScope s_l_draw) := ⟨rfl, rfl, rfl, by decide +kernel, rfl, by decide +kernel, by decide +kernel⟩
abbrev s_l_any : Stmt := topS 28
theorem sc_l_any : FnScope ["_law_bag_here", "_law_row"] ["_law_bag_here", "_law_row"] (defScope s_l_any) := ⟨rfl, rfl, rfl, by decide +kernel, rfl, by decide +kernel, by decide +kernel⟩
abbrev s_l_mixed : Stmt := topS 29
theorem sc_l_mixed : FnScope ["_law_bag_here", "_law_row", "_law_found", "_law_item"] ["_law_bag_here", "_law_row"] (defScope s_l_mixed) := ⟨rfl, rfl, rfl, by decide +kernel, rfl, by decide +kernel, by decide +kernel⟩
abbrev s_l_like : Stmt := topS 30
theorem sc_l_like : FnScope ["_law_found", "_law_due", "_law_key", "_law_one", "_law_other"] ["_law_found", "_law_due"] (defScope s_l_like) := ⟨rfl, rfl, rfl, by decide +kernel, rfl, by decide +kernel, by decide +kernel⟩
abbrev s_l_given : Stmt := topS 31
theorem sc_l_given : FnScope ["_law_e"] ["_law_e"] (defScope s_l_given) := ⟨rfl, rfl, rfl, by decide +kernel, rfl, by decide +kernel, by decide +kernel⟩
abbrev s_l_try : Stmt := topS 32
theorem sc_l_try : FnScope ["_law_ask", "_law_found", "_law_e"] ["_law_ask"] (defScope s_l_try) := ⟨rfl, rfl, rfl, by decide +kernel, rfl, by decide +kernel, by decide +kernel⟩
abbrev s_l_words : Stmt := topS 33
theorem sc_l_words : FnScope ["_law_bag_here", "_law_many", "_law_tail", "_law_at", "_law_start", "_law_letters", "_law_k"] ["_law_bag_here", "_law_many"] (defScope s_l_words) := ⟨rfl, rfl, rfl, by decide +kernel, rfl, by decide +kernel, by decide +kernel⟩
abbrev s_l_options : Stmt := topS 34
theorem sc_l_options : FnScope ["_law_bag_here", "_law_many", "_law_pool"] ["_law_bag_here", "_law_many"] (defScope s_l_options) := ⟨rfl, rfl, rfl, by decide +kernel, rfl, by decide +kernel, by decide +kernel⟩
abbrev s_l_fields : Stmt := topS 35
theorem sc_l_fields : FnScope ["_law_bag_here", "_law_room", "_law_names", "_law_found", "_law_left", "_law_k", "_law_many"] ["_law_bag_here", "_law_room"] (defScope s_l_fields) := ⟨rfl, rfl, rfl, by decide +kernel, rfl, by decide +kernel, by decide +kernel⟩
abbrev s_l_case : Stmt := topS 36
theorem sc_l_case : FnScope ["_law_bag_here", "_law_fields_here", "_law_tests", "_law_steps", "_law_k", "_law_name", "_law_options_here"] ["_law_bag_here", "_law_fields_here"] (defScope s_l_case) := ⟨rfl, rfl, rfl, by decide +kernel, rfl, by decide +kernel, by decide +kernel⟩
abbrev s_l_program : Stmt := topS 37
theorem sc_l_program : FnScope ["_law_bag_here", "_law_fields_here", "_law_most", "_law_k"] ["_law_bag_here", "_law_fields_here", "_law_most"] (defScope s_l_program) := ⟨rfl, rfl, rfl, by decide +kernel, rfl, by decide +kernel, by decide +kernel⟩
abbrev s_l_value : Stmt := topS 38
theorem sc_l_value : FnScope ["_law_bag_here", "_law_fields_here", "_law_name", "_law_options_here"] ["_law_bag_here", "_law_fields_here"] (defScope s_l_value) := ⟨rfl, rfl, rfl, by decide +kernel, rfl, by decide +kernel, by decide +kernel⟩
abbrev s_l_keys : Stmt := topS 39
theorem sc_l_keys : FnScope ["_law_bag_here", "_law_fields_here", "_law_chosen", "_law_name", "_law_options_here"] ["_law_bag_here", "_law_fields_here"] (defScope s_l_keys) := ⟨rfl, rfl, rfl, by decide +kernel, rfl, by decide +kernel, by decide +kernel⟩
abbrev s_l_kinds : Stmt := topS 40
theorem sc_l_kinds : FnScope ["_law_bag_here", "_law_fields_here", "_law_most", "_law_names", "_law_found", "_law_k", "_law_taking", "_law_birth"] ["_law_bag_here", "_law_fields_here", "_law_most"] (defScope s_l_kinds) := ⟨rfl, rfl, rfl, by decide +kernel, rfl, by decide +kernel, by decide +kernel⟩
abbrev s_l_book : Stmt := topS 41
theorem sc_l_book : FnScope ["_law_bag_here", "_law_room", "_law_most", "_law_fields_here", "_law_names", "_law_ties_z", "_law_k"] ["_law_bag_here", "_law_room", "_law_most"] (defScope s_l_book) := ⟨rfl, rfl, rfl, by decide +kernel, rfl, by decide +kernel, by decide +kernel⟩
abbrev s_l_net : Stmt := topS 42
theorem sc_l_net : FnScope ["_law_bag_here", "_law_m", "_law_most", "_law_many", "_law_names", "_law_cells_z", "_law_ties_z", "_law_k", "_law_row", "_law_name"] ["_law_bag_here", "_law_m", "_law_most"] (defScope s_l_net) := ⟨rfl, rfl, rfl, by decide +kernel, rfl, by decide +kernel, by decide +kernel⟩
abbrev s_l_web : Stmt := topS 43
theorem sc_l_web : FnScope ["_law_net_here"] ["_law_net_here"] (defScope s_l_web) := ⟨rfl, rfl, rfl, by decide +kernel, rfl, by decide +kernel, by decide +kernel⟩
abbrev s_l_net_of : Stmt := topS 44
theorem sc_l_net_of : FnScope ["_law_web_here", "_law_cell"] ["_law_web_here"] (defScope s_l_net_of) := ⟨rfl, rfl, rfl, by decide +kernel, rfl, by decide +kernel, by decide +kernel⟩
abbrev s_l_text_of : Stmt := topS 45
theorem sc_l_text_of : FnScope ["_law_net_here", "_law_lines", "_law_cell", "_law_kind", "_law_row"] ["_law_net_here"] (defScope s_l_text_of) := ⟨rfl, rfl, rfl, by decide +kernel, rfl, by decide +kernel, by decide +kernel⟩
abbrev s_l_wrong_line : Stmt := topS 46
theorem sc_l_wrong_line : FnScope ["_law_bag_here", "_law_odd"] ["_law_bag_here"] (defScope s_l_wrong_line) := ⟨rfl, rfl, rfl, by decide +kernel, rfl, by decide +kernel, by decide +kernel⟩
abbrev s_l_written_webs : Stmt := topS 47
theorem sc_l_written_webs : FnScope ["_law_a", "_law_b", "_law_t", "_law_rows", "_law_told", "_law_due", "_law_good", "_law_text_z", "_law_line", "_law_one"] [] (defScope s_l_written_webs) := ⟨rfl, rfl, rfl, by decide +kernel, rfl, by decide +kernel, by decide +kernel⟩
abbrev s_law : Stmt := topS 48
theorem sc_law : FnScope ["_law_script", "_law_bag_here", "_law_turn", "_law_m", "_law_net_here", "_law_lines", "_law_text_z", "_law_web_here", "_law_found", "_law_at", "_law_odd", "_law_rows", "_law_told", "_law_spot", "_law_doubled", "_law_sign", "_law_bent", "_law_line", "_law_row"] ["_law_script"] (defScope s_law) := ⟨rfl, rfl, rfl, by decide +kernel, rfl, by decide +kernel, by decide +kernel⟩
end Bh

set_option Elab.async false
set_option linter.all false
set_option maxRecDepth 100000
set_option maxHeartbeats 4000000
set_option synthInstance.maxSize 10000
set_option synthInstance.maxHeartbeats 400000
namespace Bh
open PySem PySem.Spec PyProof.Rows L2
def hFn0 : List He.DefD := [dd "copy_of" s_copy_of, dd "is_name" s_is_name, dd "_is_word" s_is_word, dd "_kinds_of" s_kinds_of, dd "_ties_between" s_ties_between, dd "_check_cell" s_check_cell, dd "_check_tie" s_check_tie, dd "_is_kind" s_is_kind, dd "_law_bag" s_l_bag, dd "_law_draw" s_l_draw, dd "_law_any" s_l_any, dd "_law_mixed" s_l_mixed, dd "_law_like" s_l_like, dd "_law_given" s_l_given, dd "_law_try" s_l_try, dd "_law_words" s_l_words, dd "_law_options" s_l_options, dd "_law_fields" s_l_fields]
def hFn1 : List He.DefD := [dd "_law_case" s_l_case, dd "_law_program" s_l_program, dd "_law_value" s_l_value, dd "_law_keys" s_l_keys, dd "_law_kinds" s_l_kinds, dd "_law_book" s_l_book, dd "_law_net" s_l_net, dd "_law_web" s_l_web, dd "_law_net_of" s_l_net_of, dd "_law_text_of" s_l_text_of, dd "_law_wrong_line" s_l_wrong_line, dd "_law_written_webs" s_l_written_webs, dd "law" s_law, dm "InvalidName" "__init__" "InvalidName.__init__" s_InvalidName__init, dm "InvalidNetwork" "__init__" "InvalidNetwork.__init__" s_InvalidNetwork__init, dm "DuplicateCell" "__init__" "DuplicateCell.__init__" s_DuplicateCell__init, dm "UnknownCell" "__init__" "UnknownCell.__init__" s_UnknownCell__init, dm "DuplicateTie" "__init__" "DuplicateTie.__init__" s_DuplicateTie__init]
def hFn2 : List He.DefD := [dm "Network" "add_cell" "Network.add_cell" s_Network_add_cell, dm "Network" "add_tie" "Network.add_tie" s_Network_add_tie, dm "Network" "cells" "Network.cells" s_Network_cells, dm "Network" "ties" "Network.ties" s_Network_ties, dm "Network" "__getitem__" "Network.__getitem__" s_Network__getitem, dm "Network" "__contains__" "Network.__contains__" s_Network__contains, dm "Network" "__eq__" "Network.__eq__" s_Network__eq, dm "Network" "_check_known" "Network._check_known" s_Network_check_known, dm "Network" "text" "Network.text" s_Network_text, dm "Network" "take" "Network.take" s_Network_take, ⟨("Network", some "__init__"), "__init__", "Network.__init__", defArgs s_Network__init, defBody s_Network__init, defScope s_Network__init, [], [("cells", .adr (kwAd "Network" "__init__" "cells")), ("ties", .adr (kwAd "Network" "__init__" "ties"))]⟩]
def hFn : List He.DefD := hFn0 ++ hFn1 ++ hFn2
def hFa0 : List He.Fa := [.glo "copy_of", .glo "is_name", .glo "_is_word", .glo "_kinds_of", .glo "_ties_between", .glo "_check_cell", .glo "_check_tie", .glo "_is_kind", .glo "_law_bag", .glo "_law_draw", .glo "_law_any", .glo "_law_mixed", .glo "_law_like", .glo "_law_given", .glo "_law_try", .glo "_law_words", .glo "_law_options", .glo "_law_fields"]
def hFa1 : List He.Fa := [.glo "_law_case", .glo "_law_program", .glo "_law_value", .glo "_law_keys", .glo "_law_kinds", .glo "_law_book", .glo "_law_net", .glo "_law_web", .glo "_law_net_of", .glo "_law_text_of", .glo "_law_wrong_line", .glo "_law_written_webs", .glo "law", .free "all", .free "dict", .free "isinstance", .free "len", .free "list"]
def hFa2 : List He.Fa := [.free "max", .free "min", .free "range", .free "sorted", .free "tuple", .free "int", .free "zip", .free "bool", .free "str", .free "enumerate", .str "LETTERS" "abcdefghijklmnopqrstuvwxyz", .int "LONGEST" 8, .glo "NUMBERS", .glo "InvalidName", .glo "InvalidNetwork", .glo "DuplicateCell", .glo "UnknownCell", .glo "DuplicateTie"]
def hFa3 : List He.Fa := [.glo "BestError", .glo "Missing", .glo "Network", .cls "Network", .mkr "Network", .noat "Network" "_cells", .noat "Network" "_ties", .meth "Network" "add_cell", .meth "Network" "add_tie", .meth "Network" "cells", .meth "Network" "ties", .meth "Network" "__getitem__", .meth "Network" "__contains__", .meth "Network" "__eq__", .meth "Network" "_check_known", .meth "Network" "text", .meth "Network" "take"]
def hFa : List He.Fa := hFa0 ++ hFa1 ++ hFa2 ++ hFa3
def hTf : List He.Defn := [("_law_written_webs", none), ("law", none)]
def hFw : List He5.DefA := [⟨fun K => He5.wf K (He.ga K "Network") "classmethod" "read", "read", "Network.read", defArgs s_Network_read, defBody s_Network_read, defScope s_Network_read, [], []⟩]
abbrev ExF0 (K : PySem.W.Frag) : Prop := (He.tupB K "NUMBERS" [.str ".0", .str ".1", .str ".2"] = true) ∧
  (ExcP K "InvalidName" veB "ValueError.__new__") ∧
  (ExcI K "InvalidName") ∧
  (PySem.W.findIn K (.ref (He.ga K "InvalidName")) "code" = some none) ∧
  (PySem.W.findIn K (.ref (He.ga K "InvalidName")) "given" = some none) ∧
  (PySem.W.exmAny K (.ref (He.ga K "InvalidName")) [.ref (He.ga K "BestError"), .ref (He.ga K "Missing")] = some true) ∧
  (ExcP K "InvalidNetwork" veB "ValueError.__new__") ∧
  (ExcI K "InvalidNetwork") ∧
  (PySem.W.findIn K (.ref (He.ga K "InvalidNetwork")) "code" = some none) ∧
  (PySem.W.findIn K (.ref (He.ga K "InvalidNetwork")) "line" = some none) ∧
  (PySem.W.exmAny K (.ref (He.ga K "InvalidNetwork")) [.ref (He.ga K "BestError"), .ref (He.ga K "Missing")] = some true) ∧
  (ExcP K "DuplicateCell" veB "ValueError.__new__")
abbrev ExF1 (K : PySem.W.Frag) : Prop := (ExcI K "DuplicateCell") ∧
  (PySem.W.findIn K (.ref (He.ga K "DuplicateCell")) "code" = some none) ∧
  (PySem.W.findIn K (.ref (He.ga K "DuplicateCell")) "name" = some none) ∧
  (PySem.W.exmAny K (.ref (He.ga K "DuplicateCell")) [.ref (He.ga K "BestError"), .ref (He.ga K "Missing")] = some true) ∧
  (ExcP K "UnknownCell" leB "LookupError.__new__") ∧
  (ExcI K "UnknownCell") ∧
  (PySem.W.findIn K (.ref (He.ga K "UnknownCell")) "code" = some none) ∧
  (PySem.W.findIn K (.ref (He.ga K "UnknownCell")) "name" = some none) ∧
  (PySem.W.exmAny K (.ref (He.ga K "UnknownCell")) [.ref (He.ga K "BestError"), .ref (He.ga K "Missing")] = some true) ∧
  (ExcP K "DuplicateTie" veB "ValueError.__new__") ∧
  (ExcI K "DuplicateTie") ∧
  (PySem.W.findIn K (.ref (He.ga K "DuplicateTie")) "code" = some none)
abbrev ExF2 (K : PySem.W.Frag) : Prop := (PySem.W.findIn K (.ref (He.ga K "DuplicateTie")) "tie" = some none) ∧
  (PySem.W.exmAny K (.ref (He.ga K "DuplicateTie")) [.ref (He.ga K "BestError"), .ref (He.ga K "Missing")] = some true) ∧
  (ClsP K "Network") ∧
  ((He.cT K ("_law_written_webs", none)).2 ≠ (He.cT K ("law", none)).2) ∧
  (He5.wrapB K (He.ga K "Network") "classmethod" "classmethod.__get__" "read" = true) ∧
  (PySem.W.fnIn K (He5.wf K (He.ga K "Network") "classmethod" "read") = true) ∧
  (PySem.W.readsIn K (He.ga K "Network") (.type "type") = true) ∧
  (PySem.W.specialIn K (.ref (He.ga K "Network")) "__getattribute__" = some (some (.builtin "type.__getattribute__"))) ∧
  (PySem.W.noSeq K (He.ga K "Network") = true) ∧
  (PySem.W.subIn K (.type "tuple") (.ref (He.ga K "Network")) = some false) ∧
  (PySem.W.subIn K (.type "str") (.ref (He.ga K "Network")) = some false) ∧
  (PySem.W.kitOne K (.type "tuple") (.ref (He.ga K "Network")) = some false)
abbrev ExF3 (K : PySem.W.Frag) : Prop := (PySem.W.kitOne K (.type "str") (.ref (He.ga K "Network")) = some false) ∧
  (PySem.W.fnIn K (He.ma K (He.ga K "Network") "__getitem__") = true) ∧
  (PySem.W.exmAny K (.ref (He.ga K "InvalidName")) [.ref (He.ga K "InvalidName"), .ref (He.ga K "DuplicateCell"), .ref (He.ga K "UnknownCell"), .ref (He.ga K "DuplicateTie")] = some true) ∧
  (PySem.W.exmAny K (.ref (He.ga K "DuplicateCell")) [.ref (He.ga K "InvalidName"), .ref (He.ga K "DuplicateCell"), .ref (He.ga K "UnknownCell"), .ref (He.ga K "DuplicateTie")] = some true) ∧
  (PySem.W.exmAny K (.ref (He.ga K "UnknownCell")) [.ref (He.ga K "InvalidName"), .ref (He.ga K "DuplicateCell"), .ref (He.ga K "UnknownCell"), .ref (He.ga K "DuplicateTie")] = some true) ∧
  (PySem.W.exmAny K (.ref (He.ga K "DuplicateTie")) [.ref (He.ga K "InvalidName"), .ref (He.ga K "DuplicateCell"), .ref (He.ga K "UnknownCell"), .ref (He.ga K "DuplicateTie")] = some true) ∧
  (neB K (He.ga K "Network") (He.ma K (He.ga K "Network") "__eq__") = true) ∧
  (fnB K (He.ma K (He.ga K "Network") "__eq__") = true) ∧
  (tupE K (kwAd "Network" "__init__" "cells" K) = true) ∧
  (tupE K (kwAd "Network" "__init__" "ties" K) = true)
def hEx (K : PySem.W.Frag) : Bool := decide (ExF0 K) && decide (ExF1 K) && decide (ExF2 K) && decide (ExF3 K)
theorem hEx_of {K : PySem.W.Frag} (e : hEx K = true) : ExF0 K ∧ ExF1 K ∧ ExF2 K ∧ ExF3 K := by
  unfold hEx at e
  simpa only [Bool.and_eq_true, decide_eq_true_eq, and_assoc] using e
abbrev hR : PySem.W.OpenRow := PySem.W.OpenLaw.row PySem.Challenge.rw_bestheard_k16_whole_networks_there_and_b
abbrev hHk : PySem.W.Hook := hookZ hFa hFn [] hTf hEx hFw
def hOb (s : PySem.W.SharedT) : AlZ := obsZ hFa hFn [] hTf hEx hFw (HandSHeadRun.getT s)
theorem hOb_eq (s : PySem.W.SharedT) : hOb s = hHk.obs s.abs := obsZ_eq (HandSHeadRun.getT_eq s)
def hLo0 : List Str := ["_wall", "__name__", "copy_of", "__name__", "BestError", "Missing", "InvalidName", "InvalidNetwork", "DuplicateCell", "DuplicateTie", "KindsDiffer", "UnknownCell", "__name__", "LETTERS", "LONGEST", "is_name", "_is_word", "__name__"]
def hLo1 : List Str := ["NUMBERS", "Network", "_kinds_of", "_ties_between", "_check_cell", "_check_tie", "_is_kind", "__name__", "_law_bag", "_law_draw", "_law_any", "_law_mixed", "_law_like", "_law_given", "_law_try", "_law_words", "_law_options", "_law_fields"]
def hLo2 : List Str := ["_law_case", "_law_program", "_law_value", "_law_keys", "_law_kinds", "_law_book", "_law_net", "_law_web", "_law_net_of", "_law_text_of", "_law_wrong_line", "_law_written_webs"]
def hLo : List Str := hLo0 ++ hLo1 ++ hLo2
set_option maxHeartbeats 0 in
theorem hRun (w : World) : HandSHeadRun.RunEq hR (PySem.W.view hR.prog [48]) hHk hOb 7000 hLo w := by
  intro os
  kernel_rfl
end Bh

set_option Elab.async false
set_option linter.all false
set_option maxRecDepth 100000
namespace Bh
open PySem PySem.Spec PyProof.Rows L2
/-! ### what the laws of this set have in common: constants, defs of the top, the drawing bag -/
section
variable {X : Cx} {x z : Str} {i : Int} {a : Addr} {pos : Pos}
theorem pe_gS (hg : Gl X x) (hm : ∃ t, X.mg x = some (.str z t)) (hd : (x == ("__debug__" : Str)) = false := by decide) : PE X (.Name x pos) (tC (.str z)) := by
  obtain ⟨t, hm⟩ := hm
  exact pe_glob hg hm ⟨t, rfl⟩ hd
theorem pe_gI (hg : Gl X x) (hm : ∃ t, X.mg x = some (.int i t)) (hd : (x == ("__debug__" : Str)) = false := by decide) : PE X (.Name x pos) (tC (.int i)) := by
  obtain ⟨t, hm⟩ := hm
  exact pe_glob hg hm ⟨t, rfl⟩ hd
theorem pe_gR (hg : Gl X x) (hm : X.mg x = some (.ref a)) (hd : (x == ("__debug__" : Str)) = false := by decide) : PE X (.Name x pos) (tC (.ref a)) :=
  pe_glob hg hm rfl hd
end
theorem pe_tyN {X : Cx} {x : Str} {pos : Pos} (n : String) (hg : Gl X x) (hm : X.mg x = none) (hv : bootBuiltins x = some (.type n)) (hnn : x ≠ "__name__" := by decide) (hdb : (x == ("__debug__" : Str)) = false := by decide) : PE X (.Name x pos) (tC (.ty n)) := pe_bltn hg hm hv rfl hnn hdb
/-- a def of the top: where it stands, what its name holds, how it binds -/
structure Df (K : PySem.W.Frag) (mg : Str → Option Value) (x : Str) (st : Stmt) (ps : List Str) (f : Addr) (fd : FuncData) : Prop where
  F : Fun K x x st f fd
  g : mg x = some (.ref f)
  b : Binds K fd ps []
theorem Df.kp {K : PySem.W.Frag} {mg : Str → Option Value} {x : Str} {st : Stmt} {ps : List Str} {f : Addr} {fd : FuncData} (d : Df K mg x st ps f fd) : PySem.W.keepIn K (.ref f) = true := d.F.kp
theorem same_new {H : Hp} {p : Addr} {o : HO} (h : H p = none) : Same H (upd H p o) := fun b u e => by
  rw [upd_ne (ne_of_none e h)]
  exact e
theorem Same.tup {K : PySem.W.Frag} {H H' : Hp} {a : Addr} {xs : List V} (e : Same H H') (h : SqT K H a xs) : SqT K H' a xs := by
  rcases h with (h | ⟨o, h⟩) | h
  · exact .inl (.inl (e _ _ h))
  · exact .inl (.inr ⟨o, e _ _ h⟩)
  · exact .inr h
/-- the bag of a law: the script's ints at l, how many are taken, what is left of a great one, the seed -/
def BagAt (b l : Addr) (H : Hp) : Prop := ∃ (ns : List Int) (i c s : Int), H b = some (.lst [.ref l, .int i, .int c, .int s]) ∧ H l = some (.lst (ns.map V.int)) ∧ ns.length ≤ 63 ∧ 0 ≤ i ∧ i ≤ (ns.length : Int) ∧ 0 ≤ c ∧ 0 ≤ s ∧ s < 2147483647
/-- G: all that is known apart from the bag at b, l -/
structure Wd (b l : Addr) (G H : Hp) : Prop where
  nb : G b = none
  nl : G l = none
  sm : Same G H
  bag : BagAt b l H
section
variable {b l p q : Addr} {G G' H H' : Hp} {o o' : HO}
theorem BagAt.b_some (h : BagAt b l H) : ∃ o, H b = some o := by
  obtain ⟨_, _, _, _, h, _⟩ := h
  exact ⟨_, h⟩
theorem BagAt.l_some (h : BagAt b l H) : ∃ o, H l = some o := by
  obtain ⟨_, _, _, _, _, h, _⟩ := h
  exact ⟨_, h⟩
theorem BagAt.same (h : BagAt b l H) (e : Same H H') : BagAt b l H' := by
  obtain ⟨ns, i, c, s, h1, h2, r⟩ := h
  exact ⟨ns, i, c, s, e _ _ h1, e _ _ h2, r⟩
theorem Wd.b_ne (w : Wd b l G H) (hp : H p = none) : p ≠ b := fun z => by
  obtain ⟨o, e⟩ := w.bag.b_some
  rw [← z, hp] at e
  cases e
theorem Wd.l_ne (w : Wd b l G H) (hp : H p = none) : p ≠ l := fun z => by
  obtain ⟨o, e⟩ := w.bag.l_some
  rw [← z, hp] at e
  cases e
theorem Wd.same (w : Wd b l G H) (e : Same H H') : Wd b l G H' := ⟨w.nb, w.nl, w.sm.trans e, w.bag.same e⟩
/-- a new object -/
theorem Wd.new (w : Wd b l G H) (hp : H p = none) : Wd b l (upd G p o) (upd H p o) := by
  refine ⟨?_, ?_, fun a u e => ?_, w.bag.same (same_new hp)⟩
  · rw [upd_ne (w.b_ne hp).symm]
    exact w.nb
  · rw [upd_ne (w.l_ne hp).symm]
    exact w.nl
  · by_cases h : a = p
    · rw [h, upd_same] at e ⊢
      exact e
    · rw [upd_ne h] at e ⊢
      exact w.sm _ _ e
theorem Wd.free (w : Wd b l G H) (hp : H p = none) : G p = none := w.sm.free hp
theorem Wd.sameG (w : Wd b l G H) (hp : H p = none) : Same G (upd G p o) := same_new (w.free hp)
/-- an object that is known changes -/
theorem Wd.mut (w : Wd b l G H) (hq : G q = some o) : Wd b l (upd G q o') (upd H q o') := by
  have nb : q ≠ b := fun z => by
    rw [z, w.nb] at hq
    cases hq
  have nl : q ≠ l := fun z => by
    rw [z, w.nl] at hq
    cases hq
  obtain ⟨ns, i, c, s, h1, h2, r⟩ := w.bag
  refine ⟨?_, ?_, fun a u e => ?_, ns, i, c, s, ?_, ?_, r⟩
  · rw [upd_ne nb.symm]
    exact w.nb
  · rw [upd_ne nl.symm]
    exact w.nl
  · by_cases h : a = q
    · rw [h, upd_same] at e ⊢
      exact e
    · rw [upd_ne h] at e ⊢
      exact w.sm _ _ e
  · rw [upd_ne nb.symm]
    exact h1
  · rw [upd_ne nl.symm]
    exact h2
/-- what a def leaves that knows nothing of the bag: G' has more, new things -/
theorem Wd.grow (w : Wd b l G H) (e : Same H H') (g : Same G' H') (n : ∀ a o, G' a = some o → G a = none → H a = none) : Wd b l G' H' := by
  have key : ∀ a, G a = none → (∃ o, H a = some o) → G' a = none := fun a ha ⟨o, ho⟩ => by
    cases q : G' a with
    | none => rfl
    | some u =>
      have z := n a u q ha
      rw [ho] at z
      cases z
  exact ⟨key _ w.nb w.bag.b_some, key _ w.nl w.bag.l_some, g, w.bag.same e⟩
/-- the bag alone changes -/
theorem Wd.bagged (w : Wd b l G H) (h : BagAt b l (upd H b o)) : Wd b l G (upd H b o) := by
  refine ⟨w.nb, w.nl, fun a u e => ?_, h⟩
  rw [upd_ne (ne_of_none e w.nb)]
  exact w.sm _ _ e
end
theorem p31 : (0 : Int) < 2147483647 := by decide
theorem p8117 : (0 : Int) < 8117 := by decide
/-! ### the promises of the bag's defs -/
def spBag (K : PySem.W.Frag) : Sp := fun vs H Q _ => ∃ (a : Addr) (ns : List Int), vs = [.ref a] ∧ SqL K H a (ns.map V.int) ∧ ns.length ≤ 63 ∧ ∀ (b l : Addr) (H' : Hp), H b = none → H l = none → Same H H' → BagAt b l H' → Q (.ref b) H'
def spDraw : Sp := fun vs H Q _ => ∃ (b l : Addr) (G : Hp) (n : Int), vs = [.ref b, .int n] ∧ 0 < n ∧ n < 1073741824 ∧ Wd b l G H ∧ ∀ (r : Int) (H' : Hp), 0 ≤ r → r < n → Wd b l G H' → Q (.int r) H'
/-- the same, by what any def that draws may lean on -/
theorem wd_start {b l : Addr} {H H' : Hp} (hb : H b = none) (hl : H l = none) (e : Same H H') (h : BagAt b l H') : Wd b l H H' := ⟨hb, hl, e, h⟩
theorem get_map {ns : List Int} {i : Nat} {v : V} (h : (ns.map V.int)[i]? = some v) : ∃ z, ns[i]? = some z ∧ v = .int z := by
  rw [List.getElem?_map] at h
  cases e : ns[i]? with
  | none =>
    rw [e] at h
    cases h
  | some z =>
    rw [e] at h
    exact ⟨z, rfl, (Option.some.inj h).symm⟩
theorem at_nn {α : Type} {xs : List α} {i : Int} {v : α} (h0 : 0 ≤ i) (h : xs[i.toNat]? = some v) : atI xs i = some v := by
  have e : i = ((i.toNat : Nat) : Int) := by omega
  rw [e]
  exact atI_nat h
theorem at_lt {α : Type} {xs : List α} {i : Int} (h0 : 0 ≤ i) (h1 : i < (xs.length : Int)) : ∃ v, atI xs i = some v ∧ v ∈ xs := by
  have h : i.toNat < xs.length := by omega
  exact ⟨xs[i.toNat], at_nn h0 (List.getElem?_eq_getElem h), List.getElem_mem h⟩
end Bh

set_option Elab.async false
set_option linter.all false
set_option maxRecDepth 100000
namespace Bh
open PySem PySem.Spec PyProof.Rows L2
/-! ### one of two rules -/
section
variable {X : Cx}
theorem pe_or {e : Expr} {t u : TE} (h1 : PE X e t) (h2 : PE X e u) : PE X e (fun σ H Q => t σ H Q ∨ u σ H Q) :=
  ⟨fun pins s σ H Q I h => h.elim (h1.run pins s σ H Q I) (h2.run pins s σ H Q I)⟩
theorem pi_or {tg it : Expr} {w v : TI} (h1 : PI X tg it w) (h2 : PI X tg it v) : PI X tg it (fun σ H R => w σ H R ∨ v σ H R) :=
  ⟨fun pins s σ H R I h => h.elim (h1.run pins s σ H R I) (h2.run pins s σ H R I)⟩
/-- a list or a tuple -/
theorem pi_seq {tg l : Expr} {tl : TE} (hl : PE X l tl) : PI X tg l (fun σ H R => iList X.K tl σ H R ∨ iTup X.K tl σ H R) := pi_or (pi_list hl) (pi_tup hl)
/-- f(k = v, ..) -/
theorem pe_callN0 {CX : CXT} {k : Nat} {f : Addr} {fd : FuncData} {ps ks : List Str} {sp : Sp} {E : XK} {x : Str} {p pos : Pos} {kws : List Keyword} {tk : TA} {g : List Value → List Value → List Value} {gV : List V → List V → List V}
    (F : FnOk X.prog X.w X.K X.mg X.base CX k f fd ps sp) (hr : Room k X.A) (hg : Gl X x) (hm : X.mg x = some (.ref f)) (hk : PySem.W.keepIn X.K (.ref f) = true) (hb : KBn X.K fd ps 0 ks g gV) (hx : Passes CX X E)
    (hkw : PK X kws tk) (hall : (backToKw pos (keywordEach kws X.env)).all (·.1.isSome) = true := by rfl) (hks : (backToKw pos (keywordEach kws X.env)).filterMap (·.1) = ks := by rfl)
    (hdb : (x == ("__debug__" : Str)) = false := by decide) (hpl : ((backTo pos (starEach [] X.env)).any (·.1) || (backToKw pos (keywordEach kws X.env)).any (·.1.isNone)) = false := by rfl) :
    PE X (.Call (.Name x p) [] kws pos) (tCallN 0 ks.length sp gV E tNil tk) := by
  refine ⟨fun pins s σ H Q I h => ?_⟩
  refine wpAny_Call_Name_kw (ld_glob I hg hm ?_ hdb)
  refine PySem.W.callWith_KW0 (h₀ := X.base) I.ok.mod.kin hk hall ?_ hpl
  refine thn (hkw.run pos pins s σ H _ I h) fun ws s2 ⟨zs, H2, I2, rz, l1, l2, q2⟩ => ⟨I2.kIn, ?_⟩
  rw [hks]
  exact run_fnN (us := []) (vs := []) F hr hb hx I2 .nil rz rfl l2 q2
end
/-! ### data of any depth -/
section
variable {K : PySem.W.Frag} {H H' : Hp} {v x y : V} {xs ys : List V} {d e : PyData} {ds es : List PyData} {a : Addr}
mutual
theorem Dp.mono (g : Same H H') : ∀ {v : V} {d : PyData}, Dp K H v d → Dp K H' v d
  | _, _, .non => .non
  | _, _, .bl b => .bl b
  | _, _, .int i => .int i
  | _, _, .str x => .str x
  | _, _, .lst h all => .lst (g.seq h) (DpAll.mono g all)
  | _, _, .tup h all => .tup (Same.tup g h) (DpAll.mono g all)
theorem DpAll.mono (g : Same H H') : ∀ {vs : List V} {ds : List PyData}, DpAll K H vs ds → DpAll K H' vs ds
  | _, _, .nil => .nil
  | _, _, .cons h t => .cons (Dp.mono g h) (DpAll.mono g t)
end
theorem DpAll.length : ∀ {xs : List V} {ds : List PyData}, DpAll K H xs ds → xs.length = ds.length
  | _, _, .nil => rfl
  | _, _, .cons _ t => congrArg Nat.succ (DpAll.length t)
theorem DpAll.get : ∀ {xs : List V} {ds : List PyData} {i : Nat} {x : V}, DpAll K H xs ds → xs[i]? = some x → ∃ d, ds[i]? = some d ∧ Dp K H x d
  | _, _, _, _, .nil, e => by simp at e
  | _, _, 0, _, .cons h _, e => by
    simp at e
    subst e
    exact ⟨_, rfl, h⟩
  | _, _, i + 1, x, .cons _ t, e => by
    obtain ⟨d, h1, h2⟩ := DpAll.get (i := i) (x := x) t (by simpa using e)
    exact ⟨d, by simpa using h1, h2⟩
theorem DpAll.getD : ∀ {xs : List V} {ds : List PyData} {i : Nat} {d : PyData}, DpAll K H xs ds → ds[i]? = some d → ∃ x, xs[i]? = some x ∧ Dp K H x d
  | _, _, _, _, .nil, e => by simp at e
  | _, _, 0, _, .cons h _, e => by
    simp at e
    subst e
    exact ⟨_, rfl, h⟩
  | _, _, i + 1, x, .cons _ t, e => by
    obtain ⟨d, h1, h2⟩ := DpAll.getD (i := i) (d := x) t (by simpa using e)
    exact ⟨d, by simpa using h1, h2⟩
theorem DpAll.append : ∀ {xs ys : List V} {ds es : List PyData}, DpAll K H xs ds → DpAll K H ys es → DpAll K H (xs ++ ys) (ds ++ es)
  | _, _, _, _, .nil, k => k
  | _, _, _, _, .cons h t, k => .cons h (DpAll.append t k)
theorem DpAll.take : ∀ {xs : List V} {ds : List PyData} (n : Nat), DpAll K H xs ds → DpAll K H (xs.take n) (ds.take n)
  | _, _, 0, _ => .nil
  | _, _, _ + 1, .nil => .nil
  | _, _, n + 1, .cons h t => .cons h (DpAll.take n t)
theorem DpAll.drop : ∀ {xs : List V} {ds : List PyData} (n : Nat), DpAll K H xs ds → DpAll K H (xs.drop n) (ds.drop n)
  | _, _, 0, h => h
  | _, _, _ + 1, .nil => .nil
  | _, _, n + 1, .cons _ t => DpAll.drop n t
theorem dp_strs : ∀ {xs : List V} {zs : List Str}, DpAll K H xs (zs.map PyData.str) → xs = zs.map V.str
  | _, [], .nil => rfl
  | _, z :: zs, .cons h t => by
    cases h
    rw [dp_strs t]
    rfl
theorem strs_dp : ∀ (zs : List Str), DpAll K H (zs.map V.str) (zs.map PyData.str)
  | [] => .nil
  | z :: zs => .cons (.str z) (strs_dp zs)
theorem dp_str {z : Str} (h : Dp K H v (.str z)) : v = .str z := by
  cases h
  rfl
theorem dp_non (h : Dp K H v .none) : v = .non := by
  cases h
  rfl
theorem dp_tup (h : Dp K H v (.tuple ds)) : ∃ a xs, v = .ref a ∧ SqT K H a xs ∧ DpAll K H xs ds := by
  cases h with
  | tup h1 h2 => exact ⟨_, _, rfl, h1, h2⟩
theorem dp_lst (h : Dp K H v (.list ds)) : ∃ a xs, v = .ref a ∧ SqL K H a xs ∧ DpAll K H xs ds := by
  cases h with
  | lst h1 h2 => exact ⟨_, _, rfl, h1, h2⟩
theorem dpa_cons (h : DpAll K H xs (d :: ds)) : ∃ x r, xs = x :: r ∧ Dp K H x d ∧ DpAll K H r ds := by
  cases h with
  | cons h1 h2 => exact ⟨_, _, rfl, h1, h2⟩
theorem dpa_nil (h : DpAll K H xs []) : xs = [] := by
  cases h
  rfl
/-- a list or a tuple of these -/
def DpS (K : PySem.W.Frag) (H : Hp) (v : V) (ds : List PyData) : Prop := ∃ a xs, v = .ref a ∧ (SqL K H a xs ∨ SqT K H a xs) ∧ DpAll K H xs ds
theorem DpS.mono (g : Same H H') (h : DpS K H v ds) : DpS K H' v ds := by
  obtain ⟨a, xs, e, h1, h2⟩ := h
  exact ⟨a, xs, e, h1.imp g.seq (Same.tup g), DpAll.mono g h2⟩
theorem DpS.ofT (h : Dp K H v (.tuple ds)) : DpS K H v ds := by
  obtain ⟨a, xs, e, h1, h2⟩ := dp_tup h
  exact ⟨a, xs, e, .inr h1, h2⟩
theorem DpS.ofL (h : Dp K H v (.list ds)) : DpS K H v ds := by
  obtain ⟨a, xs, e, h1, h2⟩ := dp_lst h
  exact ⟨a, xs, e, .inl h1, h2⟩
/-- how deep data are -/
inductive Sh : Nat → PyData → Prop
  | non {n : Nat} : Sh n .none
  | bl {n : Nat} {b : Bool} : Sh n (.bool b)
  | int {n : Nat} {i : Int} : Sh n (.int i)
  | str {n : Nat} {z : Str} : Sh n (.str z)
  | lst {n : Nat} {ds : List PyData} (hl : ds.length ≤ 100000) (h : ∀ d ∈ ds, Sh n d) : Sh (n + 1) (.list ds)
  | tup {n : Nat} {ds : List PyData} (hl : ds.length ≤ 100000) (h : ∀ d ∈ ds, Sh n d) : Sh (n + 1) (.tuple ds)
theorem tyL (h : SqL K H a xs) : TyX K H (.ref a) (.type "list") := by
  rcases h with (h | ⟨o, h⟩) | ⟨o, its, n, h1, h2, _⟩
  · exact .base (.lst h)
  · exact .base (.frz h)
  · exact .kList h1 h2
theorem tyT (h : SqT K H a xs) : TyX K H (.ref a) (.type "tuple") := by
  rcases h with (h | ⟨o, h⟩) | ⟨o, its, n, h1, h2, _⟩
  · exact .base (.tup h)
  · exact .fTuple h
  · exact .kTuple h1 h2
/-- the type of data, by its name -/
def tyN : PyData → String
  | .none => "NoneType"
  | .bool _ => "bool"
  | .int _ => "int"
  | .str _ => "str"
  | .list _ => "list"
  | .tuple _ => "tuple"
  | .dict _ => "dict"
theorem tyD (h : Dp K H v d) : TyX K H v (.type (tyN d)) := by
  cases h with
  | non => exact .base .non
  | bl b => exact .base (.bl b)
  | int i => exact .base (.int i)
  | str x => exact .base (.str x)
  | lst h1 h2 => exact tyL h1
  | tup h1 h2 => exact tyT h1
end
/-! ### zip of two tuples, as a walk -/
theorem walk_zipT {K : PySem.W.Frag} {a b : Addr} {xs ys : List V} {n : Nat} (hn : n = min xs.length ys.length) : Walk (RZ.ItzT K a b) n (fun H => SqT K H a xs ∧ SqT K H b ys) (YPair (fun i => xs[i]?) (fun i => ys[i]?)) := by
  subst hn
  refine ⟨fun i _ hi q => ?_, fun _ q => ⟨xs, ys, q.1, q.2, by omega⟩, fun i H v H' _ q y => ?_⟩
  · have h1 : i < xs.length := by omega
    have h2 : i < ys.length := by omega
    exact ⟨xs, ys, xs[i], ys[i], q.1, q.2, by simp [h1], by simp [h2]⟩
  · obtain ⟨T, x, z, h1, h2, h3, h4, h5⟩ := y
    exact ⟨T, x, z, h1, h2, h3, h4 xs q.1, h5 ys q.2⟩
end Bh
namespace Bh
open PySem PySem.Spec PyProof.Rows L2
theorem iteN {p A B : Prop} [Decidable p] (h : ¬ p) (b : B) : if decide p = true then A else B := by
  rw [decide_eq_false h]
  exact iteF b
theorem iteY {p A B : Prop} [Decidable p] (h : p) (a : A) : if decide p = true then A else B := by
  rw [decide_eq_true h]
  exact iteT a
theorem ite3 {p A B : Prop} [Decidable p] (h1 : p → A) (h2 : ¬ p → B) : if decide p = true then A else B := by
  by_cases h : p
  · exact iteY h (h1 h)
  · exact iteN h (h2 h)
/-- the promise of the laws' comparison: both sides are the same data (n: how deep, one more) -/
def spLk (K : PySem.W.Frag) : Nat → Sp
  | 0 => fun _ _ _ _ => False
  | n + 1 => fun vs H Q _ => ∃ (x y : V) (d : PyData), vs = [x, y] ∧ Dp K H x d ∧ Dp K H y d ∧ Sh n d ∧ ∀ H', Same H H' → Q (.bl true) H'
theorem bls_true (n : Nat) : (List.replicate n true).all id = true := by
  induction n with
  | zero => rfl
  | succ n ih => rw [List.replicate_succ, List.all_cons, ih]; rfl
end Bh

set_option Elab.async false
set_option linter.all false
set_option maxRecDepth 100000
namespace Bh
open PySem PySem.Spec PyProof.Rows L2
/-! ### the rules that lean on the written part, told over a named one -/
def rLenS (K : PySem.W.Frag) : List V → Hp → VK → Prop := fun xs H Q => ∃ p ys, xs = [.ref p] ∧ (SqL K H p ys ∨ SqT K H p ys) ∧ Q (.int ys.length) H
def rListOf (K : PySem.W.Frag) : List V → Hp → VK → Prop := fun xs H Q => ∃ p ys, xs = [.ref p] ∧ (SqL K H p ys ∨ SqT K H p ys) ∧ ∀ l, H l = none → Q (.ref l) (upd H l (.lst ys))
def rTupOf (K : PySem.W.Frag) : List V → Hp → VK → Prop := fun xs H Q => ∃ p ys, xs = [.ref p] ∧ ((SqL K H p ys ∧ ∀ l, H l = none → Q (.ref l) (upd H l (.tup ys))) ∨ (SqT K H p ys ∧ Q (.ref p) H))
def rTupIx (K : PySem.W.Frag) : V → List V → Hp → VK → Prop := fun x xs H Q => ∃ p, ∃ ys : List Str, ∃ z j, x = .ref p ∧ xs = [.str z] ∧ SqT K H p (ys.map V.str) ∧ ys[j]? = some z ∧ (∀ m, m < j → ys[m]? ≠ some z) ∧ Q (.int (j : Nat)) H
def rJoin (K : PySem.W.Frag) : V → List V → Hp → VK → Prop := fun x xs H Q => ∃ a p, ∃ ys : List Str, x = .str a ∧ xs = [.ref p] ∧ (SqL K H p (ys.map V.str) ∨ SqT K H p (ys.map V.str)) ∧ (ys.map (·.length)).sum + ys.length * a.length ≤ 16777216 ∧ Q (.str (Txt.join a ys)) H
def iSeq (K : PySem.W.Frag) (tl : TE) : TI := fun σ H R => iList K tl σ H R ∨ iTup K tl σ H R
section
variable {X : Cx} {K : PySem.W.Frag} (hK : X.K = K)
include hK
theorem pg_tup_K {es : List Expr} {k : Nat} {t : TGs} {n : Nat} {pos : Pos} (hc : X.calm = true) (h : PGs X es t) (hn : (assignEach es X.env).length = n := by rfl) (hst : (assignEach es X.env).findIdx? (·.1) = none := by rfl) : PG X (.Tuple es k pos) (gTup K n t) := by
  subst hK
  exact pg_tup hc h hn hst
theorem pi_list_K {tg l : Expr} {tl : TE} (hl : PE X l tl) : PI X tg l (iList K tl) := by subst hK; exact pi_list hl
theorem pi_tup_K {tg l : Expr} {tl : TE} (hl : PE X l tl) : PI X tg l (iTup K tl) := by subst hK; exact pi_tup hl
theorem pi_seq_K {tg l : Expr} {tl : TE} (hl : PE X l tl) : PI X tg l (iSeq K tl) := by subst hK; exact pi_seq hl
theorem pi_zipA_K {e e2 : Expr} {ta : TA} {p pos tpos : Pos} {elts : List Expr} {kk : Nat} (hg : Gl X "zip") (hm : X.mg "zip" = none) (ha : PA X [e, e2] ta)
    (hs : starEach [e, e2] X.env = (false, eval e X.env) :: starEach [e2] X.env := by rfl) (hpl : (backTo pos (starEach [e2] X.env)).any (·.1) = false := by rfl) :
    PI X (.Tuple elts kk tpos) (.Call (.Name "zip" p) [e, e2] [] pos) (RZ.iZipA K ta) := by subst hK; exact RZ.pi_zipA hg hm ha hs hpl
theorem call_len_seq_K : CallR X (.builtin "len") (rLenS K) := by subst hK; exact call_len_seq
theorem call_list_of_K : CallR X (.type "list") (rListOf K) := by subst hK; exact call_list_of
theorem call_tuple_of_K : CallR X (.type "tuple") (rTupOf K) := by subst hK; exact call_tuple_of
theorem ix_list_K : IxR X (rIxL K) := by subst hK; exact ix_list
theorem ix_tup_K : IxR X (rIxT K) := by subst hK; exact ix_tup
theorem ix_seq_K : IxR X (rIx K) := by subst hK; exact ix_seq
theorem sl_list_K : SlR X (rSlL K) := by subst hK; exact sl_list
theorem sl_tupA_K : SlR X (rSlA K) := by subst hK; exact sl_tupA
theorem cr_all_K (hc : X.calm = true) : CallR X (.builtin "all") (rAll K) := by subst hK; exact cr_all hc
theorem cr_any_K (hc : X.calm = true) : CallR X (.builtin "any") (rAny K) := by subst hK; exact cr_any hc
theorem op_in_seq_K : OpR X (compareOp .In) (rIn K false) := by subst hK; exact op_in_seq
theorem op_notIn_seq_K : OpR X (compareOp .NotIn) (rIn K true) := by subst hK; exact op_notIn_seq
theorem op_catA_K : OpR X (binaryOp .Add) (rCatA K) := by subst hK; exact op_catA
theorem op_repT_K : OpR X (binaryOp .Mult) (rRepT K) := by subst hK; exact op_repT
theorem mt_index_K : MtR X "list.index" (rIndex K) := by subst hK; exact mt_index
theorem mt_tup_index_K : MtR X "tuple.index" (rTupIx K) := by subst hK; exact mt_tup_index
theorem mt_join_K : MtR X "str.join" (rJoin K) := by subst hK; exact mt_join
theorem call_isi_K : CallR X (.builtin "isinstance") (rIsi K) := by subst hK; exact call_isi
theorem call_isiT_K : CallR X (.builtin "isinstance") (rIsiT K) := by subst hK; exact call_isiT
theorem op_eqD_K (hu : X.A.units + 64 < cLine) : OpR X (compareOp .Eq) (rEqD K) := by subst hK; exact op_eqD hu
theorem op_neD_K (hu : X.A.units + 64 < cLine) : OpR X (compareOp .NotEq) (rNeD K) := by subst hK; exact op_neD hu
theorem pe_bm_K {o e : Expr} {es : List Expr} {to : TE} {t : TA} {name : Str} {apos cpos : Pos} {T id : String} {r : V → List V → Hp → VK → Prop}
    (pa : PlainAttrs T) (slot : Slot T name id) (hty : typeOf (.builtin id) = pure (.type "method_descriptor")) (hm : MtR X id r) (ho : PE X o to) (ha : PA X (e :: es) t)
    (hbase : attributeBase o name X.env (eval o X.env) = eval o X.env := by rfl)
    (hfew : ((backTo cpos (starEach (e :: es) X.env)).all (fun x => !x.1) && (backToKw cpos (keywordEach [] X.env)).all (fun x => x.1.isSome)
      && decide ((e :: es).length + ([] : List Keyword).length + (if ([] : List Keyword).isEmpty then 0 else 1) < 30)) = true := by rfl)
    (hline : (apos.endLine == cpos.line) = true := by rfl) (hs : starEach (e :: es) X.env = (false, eval e X.env) :: starEach es X.env := by rfl) (hplain : (backTo cpos (starEach es X.env)).any (·.1) = false := by rfl) :
    PE X (.Call (.Attribute o name apos) (e :: es) [] cpos) (tBM K T r to t) := by subst hK; exact pe_bm pa slot hty hm ho ha hbase hfew hline hs hplain
end
section
variable {X : Cx} {K : PySem.W.Frag} {o e : Expr} {to te : TE}
theorem pe_join_K (hK : X.K = K) {apos pos : Pos} (ho : PE X o to) (he : PE X e te) (hs : starEach [e] X.env = [(false, eval e X.env)] := by rfl) (hbase : attributeBase o "join" X.env (eval o X.env) = eval o X.env := by rfl) (hline : (apos.endLine == pos.line) = true := by rfl) :
    PE X (.Call (.Attribute o "join" apos) [e] [] pos) (tM1 (rJoin K) to te) := pe_m1 PySem.F.slot_str_join PySem.F.type_str_join (mt_join_K hK) ho he hs hbase hline
end
end Bh
namespace Bh
open PySem PySem.Spec PyProof.Rows L2
theorem q_eq {x : V} {Q : VK} {H : Hp} (h : Q (.bl true) H) : Q (.bl (decide (x = x))) H := by
  rw [decide_eq_true rfl]
  exact h
theorem dpa_at {K : PySem.W.Frag} {H : Hp} {xs ys : List V} {ds : List PyData} {i : Nat} {x y : V} (hx : DpAll K H xs ds) (hy : DpAll K H ys ds) (ex : xs[i]? = some x) (ey : ys[i]? = some y) : ∃ d ∈ ds, Dp K H x d ∧ Dp K H y d := by
  obtain ⟨d, h1, h2⟩ := DpAll.get hx ex
  obtain ⟨e, h3, h4⟩ := DpAll.get hy ey
  rw [h1] at h3
  cases h3
  exact ⟨d, List.mem_of_getElem? h1, h2, h4⟩
theorem rep_snoc (n : Nat) (v : V) : List.replicate n v ++ [v] = List.replicate (n + 1) v := List.replicate_succ'.symm
theorem lt_line {n : Nat} (h : n ≤ 100000) : n < sizeLine := Nat.lt_of_le_of_lt h (by decide)
theorem le_line {n : Nat} (h : n ≤ 100000) : n ≤ sizeLine := Nat.le_of_lt (lt_line h)
end Bh
namespace Bh
open PySem PySem.Spec PyProof.Rows L2
/-! ### tuples without a dict of their own: their methods -/
def SqP (K : PySem.W.Frag) (H : Hp) (a : Addr) (xs : List V) : Prop := (∃ o : Obj, H a = some (.frz o (.tup xs)) ∧ o.dict = none) ∨
  ∃ (o : Obj) (its : Array Value) (n : Nat), K.lookup a = some o ∧ o.cls = .type "tuple" ∧ o.dict = none ∧ o.data = .seq its n ∧ its.size ≤ sizeLine ∧ Vals xs its.toList
section
variable {K : PySem.W.Frag} {H H' : Hp} {a : Addr} {xs : List V}
theorem SqP.sqT (h : SqP K H a xs) : SqT K H a xs := by
  rcases h with ⟨o, h, _⟩ | ⟨o, its, n, h1, h2, _, h3, h4, h5⟩
  · exact .inl (.inr ⟨o, h⟩)
  · exact .inr ⟨o, its, n, h1, h2, h3, h4, h5⟩
theorem SqP.mono (e : Same H H') (h : SqP K H a xs) : SqP K H' a xs := by
  rcases h with ⟨o, h, h2⟩ | h
  · exact .inl ⟨o, e _ _ h, h2⟩
  · exact .inr h
theorem SqP.new {o : Obj} (h : o.dict = none) : SqP K (upd H a (.frz o (.tup xs))) a xs := .inl ⟨o, upd_same, h⟩
end
def rTupOfP (K : PySem.W.Frag) : List V → Hp → VK → Prop := fun xs H Q => ∃ p ys, xs = [.ref p] ∧ ((SqL K H p ys ∧ ∀ (l : Addr) (o : Obj), H l = none → o.dict = none → Q (.ref l) (upd H l (.frz o (.tup ys)))) ∨ (SqT K H p ys ∧ Q (.ref p) H))
section
variable {X : Cx} {K : PySem.W.Frag}
theorem call_tuple_of_P (hK : X.K = K) : CallR X (.type "tuple") (rTupOfP K) := by
  subst hK
  intro pins s σ H xs us Q I r h
  obtain ⟨p, ys, rfl, h⟩ := h
  obtain ⟨u, rfl, rx⟩ := vals1 r
  cases rx
  rcases h with ⟨hq, q⟩ | ⟨hq, q⟩
  · obtain ⟨its, r', pl, hz⟩ := I.list hq
    have hlen := r'.length
    refine call_tuple_list pl.isList (fun h' kp => ?_) (by simp only [List.size_toArray] <;> omega)
    have I1 : Inv X pins σ H { s with heap := h' } := I.kept (t' := s.toks) kp
    have I2 : Inv X pins σ (upd H h'.objs.size (.frz { cls := .type "tuple", data := .seq its.toArray } (.tup ys))) { s with heap := h'.push { cls := .type "tuple", data := .seq its.toArray } } :=
      I1.laid (t' := s.toks) (fun b o e => Heap.get?_push_of_some _ e) (Nat.le_refl _) (show ObjOk X.prog X.w _ _ _ (.frz { cls := .type "tuple", data := .seq its.toArray } (.tup ys)) from ⟨Heap.get?_push_size _ rfl, hz, its, r', IsTup.new _ _⟩)
    exact ⟨.ref h'.objs.size, _, I2, rfl, q _ _ (I1.hok.fresh (Nat.le_refl _)) rfl⟩
  · obtain ⟨its, r', pl, hz⟩ := I.tuple hq
    exact call_tuple_same pl ⟨.ref p, H, I, rfl, q⟩
def tBMP (K : PySem.W.Frag) (r : V → List V → Hp → VK → Prop) (to : TE) (t : TA) : TE := fun σ H Q => to σ H fun x H1 => (∃ a xs, x = .ref a ∧ SqP K H1 a xs) ∧ t σ H1 fun xs H2 => r x xs H2 Q
theorem pe_bm_P (hK : X.K = K) {o e : Expr} {es : List Expr} {to : TE} {t : TA} {name : Str} {apos cpos : Pos} {id : String} {r : V → List V → Hp → VK → Prop}
    (pa : PlainAttrs "tuple") (slot : Slot "tuple" name id) (hty : typeOf (.builtin id) = pure (.type "method_descriptor")) (hm : MtR X id r) (ho : PE X o to) (ha : PA X (e :: es) t)
    (hbase : attributeBase o name X.env (eval o X.env) = eval o X.env := by rfl)
    (hfew : ((backTo cpos (starEach (e :: es) X.env)).all (fun x => !x.1) && (backToKw cpos (keywordEach [] X.env)).all (fun x => x.1.isSome)
      && decide ((e :: es).length + ([] : List Keyword).length + (if ([] : List Keyword).isEmpty then 0 else 1) < 30)) = true := by rfl)
    (hline : (apos.endLine == cpos.line) = true := by rfl) (hs : starEach (e :: es) X.env = (false, eval e X.env) :: starEach es X.env := by rfl) (hplain : (backTo cpos (starEach es X.env)).any (·.1) = false := by rfl) :
    PE X (.Call (.Attribute o name apos) (e :: es) [] cpos) (tBMP K r to t) := by
  subst hK
  refine ⟨fun pins s σ H Q I h => ?_⟩
  refine wpAny_Call_method_late hbase hfew hline rfl (thn (ho.run pins s σ H _ I h) fun v s1 ⟨x, H1, I1, r1, ty, q1⟩ => ?_)
  have hty2 : s1.TypeIs v "tuple" ∧ ∀ a, v = .ref a → ∃ ob, s1.heap.get? a = some ob ∧ ob.dict = none := by
    obtain ⟨a, xs, rfl, hP⟩ := ty
    cases r1
    obtain ⟨its, _, pl, _⟩ := I1.tuple hP.sqT
    refine ⟨pl.typeIs, fun b e => ?_⟩
    cases e
    rcases hP with ⟨ob, hb, hd⟩ | ⟨ob, its, n, hk, hc, hd, _⟩
    · exact ⟨ob, (I1.hok a _ hb).1, hd⟩
    · exact ⟨ob, I1.kIn a ob hk, hd⟩
  obtain ⟨h1, h2⟩ := hty2
  refine ⟨"tuple", id, pa, slot, hty, h1, h2, ?_⟩
  have hA := ha.run cpos pins s1 σ H1 _ I1 q1
  rw [hs] at hA ⊢
  refine Calls.callWith_builtin (by show (false || (backTo cpos (starEach es X.env)).any (·.1)) = false; rw [hplain] <;> rfl) (Calls.evalArgs_plain ?_)
  exact thn hA fun us s2 ⟨vs, H2, I2, r2, q2⟩ => hm pins s2 σ H2 x vs v us Q I2 r1 r2 q2
end
end Bh
namespace Bh
open PySem PySem.Spec PyProof.Rows L2
/-! ### == and != of data of any texts -/
mutual
theorem Dp.plain {K : PySem.W.Frag} {H : Hp} : ∀ {v : V} {d : PyData}, Dp K H v d → d.plain = true
  | _, _, .non => rfl
  | _, _, .bl _ => rfl
  | _, _, .int _ => rfl
  | _, _, .str _ => rfl
  | _, _, .lst _ all => DpAll.plain all
  | _, _, .tup _ all => DpAll.plain all
theorem DpAll.plain {K : PySem.W.Frag} {H : Hp} : ∀ {vs : List V} {ds : List PyData}, DpAll K H vs ds → PyData.plainAll ds = true
  | _, _, .nil => rfl
  | _, _, .cons h t => by
    show (_ && _) = true
    rw [Dp.plain h, DpAll.plain t]
    rfl
end
def rEqP (K : PySem.W.Frag) : R2 := fun x y H Q => ∃ d e, Dp K H x d ∧ Dp K H y e ∧ min d.depth e.depth ≤ 64 ∧ Q (.bl (PyData.eqv d e)) H
def rNeP (K : PySem.W.Frag) : R2 := fun x y H Q => ∃ d e, Dp K H x d ∧ Dp K H y e ∧ min d.depth e.depth ≤ 64 ∧ Q (.bl (!PyData.eqv d e)) H
section
variable {X : Cx} {K : PySem.W.Frag}
theorem op_eqP (hK : X.K = K) (hu : X.A.units + 64 < cLine) : OpR X (compareOp .Eq) (rEqP K) := by
  subst hK
  intro pins s σ H x y v u Q I rx ry h
  obtain ⟨d, e, hd, he, hz, q⟩ := h
  obtain ⟨as, r1⟩ := Dp.reads I d x v hd rx
  obtain ⟨bs, r2⟩ := Dp.reads I e y u he ry
  exact SeqAt.eq_plain r1 r2 (Dp.plain hd) (Dp.plain he) (by omega) ⟨.bl _, H, I, rfl, q⟩
theorem op_neP (hK : X.K = K) (hu : X.A.units + 64 < cLine) : OpR X (compareOp .NotEq) (rNeP K) := by
  subst hK
  intro pins s σ H x y v u Q I rx ry h
  obtain ⟨d, e, hd, he, hz, q⟩ := h
  obtain ⟨as, r1⟩ := Dp.reads I d x v hd rx
  obtain ⟨bs, r2⟩ := Dp.reads I e y u he ry
  exact SeqAt.ne_plain r1 r2 (Dp.plain hd) (Dp.plain he) (by omega) ⟨.bl _, H, I, rfl, q⟩
end
theorem depth_all {n : Nat} : ∀ {ds : List PyData}, (∀ d ∈ ds, d.depth ≤ n) → PyData.depthAll ds ≤ n
  | [], _ => Nat.zero_le _
  | d :: ds, h => Nat.max_le.mpr ⟨h d (List.mem_cons_self ..), depth_all fun e he => h e (List.mem_cons_of_mem _ he)⟩
theorem Sh.depth {n : Nat} {d : PyData} (h : Sh n d) : d.depth ≤ n := by
  induction h with
  | non => exact Nat.zero_le _
  | bl => exact Nat.zero_le _
  | int => exact Nat.zero_le _
  | str => exact Nat.zero_le _
  | lst _ _ ih => exact Nat.succ_le_succ (depth_all ih)
  | tup _ _ ih => exact Nat.succ_le_succ (depth_all ih)
end Bh
namespace Bh
open PySem PySem.Spec PyProof.Rows L2
theorem seq_mono {K : PySem.W.Frag} {H H' : Hp} {a : Addr} {xs : List V} (e : Same H H') (h : SqL K H a xs ∨ SqT K H a xs) : SqL K H' a xs ∨ SqT K H' a xs := h.imp e.seq (Same.tup e)
/-- a new thing, changed since -/
theorem same_mut {H H' : Hp} {p : Addr} {o : HO} (e : Same H H') (h : H p = none) : Same H (upd H' p o) := fun b u k => by
  rw [upd_ne (ne_of_none k h)]
  exact e _ _ k
theorem Wd.sameH {b l : Addr} {G H : Hp} (w : Wd b l G H) : Same G H := w.sm
end Bh
namespace Bh
open PySem PySem.Spec PyProof.Rows L2
/-! ### a heap without one address -/
def hid (p : Addr) (G : Hp) : Hp := fun a => if a = p then none else G a
section
variable {p q : Addr} {G G' : Hp} {o : HO}
theorem hid_ne (h : q ≠ p) : hid p G q = G q := if_neg h
theorem hid_le : Same (hid p G) G := fun a u e => by
  by_cases h : a = p
  · rw [h] at e
    unfold hid at e
    rw [if_pos rfl] at e
    cases e
  · rw [hid_ne h] at e
    exact e
theorem hid_same (e : Same G G') : Same (hid p G) (hid p G') := fun a u k => by
  by_cases h : a = p
  · rw [h] at k
    unfold hid at k
    rw [if_pos rfl] at k
    cases k
  · rw [hid_ne h] at k ⊢
    exact e _ _ k
theorem hid_upd : hid p (upd G p o) = hid p G := by
  funext a
  by_cases h : a = p
  · unfold hid
    rw [if_pos h, if_pos h]
  · rw [hid_ne h, hid_ne h, upd_ne h]
theorem hid_of (e : Same G G') (h : G p = none) : Same G (hid p G') := fun a u k => by
  rw [hid_ne (ne_of_none k h)]
  exact e _ _ k
theorem hid_comm : hid p (hid q G) = hid q (hid p G) := by
  funext a
  unfold hid
  split <;> split <;> rfl
end
end Bh
namespace Bh
open PySem PySem.Spec PyProof.Rows L2
/-! ### what is no list stays where lists alone change -/
def Imm (H H' : Hp) : Prop := ∀ a u, H a = some u → (∀ xs, u ≠ .lst xs) → H' a = some u
section
variable {H H' H1 : Hp} {a p : Addr} {o : HO} {xs ys : List V} {K : PySem.W.Frag}
theorem Same.imm (e : Same H H') : Imm H H' := fun a u h _ => e a u h
theorem Imm.trans (e : Imm H H1) (f : Imm H1 H') : Imm H H' := fun a u h n => f a u (e a u h n) n
theorem imm_upd (h : H p = some (.lst ys)) : Imm H (upd H p o) := fun a u e n => by
  rw [upd_ne (fun z => by rw [z, h] at e; exact n _ (Option.some.inj e).symm)]
  exact e
theorem Imm.tup (e : Imm H H') (h : SqT K H a xs) : SqT K H' a xs := by
  rcases h with (h | ⟨o, h⟩) | h
  · exact .inl (.inl (e _ _ h (fun _ z => by cases z)))
  · exact .inl (.inr ⟨o, e _ _ h (fun _ z => by cases z)⟩)
  · exact .inr h
theorem Imm.sqp (e : Imm H H') (h : SqP K H a xs) : SqP K H' a xs := by
  rcases h with ⟨o, h, d⟩ | h
  · exact .inl ⟨o, e _ _ h (fun _ z => by cases z), d⟩
  · exact .inr h
end
mutual
def noL : PyData → Bool
  | .none | .bool _ | .int _ | .str _ => true
  | .tuple xs => noLs xs
  | .list _ | .dict _ => false
def noLs : List PyData → Bool
  | [] => true
  | d :: ds => noL d && noLs ds
end
mutual
theorem Dp.imm {K : PySem.W.Frag} {H H' : Hp} (e : Imm H H') : ∀ {v : V} {d : PyData}, noL d = true → Dp K H v d → Dp K H' v d
  | _, _, _, .non => .non
  | _, _, _, .bl b => .bl b
  | _, _, _, .int i => .int i
  | _, _, _, .str x => .str x
  | _, _, n, .lst _ _ => nomatch n
  | _, _, n, .tup h all => .tup (e.tup h) (DpAll.imm e n all)
theorem DpAll.imm {K : PySem.W.Frag} {H H' : Hp} (e : Imm H H') : ∀ {vs : List V} {ds : List PyData}, noLs ds = true → DpAll K H vs ds → DpAll K H' vs ds
  | _, _, _, .nil => .nil
  | _, _, n, .cons h t => .cons (Dp.imm e (Bool.and_eq_true_iff.mp n).1 h) (DpAll.imm e (Bool.and_eq_true_iff.mp n).2 t)
end
theorem noLs_map {α : Type} {f : α → PyData} (h : ∀ x, noL (f x) = true) : ∀ l : List α, noLs (l.map f) = true
  | [] => rfl
  | x :: l => by
    show (noL (f x) && noLs (l.map f)) = true
    rw [h x, noLs_map h l]
    rfl
end Bh

set_option Elab.async false
set_option linter.all false
set_option maxRecDepth 100000
namespace Bh
open PySem PySem.Spec PyProof.Rows L2
/-! ### the mirror of programs applied -/
def ix : List Str → Str → Nat
  | [], _ => 0
  | y :: r, x => if y = x then 0 else ix r x + 1
theorem ix_get : ∀ {l : List Str} {x : Str}, x ∈ l → l[ix l x]? = some x
  | y :: r, x, h => by
    unfold ix
    by_cases e : y = x
    · rw [if_pos e, e]
      rfl
    · rw [if_neg e]
      rcases List.mem_cons.mp h with z | z
      · exact absurd z.symm e
      · simpa using ix_get z
theorem ix_first : ∀ {l : List Str} {x : Str} {m : Nat}, m < ix l x → l[m]? ≠ some x
  | [], _, _, h => absurd h (Nat.not_lt_zero _)
  | y :: r, x, m, h => by
    unfold ix at h
    by_cases e : y = x
    · rw [if_pos e] at h
      exact absurd h (Nat.not_lt_zero _)
    · rw [if_neg e] at h
      cases m with
      | zero =>
        intro z
        exact e (Option.some.inj z)
      | succ m =>
        have q := ix_first (l := r) (x := x) (m := m) (by omega)
        simpa using q
theorem ix_lt {l : List Str} {x : Str} (h : x ∈ l) : ix l x < l.length := (List.getElem?_eq_some_iff.mp (ix_get h)).1
/-- the place of an item of different ones -/
theorem ix_at : ∀ {l : List Str} {i : Nat} {x : Str}, l.Nodup → l[i]? = some x → ix l x = i
  | [], _, _, _, h => by simp at h
  | y :: r, 0, x, _, h => by
    have e : y = x := Option.some.inj h
    unfold ix
    rw [if_pos e]
  | y :: r, i + 1, x, nd, h => by
    have hr : r[i]? = some x := by simpa using h
    have hm : x ∈ r := List.mem_of_getElem? hr
    have nd' := List.nodup_cons.mp nd
    have ne : ¬ y = x := fun z => nd'.1 (z ▸ hm)
    unfold ix
    rw [if_neg ne, ix_at nd'.2 hr]
theorem flat_strs (l : List Str) : (l.map V.str).all flatV = true := by
  rw [List.all_map]
  exact List.all_eq_true.mpr fun _ _ => rfl
theorem eqV_str {a b : Str} : eqV (.str a) (.str b) = decide (a = b) := rfl
theorem ixs_at {l : List Str} {x : Str} (h : x ∈ l) : (l.map V.str)[ix l x]? = some (.str x) := by
  rw [List.getElem?_map, ix_get h]
  rfl
theorem ixs_no {l : List Str} {x : Str} : ∀ (m : Nat) (z : V), m < ix l x → (l.map V.str)[m]? = some z → eqV z (.str x) = false := fun m z hm hz => by
  rw [List.getElem?_map] at hz
  cases e : l[m]? with
  | none =>
    rw [e] at hz
    cases hz
  | some y =>
    rw [e] at hz
    cases hz
    rw [eqV_str]
    refine decide_eq_false fun q => ix_first hm ?_
    rw [e, q]
abbrev Fld := Str × List Str
abbrev Tst := Str × Str × Str
abbrev Stp := Str × Str
abbrev Cas := List Tst × Option (List Stp)
def posOf (fs : List Fld) (x : Str) : Nat := ix (fs.map (·.1)) x
def optsOf (fs : List Fld) (x : Str) : List Str := ((fs[posOf fs x]?).map (·.2)).getD []
def nextO (os : List Str) (o : Str) : Str := os.getD (min (ix os o + 1) (os.length - 1)) o
def holdsT (fs : List Fld) (v : List Str) (t : Tst) : Bool :=
  if t.2.1 = "=" then decide (ix (optsOf fs t.1) (v.getD (posOf fs t.1) Str.empty) = ix (optsOf fs t.1) t.2.2)
  else if t.2.1 = "!" then !decide (ix (optsOf fs t.1) (v.getD (posOf fs t.1) Str.empty) = ix (optsOf fs t.1) t.2.2)
  else if t.2.1 = "<" then decide (ix (optsOf fs t.1) (v.getD (posOf fs t.1) Str.empty) < ix (optsOf fs t.1) t.2.2)
  else decide (ix (optsOf fs t.1) t.2.2 < ix (optsOf fs t.1) (v.getD (posOf fs t.1) Str.empty))
def stepO (fs : List Fld) (v : List Str) (s : Stp) : List Str :=
  v.set (posOf fs s.1) (if s.2 = "+" then nextO (optsOf fs s.1) (v.getD (posOf fs s.1) Str.empty) else s.2)
def stepped (fs : List Fld) (ss : List Stp) (v : List Str) : List Str := ss.foldl (stepO fs) v
def applyP (fs : List Fld) : List Cas → List Str → Option (List Str)
  | [], _ => none
  | c :: r, v => if c.1.all (holdsT fs v) = true then c.2.map (fun ss => stepped fs ss v) else applyP fs r v
def applyH (fs : List Fld) (p : List Cas) : Option (List Str) → Option (List Str)
  | none => none
  | some v => applyP fs p v
/-! what fits -/
def FitV (fs : List Fld) (v : List Str) : Prop := v.length = fs.length ∧ ∀ (i : Nat) (f : Fld) (o : Str), fs[i]? = some f → v[i]? = some o → o ∈ f.2
def FitT (fs : List Fld) (t : Tst) : Prop := t.1 ∈ fs.map (·.1) ∧ t.2.2 ∈ optsOf fs t.1
def FitS (fs : List Fld) (s : Stp) : Prop := s.1 ∈ fs.map (·.1) ∧ (s.2 ≠ "+" → s.2 ∈ optsOf fs s.1)
structure FitC (fs : List Fld) (c : Cas) : Prop where
  t : ∀ t ∈ c.1, FitT fs t
  s : ∀ ss, c.2 = some ss → ∀ s ∈ ss, FitS fs s
  lt : c.1.length ≤ 1000
  ls : ∀ ss, c.2 = some ss → ss.length ≤ 1000
theorem pos_at {fs : List Fld} {x : Str} (h : x ∈ fs.map (·.1)) : ∃ f, fs[posOf fs x]? = some f ∧ f.1 = x ∧ f.2 = optsOf fs x := by
  have q := ix_get h
  rw [List.getElem?_map] at q
  unfold optsOf
  show ∃ f, fs[posOf fs x]? = some f ∧ _
  have q' : (fs[posOf fs x]?).map (·.1) = some x := q
  cases e : fs[posOf fs x]? with
  | none =>
    rw [e] at q'
    cases q'
  | some f =>
    rw [e] at q'
    exact ⟨f, rfl, Option.some.inj q', rfl⟩
theorem fit_at {fs : List Fld} {v : List Str} {x : Str} (hv : FitV fs v) (h : x ∈ fs.map (·.1)) : ∃ o, v[posOf fs x]? = some o ∧ o ∈ optsOf fs x ∧ v.getD (posOf fs x) Str.empty = o := by
  obtain ⟨f, h1, h2, h3⟩ := pos_at h
  have hl : posOf fs x < v.length := by
    rw [hv.1]
    exact (List.getElem?_eq_some_iff.mp h1).1
  refine ⟨v[posOf fs x], List.getElem?_eq_getElem hl, ?_, ?_⟩
  · rw [← h3]
    exact hv.2 _ _ _ h1 (List.getElem?_eq_getElem hl)
  · rw [List.getD_eq_getElem?_getD, List.getElem?_eq_getElem hl]
    rfl
theorem next_mem {os : List Str} {o : Str} (h : o ∈ os) : os[min (ix os o + 1) (os.length - 1)]? = some (nextO os o) ∧ nextO os o ∈ os := by
  have hl := ix_lt h
  have hm : min (ix os o + 1) (os.length - 1) < os.length := by omega
  have e : os[min (ix os o + 1) (os.length - 1)]? = some (nextO os o) := by
    unfold nextO
    rw [List.getD_eq_getElem?_getD, List.getElem?_eq_getElem hm]
    rfl
  exact ⟨e, List.mem_of_getElem? e⟩
theorem step_fit {fs : List Fld} {v : List Str} {s : Stp} (hv : FitV fs v) (hs : FitS fs s) : FitV fs (stepO fs v s) := by
  refine ⟨by unfold stepO; rw [List.length_set]; exact hv.1, fun i f o hf ho => ?_⟩
  unfold stepO at ho
  obtain ⟨f', h1, h2, h3⟩ := pos_at hs.1
  obtain ⟨o', g1, g2, g3⟩ := fit_at hv hs.1
  rw [List.getElem?_set] at ho
  by_cases e : posOf fs s.1 = i
  · rw [if_pos e] at ho
    have hl : i < v.length := by
      rw [hv.1]
      exact (List.getElem?_eq_some_iff.mp hf).1
    rw [if_pos (e ▸ hl)] at ho
    have ho' := Option.some.inj ho
    rw [e, hf] at h1
    cases h1
    rw [← ho', h3]
    by_cases z : s.2 = "+"
    · rw [if_pos z, g3]
      exact (next_mem g2).2
    · rw [if_neg z]
      exact hs.2 z
  · rw [if_neg e] at ho
    exact hv.2 i f o hf ho
theorem stepped_fit {fs : List Fld} : ∀ {ss : List Stp} {v : List Str}, (∀ s ∈ ss, FitS fs s) → FitV fs v → FitV fs (stepped fs ss v)
  | [], _, _, hv => hv
  | s :: ss, v, h, hv => stepped_fit (ss := ss) (v := stepO fs v s) (fun s' hs' => h s' (List.mem_cons_of_mem _ hs')) (step_fit hv (h s (List.mem_cons_self ..)))
theorem stepped_take {fs : List Fld} {ss : List Stp} {v : List Str} {i : Nat} {s : Stp} (h : ss[i]? = some s) : stepped fs (ss.take (i + 1)) v = stepO fs (stepped fs (ss.take i) v) s := by
  unfold stepped
  rw [List.take_add_one, h, List.foldl_append]
  rfl
/-! as data -/
def dF (f : Fld) : PyData := .tuple [.str f.1, .tuple (f.2.map PyData.str)]
def dT (t : Tst) : PyData := .tuple [.str t.1, .str t.2.1, .str t.2.2]
def dS (s : Stp) : PyData := .tuple [.str s.1, .str s.2]
def dO : Option (List Stp) → PyData
  | none => .none
  | some ss => .tuple (ss.map dS)
def dC (c : Cas) : PyData := .tuple [.tuple (c.1.map dT), dO c.2]
def dV (v : List Str) : PyData := .tuple (v.map PyData.str)
def dH : Option (List Str) → PyData
  | none => .none
  | some v => dV v
section
variable {K : PySem.W.Frag} {H : Hp} {v : V}
theorem dp_dF {f : Fld} (h : Dp K H v (dF f)) : ∃ a o, v = .ref a ∧ SqT K H a [.str f.1, .ref o] ∧ SqT K H o (f.2.map V.str) := by
  obtain ⟨a, xs, rfl, h1, h2⟩ := dp_tup h
  obtain ⟨x, r, rfl, k1, k2⟩ := dpa_cons h2
  obtain ⟨y, r', rfl, k3, k4⟩ := dpa_cons k2
  cases dpa_nil k4
  cases dp_str k1
  obtain ⟨o, ys, rfl, m1, m2⟩ := dp_tup k3
  rw [dp_strs m2] at m1
  exact ⟨a, o, rfl, h1, m1⟩
theorem dp_dT {t : Tst} (h : Dp K H v (dT t)) : ∃ a, v = .ref a ∧ SqT K H a [.str t.1, .str t.2.1, .str t.2.2] := by
  obtain ⟨a, xs, rfl, h1, h2⟩ := dp_tup h
  obtain ⟨x, r, rfl, k1, k2⟩ := dpa_cons h2
  obtain ⟨y, r', rfl, k3, k4⟩ := dpa_cons k2
  obtain ⟨z, r'', rfl, k5, k6⟩ := dpa_cons k4
  cases dpa_nil k6
  cases dp_str k1
  cases dp_str k3
  cases dp_str k5
  exact ⟨a, rfl, h1⟩
theorem dp_dS {s : Stp} (h : Dp K H v (dS s)) : ∃ a, v = .ref a ∧ SqT K H a [.str s.1, .str s.2] := by
  obtain ⟨a, xs, rfl, h1, h2⟩ := dp_tup h
  obtain ⟨x, r, rfl, k1, k2⟩ := dpa_cons h2
  obtain ⟨y, r', rfl, k3, k4⟩ := dpa_cons k2
  cases dpa_nil k4
  cases dp_str k1
  cases dp_str k3
  exact ⟨a, rfl, h1⟩
theorem dp_dC {c : Cas} (h : Dp K H v (dC c)) : ∃ a t y, v = .ref a ∧ SqT K H a [.ref t, y] ∧ Dp K H (.ref t) (.tuple (c.1.map dT)) ∧ Dp K H y (dO c.2) := by
  obtain ⟨a, xs, rfl, h1, h2⟩ := dp_tup h
  obtain ⟨x, r, rfl, k1, k2⟩ := dpa_cons h2
  obtain ⟨y, r', rfl, k3, k4⟩ := dpa_cons k2
  cases dpa_nil k4
  obtain ⟨t, ys, rfl, m1, m2⟩ := dp_tup k1
  exact ⟨a, t, y, rfl, h1, .tup m1 m2, k3⟩
theorem dp_dV {w : List Str} (h : Dp K H v (dV w)) : ∃ a, v = .ref a ∧ SqT K H a (w.map V.str) := by
  obtain ⟨a, xs, rfl, h1, h2⟩ := dp_tup h
  rw [dp_strs h2] at h1
  exact ⟨a, rfl, h1⟩
theorem dV_dp {w : List Str} {a : Addr} (h : SqT K H a (w.map V.str)) : Dp K H (.ref a) (dV w) := .tup h (strs_dp w)
end
/-! fields as they stand: the options are tuples of which .index is asked -/
def FdAt (K : PySem.W.Frag) (H : Hp) (v : V) (f : Fld) : Prop := ∃ a o, v = .ref a ∧ SqT K H a [.str f.1, .ref o] ∧ SqP K H o (f.2.map V.str)
def FsAt (K : PySem.W.Frag) (H : Hp) (v : V) (fs : List Fld) : Prop := ∃ a xs, v = .ref a ∧ (SqL K H a xs ∨ SqT K H a xs) ∧ Paired (FdAt K H) xs fs
section
variable {K : PySem.W.Frag} {H H' : Hp} {v : V} {f : Fld} {fs : List Fld} {xs : List V}
theorem FdAt.mono (e : Same H H') (h : FdAt K H v f) : FdAt K H' v f := by
  obtain ⟨a, o, h1, h2, h3⟩ := h
  exact ⟨a, o, h1, Same.tup e h2, h3.mono e⟩
theorem fds_mono (e : Same H H') : ∀ {xs : List V} {fs : List Fld}, Paired (FdAt K H) xs fs → Paired (FdAt K H') xs fs
  | _, _, .nil => .nil
  | _, _, .cons h t => .cons (h.mono e) (fds_mono e t)
theorem FsAt.mono (e : Same H H') (h : FsAt K H v fs) : FsAt K H' v fs := by
  obtain ⟨a, xs, h1, h2, h3⟩ := h
  exact ⟨a, xs, h1, h2.imp e.seq (Same.tup e), fds_mono e h3⟩
theorem FdAt.dp (h : FdAt K H v f) : Dp K H v (dF f) := by
  obtain ⟨a, o, rfl, h2, h3⟩ := h
  exact .tup h2 (.cons (.str _) (.cons (.tup h3.sqT (strs_dp _)) .nil))
theorem fds_dp : ∀ {xs : List V} {fs : List Fld}, Paired (FdAt K H) xs fs → DpAll K H xs (fs.map dF)
  | _, _, .nil => .nil
  | _, _, .cons h t => .cons h.dp (fds_dp t)
theorem FsAt.dpS (h : FsAt K H v fs) : DpS K H v (fs.map dF) := by
  obtain ⟨a, xs, h1, h2, h3⟩ := h
  exact ⟨a, xs, h1, h2, fds_dp h3⟩
theorem fds_get : ∀ {xs : List V} {fs : List Fld} {i : Nat} {f : Fld}, Paired (FdAt K H) xs fs → fs[i]? = some f → ∃ x, xs[i]? = some x ∧ FdAt K H x f
  | _, _, _, _, .nil, e => by simp at e
  | _, _, 0, _, .cons h _, e => by
    simp at e
    subst e
    exact ⟨_, rfl, h⟩
  | _, _, i + 1, f, .cons _ t, e => by
    obtain ⟨x, h1, h2⟩ := fds_get (i := i) (f := f) t (by simpa using e)
    exact ⟨x, by simpa using h1, h2⟩
/-- fields[i][1], for the place i of a field x -/
theorem FsAt.opts {x : Str} (h : FsAt K H v fs) (hx : x ∈ fs.map (·.1)) : ∃ a xs t o, v = .ref a ∧ (SqL K H a xs ∨ SqT K H a xs) ∧ atI xs ((posOf fs x : Nat) : Int) = some (.ref t) ∧ SqT K H t [.str x, .ref o] ∧ SqP K H o ((optsOf fs x).map V.str) := by
  obtain ⟨a, xs, h1, h2, h3⟩ := h
  obtain ⟨f, k1, k2, k3⟩ := pos_at hx
  obtain ⟨y, m1, t, o, rfl, m2, m3⟩ := fds_get h3 k1
  rw [k2] at m2
  rw [k3] at m3
  exact ⟨a, xs, t, o, h1, h2, atI_nat m1, m2, m3⟩
end
/-! ### walks over a list or a tuple at a name -/
theorem iSeqV {K : PySem.W.Frag} {σ : L2.St} {H : Hp} {i : Nat} {a : Addr} {xs : List V} {R : It → Hp → Prop} (hσ : σ[i]? = some (some (.ref a))) (h : SqL K H a xs ∨ SqT K H a xs)
    (k : ∀ (J : It) (G : Hp → Prop), Walk J xs.length G (YAt xs) → (∀ H', Same H H' → G H') → R J H) : iSeq K (tVar i) σ H R := by
  rcases h with h | h
  · exact .inl ⟨.ref a, hσ, a, rfl, ⟨xs, h⟩, k _ _ walk_list fun H' e => e.seq h⟩
  · exact .inr ⟨.ref a, hσ, a, rfl, ⟨xs, h⟩, k _ _ walk_tup fun H' e => Same.tup e h⟩
end Bh
namespace Bh
open PySem PySem.Spec PyProof.Rows L2
theorem rIx_go {K : PySem.W.Frag} {H : Hp} {a : Addr} {xs : List V} {i : Int} {v : V} {Q : VK} (h : SqL K H a xs ∨ SqT K H a xs) (e : atI xs i = some v) (q : Q v H) : rIx K (.ref a) (.int i) H Q := by
  rcases h with h | h
  · exact .inl ⟨a, xs, i, v, rfl, rfl, h, e, q⟩
  · exact .inr (.inl ⟨a, xs, i, v, rfl, rfl, h, e, q⟩)
theorem dec_int {m n : Nat} : decide (V.int (m : Int) = V.int (n : Int)) = decide (m = n) := by
  refine decide_eq_decide.mpr ⟨fun h => ?_, fun h => by rw [h]⟩
  have e := V.int.inj h
  omega
theorem dec_lt {m n : Nat} : decide ((m : Int) < (n : Int)) = decide (m < n) := decide_eq_decide.mpr ⟨fun h => by omega, fun h => by omega⟩
theorem str_ne {a b : Str} (h : ¬ V.str a = V.str b) : a ≠ b := fun e => h (by rw [e])
end Bh

set_option Elab.async false
set_option linter.all false
set_option maxRecDepth 100000
namespace Bh
open PySem PySem.Spec PyProof.Rows L2
/-! ### what is drawn: names, options, fields, cases, programs -/
def pool : List Str := ["0", "1", "2", "10", "a", "b", "far", "x9", "zzzzzzzz", "7up"]
def tails : List Str := ["", "a", "qq", "xyz", "mmmmmmm"]
def letters : Str := "abcdefghijklmnopqrstuvwxyz"
theorem pool_nodup : pool.Nodup := by decide +kernel
theorem perm_strs {l : List Str} {ys : List V} (h : ys.Perm (l.map V.str)) : ∃ zs : List Str, zs.Perm l ∧ ys = zs.map V.str := by
  let g : V → Str := fun v => match v with
    | .str z => z
    | _ => Str.empty
  refine ⟨ys.map g, ?_, ?_⟩
  · have q := h.map g
    rw [List.map_map] at q
    have e : (g ∘ V.str) = id := by
      funext z
      rfl
    rw [e, List.map_id] at q
    exact q
  · rw [List.map_map]
    have q : ∀ v ∈ ys, (V.str ∘ g) v = v := fun v hv => by
      obtain ⟨z, _, rfl⟩ := List.mem_map.mp (h.mem_iff.mp hv)
      rfl
    rw [List.map_congr_left q, List.map_id']
/-- a name: one to eight lowercase letters -/
structure IsNm (w : Str) : Prop where
  lo : 1 ≤ w.length
  hi : w.length ≤ 8
  az : ∀ c ∈ w.cps.toList, 97 ≤ c ∧ c ≤ 122
def wordK (z : Str) (k c : Nat) : Str := cutS z none (some (k : Int)) ++ ⟨#[c]⟩ ++ cutS z (some (k : Int)) none
theorem cut_lo (z : Str) (k : Nat) : (cutS z none (some (k : Int))).cps.toList = z.cps.toList.take k := by
  unfold cutS
  rw [HT.sIx_none, HT.sIx_nat]
  show ((z.cps.toList.drop 0).take (min k z.length - 0)) = _
  rw [List.drop_zero, Nat.sub_zero]
  have e1 : z.cps.toList.length = z.cps.size := by simp
  have e2 : z.length = z.cps.size := rfl
  by_cases h : k ≤ z.length
  · rw [Nat.min_eq_left h]
  · rw [Nat.min_eq_right (by omega), List.take_of_length_le (by omega), List.take_of_length_le (by omega)]
theorem cut_hi (z : Str) (k : Nat) (h : k ≤ z.length) : (cutS z (some (k : Int)) none).cps.toList = z.cps.toList.drop k := by
  unfold cutS
  rw [HT.sIx_none, HT.sIx_nat, Nat.min_eq_left h]
  show ((z.cps.toList.drop k).take (z.length - k)) = _
  refine List.take_of_length_le ?_
  rw [List.length_drop]
  have : z.cps.toList.length = z.cps.size := by simp
  have : z.length = z.cps.size := rfl
  omega
theorem wordK_cps (z : Str) (k c : Nat) (h : k ≤ z.length) : (wordK z k c).cps.toList = z.cps.toList.take k ++ (c :: z.cps.toList.drop k) := by
  have e : (wordK z k c).cps = (cutS z none (some (k : Int))).cps ++ #[c] ++ (cutS z (some (k : Int)) none).cps := rfl
  rw [e, Array.toList_append, Array.toList_append, cut_lo, cut_hi z k h]
  simp
theorem wordK_length (z : Str) (k c : Nat) (h : k ≤ z.length) : (wordK z k c).length = z.length + 1 := by
  have e : (wordK z k c).length = (wordK z k c).cps.toList.length := by
    show (wordK z k c).cps.size = _
    simp
  rw [e, wordK_cps z k c h, List.length_append, List.length_take, List.length_cons, List.length_drop]
  have : z.cps.toList.length = z.cps.size := by simp
  have : z.length = z.cps.size := rfl
  omega
theorem wordK_inj {z : Str} {k c d : Nat} (h : k ≤ z.length) (e : wordK z k c = wordK z k d) : c = d := by
  have q := congrArg (fun s : Str => s.cps.toList) e
  simp only [wordK_cps z k _ h] at q
  have q2 := List.append_cancel_left q
  exact (List.cons.inj q2).1
theorem tails_ok : ∀ z ∈ tails, z.length ≤ 7 ∧ ∀ c ∈ z.cps.toList, 97 ≤ c ∧ c ≤ 122 := by
  decide +kernel
theorem wordK_nm {z : Str} (hz : z ∈ tails) {k c : Nat} (h : k ≤ z.length) (h1 : 97 ≤ c) (h2 : c ≤ 122) : IsNm (wordK z k c) := by
  obtain ⟨t1, t2⟩ := tails_ok z hz
  refine ⟨by rw [wordK_length z k c h]; omega, by rw [wordK_length z k c h]; omega, fun d hd => ?_⟩
  rw [wordK_cps z k c h] at hd
  rcases List.mem_append.mp hd with q | q
  · exact t2 d (List.mem_of_mem_take q)
  · rcases List.mem_cons.mp q with q | q
    · rw [q]
      exact ⟨h1, h2⟩
    · exact t2 d (List.mem_of_mem_drop q)
theorem letters_at {j : Int} (h0 : 0 ≤ j) (h1 : j < 26) : atI letters.cps.toList j = some (97 + j.toNat) := by
  have key : ∀ k : _root_.Fin 26, letters.cps.toList[k.val]? = some (97 + k.val) := by decide +kernel
  exact at_nn h0 (key ⟨j.toNat, by omega⟩)
def wordsOf (z : Str) (k : Nat) (s : Int) (n : Nat) : List Str := (List.range n).map fun (i : Nat) => wordK z k (97 + ((s + 5 * (i : Int)) % 26).toNat)
theorem wordsOf_nodup {z : Str} {k : Nat} {s : Int} {n : Nat} (h : k ≤ z.length) (hn : n ≤ 3) : (wordsOf z k s n).Nodup := by
  unfold wordsOf
  refine List.pairwise_map.mpr ((List.pairwise_lt_range (n := n)).imp_of_mem fun {a b} ha hb hab e => ?_)
  have h2 := List.mem_range.mp hb
  have q := wordK_inj h e
  omega
theorem wordsOf_nm {z : Str} (hz : z ∈ tails) {k : Nat} {s : Int} {n : Nat} (h : k ≤ z.length) : ∀ w ∈ wordsOf z k s n, IsNm w := fun w hw => by
  obtain ⟨i, _, rfl⟩ := List.mem_map.mp hw
  exact wordK_nm hz h (by omega) (by omega)
theorem wordsOf_len {z : Str} {k : Nat} {s : Int} {n : Nat} : (wordsOf z k s n).length = n := by
  unfold wordsOf
  rw [List.length_map, List.length_range]
/-- fields as the laws draw them -/
structure FsOk (fs : List Fld) : Prop where
  ne : 1 ≤ fs.length
  le : fs.length ≤ 3
  nd : (fs.map (·.1)).Nodup
  nm : ∀ f ∈ fs, IsNm f.1
  os : ∀ f ∈ fs, f.2.Nodup ∧ 2 ≤ f.2.length ∧ f.2.length ≤ 6 ∧ ∀ o ∈ f.2, o ∈ pool
theorem opts_of {fs : List Fld} (nd : (fs.map (·.1)).Nodup) {f : Fld} (h : f ∈ fs) : optsOf fs f.1 = f.2 := by
  obtain ⟨i, hi⟩ := List.mem_iff_getElem?.mp h
  have e : ix (fs.map (·.1)) f.1 = i := ix_at nd (by rw [List.getElem?_map, hi]; rfl)
  unfold optsOf posOf
  rw [e, hi]
  rfl
/-- signs of tests -/
def signs : List Str := ["=", "!", "<", ">"]
/-! ### promises of the defs that draw -/
def spAny (K : PySem.W.Frag) : Sp := fun vs H Q _ => ∃ (b l a : Addr) (G : Hp) (xs : List V), vs = [.ref b, .ref a] ∧ (SqL K G a xs ∨ SqT K G a xs) ∧ xs ≠ [] ∧ xs.length ≤ 100000 ∧ Wd b l G H ∧ ∀ x H', x ∈ xs → Wd b l G H' → Q x H'
def spMixed (K : PySem.W.Frag) : Sp := fun vs H Q _ => ∃ (b l a : Addr) (G : Hp) (xs : List V), vs = [.ref b, .ref a] ∧ SqL K G a xs ∧ xs.length ≤ 1000 ∧ Wd b l G H ∧
  ∀ (G' H' : Hp) (p : Addr) (ys : List V), Same G G' → Wd b l G' H' → G' p = some (.lst ys) → ys.Perm xs → Q (.ref p) H'
def spWords : Sp := fun vs H Q _ => ∃ (b l : Addr) (G : Hp) (n : Int), vs = [.ref b, .int n] ∧ 0 ≤ n ∧ n ≤ 3 ∧ Wd b l G H ∧
  ∀ (G' H' : Hp) (p : Addr) (ws : List Str), Same G G' → Wd b l G' H' → G' p = some (.lst (ws.map V.str)) → ws.length = n.toNat → ws.Nodup → (∀ w ∈ ws, IsNm w) → Q (.ref p) H'
def spOptions (K : PySem.W.Frag) : Sp := fun vs H Q _ => ∃ (b l : Addr) (G : Hp) (n : Int), vs = [.ref b, .int n] ∧ 2 ≤ n ∧ n ≤ 6 ∧ Wd b l G H ∧
  ∀ (G' H' : Hp) (p : Addr) (os : List Str), Same G G' → Wd b l G' H' → SqP K G' p (os.map V.str) → os.length = n.toNat → os.Nodup → (∀ o ∈ os, o ∈ pool) → Q (.ref p) H'
def spFields (K : PySem.W.Frag) : Sp := fun vs H Q _ => ∃ (b l : Addr) (G : Hp), vs = [.ref b, .int 24] ∧ Wd b l G H ∧
  ∀ (G' H' : Hp) (p : Addr) (xs : List V) (fs : List Fld), Same G G' → Wd b l G' H' → G' p = some (.lst xs) → Paired (FdAt K G') xs fs → FsOk fs → Q (.ref p) H'
def spCase (K : PySem.W.Frag) : Sp := fun vs H Q _ => ∃ (b l a : Addr) (G : Hp) (xs : List V) (fs : List Fld), vs = [.ref b, .ref a] ∧ SqL K G a xs ∧ Paired (FdAt K G) xs fs ∧ FsOk fs ∧ Wd b l G H ∧
  ∀ (G' H' : Hp) (y : V) (c : Cas), Same G G' → Wd b l G' H' → Dp K G' y (dC c) → FitC fs c → c.1.length ≤ 2 → (∀ ss, c.2 = some ss → ss.length ≤ 2) → (∀ t ∈ c.1, t.2.1 ∈ signs) → Q y H'
end Bh
namespace Bh
open PySem PySem.Spec PyProof.Rows L2
theorem cutV_take (xs : List V) {n : Int} (h : 0 ≤ n) : cutV xs none (some n) = xs.take n.toNat := by
  obtain ⟨k, rfl⟩ : ∃ m : Nat, n = (m : Int) := ⟨n.toNat, by omega⟩
  unfold cutV
  rw [HT.sIx_none, show HT.sIx xs.length xs.length (some (k : Int)) = min k xs.length from HT.sIx_nat _ _ k]
  show List.take (min k xs.length - 0) (List.drop 0 xs) = xs.take k
  rw [List.drop_zero, Nat.sub_zero]
  by_cases hk : k ≤ xs.length
  · rw [Nat.min_eq_left hk]
  · rw [Nat.min_eq_right (by omega), List.take_of_length_le (Nat.le_refl _), List.take_of_length_le (by omega)]
theorem fds_mem {K : PySem.W.Frag} {H : Hp} : ∀ {xs : List V} {fs : List Fld} {x : V}, Paired (FdAt K H) xs fs → x ∈ xs → ∃ f ∈ fs, FdAt K H x f
  | _, _, _, .nil, h => by cases h
  | _, _, x, .cons h t, hx => by
    rcases List.mem_cons.mp hx with e | hx
    · rw [e]
      exact ⟨_, List.mem_cons_self .., h⟩
    · obtain ⟨f, h1, h2⟩ := fds_mem t hx
      exact ⟨f, List.mem_cons_of_mem _ h1, h2⟩
theorem fds_len {K : PySem.W.Frag} {H : Hp} : ∀ {xs : List V} {fs : List Fld}, Paired (FdAt K H) xs fs → xs.length = fs.length
  | _, _, .nil => rfl
  | _, _, .cons _ t => congrArg Nat.succ (fds_len t)
theorem fds_snoc {K : PySem.W.Frag} {H : Hp} {x : V} {f : Fld} : ∀ {xs : List V} {fs : List Fld}, Paired (FdAt K H) xs fs → FdAt K H x f → Paired (FdAt K H) (xs ++ [x]) (fs ++ [f])
  | _, _, .nil, h => .cons h .nil
  | _, _, .cons k t, h => .cons k (fds_snoc t h)
theorem min_max_bound (z : Int) : 0 < (if (if z > 1 then z else 1) < 5 then (if z > 1 then z else 1) else 5) ∧ (if (if z > 1 then z else 1) < 5 then (if z > 1 then z else 1) else 5) ≤ (5 : Int) := by
  split <;> split <;> omega
end Bh
namespace Bh
open PySem PySem.Spec PyProof.Rows L2
theorem dpa_snoc {K : PySem.W.Frag} {H : Hp} {x : V} {d : PyData} {xs : List V} {ds : List PyData} (h : DpAll K H xs ds) (k : Dp K H x d) : DpAll K H (xs ++ [x]) (ds ++ [d]) := DpAll.append h (.cons k .nil)
end Bh
namespace Bh
open PySem PySem.Spec PyProof.Rows L2
theorem noL_dV (v : List Str) : noL (dV v) = true := noLs_map (fun _ => rfl) v
theorem noL_dT (t : Tst) : noL (dT t) = true := rfl
theorem noL_dS (s : Stp) : noL (dS s) = true := rfl
theorem noL_dO : ∀ o : Option (List Stp), noL (dO o) = true
  | none => rfl
  | some ss => noLs_map noL_dS ss
theorem noL_dC (c : Cas) : noL (dC c) = true := by
  show (noLs (c.1.map dT) && (noL (dO c.2) && true)) = true
  rw [noLs_map noL_dT, noL_dO]
  rfl
theorem FdAt.imm {K : PySem.W.Frag} {H H' : Hp} {v : V} {f : Fld} (e : Imm H H') (h : FdAt K H v f) : FdAt K H' v f := by
  obtain ⟨a, o, h1, h2, h3⟩ := h
  exact ⟨a, o, h1, e.tup h2, e.sqp h3⟩
theorem fds_imm {K : PySem.W.Frag} {H H' : Hp} (e : Imm H H') : ∀ {xs : List V} {fs : List Fld}, Paired (FdAt K H) xs fs → Paired (FdAt K H') xs fs
  | _, _, .nil => .nil
  | _, _, .cons h t => .cons (h.imm e) (fds_imm e t)
def spProg (K : PySem.W.Frag) : Sp := fun vs H Q _ => ∃ (b l a : Addr) (G : Hp) (n : Int) (xs : List V) (fs : List Fld), vs = [.ref b, .ref a, .int n] ∧ SqL K G a xs ∧ Paired (FdAt K G) xs fs ∧ FsOk fs ∧ 0 < n ∧ n ≤ 8 ∧ Wd b l G H ∧
  ∀ (G' H' : Hp) (y : V) (p : List Cas), Same G G' → Wd b l G' H' → Dp K G' y (.tuple (p.map dC)) → (∀ c ∈ p, FitC fs c ∧ c.1.length ≤ 2 ∧ (∀ ss, c.2 = some ss → ss.length ≤ 2) ∧ ∀ t ∈ c.1, t.2.1 ∈ signs) → 1 ≤ p.length → p.length ≤ 8 → Q y H'
/-! all values -/
def ext1 (acc : List (List Str)) (f : Fld) : List (List Str) := acc.flatMap fun v => f.2.map fun o => v ++ [o]
def vals (fs : List Fld) : List (List Str) := fs.foldl ext1 [[]]
theorem flat_len (os : List Str) : ∀ acc : List (List Str), (acc.flatMap fun v => os.map fun o => v ++ [o]).length = acc.length * os.length
  | [] => by simp
  | v :: r => by
    rw [List.flatMap_cons, List.length_append, List.length_map, flat_len os r, List.length_cons, Nat.succ_mul]
    omega
theorem vals_take {fs : List Fld} {i : Nat} {f : Fld} (h : fs[i]? = some f) : vals (fs.take (i + 1)) = ext1 (vals (fs.take i)) f := by
  unfold vals
  rw [List.take_add_one, h, List.foldl_append]
  rfl
theorem vals_len {fs : List Fld} (h : ∀ f ∈ fs, f.2.length ≤ 6) : ∀ i : Nat, (vals (fs.take i)).length ≤ 6 ^ i
  | 0 => by
    rw [List.take_zero]
    exact Nat.le_refl 1
  | i + 1 => by
    cases e : fs[i]? with
    | none =>
      have hl : fs.length ≤ i := List.getElem?_eq_none_iff.mp e
      rw [List.take_of_length_le (by omega), show fs = fs.take i from (List.take_of_length_le hl).symm]
      refine Nat.le_trans (vals_len h i) ?_
      rw [Nat.pow_succ]
      exact Nat.le_mul_of_pos_right _ (by decide)
    | some f =>
      rw [vals_take e]
      unfold ext1
      rw [flat_len, Nat.pow_succ]
      exact Nat.mul_le_mul (vals_len h i) (h f (List.mem_of_getElem? e))
theorem vals_fit : ∀ (fs done : List Fld) (acc : List (List Str)), (∀ v ∈ acc, FitV done v) → ∀ v ∈ fs.foldl ext1 acc, FitV (done ++ fs) v
  | [], done, acc, h, v, hv => by
    rw [List.append_nil]
    exact h v hv
  | f :: r, done, acc, h, v, hv => by
    have e : done ++ f :: r = (done ++ [f]) ++ r := by simp
    rw [e]
    refine vals_fit r (done ++ [f]) (ext1 acc f) (fun w hw => ?_) v hv
    obtain ⟨u, hu, hw2⟩ := List.mem_flatMap.mp hw
    obtain ⟨o, ho, rfl⟩ := List.mem_map.mp hw2
    obtain ⟨l1, l2⟩ := h u hu
    refine ⟨by rw [List.length_append, List.length_append, l1]; rfl, fun i g o' hg ho' => ?_⟩
    by_cases hi : i < done.length
    · rw [List.getElem?_append_left hi] at hg
      rw [List.getElem?_append_left (by omega)] at ho'
      exact l2 i g o' hg ho'
    · rw [List.getElem?_append_right (by omega)] at hg
      rw [List.getElem?_append_right (by omega), l1] at ho'
      have hz : i - done.length = 0 := by
        have := (List.getElem?_eq_some_iff.mp hg).1
        simp at this
        omega
      rw [hz] at hg ho'
      cases hg
      cases ho'
      exact ho
theorem vals_ok {fs : List Fld} : ∀ v ∈ vals fs, FitV fs v := by
  have q := vals_fit fs [] [[]] (fun v hv => by
    cases List.mem_singleton.mp hv
    exact ⟨rfl, fun i f o h => by simp at h⟩)
  show ∀ v ∈ fs.foldl ext1 [[]], FitV fs v
  simpa using q
def spVals (K : PySem.W.Frag) : Sp := fun vs H Q _ => ∃ (a : Addr) (xs : List V) (fs : List Fld), vs = [.ref a] ∧ SqL K H a xs ∧ Paired (FdAt K H) xs fs ∧ FsOk fs ∧
  ∀ (H' : Hp) (p : Addr) (ys : List V), Same H H' → H' p = some (.lst ys) → DpAll K H' ys ((vals fs).map dV) → Q (.ref p) H'
end Bh

set_option Elab.async false
set_option linter.all false
set_option maxRecDepth 100000
namespace Bh
open PySem PySem.Spec PyProof.Rows L2
/-! ### lines of cases: the mirror -/
def lettersD : Str := "abcdefghijklmnopqrstuvwxyz0123456789"
def wordB (w z : Str) : Bool := decide (1 ≤ w.length ∧ w.length ≤ 8) && (TL.tl w).all (fun c => decide (c ∈ TL.tl z))
def lineT (t : Tst) : Str := t.1 ++ t.2.1 ++ t.2.2
def lineS (s : Stp) : Str := if s.2 = "+" then s.1 ++ "+" else s.1 ++ ":" ++ s.2
def leftL (ts : List Tst) : Str := if ts = [] then "always" else Txt.join " and " (ts.map lineT)
def rightL : Option (List Stp) → Str
  | none => "drop"
  | some ss => if ss = [] then "keep" else Txt.join ", " (ss.map lineS)
def lineC (c : Cas) : Str := "when " ++ leftL c.1 ++ " do " ++ rightL c.2
def seqO {α : Type} : List (Option α) → Option (List α)
  | [] => some []
  | none :: _ => none
  | some x :: r => (seqO r).map (x :: ·)
def allR {α : Type} (l : List (Option α)) : Option (List α) := if l.length ≤ 6 then seqO l else none
def tryT (part s : Str) : Option Tst := if (wordB (Txt.partition part s).1 letters && wordB (Txt.partition part s).2.2 lettersD) = true then some ((Txt.partition part s).1, s, (Txt.partition part s).2.2) else none
def readT (part : Str) : Option Tst := signs.findSome? (tryT part)
def readS (part : Str) : Option Stp :=
  if Txt.endswith part "+" = true then (if wordB (Txt.removesuffix part "+") letters = true then some (Txt.removesuffix part "+", "+") else none)
  else if (wordB (Txt.partition part ":").1 letters && wordB (Txt.partition part ":").2.2 lettersD) = true then some ((Txt.partition part ":").1, (Txt.partition part ":").2.2) else none
def readTs (x : Str) : Option (List Tst) := if x = "always" then some [] else allR ((Txt.split x " and ").map readT)
def readSs (x : Str) : Option (List Stp) := if x = "keep" then some [] else allR ((Txt.split x ", ").map readS)
def readP (before behind : Str) : Option Cas := match readTs before with
  | none => none
  | some ts => if behind = "drop" then some (ts, none) else match readSs behind with
    | none => none
    | some ss => some (ts, some ss)
def readC (l : Str) : Option Cas := if Txt.startswith l "when " = true then readP (Txt.partition (Txt.removeprefix l "when ") " do ").1 (Txt.partition (Txt.removeprefix l "when ") " do ").2.2 else none
/-! what a case is -/
def OkT (t : Tst) : Prop := wordB t.1 letters = true ∧ t.2.1 ∈ signs ∧ wordB t.2.2 lettersD = true
def OkS (s : Stp) : Prop := wordB s.1 letters = true ∧ (s.2 = "+" ∨ wordB s.2 lettersD = true)
structure OkC (c : Cas) : Prop where
  n : c.1.length ≤ 6
  t : ∀ t ∈ c.1, OkT t
  m : ∀ ss, c.2 = some ss → ss.length ≤ 6
  s : ∀ ss, c.2 = some ss → ∀ s ∈ ss, OkS s
/-! words -/
theorem app_assoc (a b c : Str) : a ++ b ++ c = a ++ (b ++ c) := TL.ext_tl (by rw [TL.tl_append, TL.tl_append, TL.tl_append, TL.tl_append, List.append_assoc])
theorem word_len {w z : Str} (h : wordB w z = true) : 1 ≤ w.length ∧ w.length ≤ 8 := of_decide_eq_true (Bool.and_eq_true_iff.mp h).1
theorem word_mem {w z : Str} (h : wordB w z = true) : ∀ c ∈ TL.tl w, c ∈ TL.tl z := fun c hc => of_decide_eq_true (List.all_eq_true.mp (Bool.and_eq_true_iff.mp h).2 c hc)
theorem word_mk {w z : Str} (h1 : 1 ≤ w.length) (h2 : w.length ≤ 8) (h : ∀ c ∈ TL.tl w, c ∈ TL.tl z) : wordB w z = true :=
  Bool.and_eq_true_iff.mpr ⟨decide_eq_true ⟨h1, h2⟩, List.all_eq_true.mpr fun c hc => decide_eq_true (h c hc)⟩
theorem let_letD : ∀ c ∈ TL.tl letters, c ∈ TL.tl lettersD := by decide +kernel
theorem word_letD {w : Str} (h : wordB w letters = true) : wordB w lettersD = true := word_mk (word_len h).1 (word_len h).2 fun c hc => let_letD c (word_mem h c hc)
theorem word_free {w : Str} {c : Nat} (h : wordB w lettersD = true) (hc : c ∉ TL.tl lettersD) : c ∉ TL.tl w := fun z => hc (word_mem h c z)
theorem nm_word {w : Str} (h : IsNm w) : wordB w letters = true := word_mk h.lo h.hi fun c hc => by
  have key : ∀ k : _root_.Fin 26, 97 + k.val ∈ TL.tl letters := by decide +kernel
  obtain ⟨a, b⟩ := h.az c hc
  have q := key ⟨c - 97, by omega⟩
  rw [show 97 + (⟨c - 97, by omega⟩ : _root_.Fin 26).val = c by show 97 + (c - 97) = c; omega] at q
  exact q
theorem pool_word : ∀ o ∈ pool, wordB o lettersD = true := by decide +kernel
theorem empty_word (z : Str) : wordB Str.empty z = false := rfl
theorem nin (c : Nat) (h : c ∉ TL.tl lettersD) {a : Str} (ha : wordB a letters = true) : c ∉ TL.tl a := word_free (word_letD ha) h
/-! partition -/
theorem par_spec {S : List Nat} : ∀ {l acc a b : List Nat}, TL.par S acc l = some (a, b) → acc ++ l = a ++ (S ++ b)
  | [], acc, a, b, h => by cases h
  | c :: r, acc, a, b, h => by
    by_cases hp : TL.pre S (c :: r) = true
    · rw [TL.par_hit hp] at h
      cases h
      have e : (c :: r).take S.length = S := eq_of_beq hp
      conv =>
        lhs
        rw [← List.take_append_drop S.length (c :: r), e]
    · rw [TL.par_miss (Bool.eq_false_iff.mpr hp)] at h
      have q := par_spec h
      rw [← q, List.append_assoc]
      rfl
theorem part_cases (x y : Str) (hy : TL.tl y ≠ []) : (∃ a b, Txt.partition x y = (a, y, b) ∧ x = a ++ y ++ b) ∨ Txt.partition x y = (x, Str.empty, Str.empty) := by
  rw [TL.partition_par x y hy]
  cases h : TL.par (TL.tl y) [] (TL.tl x) with
  | none => exact .inr rfl
  | some p =>
    obtain ⟨a, b⟩ := p
    refine .inl ⟨_, _, rfl, TL.ext_tl ?_⟩
    have q := par_spec h
    rw [TL.tl_append, TL.tl_append, List.append_assoc]
    exact q
/-! prefixes, suffixes -/
theorem at0 {x y : Str} : Builtin.Str.subAt x y 0 = true ↔ (TL.tl x).take (TL.tl y).length = TL.tl y := by
  rw [StrLaws.subAt_eq, List.drop_zero, TL.len_tl y]
  exact ⟨fun h => eq_of_beq h, fun h => by rw [h]; exact beq_self_eq_true _⟩
theorem starts_app (y a : Str) : Txt.startswith (y ++ a) y = true := by
  unfold Txt.startswith
  rw [at0.mpr (by rw [TL.tl_append, List.take_left]), decide_eq_true (by rw [TL.len_tl, TL.len_tl, TL.tl_append, List.length_append]; omega)]
  rfl
theorem removeprefix_app (y a : Str) : Txt.removeprefix (y ++ a) y = a := by
  have h := starts_app y a
  unfold Txt.startswith at h
  rw [StrLaws.removeprefix_eq, if_pos h]
  refine TL.ext_tl ?_
  show List.take _ (List.drop _ (TL.tl (y ++ a))) = TL.tl a
  rw [TL.len_tl, TL.len_tl, TL.tl_append, List.drop_left, List.length_append]
  exact List.take_of_length_le (by omega)
theorem prefix_spec {x y : Str} (h : Txt.startswith x y = true) : x = y ++ Txt.removeprefix x y := by
  unfold Txt.startswith at h
  rw [StrLaws.removeprefix_eq, if_pos h]
  have h1 := at0.mp (Bool.and_eq_true_iff.mp h).2
  refine TL.ext_tl ?_
  rw [TL.tl_append]
  show _ = TL.tl y ++ List.take _ (List.drop _ (TL.tl x))
  rw [TL.len_tl, TL.len_tl, List.take_of_length_le (by rw [List.length_drop]; exact Nat.le_refl _)]
  conv =>
    lhs
    rw [← List.take_append_drop (TL.tl y).length (TL.tl x), h1]
theorem ends_app (a y : Str) : Txt.endswith (a ++ y) y = true := by
  unfold Txt.endswith
  have e : Builtin.Str.subAt (a ++ y) y ((a ++ y).length - y.length) = true := by
    rw [StrLaws.subAt_eq, TL.len_tl, TL.len_tl]
    show ((TL.tl (a ++ y)).drop _).take _ == TL.tl y
    rw [TL.tl_append, List.length_append, Nat.add_sub_cancel, List.drop_left, List.take_length]
    exact beq_self_eq_true _
  rw [e, decide_eq_true (by rw [TL.len_tl, TL.len_tl, TL.tl_append, List.length_append]; omega)]
  rfl
theorem removesuffix_app (a y : Str) : Txt.removesuffix (a ++ y) y = a := by
  have h := ends_app a y
  unfold Txt.endswith at h
  rw [StrLaws.removesuffix_eq, if_pos h]
  refine TL.ext_tl ?_
  show List.take _ (List.drop 0 (TL.tl (a ++ y))) = TL.tl a
  rw [TL.len_tl, TL.len_tl, TL.tl_append, List.drop_zero, List.length_append, Nat.add_sub_cancel, Nat.sub_zero, List.take_left]
theorem suffix_spec {x y : Str} (h : Txt.endswith x y = true) : x = Txt.removesuffix x y ++ y := by
  unfold Txt.endswith at h
  rw [StrLaws.removesuffix_eq, if_pos h]
  have h1 := (Bool.and_eq_true_iff.mp h).2
  rw [StrLaws.subAt_eq] at h1
  have h2 : (List.drop (x.length - y.length) (TL.tl x)).take y.length = TL.tl y := eq_of_beq h1
  have h3 : 0 + y.length ≤ x.length := of_decide_eq_true (Bool.and_eq_true_iff.mp h).1
  refine TL.ext_tl ?_
  rw [TL.tl_append]
  show _ = List.take _ (List.drop 0 (TL.tl x)) ++ TL.tl y
  rw [← h2, List.drop_zero, Nat.sub_zero, List.take_of_length_le (l := List.drop _ _) (by rw [List.length_drop, ← TL.len_tl]; omega), List.take_append_drop]
theorem mem_app {c : Nat} {a b : Str} : c ∈ TL.tl (a ++ b) ↔ c ∈ TL.tl a ∨ c ∈ TL.tl b := by rw [TL.tl_append]; exact List.mem_append
theorem ends_mem {x y : Str} {c : Nat} (h : Txt.endswith x y = true) (hc : c ∈ TL.tl y) : c ∈ TL.tl x := by
  rw [suffix_spec h]
  exact mem_app.mpr (.inr hc)
/-! one test, one step -/
theorem sign_nl : ∀ s ∈ signs, ∀ c ∈ TL.tl s, c ∉ TL.tl lettersD := by decide +kernel
theorem sign_one : ∀ s ∈ signs, ∃ c, TL.tl s = [c] := by
  intro s hs
  simp only [signs, List.mem_cons, List.not_mem_nil, or_false] at hs
  rcases hs with rfl | rfl | rfl | rfl <;> exact ⟨_, rfl⟩
theorem sign_ne : ∀ s ∈ signs, ∀ t ∈ signs, s ≠ t → ∀ c ∈ TL.tl s, c ∉ TL.tl t := by decide +kernel
theorem tryT_hit {t : Tst} (h : OkT t) : tryT (lineT t) t.2.1 = some t := by
  obtain ⟨h1, h2, h3⟩ := h
  obtain ⟨c, hc⟩ := sign_one _ h2
  have nl := sign_nl _ h2 c (by rw [hc]; exact List.mem_singleton.mpr rfl)
  have e : Txt.partition (lineT t) t.2.1 = (t.1, t.2.1, t.2.2) := TL.partition_app hc (nin c nl h1)
  unfold tryT
  rw [e]
  exact if_pos (Bool.and_eq_true_iff.mpr ⟨h1, h3⟩)
theorem tryT_miss {t : Tst} {s : Str} (h : OkT t) (hs : s ∈ signs) (ne : s ≠ t.2.1) : tryT (lineT t) s = none := by
  obtain ⟨h1, h2, h3⟩ := h
  obtain ⟨c, hc⟩ := sign_one _ hs
  have mc : c ∈ TL.tl s := by rw [hc]; exact List.mem_singleton.mpr rfl
  have nl := sign_nl _ hs c mc
  have nf : c ∉ TL.tl (lineT t) := fun z => by
    rcases mem_app.mp z with z | z
    · rcases mem_app.mp z with z | z
      · exact nin c nl h1 z
      · exact sign_ne _ hs _ h2 ne c mc z
    · exact word_free h3 nl z
  have e : Txt.partition (lineT t) s = (lineT t, Str.empty, Str.empty) := TL.partition_none hc nf
  unfold tryT
  rw [e]
  refine if_neg ?_
  rw [empty_word, Bool.and_false]
  exact Bool.false_ne_true
theorem find_one {α β : Type} (f : α → Option β) (y : β) : ∀ (l : List α) (x : α), x ∈ l → f x = some y → (∀ z ∈ l, z ≠ x → f z = none) → l.findSome? f = some y
  | [], x, h, _, _ => by cases h
  | a :: r, x, h, hx, hn => by
    by_cases e : a = x
    · rw [List.findSome?_cons, e, hx]
    · rw [List.findSome?_cons, hn a (List.mem_cons_self ..) e]
      rcases List.mem_cons.mp h with z | z
      · exact absurd z.symm e
      · exact find_one f y r x z hx fun w hw => hn w (List.mem_cons_of_mem _ hw)
theorem readT_line {t : Tst} (h : OkT t) : readT (lineT t) = some t := find_one _ _ signs t.2.1 h.2.1 (tryT_hit h) fun s hs ne => tryT_miss h hs ne
theorem readT_back {part : Str} {t : Tst} (h : readT part = some t) : lineT t = part ∧ OkT t := by
  obtain ⟨s, hs, e⟩ := List.exists_of_findSome?_eq_some h
  unfold tryT at e
  by_cases hw : (wordB (Txt.partition part s).1 letters && wordB (Txt.partition part s).2.2 lettersD) = true
  · rw [if_pos hw] at e
    cases e
    have hw2 := Bool.and_eq_true_iff.mp hw
    refine ⟨?_, hw2.1, hs, hw2.2⟩
    obtain ⟨c, hc⟩ := sign_one _ hs
    rcases part_cases part s (by rw [hc]; simp) with ⟨a, b, e1, e2⟩ | e1
    · rw [e1]
      exact e2.symm
    · rw [e1] at hw2
      exact absurd hw2.2 (by rw [empty_word]; exact Bool.false_ne_true)
  · rw [if_neg hw] at e
    cases e
theorem readS_line {s : Stp} (h : OkS s) : readS (lineS s) = some s := by
  obtain ⟨h1, h2⟩ := h
  obtain ⟨a, b⟩ := s
  by_cases e : b = "+"
  · subst e
    have el : lineS (a, "+") = a ++ "+" := if_pos rfl
    unfold readS
    rw [el, if_pos (ends_app a "+"), removesuffix_app]
    exact if_pos h1
  · have hb : wordB b lettersD = true := h2.resolve_left e
    have el : lineS (a, b) = a ++ ":" ++ b := if_neg e
    have nf : 43 ∉ TL.tl (a ++ ":" ++ b) := fun z => by
      rcases mem_app.mp z with z | z
      · rcases mem_app.mp z with z | z
        · exact nin 43 (by decide +kernel) h1 z
        · exact absurd z (by decide +kernel)
      · exact word_free hb (by decide +kernel) z
    have ne : ¬ Txt.endswith (a ++ ":" ++ b) "+" = true := fun z => nf (ends_mem z (by decide +kernel))
    have ep : Txt.partition (a ++ ":" ++ b) ":" = (a, (":" : Str), b) := TL.partition_app (y := ":") (s := 58) (S := []) rfl (nin 58 (by decide +kernel) h1)
    unfold readS
    rw [el, if_neg ne, ep]
    exact if_pos (Bool.and_eq_true_iff.mpr ⟨h1, hb⟩)
theorem readS_back {part : Str} {s : Stp} (h : readS part = some s) : lineS s = part ∧ OkS s := by
  unfold readS at h
  by_cases e : Txt.endswith part "+" = true
  · rw [if_pos e] at h
    by_cases hw : wordB (Txt.removesuffix part "+") letters = true
    · rw [if_pos hw] at h
      cases h
      refine ⟨?_, hw, .inl rfl⟩
      have q : lineS (Txt.removesuffix part "+", "+") = Txt.removesuffix part "+" ++ "+" := if_pos rfl
      rw [q]
      exact (suffix_spec e).symm
    · rw [if_neg hw] at h
      cases h
  · rw [if_neg e] at h
    by_cases hw : (wordB (Txt.partition part ":").1 letters && wordB (Txt.partition part ":").2.2 lettersD) = true
    · rw [if_pos hw] at h
      cases h
      have hw2 := Bool.and_eq_true_iff.mp hw
      refine ⟨?_, hw2.1, .inr hw2.2⟩
      have nb : (Txt.partition part ":").2.2 ≠ "+" := fun z => by
        rw [z] at hw2
        exact absurd hw2.2 (by decide +kernel)
      have q : lineS ((Txt.partition part ":").1, (Txt.partition part ":").2.2) = (Txt.partition part ":").1 ++ ":" ++ (Txt.partition part ":").2.2 := if_neg nb
      rw [q]
      rcases part_cases part ":" (by decide +kernel) with ⟨a, b, e1, e2⟩ | e1
      · rw [e1]
        exact e2.symm
      · rw [e1] at hw2
        exact absurd hw2.2 (by rw [empty_word]; exact Bool.false_ne_true)
    · rw [if_neg hw] at h
      cases h
/-! all of them -/
theorem seqO_some {α : Type} : ∀ l : List α, seqO (l.map some) = some l
  | [] => rfl
  | x :: r => by
    show (seqO (r.map some)).map (x :: ·) = _
    rw [seqO_some r]
    rfl
theorem seqO_back {α : Type} : ∀ {l : List (Option α)} {ys : List α}, seqO l = some ys → l = ys.map some
  | [], _, h => by cases h; rfl
  | none :: _, _, h => by cases h
  | some x :: r, ys, h => by
    have h' : (seqO r).map (x :: ·) = some ys := h
    cases e : seqO r with
    | none =>
      rw [e] at h'
      cases h'
    | some zs =>
      rw [e] at h'
      cases h'
      rw [seqO_back e]
      rfl
theorem allR_line {α : Type} {line : α → Str} {read : Str → Option α} {l : List α} (h : ∀ x ∈ l, read (line x) = some x) (n : l.length ≤ 6) : allR ((l.map line).map read) = some l := by
  have e : (l.map line).map read = l.map some := by
    rw [List.map_map]
    exact List.map_congr_left fun x hx => h x hx
  unfold allR
  rw [e, if_pos (by rw [List.length_map]; exact n), seqO_some]
theorem allR_back {α : Type} {line : α → Str} {read : Str → Option α} {Ok : α → Prop} {l : List Str} {ys : List α} (hb : ∀ p x, read p = some x → line x = p ∧ Ok x) (h : allR (l.map read) = some ys) : ys.map line = l ∧ ys.length ≤ 6 ∧ ∀ y ∈ ys, Ok y := by
  unfold allR at h
  by_cases hl : (l.map read).length ≤ 6
  · rw [if_pos hl] at h
    have q := seqO_back h
    have key : ∀ (l : List Str) (ys : List α), l.map read = ys.map some → ys.map line = l ∧ ∀ y ∈ ys, Ok y := by
      intro l
      induction l with
      | nil =>
        intro ys q
        cases ys with
        | nil => exact ⟨rfl, fun y hy => by cases hy⟩
        | cons y r => cases q
      | cons p r ih =>
        intro ys q
        cases ys with
        | nil => cases q
        | cons y ys =>
          rw [List.map_cons, List.map_cons] at q
          injection q with q1 q2
          obtain ⟨e1, e2⟩ := ih ys q2
          obtain ⟨f1, f2⟩ := hb p y q1
          refine ⟨by rw [List.map_cons, f1, e1], fun z hz => ?_⟩
          rcases List.mem_cons.mp hz with rfl | hz
          · exact f2
          · exact e2 z hz
    obtain ⟨e1, e2⟩ := key l ys q
    have hl2 : (ys.map some).length ≤ 6 := by
      rw [← q]
      exact hl
    rw [List.length_map] at hl2
    exact ⟨e1, hl2, e2⟩
  · rw [if_neg hl] at h
    cases h
theorem split_ne (x y : Str) : Txt.split x y ≠ [] := by
  unfold Txt.split
  split
  · simp
  · split
    · simp
    · intro h
      rw [StrLaws.partsBetween_eq] at h
      obtain ⟨p, q, e⟩ := StrLaws.partsFrom_ne x y.length 0 (Builtin.Str.occurrences x y 0 x.length (x.length + 1))
      rw [e] at h
      cases h
theorem join_mem {y : Str} {c : Nat} {p : Str} {r : List Str} (h : c ∈ TL.tl p) : c ∈ TL.tl (Txt.join y (p :: r)) := by
  rw [TL.join_eq]
  cases r with
  | nil => exact h
  | cons q r =>
    show c ∈ TL.tl (p ++ y ++ Str.join y (q :: r))
    exact mem_app.mpr (.inl (mem_app.mpr (.inl h)))

/-! the tests of a line, its steps -/
theorem lineT_free {t : Tst} (h : OkT t) : 32 ∉ TL.tl (lineT t) ∧ 3 ≤ (TL.tl (lineT t)).length := by
  obtain ⟨h1, h2, h3⟩ := h
  refine ⟨fun z => ?_, ?_⟩
  · rcases mem_app.mp z with z | z
    · rcases mem_app.mp z with z | z
      · exact nin 32 (by decide +kernel) h1 z
      · have key : ∀ s ∈ signs, 32 ∉ TL.tl s := by decide +kernel
        exact key _ h2 z
    · exact word_free h3 (by decide +kernel) z
  · obtain ⟨c, hc⟩ := sign_one _ h2
    have l1 := (word_len h1).1
    have l3 := (word_len h3).1
    rw [TL.len_tl] at l1 l3
    unfold lineT
    rw [TL.tl_append, TL.tl_append, hc, List.length_append, List.length_append]
    show 3 ≤ _ + 1 + _
    omega
theorem lineT_sign {t : Tst} (h : OkT t) : ∃ c ∈ ([61, 33, 60, 62] : List Nat), c ∈ TL.tl (lineT t) := by
  have key : ∀ s ∈ signs, ∃ c ∈ ([61, 33, 60, 62] : List Nat), c ∈ TL.tl s := by decide +kernel
  obtain ⟨c, h1, h2⟩ := key _ h.2.1
  exact ⟨c, h1, mem_app.mpr (.inl (mem_app.mpr (.inr h2)))⟩
theorem lineS_free {s : Stp} (h : OkS s) : 44 ∉ TL.tl (lineS s) ∧ 32 ∉ TL.tl (lineS s) ∧ ∃ c ∈ ([43, 58] : List Nat), c ∈ TL.tl (lineS s) := by
  obtain ⟨h1, h2⟩ := h
  obtain ⟨a, b⟩ := s
  by_cases e : b = "+"
  · subst e
    have el : lineS (a, "+") = a ++ "+" := if_pos rfl
    rw [el]
    refine ⟨fun z => ?_, fun z => ?_, 43, by decide, mem_app.mpr (.inr (by decide +kernel))⟩
    · rcases mem_app.mp z with z | z
      · exact nin 44 (by decide +kernel) h1 z
      · exact absurd z (by decide +kernel)
    · rcases mem_app.mp z with z | z
      · exact nin 32 (by decide +kernel) h1 z
      · exact absurd z (by decide +kernel)
  · have hb : wordB b lettersD = true := h2.resolve_left e
    have el : lineS (a, b) = a ++ ":" ++ b := if_neg e
    rw [el]
    refine ⟨fun z => ?_, fun z => ?_, 58, by decide, mem_app.mpr (.inl (mem_app.mpr (.inr (by decide +kernel))))⟩
    · rcases mem_app.mp z with z | z
      · rcases mem_app.mp z with z | z
        · exact nin 44 (by decide +kernel) h1 z
        · exact absurd z (by decide +kernel)
      · exact word_free hb (by decide +kernel) z
    · rcases mem_app.mp z with z | z
      · rcases mem_app.mp z with z | z
        · exact nin 32 (by decide +kernel) h1 z
        · exact absurd z (by decide +kernel)
      · exact word_free hb (by decide +kernel) z
theorem readTs_left {ts : List Tst} (h : ∀ t ∈ ts, OkT t) (n : ts.length ≤ 6) : readTs (leftL ts) = some ts := by
  unfold readTs leftL
  by_cases e : ts = []
  · subst e
    rfl
  · rw [if_neg e]
    have ne : Txt.join " and " (ts.map lineT) ≠ "always" := fun z => by
      cases ts with
      | nil => exact e rfl
      | cons t r =>
        obtain ⟨c, h1, h2⟩ := lineT_sign (h t (List.mem_cons_self ..))
        have q : c ∈ TL.tl (Txt.join " and " ((t :: r).map lineT)) := join_mem h2
        rw [z] at q
        have key : ∀ c ∈ ([61, 33, 60, 62] : List Nat), c ∉ TL.tl ("always" : Str) := by decide +kernel
        exact key c h1 q
    rw [if_neg ne, TL.split_join (y := " and ") (s := 32) (S := [97, 110, 100, 32]) (by decide +kernel) (by decide +kernel) (by simpa using e) (fun p hp => by
      obtain ⟨t, ht, rfl⟩ := List.mem_map.mp hp
      exact (lineT_free (h t ht)).1)]
    exact allR_line (fun t ht => readT_line (h t ht)) n
theorem readTs_back {x : Str} {ts : List Tst} (h : readTs x = some ts) : leftL ts = x ∧ ts.length ≤ 6 ∧ ∀ t ∈ ts, OkT t := by
  unfold readTs at h
  by_cases e : x = "always"
  · rw [if_pos e] at h
    cases h
    exact ⟨e.symm, by decide, fun t ht => by cases ht⟩
  · rw [if_neg e] at h
    obtain ⟨e1, e2, e3⟩ := allR_back (fun p t h => readT_back h) h
    refine ⟨?_, e2, e3⟩
    have ne : ts ≠ [] := fun z => by
      rw [z] at e1
      exact split_ne _ _ e1.symm
    unfold leftL
    rw [if_neg ne, e1, TL.join_eq, StrLaws.join_split]
theorem readSs_right {ss : List Stp} (h : ∀ s ∈ ss, OkS s) (n : ss.length ≤ 6) : readSs (rightL (some ss)) = some ss ∧ rightL (some ss) ≠ "drop" := by
  by_cases e : ss = []
  · subst e
    exact ⟨rfl, by decide +kernel⟩
  · have eR : rightL (some ss) = Txt.join ", " (ss.map lineS) := if_neg e
    rw [eR]
    have key : ∃ c ∈ ([43, 58] : List Nat), c ∈ TL.tl (Txt.join ", " (ss.map lineS)) := by
      cases ss with
      | nil => exact absurd rfl e
      | cons s r =>
        obtain ⟨_, _, c, h1, h2⟩ := lineS_free (h s (List.mem_cons_self ..))
        exact ⟨c, h1, join_mem h2⟩
    obtain ⟨c, h1, h2⟩ := key
    have nk : Txt.join ", " (ss.map lineS) ≠ "keep" := fun z => by
      rw [z] at h2
      have key : ∀ c ∈ ([43, 58] : List Nat), c ∉ TL.tl ("keep" : Str) := by decide +kernel
      exact key c h1 h2
    refine ⟨?_, fun z => ?_⟩
    · unfold readSs
      rw [if_neg nk, TL.split_join (y := ", ") (s := 44) (S := [32]) (by decide +kernel) (by decide +kernel) (by simpa using e) (fun p hp => by
        obtain ⟨s, hs, rfl⟩ := List.mem_map.mp hp
        exact (lineS_free (h s hs)).1)]
      exact allR_line (fun s hs => readS_line (h s hs)) n
    · rw [z] at h2
      have key : ∀ c ∈ ([43, 58] : List Nat), c ∉ TL.tl ("drop" : Str) := by decide +kernel
      exact key c h1 h2
theorem readSs_back {x : Str} {ss : List Stp} (h : readSs x = some ss) : rightL (some ss) = x ∧ ss.length ≤ 6 ∧ ∀ s ∈ ss, OkS s := by
  unfold readSs at h
  by_cases e : x = "keep"
  · rw [if_pos e] at h
    cases h
    exact ⟨e.symm, by decide, fun t ht => by cases ht⟩
  · rw [if_neg e] at h
    obtain ⟨e1, e2, e3⟩ := allR_back (fun p t h => readS_back h) h
    refine ⟨?_, e2, e3⟩
    have ne : ss ≠ [] := fun z => by
      rw [z] at e1
      exact split_ne _ _ e1.symm
    show (if ss = [] then ("keep" : Str) else Txt.join ", " (ss.map lineS)) = x
    rw [if_neg ne, e1, TL.join_eq, StrLaws.join_split]
/-! the whole line -/
theorem par_skip {s : Nat} {S : List Nat} : ∀ {p l acc : List Nat}, s ∉ p → TL.par (s :: S) acc (p ++ l) = TL.par (s :: S) (acc ++ p) l
  | [], l, acc, _ => by rw [List.append_nil]; rfl
  | c :: r, l, acc, h => by
    show TL.par (s :: S) acc (c :: (r ++ l)) = _
    rw [TL.par_miss (TL.pre_of_head S (r ++ l) fun z => h (by rw [z]; exact List.mem_cons_self ..)), par_skip fun z => h (List.mem_cons_of_mem _ z), List.append_assoc]
    rfl
theorem pre_do {q l : List Nat} (h : 32 ∉ q) (n : 3 ≤ q.length) : TL.pre [32, 100, 111, 32] (32 :: (q ++ l)) = false := by
  match q, h, n with
  | a :: b :: c :: r, h, _ =>
    refine Bool.eq_false_iff.mpr fun z => ?_
    have e : (32 :: (a :: b :: c :: r ++ l)).take 4 = [32, 100, 111, 32] := eq_of_beq z
    have e2 : [32, a, b, c] = [32, 100, 111, 32] := e
    injection e2 with _ e2
    injection e2 with _ e2
    injection e2 with _ e2
    injection e2 with e2 _
    exact h (by rw [e2]; simp)
theorem par_tests : ∀ {parts : List (List Nat)} {acc rest : List Nat}, parts ≠ [] → (∀ p ∈ parts, 32 ∉ p ∧ 3 ≤ p.length) →
    TL.par [32, 100, 111, 32] acc (TL.joinL [32, 97, 110, 100, 32] parts ++ ([32, 100, 111, 32] ++ rest)) = some (acc ++ TL.joinL [32, 97, 110, 100, 32] parts, rest)
  | [], _, _, h, _ => absurd rfl h
  | [p], acc, rest, _, h => TL.par_part1 (h p (List.mem_singleton.mpr rfl)).1
  | p :: q :: r, acc, rest, _, h => by
    have hp := h p (List.mem_cons_self ..)
    have hq := h q (List.mem_cons_of_mem _ (List.mem_cons_self ..))
    have ih := par_tests (parts := q :: r) (acc := acc ++ p ++ [32, 97, 110, 100, 32]) (rest := rest) (by simp) (fun z hz => h z (List.mem_cons_of_mem _ hz))
    have ej : TL.joinL [32, 97, 110, 100, 32] (p :: q :: r) = p ++ ([32, 97, 110, 100, 32] ++ TL.joinL [32, 97, 110, 100, 32] (q :: r)) := rfl
    have eq1 : ∃ t, TL.joinL [32, 97, 110, 100, 32] (q :: r) = q ++ t := by
      cases r with
      | nil => exact ⟨[], (List.append_nil _).symm⟩
      | cons z r => exact ⟨_, rfl⟩
    obtain ⟨t, et⟩ := eq1
    rw [ej, List.append_assoc, par_skip hp.1, List.append_assoc]
    show TL.par [32, 100, 111, 32] (acc ++ p) (32 :: 97 :: 110 :: 100 :: 32 :: (TL.joinL [32, 97, 110, 100, 32] (q :: r) ++ ([32, 100, 111, 32] ++ rest))) = _
    rw [TL.par_miss rfl, TL.par_miss (TL.pre_of_head _ _ (by decide)), TL.par_miss (TL.pre_of_head _ _ (by decide)), TL.par_miss (TL.pre_of_head _ _ (by decide)),
      TL.par_miss (by rw [et, List.append_assoc]; exact pre_do hq.1 hq.2)]
    have ea : acc ++ p ++ [32] ++ [97] ++ [110] ++ [100] ++ [32] = acc ++ p ++ [32, 97, 110, 100, 32] := by simp
    rw [ea, ih]
    simp
theorem part_line {ts : List Tst} (h : ∀ t ∈ ts, OkT t) (b : Str) : Txt.partition (leftL ts ++ " do " ++ b) " do " = (leftL ts, (" do " : Str), b) := by
  by_cases e : ts = []
  · subst e
    exact TL.partition_app (y := " do ") (s := 32) (S := [100, 111, 32]) (by decide +kernel) (by decide +kernel)
  · have el : leftL ts = Txt.join " and " (ts.map lineT) := if_neg e
    have et : TL.tl (leftL ts) = TL.joinL [32, 97, 110, 100, 32] (ts.map (fun t => TL.tl (lineT t))) := by
      rw [el, TL.join_eq, TL.tl_join, List.map_map]
      rfl
    have hd : TL.tl (" do " : Str) = [32, 100, 111, 32] := by decide +kernel
    rw [TL.partition_par _ _ (by rw [hd]; simp), TL.tl_append, TL.tl_append, List.append_assoc, hd, et]
    have hq : ∀ p ∈ ts.map (fun t => TL.tl (lineT t)), 32 ∉ p ∧ 3 ≤ p.length := fun p hp => by
      obtain ⟨t, ht, rfl⟩ := List.mem_map.mp hp
      exact lineT_free (h t ht)
    rw [par_tests (acc := []) (rest := TL.tl b) (by simpa using e) hq]
    show ((⟨([] ++ _ : List Nat).toArray⟩ : Str), _, (⟨(TL.tl b).toArray⟩ : Str)) = _
    rw [List.nil_append, ← et, TL.mk_tl, TL.mk_tl]
/-- the line of a case, read -/
theorem readC_line {c : Cas} (h : OkC c) : readC (lineC c) = some c := by
  have e : lineC c = "when " ++ (leftL c.1 ++ " do " ++ rightL c.2) := by
    unfold lineC
    rw [app_assoc, app_assoc, app_assoc]
  unfold readC
  rw [e, if_pos (starts_app _ _), removeprefix_app, part_line h.t]
  unfold readP
  show (match readTs (leftL c.1) with | none => none | some ts => _) = _
  rw [readTs_left h.t h.n]
  obtain ⟨ts, so⟩ := c
  cases so with
  | none => rfl
  | some ss =>
    obtain ⟨e1, e2⟩ := readSs_right (h.s ss rfl) (h.m ss rfl)
    show (if rightL (some ss) = "drop" then _ else match readSs (rightL (some ss)) with | none => none | some ss => some (ts, some ss)) = _
    rw [if_neg e2, e1]
/-- a line that is read is the line of the case -/
theorem readC_back {l : Str} {c : Cas} (h : readC l = some c) : lineC c = l ∧ OkC c := by
  unfold readC at h
  by_cases e : Txt.startswith l "when " = true
  · rw [if_pos e] at h
    have el := prefix_spec e
    have key : ∀ {x y : Str} {c : Cas}, readP x y = some c → leftL c.1 = x ∧ rightL c.2 = y ∧ OkC c := by
      intro x y c hr
      unfold readP at hr
      cases e1 : readTs x with
      | none =>
        rw [e1] at hr
        cases hr
      | some ts =>
        rw [e1] at hr
        obtain ⟨a1, a2, a3⟩ := readTs_back e1
        have hr' : (if y = "drop" then some (ts, none) else match readSs y with | none => none | some ss => some (ts, some ss)) = some c := hr
        by_cases e2 : y = "drop"
        · rw [if_pos e2] at hr'
          cases hr'
          exact ⟨a1, e2.symm, a2, a3, (fun ss z => by cases z), (fun ss z => by cases z)⟩
        · rw [if_neg e2] at hr'
          cases e3 : readSs y with
          | none =>
            rw [e3] at hr'
            cases hr'
          | some ss =>
            rw [e3] at hr'
            cases hr'
            obtain ⟨b1, b2, b3⟩ := readSs_back e3
            exact ⟨a1, b1, a2, a3, (fun ss z => by cases z; exact b2), (fun ss z => by cases z; exact b3)⟩
    obtain ⟨k1, k2, k3⟩ := key h
    refine ⟨?_, k3⟩
    rcases part_cases (Txt.removeprefix l "when ") " do " (by decide +kernel) with ⟨a, b, p1, p2⟩ | p1
    · rw [p1] at k1 k2
      unfold lineC
      rw [k1, k2, app_assoc, app_assoc, ← app_assoc a, ← p2]
      exact el.symm
    · rw [p1] at h
      have hx : readSs (Str.empty) = none := by decide +kernel
      have hy : ¬ (Str.empty : Str) = "drop" := by decide +kernel
      unfold readP at h
      cases e1 : readTs (Txt.removeprefix l "when ") with
      | none =>
        rw [e1] at h
        cases h
      | some ts =>
        rw [e1] at h
        have h' : (if (Str.empty : Str) = "drop" then some (ts, none) else match readSs Str.empty with | none => none | some ss => some (ts, some ss)) = some c := h
        rw [if_neg hy, hx] at h'
        cases h'
  · rw [if_neg e] at h
    cases h
end Bh

set_option Elab.async false
set_option linter.all false
set_option maxRecDepth 100000
namespace Bh
open PySem PySem.Spec PyProof.Rows L2
/-! ### None in a list of tuples and Nones -/
def nonU : Value → Bool
  | .none => true
  | _ => false
def nonV : V → Bool
  | .non => true
  | _ => false
def rInNone (K : PySem.W.Frag) : R2 := fun x y H Q => ∃ p xs, x = .non ∧ y = .ref p ∧ SqL K H p xs ∧ (∀ v ∈ xs, v = .non ∨ ∃ a ys, v = .ref a ∧ SqT K H a ys) ∧ Q (.bl (xs.any nonV)) H
theorem vals_mem : ∀ {xs : List V} {us : List Value}, Vals xs us → ∀ u ∈ us, ∃ v ∈ xs, RelV v u
  | _, _, .nil, u, h => by cases h
  | x :: xs, w :: us, .cons r t, u, h => by
    rcases List.mem_cons.mp h with rfl | h
    · exact ⟨x, List.mem_cons_self .., r⟩
    · obtain ⟨v, h1, h2⟩ := vals_mem t u h
      exact ⟨v, List.mem_cons_of_mem _ h1, h2⟩
theorem any_non {K : PySem.W.Frag} {H : Hp} : ∀ {xs : List V} {us : List Value}, Vals xs us → (∀ v ∈ xs, v = .non ∨ ∃ a ys, v = .ref a ∧ SqT K H a ys) → us.any nonU = xs.any nonV
  | _, _, .nil, _ => rfl
  | x :: xs, w :: us, .cons r t, h => by
    rw [List.any_cons, List.any_cons, any_non t fun v hv => h v (List.mem_cons_of_mem _ hv)]
    rcases h x (List.mem_cons_self ..) with e | ⟨a, ys, e, _⟩
    · subst e
      cases r
      rfl
    · subst e
      cases r
      rfl
theorem op_inNone {X : Cx} {K : PySem.W.Frag} (hK : X.K = K) (hu : X.A.units + 64 < cLine) : OpR X (compareOp .In) (rInNone K) := by
  subst hK
  intro pins s σ H x y v u Q I rx ry h
  obtain ⟨p, xs, rfl, rfl, hq, hall, q⟩ := h
  cases rx
  cases ry
  obtain ⟨its, r, pl, hz⟩ := I.list hq
  refine SeqAt.in_listAt nonU pl.isList (fun w hw => ?_) ⟨.bl _, H, I, rfl, ?_⟩
  · obtain ⟨v, hv, rv⟩ := vals_mem r w (by simpa using hw)
    rcases hall v hv with e | ⟨a, ys, e, hT⟩
    · subst e
      cases rv
      exact SeqAt.EqAt.same _
    · subst e
      cases rv
      obtain ⟨its2, _, pl2, _⟩ := I.tuple hT
      obtain ⟨o, k1, k2, n, k3⟩ := pl2
      exact SeqAt.EqAt.tuple_none ⟨o, k1, k2, n, k3⟩ (show X.A.units + 1 < cLine by omega)
  · rw [show its.toArray.any nonU = its.any nonU by simp, any_non r hall]
    exact q
end Bh

set_option Elab.async false
set_option linter.all false
set_option maxRecDepth 100000
namespace Bh
open PySem PySem.Spec PyProof.Rows L2
/-! ### how long lines are -/
theorem len_app (a b : Str) : (a ++ b).length = a.length + b.length := by rw [TL.len_tl, TL.len_tl, TL.len_tl, TL.tl_append, List.length_append]
theorem join_len (y : Str) {m : Nat} : ∀ ps : List Str, (∀ p ∈ ps, p.length ≤ m) → (Txt.join y ps).length ≤ ps.length * (m + y.length)
  | [], _ => Nat.zero_le _
  | [p], h => by
    have q := h p (List.mem_cons_self ..)
    show p.length ≤ 1 * _
    omega
  | p :: q :: r, h => by
    have k1 := h p (List.mem_cons_self ..)
    have k2 := join_len y (q :: r) fun z hz => h z (List.mem_cons_of_mem _ hz)
    rw [TL.join_eq] at k2 ⊢
    show (p ++ y ++ Str.join y (q :: r)).length ≤ _
    rw [len_app, len_app, List.length_cons, Nat.succ_mul]
    omega
theorem join_part (y : Str) : ∀ (ps : List Str) (p : Str), p ∈ ps → p.length ≤ (Txt.join y ps).length
  | [], _, h => by cases h
  | [p], z, h => by
    cases List.mem_singleton.mp h
    exact Nat.le_refl _
  | p :: q :: r, z, h => by
    have e : (Txt.join y (p :: q :: r)).length = p.length + y.length + (Txt.join y (q :: r)).length := by
      rw [TL.join_eq, TL.join_eq]
      show (p ++ y ++ Str.join y (q :: r)).length = _
      rw [len_app, len_app]
    rw [e]
    rcases List.mem_cons.mp h with rfl | h
    · omega
    · have := join_part y (q :: r) z h
      omega
theorem split_part {x y p : Str} (h : p ∈ Txt.split x y) : p.length ≤ x.length := by
  have q := join_part y _ p h
  rw [TL.join_eq, StrLaws.join_split] at q
  exact q
theorem part_len (x y : Str) (hy : TL.tl y ≠ []) : (Txt.partition x y).1.length ≤ x.length ∧ (Txt.partition x y).2.2.length ≤ x.length := by
  rcases part_cases x y hy with ⟨a, b, e1, e2⟩ | e1
  · have l : x.length = a.length + y.length + b.length := by rw [e2, len_app, len_app]
    rw [e1]
    show a.length ≤ _ ∧ b.length ≤ _
    omega
  · rw [e1]
    exact ⟨Nat.le_refl _, Nat.zero_le _⟩
theorem sign_len : ∀ s ∈ signs, s.length = 1 := by decide +kernel
theorem lineT_len {t : Tst} (h : OkT t) : (lineT t).length ≤ 17 := by
  have l1 := (word_len h.1).2
  have l2 := sign_len _ h.2.1
  have l3 := (word_len h.2.2).2
  unfold lineT
  rw [len_app, len_app]
  omega
theorem lineS_len {s : Stp} (h : OkS s) : (lineS s).length ≤ 17 := by
  obtain ⟨a, b⟩ := s
  obtain ⟨h1, h2⟩ := h
  have l1 := (word_len h1).2
  have h1' : a.length ≤ 8 := l1
  by_cases e : b = "+"
  · subst e
    have el : lineS (a, "+") = a ++ "+" := if_pos rfl
    rw [el, len_app]
    show _ + 1 ≤ 17
    omega
  · have l2 := (word_len (h2.resolve_left e)).2
    have l2' : b.length ≤ 8 := l2
    have el : lineS (a, b) = a ++ ":" ++ b := if_neg e
    rw [el, len_app, len_app]
    show _ + 1 + _ ≤ 17
    omega
theorem left_len {ts : List Tst} (h : ∀ t ∈ ts, OkT t) (n : ts.length ≤ 6) : (leftL ts).length ≤ 132 := by
  unfold leftL
  by_cases e : ts = []
  · rw [if_pos e]
    show 6 ≤ 132
    decide
  · rw [if_neg e]
    have q := join_len " and " (m := 17) (ts.map lineT) fun p hp => by
      obtain ⟨t, ht, rfl⟩ := List.mem_map.mp hp
      exact lineT_len (h t ht)
    rw [List.length_map] at q
    have q2 : (Txt.join " and " (ts.map lineT)).length ≤ ts.length * (17 + 5) := q
    omega
theorem right_len {so : Option (List Stp)} (h : ∀ ss, so = some ss → ∀ s ∈ ss, OkS s) (n : ∀ ss, so = some ss → ss.length ≤ 6) : (rightL so).length ≤ 132 := by
  cases so with
  | none =>
    show 4 ≤ 132
    decide
  | some ss =>
    have h := h ss rfl
    have n := n ss rfl
    show (if ss = [] then ("keep" : Str) else Txt.join ", " (ss.map lineS)).length ≤ 132
    by_cases e : ss = []
    · rw [if_pos e]
      show 4 ≤ 132
      decide
    · rw [if_neg e]
      have q := join_len ", " (m := 17) (ss.map lineS) fun p hp => by
        obtain ⟨t, ht, rfl⟩ := List.mem_map.mp hp
        exact lineS_len (h t ht)
      rw [List.length_map] at q
      have q2 : (Txt.join ", " (ss.map lineS)).length ≤ ss.length * (17 + 2) := q
      omega
theorem line_len {c : Cas} (h : OkC c) : (lineC c).length ≤ 300 := by
  have l1 := left_len h.t h.n
  have l2 := right_len h.s h.m
  unfold lineC
  rw [len_app, len_app, len_app]
  show 5 + _ + 4 + _ ≤ 300
  omega
theorem sum_len {α : Type} {f : α → Str} {m : Nat} : ∀ l : List α, (∀ x ∈ l, (f x).length ≤ m) → (((l.map f).map (·.length)).sum) ≤ l.length * m
  | [], _ => Nat.zero_le _
  | x :: r, h => by
    have k1 := h x (List.mem_cons_self ..)
    have k2 := sum_len (f := f) r fun z hz => h z (List.mem_cons_of_mem _ hz)
    rw [List.map_cons, List.map_cons, List.sum_cons, List.length_cons, Nat.succ_mul]
    omega
/-! data of what is read -/
def dOpt {α : Type} (f : α → PyData) : Option α → PyData
  | none => .none
  | some x => f x
theorem seqO_map {α β : Type} (f : α → β) : ∀ l : List (Option α), seqO (l.map (Option.map f)) = (seqO l).map (List.map f)
  | [] => rfl
  | none :: _ => rfl
  | some x :: r => by
    show (seqO (r.map (Option.map f))).map (f x :: ·) = ((seqO r).map (x :: ·)).map (List.map f)
    rw [seqO_map f r]
    cases seqO r <;> rfl
theorem allR_map {α β : Type} (f : α → β) (l : List (Option α)) : allR (l.map (Option.map f)) = (allR l).map (List.map f) := by
  unfold allR
  rw [List.length_map]
  by_cases h : l.length ≤ 6
  · rw [if_pos h, if_pos h, seqO_map]
  · rw [if_neg h, if_neg h]
    rfl
theorem seqO_none {α : Type} : ∀ {l : List (Option α)}, none ∈ l → seqO l = none
  | none :: _, _ => rfl
  | some x :: r, h => by
    show (seqO r).map (x :: ·) = none
    rcases List.mem_cons.mp h with h | h
    · cases h
    · rw [seqO_none h]
      rfl
theorem noL_opt {α : Type} {f : α → PyData} (h : ∀ x, noL (f x) = true) : ∀ o, noL (dOpt f o) = true
  | none => rfl
  | some x => h x
/-- all there: the tuple of these -/
theorem dp_all {K : PySem.W.Frag} {H : Hp} : ∀ {xs : List V} {l : List (Option PyData)}, DpAll K H xs (l.map (dOpt id)) → (∀ d, some d ∈ l → ∃ ds, d = .tuple ds) → xs.any nonV = false → ∃ ds, seqO l = some ds ∧ DpAll K H xs ds
  | _, [], h, _, _ => ⟨[], rfl, h⟩
  | _, o :: l, .cons h t, hT, hn => by
    rw [List.any_cons, Bool.or_eq_false_iff] at hn
    obtain ⟨ds, e1, e2⟩ := dp_all t (fun d hd => hT d (List.mem_cons_of_mem _ hd)) hn.2
    cases o with
    | none =>
      have q := dp_non (show Dp K H _ .none from h)
      rw [q] at hn
      exact absurd hn.1 (by decide)
    | some d =>
      refine ⟨d :: ds, ?_, .cons h e2⟩
      show (seqO l).map (d :: ·) = _
      rw [e1]
      rfl
theorem dp_some {K : PySem.W.Frag} {H : Hp} : ∀ {xs : List V} {l : List (Option PyData)}, DpAll K H xs (l.map (dOpt id)) → (∀ d, some d ∈ l → ∃ ds, d = .tuple ds) → ∀ v ∈ xs, v = .non ∨ ∃ a ys, v = .ref a ∧ SqT K H a ys
  | _, [], .nil, _, v, hv => by cases hv
  | _, o :: l, .cons h t, hT, v, hv => by
    rcases List.mem_cons.mp hv with rfl | hv
    · cases o with
      | none => exact .inl (dp_non h)
      | some d =>
        obtain ⟨ds, rfl⟩ := hT d (List.mem_cons_self ..)
        obtain ⟨a, ys, e, k, _⟩ := dp_tup (show Dp K H _ (.tuple ds) from h)
        exact .inr ⟨a, ys, e, k⟩
    · exact dp_some t (fun d hd => hT d (List.mem_cons_of_mem _ hd)) v hv
theorem dp_hasnone {K : PySem.W.Frag} {H : Hp} : ∀ {xs : List V} {l : List (Option PyData)}, DpAll K H xs (l.map (dOpt id)) → (∀ d, some d ∈ l → ∃ ds, d = .tuple ds) → xs.any nonV = true → seqO l = none
  | _, [], .nil, _, h => by cases h
  | _, o :: l, .cons h t, hT, hn => by
    cases o with
    | none => rfl
    | some d =>
      obtain ⟨ds, rfl⟩ := hT d (List.mem_cons_self ..)
      obtain ⟨a, ys, rfl, k, _⟩ := dp_tup (show Dp K H _ (.tuple ds) from h)
      show (seqO l).map _ = none
      rw [dp_hasnone t (fun d hd => hT d (List.mem_cons_of_mem _ hd)) hn]
      rfl
/-! what a def leaves that knows nothing of the bag -/
theorem Wd.fresh {b l : Addr} {G H H' : Hp} (w : Wd b l G H) (e : Same H H') : Wd b l (hid b (hid l H')) H' ∧ Same G (hid b (hid l H')) ∧ Imm H' (hid b (hid l H')) := by
  have hb := w.bag.same e
  obtain ⟨ns, i, c, s, h1, h2, _⟩ := id hb
  refine ⟨⟨?_, ?_, hid_le.trans hid_le, hb⟩, hid_of (hid_of (w.sm.trans e) w.nl) w.nb, fun a u k n => ?_⟩
  · unfold hid
    rw [if_pos rfl]
  · show hid b (hid l H') l = none
    rw [hid_comm]
    unfold hid
    rw [if_pos rfl]
  · have nb : a ≠ b := fun z => by
      rw [z, h1] at k
      exact n _ (Option.some.inj k).symm
    have nl : a ≠ l := fun z => by
      rw [z, h2] at k
      exact n _ (Option.some.inj k).symm
    rw [hid_ne nb, hid_ne nl]
    exact k
end Bh

set_option Elab.async false
set_option linter.all false
set_option maxRecDepth 100000
set_option maxHeartbeats 2000000
namespace Bh
open PySem PySem.Spec PyProof.Rows L2 LamX NdefX
/-! ### a lambda with parameters, handed to a def and called there -/
/-- its words, as those of a nested def without a body of statements -/
abbrev lamF (q : Str) (params : Arguments) (scope : Scope) (cl : List (Str × Addr)) (c : Addr) : NF := ⟨"<lambda>", q, params, [], scope, cl, c⟩
theorem CellsAt.un {cl : List (Str × Addr)} {fr : List Str} {ws : List (Option V)} {st : List Addr} {H HZ : Hp} {h h1 : Heap} (C : CellsAt cl fr ws h H) (un : Un st [] H HZ h h1) : CellsAt cl fr ws h1 HZ := by
  have kp : ∀ y c, cl.lookup y = some c → ∀ v, h.IsCell c v → h1.IsCell c v := fun y c e v ⟨o, ho, hd⟩ => by
    obtain ⟨sl, q⟩ := un.any ho (C.all y c e).1 (by simp)
    exact ⟨_, q, hd⟩
  refine ⟨C.len, fun y c e => ?_, C.inj, fun i y e => ?_⟩
  · obtain ⟨n, v, z⟩ := C.all y c e
    refine ⟨?_, v, kp y c e v z⟩
    obtain ⟨o, ho, _⟩ := z
    exact un.free c o ho n (by simp)
  · obtain ⟨c, hc, hv⟩ := C.has i y e
    refine ⟨c, hc, fun v ev => ?_⟩
    obtain ⟨u, r, z⟩ := hv v ev
    exact ⟨u, r, kp y c hc _ z⟩
section
variable {CX : CXT} {P : Program} {w : World} {K : PySem.W.Frag} {mg : Str → Option Value} {base : Heap} {N ps fr : List Str} {f c' : Addr} {k : Nat} {q : Str} {params : Arguments} {body : Expr} {scope : Scope} {cl : List (Str × Addr)}
/-- the lambda runs -/
theorem lam_run {A : Around} {outer : List Env} {s : Shared} {H : Hp} {us : List Value} {vs : List V} {ws : List (Option V)} {Q : VK} {E : XK} {pm ctv : Value} {tb : TE} (S : NScope N ps fr scope)
    (hb : ∀ (us : List Value), us.length = ps.length → bindArgs (PySem.W.kla_fn "<lambda>" q params body scope cl pm (.ref c') ctv) ⟨us, []⟩ = pure (ps.zip us))
    (hr : Room (k + 1) A) (e0 : Env0 P w K mg base A outer s H) (lim : s.heap.NoLimit) (of : s.heap.get? f = some (PySem.W.kla_obj "<lambda>" q params body scope cl pm c' ctv)) (hc : s.heap.CodeRec (.ref c') q)
    (C : CellsAt cl fr ws s.heap H) (r : Vals vs us) (hl : vs.length = ps.length)
    (hbody : Room k (A.deeper (envF (lamF q params scope cl c') f s.heap.objs.size)) → PE (ncx CX P w K mg base N (lamF q params scope cl c') f A outer s H E) body tb) (h : tb (startF N vs ws) H Q) :
    codeAny (model P w) A (.call (.ref f) ⟨us, []⟩) (CR CX outer P w H s Q E) s := by
  refine PySem.W.kla_callFunE hr.depth of rfl S.co S.gen rfl hc ?_
  rw [hb us (by rw [← r.length]; exact hl)]
  refine wpAny_pure (wpAny_newFunctionEnv S.nocell (fun ⟨n, _⟩ hy => S.par n (List.of_mem_zip hy).1) (fun h₁ hns hsb => ⟨lim.fresh _ hsb, ?_⟩) S.kind)
  show codeAny _ _ (.expr body (envF (lamF q params scope cl c') f s.heap.objs.size)) _ _
  have kp : ∀ b o, s.heap.get? b = some o → h₁.get? b = some o := fun b o e => hsb.extBut b o (Nat.ne_of_lt (Heap.lt_size e)) (Heap.get?_push_of_some _ e)
  have I : Inv (ncx CX P w K mg base N (lamF q params scope cl c') f A outer s H E) [] (startF N vs ws) H { s with heap := h₁, toks := s.toks + (ps.zip us).length } := inv_startN (F := lamF q params scope cl c') S hr.hd e0 hl r C hns kp
  refine PySem.W.kla_codeExpr (wpAny_mono ((hbody (hr.deeper _)).run [] _ (startF N vs ws) H Q I h) (fun v s' hq => ?_) fun e s' hq => hq)
  obtain ⟨w', H', J', rv, q⟩ := hq
  exact ⟨w', H', J'.os, J'.bare, J'.base, J'.hok, rv, q⟩
/-- f(e, ..), f a name of the callee that holds the lambda: Z is the callee's context, entered at s -/
def tLamAct (c' f : Addr) (q : Str) (i n : Nat) (N : List Str) (ws : List (Option V)) (tb : TE) (t : TA) : TE := fun σ H Q => σ[i]? = some (some (.ref f)) ∧ H c' = some (CodeO c' q) ∧
  t σ H fun vs H1 => H1 c' = some (CodeO c' q) ∧ vs.length = n ∧ tb (startF N vs ws) H1 Q
theorem pe_lamact {CXg : CXT} {Eg : XK} {Ng : List Str} {qg : Str} {sg : Scope} {g : Addr} {cdg pm ctv : Value} {A0 : Around} {st : List Env} {s : Shared} {H : Hp} {ws : List (Option V)} {tb : TE} {a : Str} {i : Nat} {e : Expr} {es : List Expr} {t : TA} {p1 p2 : Pos}
    (S : NScope N ps fr scope) (hb : ∀ (us : List Value), us.length = ps.length → bindArgs (PySem.W.kla_fn "<lambda>" q params body scope cl pm (.ref c') ctv) ⟨us, []⟩ = pure (ps.zip us))
    (of : s.heap.get? f = some (PySem.W.kla_obj "<lambda>" q params body scope cl pm c' ctv)) (hfn : H f = none) (hfr : f ∉ frs st) (C : CellsAt cl fr ws s.heap H)
    (hr : Room (k + 1) (A0.deeper (envOfC qg sg s.heap.objs.size g cdg)))
    (hbody : ∀ (A : Around) (outer : List Env) (s : Shared) (H : Hp), Room k (A.deeper (envF (lamF q params scope cl c') f s.heap.objs.size)) → PE (ncx C8.CX0 P w K mg base N (lamF q params scope cl c') f A outer s H C8.E0) body tb)
    (hN : Ng[i]? = some a) (hv : Vis sg a) (ha : PA (cxOf CXg P w K mg base Ng qg sg g cdg A0 st s H Eg).nox (e :: es) t)
    (hd : (a == ("__debug__" : Str)) = false := by decide) (hcd : (a == ("__classdict__" : Str)) = false := by decide)
    (he : starEach (e :: es) (cxOf CXg P w K mg base Ng qg sg g cdg A0 st s H Eg).nox.env = (false, eval e (cxOf CXg P w K mg base Ng qg sg g cdg A0 st s H Eg).nox.env) :: starEach es (cxOf CXg P w K mg base Ng qg sg g cdg A0 st s H Eg).nox.env := by rfl)
    (hpl : (backTo p2 (starEach es (cxOf CXg P w K mg base Ng qg sg g cdg A0 st s H Eg).nox.env)).any (·.1) = false := by rfl) :
    PE (cxOf CXg P w K mg base Ng qg sg g cdg A0 st s H Eg).nox (.Call (.Name a p1) (e :: es) [] p2) (tLamAct c' f q i ps.length N ws tb t) := by
  refine ⟨fun pinsZ sZ σZ HZ Q IZ h => ?_⟩
  obtain ⟨hs, hc, ht⟩ := h
  refine wpAny_Call_Name_kw (thn ((pe_var (pos := p1) (i := i) hN hv hd hcd).run pinsZ sZ σZ HZ (fun v H1 => v = .ref f ∧ H1 = HZ) IZ ⟨.ref f, hs, rfl, rfl⟩) fun u s1 ⟨v, H1, I1, r1, q1⟩ => ?_)
  obtain ⟨ev, eH⟩ := q1
  subst ev
  rw [eH] at I1
  obtain rfl : u = Value.ref f := r1
  have at_ : ∀ {pins σ HZ} {s1 : Shared}, Inv (cxOf CXg P w K mg base Ng qg sg g cdg A0 st s H Eg).nox pins σ HZ s1 → s1.heap.get? f = some (PySem.W.kla_obj "<lambda>" q params body scope cl pm c' ctv) := fun I1 => I1.base.keep f _ of hfn hfr (fun z => nomatch (show f ∈ ([] : List Addr) from z))
  refine PySem.W.callWith_F (first := []) ⟨_, _, _, _, at_ I1⟩ (thn (ha.run p2 pinsZ s1 σZ HZ _ I1 ht) fun us s2 ⟨vs, H2, I2, r, h1, h2, h3⟩ => ⟨⟨_, _, _, _, at_ I2⟩, ?_⟩) he hpl
  show wpAny _ _ (call (.ref f) us) _ _ _
  have un : Un (frs st) [] H H2 s.heap s2.heap := I2.base
  obtain ⟨⟨oc, vsc, tc, hoc, hdc, hvc⟩, _, _⟩ := I2.hok c' _ h1
  have rc := lam_run (Q := Q) (A := (cxOf CXg P w K mg base Ng qg sg g cdg A0 st s H Eg).nox.A) (outer := (cxOf CXg P w K mg base Ng qg sg g cdg A0 st s H Eg).nox.stack) S hb hr I2.env0 I2.nolimit (at_ I2) ⟨c', oc, vsc, tc, rfl, hoc, hdc, hvc⟩ (CellsAt.un C un) r h2 (fun hr2 => hbody _ _ s2 H2 hr2) h3
  refine wpAny_call (codeAny_mono rc fun r s' hq => ?_)
  cases r with
  | error e => exact (show False from hq).elim
  | ok fl =>
    cases fl with
    | ret u => exact I2.after hq
    | next => exact False.elim hq
    | brk => exact False.elim hq
    | cont => exact False.elim hq
end
end Bh
namespace Bh
open PySem PySem.Spec PyProof.Rows L2 LamX NdefX
/-- the def that calls what it got in its second place: what it makes (TT) of the lambda's reading -/
def GivesTo2 (X : Cx) (Ng : List Str) (x : Str) (sg : Scope) (g : Addr) (cdg : Value) (bg : List Stmt) (a : Str) (q : Str) (n : Nat) (TT : (List V → Hp → VK → Prop) → V → Hp → VK → Prop) : Prop :=
  ∀ (f c' : Addr) (s : Shared) (H : Hp) (Q : VK) (v1 : V) (N : List Str) (ws : List (Option V)) (tb : TE),
    (∀ (e : Expr) (es : List Expr) (t : TA) (p1 p2 : Pos), PA (cxOf C8.CX0 X.prog X.w X.K X.mg X.base Ng x sg g cdg X.A X.stack s H C8.E0).nox (e :: es) t →
      starEach (e :: es) (cxOf C8.CX0 X.prog X.w X.K X.mg X.base Ng x sg g cdg X.A X.stack s H C8.E0).nox.env = (false, eval e (cxOf C8.CX0 X.prog X.w X.K X.mg X.base Ng x sg g cdg X.A X.stack s H C8.E0).nox.env) :: starEach es (cxOf C8.CX0 X.prog X.w X.K X.mg X.base Ng x sg g cdg X.A X.stack s H C8.E0).nox.env →
      (backTo p2 (starEach es (cxOf C8.CX0 X.prog X.w X.K X.mg X.base Ng x sg g cdg X.A X.stack s H C8.E0).nox.env)).any (·.1) = false →
      PE (cxOf C8.CX0 X.prog X.w X.K X.mg X.base Ng x sg g cdg X.A X.stack s H C8.E0).nox (.Call (.Name a p1) (e :: es) [] p2) (tLamAct c' f q 1 n N ws tb t)) →
    H c' = some (CodeO c' q) → TT (fun vs H' Q' => tb (startF N vs ws) H' Q') v1 H Q →
    ∃ t, PSs (cxOf C8.CX0 X.prog X.w X.K X.mg X.base Ng x sg g cdg X.A X.stack s H C8.E0).nox bg t ∧ t { nx := fun _ H' => Q .non H', rt := Q } (L2.start Ng [v1, .ref f]) H
def tLam2 (T : List (Addr × Str)) (N : List Str) (js : List Nat) (TT : (List V → Hp → VK → Prop) → V → Hp → VK → Prop) (tb : TE) (t1 : TE) : TE := fun σ H Q => t1 σ H fun v1 H1 => Tabs T H1 ∧ ∀ H2, ExtN H1 H2 → Tabs T H2 → TT (fun vs H' Q' => tb (startF N vs (js.map (slotAt σ))) H' Q') v1 H2 Q
/-- x(e1, lambda ..: body) -/
theorem pe_lamcall2 {X : Cx} {T : List (Addr × Str)} {TT : (List V → Hp → VK → Prop) → V → Hp → VK → Prop} {x a1 a : Str} {g c P : Addr} {k : Nat} {pg : Arguments} {bg : List Stmt} {sg : Scope} {dV kV doc pm cdv ct oc : Value} {an od : Option Addr} {osl : Array (Option Value)} {Ng : List Str}
    {params : Arguments} {body : Expr} {scope : Scope} {N ps fr : List Str} {js : List Nat} {tb t1 : TE} {e1 : Expr} {p lpos pos : Pos} (hg : Gl X x) (hm : X.mg x = some (.ref g)) (hk : PySem.W.keepIn X.K (.ref g) = true)
    (lk : X.K.lookup g = some ⟨oc, od, .func (PySem.W.fnOf x x pg bg sg dV kV doc pm an cdv ct), osl⟩) (hcg : PySem.W.codeIn X.K cdv x = true) (hb : L2.Binds X.K (PySem.W.fnOf x x pg bg sg dV kV doc pm an cdv ct) [a1, a] []) (Sg : FnScope Ng [a1, a] sg) (hNg : Ng[1]? = some a) (hva : Vis sg a)
    (he1 : PE X e1 t1)
    (hG : GivesTo2 X Ng x sg g cdv bg a (X.env.qual ++ "<lambda>") ps.length TT)
    (TB : TabB X.base X.mg c P) (hcode : X.env.code = .ref c) (hmT : (P, X.env.qual ++ "<lambda>") ∈ T) (hu : ∀ p ∈ T, p.1 = P → p.2 = X.env.qual ++ "<lambda>") (hr : Room (k + 2) X.A) (hdef : defaultsOf params X.env = ([], []))
    (S : NScope N ps fr scope) (hfree : ∀ y ∈ scope.names, y.2 = .free → X.env.scope.names.lookup y.1 = some .cell ∨ X.env.scope.names.lookup y.1 = some .free) (hfr : ∀ y ∈ fr, (y, NameKind.free) ∈ scope.names) (hjs : js.map (fun j => X.N[j]?) = fr.map some)
    (hbind : ∀ (q : Str) (cl : List (Str × Addr)) (pm cv ctv : Value) (us : List Value), us.length = ps.length → bindArgs (PySem.W.kla_fn "<lambda>" q params body scope cl pm cv ctv) ⟨us, []⟩ = pure (ps.zip us))
    (hbody : ∀ (A : Around) (outer : List Env) (s : Shared) (H : Hp) (F : NF) (f : Addr), F.scope = scope → Room k (A.deeper (envF F f s.heap.objs.size)) → PE (ncx C8.CX0 X.prog X.w X.K X.mg X.base N F f A outer s H C8.E0) body tb)
    (hdb : (x == ("__debug__" : Str)) = false := by decide) (hd : (a == ("__debug__" : Str)) = false := by decide) (hcd : (a == ("__classdict__" : Str)) = false := by decide)
    (hs1 : starEach [e1, .Lambda params body scope lpos] X.env = (false, eval e1 X.env) :: starEach [.Lambda params body scope lpos] X.env := by rfl) (hpl : (backTo pos (starEach [.Lambda params body scope lpos] X.env)).any (·.1) = false := by rfl) :
    PE X (.Call (.Name x p) [e1, .Lambda params body scope lpos] [] pos) (tLam2 T N js TT tb t1) := by
  refine ⟨fun pins s σ H Q I h => ?_⟩
  refine wpAny_Call_Name_kw (ld_glob I hg hm ?_ hdb)
  refine PySem.W.callWith_K (h₀ := X.base) I.ok.mod.kin hk ?_ hs1 hpl
  rw [hs1]
  show wpAny _ _ (spliced ((false, eval e1 X.env) :: backTo pos (starEach [.Lambda params body scope lpos] X.env))) _ _ s
  refine Calls.spliced_cons (thn (he1.run pins s σ H _ I h) fun u1 s0 ⟨v1, H0, I0, r1, hT, h⟩ => ?_)
  have hfr' : ∀ y ∈ scope.names, y.2 = .free → ∃ c, X.env.cells.lookup y.1 = some c := fun y hy e => (hfree y hy e).elim (fun z => I0.ok.has _ (.inl z)) fun z => I0.ok.has _ (.inr z)
  show wpAny _ _ (spliced ((false, eval (.Lambda params body scope lpos) X.env) :: backTo pos (starEach [] X.env))) _ _ s0
  refine Calls.spliced_cons (lam_make2 I0 TB hcode hmT hu hT hdef hfr' fun f c' pm' ctv H1 s' I1 eN T1 hf hfn hfs hco => ?_)
  refine Calls.spliced_nil ⟨I1.kIn, ?_⟩
  have C := cells_of I1 (Caps.made (fr := fr) (js := js) I1.ok hfree hfr hjs)
  have rc : codeAny (model X.prog X.w) X.A (.call (.ref g) ⟨[u1, .ref f], []⟩) (CR C8.CX0 X.stack X.prog X.w H1 s' Q C8.E0) s' := by
    refine run_ofS (N := Ng) (ps := [a1, a]) (us := [u1, .ref f]) (vs := [v1, .ref f]) lk hcg Sg hr I1.env0 (hb s' [u1, .ref f] I1.kIn rfl) (.cons r1 (.cons rfl .nil)) rfl fun hr' => ?_
    refine (fun ⟨t, h1, h2⟩ => ⟨t, h1.nox, h2⟩) (hG f c' s' H1 Q v1 N (js.map (slotAt σ)) tb (fun e es t p1 p2 ha he hp => pe_lamact S (hbind _ _ _ _ _) hf hfn hfs C hr' (fun A outer s H hr2 => hbody A outer s H _ _ rfl hr2) hNg hva ha hd hcd he hp) hco (h H1 eN T1))
  refine wpAny_call (codeAny_mono rc fun r s2 hq => ?_)
  cases r with
  | error e => exact (show False from hq).elim
  | ok fl =>
    cases fl with
    | ret u => exact I1.after hq
    | next => exact False.elim hq
    | brk => exact False.elim hq
    | cont => exact False.elim hq
end Bh

set_option Elab.async false
set_option linter.all false
set_option maxRecDepth 100000
namespace Bh
open PySem PySem.Spec PyProof.Rows L2
/-! ### the parts of a rulebook as data -/
/-- a statement that is never reached -/
theorem ps_dead {X : Cx} {st : Stmt} : PS X st (fun _ _ _ => False) := ⟨fun _ _ _ _ _ _ h => h.elim⟩
theorem pa_starK {X : Cx} {K : PySem.W.Frag} {e : Expr} {es : List Expr} {te : TE} {t : TA} {p : Pos} (hK : X.K = K) (he : PE X e te) (hr : PA X es t) (hs : starEach (.Starred e p :: es) X.env = (true, eval e X.env) :: starEach es X.env := by rfl) : PA X (.Starred e p :: es) (StX.tStar K te t) := by
  subst hK
  exact StX.pa_star he hr hs
theorem pe_dead {X : Cx} {e : Expr} : PE X e (fun _ _ _ => False) := ⟨fun _ _ _ _ _ _ h => h.elim⟩
theorem iteB {b : Bool} {A B : Prop} (h1 : b = true → A) (h2 : b = false → B) : if b = true then A else B := by
  cases b
  · exact h2 rfl
  · exact h1 rfl
/-- a walk, whatever is done at each turn -/
theorem walk_out {J : It} {n : Nat} {G : Hp → Prop} {Y : Nat → Hp → V → Hp → Prop} (w : Walk J n G Y) {B : V → Hp → (Hp → Prop) → Prop} {H0 : Hp} {Qd : Hp → Prop} (Pv : Nat → Hp → Prop) (h0 : Pv 0 H0) (hG : ∀ i H, i ≤ n → Pv i H → G H)
    (hs : ∀ i x H H', i < n → Pv i H → Y i H x H' → B x H' (Pv (i + 1))) (hd : ∀ H, Pv n H → Qd H) :
    ∃ W : Nat → Nat → Hp → Prop, (∃ m, W 0 m H0) ∧ ∀ i m H, W i m H → (J.stop i H ∧ Qd H) ∨ (J.go i H ∧ ∃ Nx : Hp → Prop, (∀ H', Nx H' → ∃ m', m' < m ∧ W (i + 1) m' H') ∧ ∀ x H', J.yld i H x H' → B x H' Nx) := by
  refine ⟨fun i m H => m + i = n ∧ Pv i H, ⟨n, by omega, h0⟩, ?_⟩
  rintro i m H ⟨em, p⟩
  by_cases hi : i < n
  · refine .inr ⟨w.goes i H hi (hG i H (by omega) p), Pv (i + 1), fun H' p' => ⟨m - 1, by omega, by omega, p'⟩, fun x H' y => hs i x H H' hi p (w.yields i H x H' hi (hG i H (by omega) p) y)⟩
  · obtain rfl : i = n := by omega
    exact .inl ⟨w.stops H (hG i H (Nat.le_refl _) p), hd H p⟩
/-- a comprehension of which all items come out true -/
theorem lc_trues {J : It} {n : Nat} {G : Hp → Prop} {xs : List V} (wk : Walk J n G (YAt xs)) {H : Hp} {D : Addr} {g : TG} {te : TE} {vs : List Nat} {σ : L2.St} {Qd : Hp → Prop} (nD : H D = none) (hn : n ≤ 100000) (hG : ∀ H', Same H H' → G H')
    (hs : ∀ (i : Nat) (x : V) (H' : Hp) (R : V → Hp → Prop) (R' : Hp → Prop), xs[i]? = some x → Same H H' → (∀ H4, Same H' H4 → R (.bl true) H4) → g x (wipe σ vs) H' fun σ2 H2 => wipe σ2 vs = wipe σ vs ∧ tYes σ2 H2 fun b H3 => if b = true then te σ2 H3 R else R' H3)
    (hd : ∀ H', Same H H' → H' D = some (.lst ((List.replicate n true).map V.bl)) → Qd H') :
    ∃ W : Nat → Nat → Hp → Prop, (∃ m, W 0 m (upd H D (.lst []))) ∧ ∀ i m H, W i m H →
      (J.stop i H ∧ Qd H) ∨ (J.go i H ∧ ∃ Nx : Hp → Prop, (∀ H', Nx H' → ∃ m', m' < m ∧ W (i + 1) m' H') ∧ ∀ x H', J.yld i H x H' → g x (wipe σ vs) H' fun σ2 H2 => wipe σ2 vs = wipe σ vs ∧ tYes σ2 H2 fun b H3 =>
        if b = true then te σ2 H3 fun y H4 => ∃ acc, H4 D = some (.lst acc) ∧ acc.length < sizeLine ∧ Nx (upd H4 D (.lst (acc ++ [y]))) else Nx H3) := by
  refine lc_it wk (fun i H' => Same H H' ∧ H' D = some (.lst ((List.replicate i true).map V.bl))) ⟨same_new nD, upd_same⟩ (fun i H' _ p => hG H' p.1) ?_ ?_
  · rintro i x H' H'' hi ⟨s1, hDl⟩ ⟨rfl, ey⟩
    refine hs i x H'' _ _ ey s1 fun H4 s4 => ⟨_, s4 _ _ hDl, ?_, same_mut (s1.trans s4) nD, ?_⟩
    · rw [List.length_map, List.length_replicate]
      exact lt_line (by omega)
    · rw [upd_same, List.replicate_succ', List.map_append]
      rfl
  · rintro H' ⟨s1, hDl⟩
    exact hd H' s1 hDl
/-- the same over pairs that the walk makes -/
theorem lc_truesP {J : It} {n : Nat} {G : Hp → Prop} {xs ys : Nat → Option V} (wk : Walk J n G (YPair xs ys)) {H : Hp} {D : Addr} {g : TG} {te : TE} {vs : List Nat} {σ : L2.St} {Qd : Hp → Prop} (nD : H D = none) (hn : n ≤ 100000) (hG : ∀ H', Same H H' → G H')
    (hs : ∀ (i : Nat) (x y : V) (T : Addr) (H' : Hp) (R : V → Hp → Prop) (R' : Hp → Prop), xs i = some x → ys i = some y → Same H H' → H' T = none → (∀ H4, Same (upd H' T (.tup [x, y])) H4 → R (.bl true) H4) →
      g (.ref T) (wipe σ vs) (upd H' T (.tup [x, y])) fun σ2 H2 => wipe σ2 vs = wipe σ vs ∧ tYes σ2 H2 fun b H3 => if b = true then te σ2 H3 R else R' H3)
    (hd : ∀ H', Same H H' → H' D = some (.lst ((List.replicate n true).map V.bl)) → Qd H') :
    ∃ W : Nat → Nat → Hp → Prop, (∃ m, W 0 m (upd H D (.lst []))) ∧ ∀ i m H, W i m H →
      (J.stop i H ∧ Qd H) ∨ (J.go i H ∧ ∃ Nx : Hp → Prop, (∀ H', Nx H' → ∃ m', m' < m ∧ W (i + 1) m' H') ∧ ∀ x H', J.yld i H x H' → g x (wipe σ vs) H' fun σ2 H2 => wipe σ2 vs = wipe σ vs ∧ tYes σ2 H2 fun b H3 =>
        if b = true then te σ2 H3 fun y H4 => ∃ acc, H4 D = some (.lst acc) ∧ acc.length < sizeLine ∧ Nx (upd H4 D (.lst (acc ++ [y]))) else Nx H3) := by
  refine lc_it wk (fun i H' => Same H H' ∧ H' D = some (.lst ((List.replicate i true).map V.bl))) ⟨same_new nD, upd_same⟩ (fun i H' _ p => hG H' p.1) ?_ ?_
  · rintro i z H' H'' hi ⟨s1, hDl⟩ ⟨T, x, y, rfl, nT, rfl, ex, ey⟩
    have sT : Same H' (upd H' T (.tup [x, y])) := same_new nT
    refine hs i x y T H' _ _ ex ey s1 nT fun H4 s4 => ⟨_, s4 _ _ (sT _ _ hDl), ?_, same_mut (s1.trans (sT.trans s4)) nD, ?_⟩
    · rw [List.length_map, List.length_replicate]
      exact lt_line (by omega)
    · rw [upd_same, List.replicate_succ', List.map_append]
      rfl
  · rintro H' ⟨s1, hDl⟩
    exact hd H' s1 hDl
/-- an item whose first part is the name n -/
def HdAt (K : PySem.W.Frag) (H : Hp) (v : V) (n : Str) : Prop := ∃ t r, v = .ref t ∧ SqT K H t (.str n :: r)
theorem HdAt.mono {K : PySem.W.Frag} {H H' : Hp} (e : Same H H') {v : V} {n : Str} (h : HdAt K H v n) : HdAt K H' v n := by
  obtain ⟨t, r, h1, h2⟩ := h
  exact ⟨t, r, h1, Same.tup e h2⟩
/-- a list or a tuple of items with these names -/
def HdS (K : PySem.W.Frag) (H : Hp) (v : V) (ns : List Str) : Prop := ∃ a xs, v = .ref a ∧ (SqL K H a xs ∨ SqT K H a xs) ∧ Paired (HdAt K H) xs ns
theorem HdS.mono {K : PySem.W.Frag} {H H' : Hp} (e : Same H H') {v : V} {ns : List Str} (h : HdS K H v ns) : HdS K H' v ns := by
  obtain ⟨a, xs, h1, h2, h3⟩ := h
  exact ⟨a, xs, h1, seq_mono e h2, h3.mono fun _ _ z => z.mono e⟩
/-- data whose first part is a name -/
def hdN : PyData → Str
  | .tuple (.str n :: _) => n
  | _ => ""
def Named (d : PyData) : Prop := ∃ n r, d = .tuple (.str n :: r)
theorem hdAt_of {K : PySem.W.Frag} {H : Hp} {v : V} {d : PyData} (h : Dp K H v d) (n : Named d) : HdAt K H v (hdN d) := by
  obtain ⟨n, r, rfl⟩ := n
  obtain ⟨a, xs, rfl, h1, h2⟩ := dp_tup h
  obtain ⟨x, y, rfl, h3, _⟩ := dpa_cons h2
  rw [dp_str h3] at h1
  exact ⟨a, y, rfl, h1⟩
theorem hds_of {K : PySem.W.Frag} {H : Hp} : ∀ {xs : List V} {ds : List PyData}, DpAll K H xs ds → (∀ d ∈ ds, Named d) → Paired (HdAt K H) xs (ds.map hdN)
  | _, _, .nil, _ => .nil
  | _, _, .cons h t, n => .cons (hdAt_of h (n _ (List.mem_cons_self ..))) (hds_of t fun d hd => n d (List.mem_cons_of_mem _ hd))
theorem HdS.of {K : PySem.W.Frag} {H : Hp} {v : V} {ds : List PyData} (h : DpS K H v ds) (n : ∀ d ∈ ds, Named d) : HdS K H v (ds.map hdN) := by
  obtain ⟨a, xs, h1, h2, h3⟩ := h
  exact ⟨a, xs, h1, h2, hds_of h3 n⟩
theorem named_dF (f : Fld) : Named (dF f) := ⟨_, _, rfl⟩
theorem IsNm.word {w : Str} (h : IsNm w) : wordB w letters = true := by
  unfold wordB
  rw [decide_eq_true (show 1 ≤ w.length ∧ w.length ≤ 8 from ⟨h.lo, h.hi⟩), Bool.true_and, List.all_eq_true]
  intro c hc
  have ⟨h1, h2⟩ := h.az c hc
  have key : ∀ c, 97 ≤ c → c ≤ 122 → c ∈ TL.tl letters := by
    intro c a b
    have : c = 97 ∨ c = 98 ∨ c = 99 ∨ c = 100 ∨ c = 101 ∨ c = 102 ∨ c = 103 ∨ c = 104 ∨ c = 105 ∨ c = 106 ∨ c = 107 ∨ c = 108 ∨ c = 109 ∨ c = 110 ∨ c = 111 ∨ c = 112 ∨ c = 113 ∨ c = 114 ∨ c = 115 ∨ c = 116 ∨ c = 117 ∨ c = 118 ∨ c = 119 ∨ c = 120 ∨ c = 121 ∨ c = 122 := by omega
    rcases this with rfl | rfl | rfl | rfl | rfl | rfl | rfl | rfl | rfl | rfl | rfl | rfl | rfl | rfl | rfl | rfl | rfl | rfl | rfl | rfl | rfl | rfl | rfl | rfl | rfl | rfl <;> decide +kernel
  exact decide_eq_true (key c h1 h2)
theorem in_strs (x : Str) (l : List Str) : inV (.str x) (l.map V.str) = decide (x ∈ l) := by
  unfold inV
  rw [List.any_map, Bool.eq_iff_iff, List.any_eq_true, decide_eq_true_iff]
  constructor
  · rintro ⟨y, hy, e⟩
    have e : eqV (.str y) (.str x) = true := e
    rw [eqV_str] at e
    rw [← of_decide_eq_true e]
    exact hy
  · intro h
    refine ⟨x, h, ?_⟩
    show eqV (.str x) (.str x) = true
    rw [eqV_str]
    exact decide_eq_true rfl
/-- ties, kinds -/
def dP (p : List Cas) : PyData := .tuple (p.map dC)
abbrev Tie := Str × List Cas
def dTie (t : Tie) : PyData := .tuple [.str t.1, dP t.2]
structure Knd where
  name : Str
  keys : List (Str × Str)
  taking : Option (List Cas)
  birth : Option (List Str)
def dKey (k : Str × Str) : PyData := .tuple [.str k.1, .str k.2]
def dOP : Option (List Cas) → PyData
  | none => .none
  | some p => dP p
def dKnd (k : Knd) : PyData := .tuple [.str k.name, .tuple (k.keys.map dKey), dOP k.taking, dH k.birth]
theorem named_dTie (t : Tie) : Named (dTie t) := ⟨_, _, rfl⟩
theorem named_dKnd (k : Knd) : Named (dKnd k) := ⟨_, _, rfl⟩
/-- a case as a rulebook asks it -/
structure OkCas (fs : List Fld) (c : Cas) : Prop where
  fit : FitC fs c
  nt : c.1.length ≤ 6
  ns : ∀ ss, c.2 = some ss → ss.length ≤ 6
  sg : ∀ t ∈ c.1, t.2.1 ∈ signs
structure OkPrg (fs : List Fld) (p : List Cas) : Prop where
  lo : 1 ≤ p.length
  hi : p.length ≤ 8
  all : ∀ c ∈ p, OkCas fs c
structure OkKeys (fs : List Fld) (ks : List (Str × Str)) : Prop where
  hi : ks.length ≤ fs.length
  nd : (ks.map (·.1)).Nodup
  all : ∀ k ∈ ks, k.1 ∈ fs.map (·.1) ∧ (k.2 = "+" ∨ k.2 = "-")
structure OkKnd (fs : List Fld) (k : Knd) : Prop where
  nm : IsNm k.name
  ks : OkKeys fs k.keys
  tk : ∀ p, k.taking = some p → OkPrg fs p
  bt : ∀ v, k.birth = some v → FitV fs v
end Bh

set_option Elab.async false
set_option linter.all false
set_option maxRecDepth 100000
namespace Bh
open PySem PySem.Spec PyProof.Rows L2
/-! ### a caught exception, known in the heap: what reads it may stand in another def -/
def exz (a : Addr) (cls : Value) (d : Option Addr) : HO := .ext fun h => ∃ (o : Obj) (vs : Array Value), h.get? a = some o ∧ Zc cls d o ∧ o.data = .fields vs
theorem exz_ok {P : Program} {w : World} {H : Hp} {h : Heap} {a : Addr} {cls : Value} {d : Option Addr} {o : Obj} {vs : Array Value} (e : h.get? a = some o) (z : Zc cls d o) (f : o.data = .fields vs) : ObjOk P w H h a (exz a cls d) :=
  ⟨⟨o, vs, e, z, f⟩, ⟨o, e⟩, fun _ _ y k => by
    obtain ⟨p, us, q, r⟩ := y
    exact ⟨p, us, k p q, r⟩⟩
theorem exz_at {P : Program} {w : World} {H : Hp} {h : Heap} {a : Addr} {cls : Value} {d : Option Addr} (ok : HOk P w H h) (e : H a = some (exz a cls d)) : ∃ (o : Obj) (vs : Array Value), h.get? a = some o ∧ Zc cls d o ∧ o.data = .fields vs := by
  have z : ObjOk P w H h a (.ext fun g => ∃ (o : Obj) (vs : Array Value), g.get? a = some o ∧ Zc cls d o ∧ o.data = .fields vs) := ok a _ e
  exact z.1
/-- e.n, e a caught exception that is known -/
def tXz (K : PySem.W.Frag) (n : Str) (te : TE) : TE := fun σ H Q => te σ H fun x H1 => ∃ (a C dd : Addr) (fs : List (Str × V)) (v : V), x = .ref a ∧ H1 a = some (exz a (.ref C) (some dd)) ∧ XfC K C ∧ PySem.W.findIn K (.ref C) n = some none ∧ H1 dd = some (.xd fs) ∧ fs.lookup n = some v ∧ Q v H1
theorem pe_xz {X : Cx} {e : Expr} {te : TE} {pos : Pos} {n : Str} (he : PE X e te) (hb : attributeBase e n X.env (eval e X.env) = eval e X.env := by rfl) : PE X (.Attribute e n pos) (tXz X.K n te) := by
  refine ⟨fun pins s σ H Q I h => attr_of hb (thn (he.run pins s σ H _ I h) fun u s1 hu => ?_)⟩
  obtain ⟨x, H1, J, rx, a, C, dd, fs, v, rfl, ea, xf, no, ed, lk, q⟩ := hu
  cases rx
  obtain ⟨o, vs, g, z, f⟩ := exz_at J.hok ea
  have kd : ObjOk X.prog X.w H1 s1.heap dd (.xd fs) := J.hok dd _ ed
  obtain ⟨m, ns, rel⟩ := kd
  obtain ⟨od, god, lo⟩ := lookIn_ns ns
  obtain ⟨y, hy, ry⟩ := RelO.some_of (v := v) (o := m n) (by rw [← lk]; exact rel n)
  have at_ : PySem.W.InstAt s1.heap a o C (some od) := by
    refine ⟨g, z.1, ?_, ?_⟩
    · unfold PySem.W.notCls
      rw [f] <;> rfl
    · rw [z.2]
      exact god
  have found : PySem.W.findObj X.K C (some od) n = some (.value y) := PySem.W.findObj_own xf.hdC no rfl (by rw [lo, hy])
  exact HandSPX.exc_get J.kIn at_ xf.ga xf.gg xf.exC found (handed_of ry) ⟨v, H1, J.tok _, ry, q⟩
/-! ### try: body, except (A, B) as n: suite, where all that the body raises is of one of both -/
section
variable {X : Cx} {pins : List (Addr × Obj)} {σ : L2.St} {H : Hp} {s0 s1 : Shared} {B : Heap} {a : Addr} {cls : Value} {d : Option Addr}
theorem hok_more {P : Program} {w : World} {h : Heap} {u : HO} (k : HOk P w H h) (na : H a = none) (new : ObjOk P w (upd H a u) h a u) : HOk P w (upd H a u) h := by
  intro b v q
  by_cases e : b = a
  · subst e
    rw [upd_same] at q
    cases q
    exact new
  · rw [upd_ne e] at q
    refine (k b v q).stay (fun _ _ _ r => r) (fun c r => ?_) (fun c xs r => ?_)
    · rw [upd_ne (ne_of_none r na)]
      exact r
    · rw [upd_ne (ne_of_none r na)]
      exact r
theorem Inv.seen (I : Inv X pins σ H s0) (nb : ∀ b o, s0.heap.get? b = some o → b ∉ frs X.stack → B.get? b = some o) (st : B.StaysIn s1.heap) (up : s0.heap.UpToSlots s1.heap) (os : s1.os = s0.os) (ag : AllBare s1.gens)
    (ha : s0.heap.get? a = none) (na : H a = none) {o : Obj} {vs : Array Value} (ga : s1.heap.get? a = some o) (z : Zc cls d o) (f : o.data = .fields vs) : Inv X pins σ (upd H a (exz a cls d)) s1 := by
  have fr : ∀ b ∈ frs X.stack, ∀ u, s0.heap.get? b = some u → ∃ sl, s1.heap.get? b = some { u with slots := sl } := by
    intro b hb u gu
    obtain ⟨_, u', gu', hd⟩ := I.stack.mem hb
    rw [gu] at gu'
    cases gu'
    exact up b u gu hd
  have ne : ∀ {b : Addr} {u : Obj}, s0.heap.get? b = some u → b ≠ a := by
    intro b u gu q
    rw [q, ha] at gu
    cases gu
  have old := Inv.landed (s' := s1) I nb st up os ag
  refine I.call' (ch := []) os ⟨?_, ?_, ?_, ?_, ?_, ?_, ?_⟩ (hok_more old.hok na (exz_ok ga z f)) ag (fun _ y => nomatch y)
  · exact fun b u gu _ hb _ => st b u (nb b u gu hb)
  · exact fun b u gu _ hb _ => fr b hb u gu
  · intro b u gu n _
    rw [upd_ne (ne gu)]
    exact n
  · intro b u gu _
    by_cases hb : b ∈ frs X.stack
    · obtain ⟨sl, q⟩ := fr b hb u gu
      exact ⟨_, q⟩
    · exact ⟨u, st b u (nb b u gu hb)⟩
  · intro b xs q
    rw [upd_ne (ne_of_none q na)]
    exact q
  · intro b u xs q
    rw [upd_ne (ne_of_none q na)]
    exact q
  · intro b ps q
    refine ⟨#[], ?_⟩
    rw [upd_ne (ne_of_none q na), q]
    simp
end
end Bh
namespace Bh
open PySem PySem.Spec PyProof.Rows L2
section
variable {X : Cx} {pins : List (Addr × Obj)} {σ : L2.St} {H : Hp} {s : Shared}
theorem Inv.inSuite (I : Inv X pins σ H s) (a : Addr) : Inv (X.suite a (X.pn ++ pins)) [] σ H s := by
  refine ⟨I.ok.suite _ _, I.os, I.bare, I.base, I.loc, I.cell, I.free, I.freeC, fun p hp => ?_, I.hok, I.len⟩
  rw [List.append_nil] at hp
  exact I.pin p hp
theorem Inv.offSuite {a : Addr} {more : List (Addr × Obj)} (I : Inv (X.suite a (X.pn ++ pins)) more σ H s) (ok : X.Ok) : Inv X pins σ H s :=
  ⟨ok, I.os, I.bare, I.base, I.loc, I.cell, I.free, I.freeC, fun p hp => I.pin p (List.mem_append_left _ hp), I.hok, I.len⟩
end
theorem flying_more {B h h' : Heap} {l : List Env} {a : Addr} {Z : Obj → Prop} (k : ∀ b o, h.get? b = some o → h'.get? b = some o) (f : HandSPX.FlyingZ B l a Z h) : HandSPX.FlyingZ B l a Z h' := by
  obtain ⟨f1, f2, f3, oe, vs, T, oT, ts, e1, e2, e3, e4, e5, e6, e7, e8, e9⟩ := f
  exact ⟨fun b o q => k b o (f1 b o q), f2, f3.of_keeps (fun b o q _ => ⟨o, k b o q, rfl⟩), oe, vs, T, oT, ts, k _ _ e1, e2, e3, e4, e5, e6, k _ _ e7, e8, e9⟩
/-- what the clause wishes of an exception of the body -/
def wTwo (K : PySem.W.Frag) (C1 C2 : Value) (i n : Nat) (ts : TS) (D : Ends) : WX := fun cls d σ H => PySem.W.exmAny K cls [C1, C2] = some true ∧ ∀ a, H a = none → σ.length = n →
  ts { nx := fun σ' H' => D.nx (σ'.set i none) H', rt := D.rt, bk := fun σ' H' => D.bk (σ'.set i none) H', ct := fun σ' H' => D.ct (σ'.set i none) H' } (σ.set i (some (.ref a))) (upd H a (exz a cls d))
section
variable {X : Cx} {x1 x2 n : Str} {C1 C2 : Addr} {i : Nat} {body suite : List Stmt} {b₀ : Stmt} {p1 p2 tpos pos pos' : Pos} {tb : WX → TS} {ts : TS} {kk : Nat}
theorem ps_try_two (hs : X.stack = X.env :: X.outer) (hf : X.env.frame = some X.env.locals) (hN : X.N.Nodup) (hi : X.N[i]? = some n) (hln : X.env.kindOf n = some .local)
    (g1 : Gl X x1) (m1 : X.mg x1 = some (.ref C1)) (g2 : Gl X x2) (m2 : X.mg x2 = some (.ref C2)) (d1 : (x1 == ("__debug__" : Str)) = false) (d2 : (x2 == ("__debug__" : Str)) = false)
    (hb : ∀ (W : WX) (pn : List (Addr × Obj)) (xe : Value → Shared → Prop), Takes (X.tr pn xe) W → PassesOwn (model X.prog X.w) X.A X.env xe → PSs (X.tr pn xe) body (tb W))
    (hsu : ∀ (a : Addr) (pn : List (Addr × Obj)), PSs (X.suite a pn) (b₀ :: suite) ts)
    (two : starEach [.Name x1 p1, .Name x2 p2] X.env = [(false, eval (.Name x1 p1) X.env), (false, eval (.Name x2 p2) X.env)] := by rfl) :
    PS X (.Try body [.ExceptHandler (some (.Tuple [.Name x1 p1, .Name x2 p2] kk tpos)) (some n) (b₀ :: suite) pos'] [] [] pos) (fun D σ H => tb (wTwo X.K (.ref C1) (.ref C2) i X.N.length ts D) D σ H) := by
  refine ⟨fun pins s σ H D I h => wpAny_Try_except ?_⟩
  have ok := I.ok
  have tops : X.A.frames = some (X.env :: X.outer) := ok.frames.trans (congrArg some hs)
  refine wpAny_mono ((hb (wTwo X.K (.ref C1) (.ref C2) i X.N.length ts D) (X.pn ++ pins) _ (fun u s1 air => ?caught) PassesOwn.looking).run [] s σ H D (I.toTry _) h) (fun f s1 e => ?ends) (fun _ _ e => e)
  case ends =>
    match f, e with
    | .next, ⟨σ1, H1, J, q⟩ => exact wpAny_execs_nil ⟨σ1, H1, J.ofTry ok, q⟩
    | .brk, ⟨σ1, H1, J, q⟩ => exact ⟨σ1, H1, J.ofTry ok, q⟩
    | .cont, ⟨σ1, H1, J, q⟩ => exact ⟨σ1, H1, J.ofTry ok, q⟩
    | .ret u, ⟨v, σ1, H1, J, r, q⟩ => exact ⟨v, σ1, H1, J.ofTry ok, r, q⟩
  case caught =>
    obtain ⟨a, B, s0, pins0, σ0, H0, cls, d, rfl, J0, nb, up, sky, na, os, ag, hm, go⟩ := air
    have J : Inv X pins σ0 H0 s0 := J0.ofTry ok
    rw [show (X.tr (X.pn ++ pins) _).stack = X.env :: X.outer from hs] at sky
    refine Sky.land Zc.steady tops hf sky fun h3 fl3 up3 => ?_
    obtain ⟨o3, v3, e3, z3, f3⟩ := fl3.there
    have noframe : a ∉ frs X.stack := by
      rw [hs]
      intro hm'
      obtain ⟨_, o', e', hd⟩ := fl3.2.2.1.mem hm'
      rw [e3] at e'
      cases e'
      exact hd _ f3
    have a0 : s0.heap.get? a = none := by
      cases q : s0.heap.get? a with
      | none => rfl
      | some o =>
        have z := nb a o q noframe
        rw [fl3.2.1] at z
        cases z
    have J3 := Inv.seen (s1 := { s1 with heap := h3 }) J nb fl3.1 (up.trans up3) os ag a0 na e3 z3 f3
    have S3 := Inv.inSuite J3 a
    refine wpAny_handleBy_cons (codeAny_handlers_test (wpAny_Tuple_spliced ?_)) (fun q => by cases q)
    rw [two]
    show wpAny _ _ (spliced [(false, eval (.Name x1 p1) X.env), (false, eval (.Name x2 p2) X.env)]) _ _ _
    refine Calls.spliced_cons (ld_glob S3 g1 m1 ?_ d1)
    refine Calls.spliced_cons (ld_glob S3 g2 m2 ?_ d2)
    refine Calls.spliced_nil ⟨(by show 2 ≤ sizeLine; decide), ?_⟩
    have more : ∀ b o, h3.get? b = some o → (h3.push { cls := .type "tuple", data := .seq [Value.ref C1, Value.ref C2].toArray }).get? b = some o := fun b o q => Heap.get?_push_of_some _ q
    have at_ : (h3.push { cls := .type "tuple", data := .seq [Value.ref C1, Value.ref C2].toArray }).get? h3.objs.size = some { cls := .type "tuple", data := .seq [Value.ref C1, Value.ref C2].toArray } := Heap.get?_push_size _ rfl
    have own : PySem.W.Looks (model X.prog X.w) (h3.push { cls := .type "tuple", data := .seq [Value.ref C1, Value.ref C2].toArray }) (typeOf (.ref a)) cls := fun A Q E s k q => wpAny_typeOf_ref (k _ _ (more _ _ e3)) (by rw [z3.1]; exact q)
    have hit := PySem.W.exm_tup2 (M := model X.prog X.w) (J3.kIn.keeps more) own at_ hm
    refine hit.here ?_
    refine codeAny_handlers_suite_as ?_
    have fl4 := flying_more more fl3
    refine HandSPX.lands_againZ fl4 fun h5 fl5 up5 => ?_
    obtain ⟨o5, v5, e5, z5, f5⟩ := fl5.there
    have J5 := Inv.seen (s1 := { s1 with heap := h5 }) J nb fl5.1 ((up.trans up3).trans ((Heap.UpToSlots.of_keeps more).trans up5)) os ag a0 na e5 z5 f5
    refine store_ok (X := X.suite a (X.pn ++ pins)) (v := .ref a) (Inv.inSuite J5 a) hN hi (.inl hln) rfl (fun s6 S6 => ?_) (.inr hln)
    refine wpAny_mono ((hsu a (X.pn ++ pins)).run [] s6 _ _ _ S6 (go a na J.len)) (fun f s7 e => ?_) (fun _ _ y => False.elim y)
    have leave : ∀ {σ7 : L2.St} {H7 : Hp} {R : Shared → Prop}, Inv (X.suite a (X.pn ++ pins)) [] σ7 H7 s7 → (∀ s8, Inv X pins (σ7.set i none) H7 s8 → R s8) →
        wpAny (model X.prog X.w) X.A (do bindName X.env n .none; unbindBehindTheSuite X.env n pos') (fun _ s8 => R s8) X.xe s7 := fun S7 r => gone_ok (Inv.offSuite S7 ok) hN hi hln r
    match f, e with
    | .next, ⟨σ7, H7, S7, q⟩ => exact leave S7 fun s8 J8 => ⟨_, _, J8, q⟩
    | .brk, ⟨σ7, H7, S7, q⟩ => exact leave S7 fun s8 J8 => ⟨_, _, J8, q⟩
    | .cont, ⟨σ7, H7, S7, q⟩ => exact leave S7 fun s8 J8 => ⟨_, _, J8, q⟩
    | .ret u, ⟨v, σ7, H7, S7, r, q⟩ => exact leave S7 fun s8 J8 => ⟨_, _, _, J8, r, q⟩
end
end Bh

set_option Elab.async false
set_option linter.all false
set_option maxRecDepth 100000
namespace Bh
open PySem PySem.Spec PyProof.Rows L2
/-! ### a def that runs while an exception is handled, and raises nothing -/
structure FnU (P : Program) (w : World) (K : PySem.W.Frag) (mg : Str → Option Value) (base : Heap) (k : Nat) (f : Addr) (fd : FuncData) (ps : List Str) (sp : Sp) : Prop where
  len : ∀ vs H Q E, sp vs H Q E → vs.length = ps.length
  run : ∀ (A : Around) (outer : List Env) (s : Shared) (H : Hp) (args : Args) (us : List Value) (vs : List V) (Q : VK) (E : XK), L2H.RoomH k A → Env0 P w K mg base A outer s H → BindsTo s fd args (ps.zip us) → Vals vs us → sp vs H Q E →
    codeAny (model P w) A (.call (.ref f) args) (CR CX0 outer P w H s Q E) s
def cxU (P : Program) (w : World) (K : PySem.W.Frag) (mg : Str → Option Value) (base : Heap) (N : List Str) (qual : Str) (scope : Scope) (f : Addr) (cd : Value) (A : Around) (outer : List Env) (s : Shared) (H : Hp) (E : XK) : Cx :=
  { cxOf CX0 P w K mg base N qual scope f cd A outer s H E with calm := false }
theorem start_u {P : Program} {w : World} {K : PySem.W.Frag} {mg : Str → Option Value} {base : Heap} {N ps : List Str} {qual : Str} {scope : Scope} {f : Addr} {cd : Value} {A : Around} {outer : List Env} {s s1 : Shared} {H : Hp} {E : XK} {us : List Value} {vs : List V}
    (S : FnScope N ps scope) (e0 : Env0 P w K mg base A outer s H) (hl : vs.length = ps.length) (r : Vals vs us)
    (x : InCallC s s.heap.objs.size (bindL (envOfC qual scope s.heap.objs.size f cd).kindOf (ps.zip us) fun _ => none) (cellsFrom (s.heap.objs.size + 1) scope.names []) (bindC (envOfC qual scope s.heap.objs.size f cd).kindOf (ps.zip us) fun _ => none) s1) :
    Inv (cxU P w K mg base N qual scope f cd A outer s H E) [] (L2.start N vs) H s1 := by
  have e1 : Env0 P w K mg base { A with handled := none } outer s H := ⟨e0.frames, e0.mod, e0.bs, e0.bsz, e0.funs, e0.frf, e0.hok, e0.bare⟩
  have I : Inv (cxOf CX0 P w K mg base N qual scope f cd { A with handled := none } outer s H E) [] (L2.start N vs) H s1 := inv_start S rfl e1 hl r x
  obtain ⟨o1, o2, o3, o4, o5, o6, o7, o8, _, _, o11, o12, o13, o14, o15, o16, o17, o18⟩ := I.ok
  exact ⟨⟨o1, o2, o3, o4, o5, o6, o7, o8, (fun z => Bool.noConfusion (show false = true from z)), Around.frames_deeper e0.frames, o11, o12, o13, o14, o15, o16, o17, o18⟩, I.os, I.bare, I.base, I.loc, I.cell, I.free, I.freeC, I.pin, I.hok, I.len⟩
theorem fun_u {P : Program} {w : World} {K : PySem.W.Frag} {mg : Str → Option Value} {base : Heap} {k : Nat} {f : Addr} {fd : FuncData} {x qual : Str} {st : Stmt} {N ps : List Str} {sp : Sp} (F : Fun K x qual st f fd) (S : FnScope N ps (defScope st))
    (len : ∀ vs H Q E, sp vs H Q E → vs.length = ps.length)
    (body : ∀ (cdv : Value) (A : Around) (outer : List Env) (s : Shared) (H : Hp) (vs : List V) (Q : VK) (E : XK), sp vs H Q E →
      ∃ t, PSs (cxU P w K mg base N qual (defScope st) f cdv A outer s H E) (defBody st) t ∧ t { nx := fun _ H' => Q .non H', rt := Q } (L2.start N vs) H) : FnU P w K mg base (k + 1) f fd ps sp := by
  obtain ⟨oc, od, kV, doc, pm, an, cdv, ct, osl, rfl, lk, hcd⟩ := F.ex
  refine ⟨len, fun A outer s H args us vs Q E hr e0 hb r h => ?_⟩
  have l1 := len _ _ _ _ h
  have X0 : K.In s.heap := e0.mod.kin.keeps fun b o e => (e0.bs b o e).1
  have nl : s.heap.NoLimit := e0.mod.nolimit.keeps fun b o e => (e0.bs b o e).1
  have kinds : ∀ y ∈ ps.zip us, (defScope st).names.lookup y.1 = some .local ∨ ((defScope st).names.lookup y.1 = some .cell ∧ ((cellsFrom (s.heap.objs.size + 1) (defScope st).names []).lookup y.1).isSome = true) := by
    rintro ⟨n, v⟩ hy
    exact (S.par n (List.of_mem_zip hy).1).imp id fun q => ⟨q, PySem.W.cellsFrom_some _ _ _ (.inl q)⟩
  refine codeAny_call_function hr.depth (X0 _ _ lk) rfl S.co S.gen rfl (PySem.W.codeRec_of X0 hcd) (hb _ _ _ _ (wpAny_newFunctionEnv_cells S.kind kinds fun env he s1 x => ?_))
  subst he
  obtain ⟨t, ht, hq⟩ := body cdv A outer s H vs Q E h
  refine ⟨nl.keeps x.toInCall.keep, codeAny_func (wpAny_mono (ht.run [] s1 (L2.start N vs) H _ (start_u S e0 l1 r x) hq) (fun fl s2 e => ?_) fun _ _ e => e)⟩
  match fl, e with
  | .next, ⟨σ2, H2, J, q⟩ => exact ⟨.non, H2, J.os, J.bare, J.base, J.hok, rfl, q⟩
  | .brk, ⟨_, _, _, q⟩ => exact q.elim
  | .cont, ⟨_, _, _, q⟩ => exact q.elim
  | .ret u, ⟨v, σ2, H2, J, rv, q⟩ => exact ⟨v, H2, J.os, J.bare, J.base, J.hok, rv, q⟩
theorem pe_callU {X : Cx} {k : Nat} {f : Addr} {fd : FuncData} {ps : List Str} {sp : Sp} {x : Str} {q pos : Pos} {e : Expr} {es : List Expr} {t : TA} (F : FnU X.prog X.w X.K X.mg X.base k f fd ps sp) (hr : L2H.RoomH k X.A) (hg : Gl X x) (hm : X.mg x = some (.ref f)) (hk : PySem.W.keepIn X.K (.ref f) = true) (hb : Binds X.K fd ps [])
    (ha : PA X (e :: es) t) (hdb : (x == ("__debug__" : Str)) = false := by decide) (hs : starEach (e :: es) X.env = (false, eval e X.env) :: starEach es X.env := by rfl) (hp : (backTo pos (starEach es X.env)).any (·.1) = false := by rfl) :
    PE X (.Call (.Name x q) (e :: es) [] pos) (fun σ H Q => t σ H fun vs H1 => sp vs H1 Q fun _ _ _ => False) := by
  refine ⟨fun pins s σ H Q I h => wpAny_Call_Name_kw (ld_glob I hg hm ?_ hdb)⟩
  refine PySem.W.callWith_K (h₀ := X.base) I.ok.mod.kin hk (thn (ha.run pos pins s σ H _ I h) fun us s1 hu => ?_) hs hp
  obtain ⟨vs, H1, J, rv, y⟩ := hu
  refine ⟨J.kIn, ?_⟩
  have n : us.length = ps.length := rv.length.symm.trans (F.len _ _ _ _ y)
  have bnd := hb s1 us J.kIn (by rw [List.append_nil]; exact n)
  rw [List.append_nil] at bnd
  refine wpAny_call (codeAny_mono (F.run X.A X.stack s1 H1 ⟨us, []⟩ us vs Q _ hr J.env0 bnd rv y) fun res s2 z => ?_)
  match res, z with
  | .error _, z => exact z.elim
  | .ok (.ret u), z => exact J.after z
  | .ok .next, z => exact z.elim
  | .ok .brk, z => exact z.elim
  | .ok .cont, z => exact z.elim
end Bh
namespace Bh
open PySem PySem.Spec PyProof.Rows L2
/-! ### the end of a law that makes a lambda: its table of code objects is told by the top -/
theorem walkT {l : PySem.W.OpenLaw} {n k : Nat} {q : Program} {loose : List Str} {XP : (Str → Option Value) → Heap → Prop} {YP : World → Heap → Prop} {d : DefRec} {CX : World → CXT} {x : Str}
    (hn : l.most = some n) (hn2 : n ≤ sizeLine) (hdf : d.params.defaults = []) (hr : Room k callerA)
    (F : ∀ (w : World) (mg mb : Str → Option Value) (fa : Addr) (h : Heap), (∀ (K : PySem.W.Frag), K.In h → ∀ (dd : DefRec) (y : Str) (c P : Addr), (recsOf q).find? (fun e => e.name == y) = some dd → PySem.W.tabIn K y = some (c, P) → PySem.W.CodeHd h c P ∧ h.get? P = some (PySem.W.tabObj #[])) → h.Ns mainGlobals mg → YP w h → mg d.name = some (.ref fa) → ∃ K : PySem.W.Frag, K.In h ∧ LamX.LawAtS l w K (CX w) k n x mg fa h)
    (hCX : ∀ (w : World) (H : Hp) (s : Shared) (e : Value) (s' : Shared), CX w [] H s (fun _ _ _ => False) e s' → False) :
    PySem.W.WalkO q loose XP YP l.row.toRowW d [] (fun f vs => PySem.call f vs) := by
  refine Att.attach_callB hn hdf fun w s0 s1 mg mb fa o pm cd doc a vs ns G Y _ _ _ hmg hobj hi hlen hbits hg => ?_
  obtain ⟨K, KX, fd, cs, sp, t1, t2, t3, bnd, hsp, ok⟩ := F w mg mb fa _ (fun K KX dd y c P h1 h2 => PySem.W.tab_of G.T KX h1 h2) G.T.g Y hmg
  refine LamX.law_callTs KX G.T.g G.T.b G.T.builtins G.T.nolimit hg t1 t2 t3 G.T.bmain hobj hi (Nat.le_trans hlen hn2) hr ok bnd ?_ ?_
  · exact fun H hH hS => hsp H a ns hlen hbits hH hS
  · exact fun H e s' => hCX w H s1 e s'
end Bh

set_option Elab.async false
set_option linter.all false
set_option maxRecDepth 100000
namespace Bh
open PySem PySem.Spec PyProof.Rows L2
/-! ### an own exception class over any built-in one, with an __init__ that is walked as a def -/
structure ExG (K : PySem.W.Frag) (C : Addr) : Prop where
  fam : ∃ (B newId initId : String) (bmB : List Value), ExcBaseFacts B newId initId bmB ∧ StoreFacts B bmB "object.__setattr__" "object" ∧ PySem.W.excOver K C bmB = true ∧
    ∃ nm q N bs bm sn sub ab col dd k0 k1 k2 k3 k5, K.lookup C = some (excClassObj nm q C N bs bm true sn sub ab col dd k0 k1 k2 k3 k5 newId) ∧ ∀ Y : String, bm.contains (.type Y) = bmB.contains (.type Y)
  sa : PySem.W.findIn K (.ref C) "__setattr__" = some (some (.builtin "object.__setattr__"))
  exC : PySem.W.subIn K (.ref C) (.type "BaseException") = some true
  tyC : PySem.W.typeIn K (.ref C) = some (.type "type")
  kC : PySem.W.keepIn K (.ref C) = true
  hdC : PySem.W.hasDictIn K C = true
theorem taker_no {K : PySem.W.Frag} {C : Addr} {n : Str} (h : PySem.W.findIn K (.ref C) n = some none) : PySem.W.takerIn K C n = some none := by
  unfold PySem.W.takerIn
  rw [h]
  rfl
section
variable {X : Cx} {pins : List (Addr × Obj)} {σ : L2.St} {H : Hp} {s : Shared} {a C dx : Addr} {f : Str} {y : V} {u : Value} {fs : List (Str × V)} {Q : Unit → Shared → Prop} {E : Value → Shared → Prop} {A : Around}
theorem setG_new (T : ExG X.K C) (I : Inv X pins σ H s) (e : H a = some (exo a C none)) (no : PySem.W.findIn X.K (.ref C) f = some none) (ry : RelV y u)
    (h : ∀ dx s', H dx = none → dx ≠ a → Inv X pins σ (upd (upd H dx (exd dx [(f, y)])) a (exo a C (some dx))) s' → Q () s') : wpAny (model X.prog X.w) A (setAttr (.ref a) f u) Q E s := by
  obtain ⟨B, newId, initId, bmB, FB, SF, ov, _⟩ := T.fam
  obtain ⟨t1, ga⟩ := exo_at I.hok e
  obtain ⟨hp, g, d, t, os⟩ := s
  have inst : PySem.W.InstAt hp a { cls := .ref C, dict := none, data := .fields #[.ref t1, .none, .none, .none, .bool false, .none] } C none := ⟨ga, rfl, rfl, trivial⟩
  refine PySem.W.set_plain I.kIn inst T.sa (PySem.W.osa_openX (od := none) SF I.kIn inst ov (taker_no no) fun b => ?_)
  obtain ⟨cd, hc, hd⟩ := PySem.W.any_some T.hdC
  refine wpAny_bind (wpAny_pure (wpAny_bind (PySem.W.instanceDict_exc (c2 := .none) ga (PySem.W.looks_clsIn I.kIn hc) hd ?_)))
  have na : a ≠ hp.objs.size := Nat.ne_of_lt (Heap.lt_size ga)
  refine HandSPX.store_in_new ?_ (fun h2 tk2 hn hs => ?_)
  · exact ⟨_, #[], _, (Heap.get?_update_ne _ _ _ _ na.symm).trans (Heap.get?_push_at rfl rfl), rfl, fun e he => absurd he (by simp), fun _ => rfl⟩
  have nx : H hp.objs.size = none := I.hok.fresh (Nat.le_refl _)
  have old : ∀ b o, b ≠ a → hp.get? b = some o → h2.get? b = some o := by
    intro b o hb ho
    refine (hs.2 b (Nat.ne_of_lt (Heap.lt_size ho))).trans ?_
    exact (Heap.get?_update_ne _ _ _ _ hb).trans (Heap.get?_push_of_some _ ho)
  have self2 : h2.get? a = some { cls := .ref C, dict := some hp.objs.size, data := .fields #[.ref t1, .none, .none, .none, .bool false, .none] } := by
    refine (hs.2 a na).trans ?_
    exact Heap.get?_update_self _ (Heap.get?_push_of_some _ ga) rfl
  have n1 : ∀ {b : Addr} {o : Obj}, hp.get? b = some o → b ≠ hp.objs.size := fun g => Nat.ne_of_lt (Heap.lt_size g)
  have n2 : ∀ {b : Addr}, H b = none → b ≠ a := by
    intro b hb z
    rw [z, e] at hb
    cases hb
  refine h hp.objs.size _ nx na.symm (I.un (t' := tk2) (h' := h2) ⟨?_, ?_, ?_, ?_, ?_, ?_, ?_⟩ fun b o q => ?_)
  · exact fun b o g n _ _ => old b o (n2 n) g
  · exact fun b o g n _ _ => ⟨o.slots, old b o (n2 n) g⟩
  · intro b o g n _
    rw [upd_ne (n2 n), upd_ne (n1 g)]
    exact n
  · intro b o g _
    by_cases hb : b = a
    · exact ⟨_, hb ▸ self2⟩
    · exact ⟨o, old b o hb g⟩
  · intro b xs q
    rw [upd_ne (at_ne e q exo_tup), upd_ne (ne_of_none q nx)]
    exact q
  · intro b o v q
    rw [upd_ne (at_ne e q exo_frz), upd_ne (ne_of_none q nx)]
    exact q
  · intro b ps q
    refine ⟨#[], ?_⟩
    rw [upd_ne (at_ne e q exo_tbl), upd_ne (ne_of_none q nx), q]
    simp
  · by_cases hb : b = a
    · subst hb
      rw [upd_same] at q
      cases q
      exact exo_ok self2
    rw [upd_ne hb] at q
    by_cases hd2 : b = hp.objs.size
    · subst hd2
      rw [upd_same] at q
      cases q
      exact exd_ok hn (relO_put (fs := []) ry fun _ => True.intro)
    rw [upd_ne hd2] at q
    have keepO : ∀ {c : Addr}, H c = some (.own b) → c ≠ a := fun k => at_ne e k exo_own
    refine (I.hok b o q).stay (fun c v hc z => old c v ?_ z) (fun c k => ?_) (fun c xs k => ?_)
    · rcases hc with hc | hc
      · rw [hc]
        exact hb
      · exact keepO hc
    · rw [upd_ne (at_ne e k exo_own), upd_ne (ne_of_none k nx)]
      exact k
    · rw [upd_ne (at_ne e k exo_tup), upd_ne (ne_of_none k nx)]
      exact k
theorem setG_old (T : ExG X.K C) (I : Inv X pins σ H s) (e : H a = some (exo a C (some dx))) (ed : H dx = some (exd dx fs)) (hl : fs.length ≤ 900) (no : PySem.W.findIn X.K (.ref C) f = some none) (ry : RelV y u)
    (h : ∀ s', Inv X pins σ (upd H dx (exd dx ((f, y) :: fs))) s' → Q () s') : wpAny (model X.prog X.w) A (setAttr (.ref a) f u) Q E s := by
  obtain ⟨B, newId, initId, bmB, FB, SF, ov, _⟩ := T.fam
  obtain ⟨t1, ga⟩ := exo_at I.hok e
  obtain ⟨m, ns, rel⟩ := exd_at I.hok ed
  have wi := within_of rel
  obtain ⟨hp, g, d, t, os⟩ := s
  obtain ⟨od, _, _, god, _, _⟩ := ns.count wi
  have inst : PySem.W.InstAt hp a { cls := .ref C, dict := some dx, data := .fields #[.ref t1, .none, .none, .none, .bool false, .none] } C (some od) := ⟨ga, rfl, rfl, god⟩
  refine PySem.W.set_plain I.kIn inst T.sa (PySem.W.osa_openX (od := some od) SF I.kIn inst ov (taker_no no) fun b => ?_)
  obtain ⟨cd, hc, hd⟩ := PySem.W.any_some T.hdC
  refine wpAny_bind (wpAny_pure (wpAny_bind (wpAny_bind (wpAny_loadPart ga (wpAny_bind ((PySem.W.looks_clsIn (M := model X.prog X.w) I.kIn hc).at ?_))))))
  rw [hd]
  refine wpAny_pure (a := some dx) ?_
  refine PySem.OEX.store_in_old ns wi (by rw [List.length_map]; omega) (fun h2 tk2 hn hs => ?_)
  have there : ∃ o, h2.get? dx = some o := by
    obtain ⟨o, _, _, k, _⟩ := hn
    exact ⟨o, k⟩
  exact h _ (I.write (t' := tk2) (x := dx) (e := dx) (o := exd dx ((f, y) :: fs)) (by rw [ed]; exact True.intro) (.inl rfl) (fun b o hb k => (hs.2 b hb).trans k) there (exd_ok hn (relO_put ry rel)))
end
end Bh
namespace Bh
open PySem PySem.Spec PyProof.Rows L2
/-- self.f = e, in the __init__ of such a class -/
def tSetG (K : PySem.W.Frag) (f : Str) (to te : TE) : TS := fun D σ H => te σ H fun y H1 => to σ H1 fun x H2 => ∃ a C : Addr, x = .ref a ∧ ExG K C ∧ PySem.W.findIn K (.ref C) f = some none ∧
  ((H2 a = some (exo a C none) ∧ ∀ dx, H2 dx = none → dx ≠ a → D.nx σ (upd (upd H2 dx (exd dx [(f, y)])) a (exo a C (some dx)))) ∨
    ∃ (dx : Addr) (fs : List (Str × V)), H2 a = some (exo a C (some dx)) ∧ H2 dx = some (exd dx fs) ∧ fs.length ≤ 900 ∧ D.nx σ (upd H2 dx (exd dx ((f, y) :: fs))))
theorem ps_setG {X : Cx} {o e : Expr} {to te : TE} {f : Str} {p pos : Pos} (ho : PE X o to) (he : PE X e te) (hs : swapsWith e (some (.Attribute o f p)) pos.line X.env = pure false := by rfl) : PS X (.Assign [.Attribute o f p] e pos) (tSetG X.K f to te) := by
  refine ⟨fun pins s σ H D I h => plainObj_wpAny_Assign_Attribute (thn (he.run pins s σ H _ I h) fun v s1 q => ?_) hs⟩
  obtain ⟨y, H1, I1, r1, q1⟩ := q
  refine thn (ho.run pins s1 σ H1 _ I1 q1) fun u s2 q => ?_
  obtain ⟨x, H2, I2, r2, a, C, rfl, T, no, q2⟩ := q
  cases r2
  rcases q2 with ⟨ea, k⟩ | ⟨dx, fs, ea, ed, hl, k⟩
  · exact setG_new T I2 ea no r1 fun dx s3 n ne J => ⟨σ, _, J, k dx n ne⟩
  · exact setG_old T I2 ea ed hl no r1 fun s3 J => ⟨σ, _, J, k⟩
/-! ### such an exception, made: as a value, and to be raised -/
/-- C(..) with C's own __init__ that keeps sp: known as exo, its dict as exd -/
def tMkG (C : Addr) (sp : Sp) (ta : TA) : TE := fun σ H Q => ta σ H fun vs H1 => vs.length ≤ 1000 ∧ ∀ a, H1 a = none → sp (.ref a :: vs) (upd H1 a (exo a C none)) (fun v H2 => v = .non ∧ Q (.ref a) H2) fun _ _ _ => False
theorem pe_mkG {X : Cx} {x : Str} {C fI : Addr} {k : Nat} {fd : FuncData} {ps : List Str} {sp : Sp} {e : Expr} {es : List Expr} {ta : TA} {p pos : Pos} (T : ExG X.K C) (iC : PySem.W.findIn X.K (.ref C) "__init__" = some (some (.ref fI))) (tI : PySem.W.typeIn X.K (.ref fI) = some (.type "function"))
    (F : FnOk X.prog X.w X.K X.mg X.base CX0 k fI fd ps sp) (hr : Room (k + 1) X.A) (hb : Binds X.K fd ps []) (hg : Gl X x) (hm : X.mg x = some (.ref C)) (ha : PA X (e :: es) ta)
    (hdb : (x == ("__debug__" : Str)) = false := by decide) (hs : starEach (e :: es) X.env = (false, eval e X.env) :: starEach es X.env := by rfl) (hp : (backTo pos (starEach es X.env)).any (·.1) = false := by rfl) :
    PE X (.Call (.Name x p) (e :: es) [] pos) (tMkG C sp ta) := by
  refine ⟨fun pins s σ H Q I h => wpAny_Call_Name_kw (ld_glob I hg hm ?_ hdb)⟩
  obtain ⟨B, newId, initId, bmB, FB, SF, ov, nm, q, N, bs, bm, sn, sub, ab, col, dd, k0, k1, k2, k3, k5, look, same⟩ := T.fam
  refine PySem.W.callWith_K (h₀ := X.base) I.ok.mod.kin T.kC (thn (ha.run pos pins s σ H _ I h) fun us s1 hu => ?_) hs hp
  obtain ⟨vs, H1, J, rv, hz, y⟩ := hu
  refine ⟨J.kIn, ?_⟩
  show wpAny _ _ (call (.ref C) us) _ _ _
  obtain ⟨hh, g, dr, tk, os⟩ := s1
  have n1 : H1 (hh.objs.size + 1) = none := J.hok.fresh (Nat.le_succ _)
  have yy := y (hh.objs.size + 1) n1
  have more : ∀ b o, hh.get? b = some o → ((hh.push (PySem.W.kdv_tup us)).push (PySem.HandSPX.excO C hh.objs.size)).get? b = some o := fun b o z => Heap.get?_push_of_some _ (Heap.get?_push_of_some _ z)
  have at_ : ((hh.push (PySem.W.kdv_tup us)).push (PySem.HandSPX.excO C hh.objs.size)).get? (hh.objs.size + 1) = some (PySem.HandSPX.excO C hh.objs.size) := by heap_get
  have J2 : Inv X pins σ (upd H1 (hh.objs.size + 1) (exo (hh.objs.size + 1) C none)) ⟨(hh.push (PySem.W.kdv_tup us)).push (PySem.HandSPX.excO C hh.objs.size), g, dr, tk, os⟩ := J.laid (t' := tk) more (Nat.le_succ _) (exo_ok at_)
  have rv2 : Vals (V.ref (hh.objs.size + 1) :: vs) (Value.ref (hh.objs.size + 1) :: us) := .cons rfl rv
  have ln : (Value.ref (hh.objs.size + 1) :: us).length = ps.length := rv2.length.symm.trans (F.len _ _ _ _ yy)
  have few : us.length ≤ sizeLine := by
    rw [← Paired.length rv, sizeLine_eq]
    omega
  have bnd := hb _ (Value.ref (hh.objs.size + 1) :: us) J2.kIn (by rw [List.append_nil]; exact ln)
  rw [List.append_nil] at bnd
  have body := F.run _ X.stack _ _ ⟨Value.ref (hh.objs.size + 1) :: us, []⟩ _ _ _ (fun _ _ _ => False) (hr.make C us []) (J2.env0.make C us []) bnd rv2 yy
  refine wpAny_call (PySem.HandSPX.call_own FB same (J.kIn _ _ look) (PySem.W.looks_findIn J.kIn iC) (fun self => PySem.W.bind_fn J.kIn self tI) few (codeAny_mono body fun r s2 z => ?_))
  cases r with
  | error _ => exact z.elim
  | ok fl =>
    cases fl with
    | ret w =>
      obtain ⟨v, H2, o2, b2, un2, ok2, rw2, ev, q2⟩ := z
      subst ev
      exact ⟨rw2, ⟨V.ref (hh.objs.size + 1), H2, J2.call' (ch := []) o2 un2 ok2 b2 (fun _ m => nomatch m), rfl, q2⟩⟩
    | next => exact z.elim
    | brk => exact z.elim
    | cont => exact z.elim
end Bh
namespace Bh
open PySem PySem.Spec PyProof.Rows L2
/-- the same, for raise -/
theorem pmk_mkG {X : Cx} {x : Str} {C fI : Addr} {k : Nat} {fd : FuncData} {ps : List Str} {sp : Sp} {e : Expr} {es : List Expr} {ta : TA} {p pos : Pos} (T : ExG X.K C) (iC : PySem.W.findIn X.K (.ref C) "__init__" = some (some (.ref fI))) (tI : PySem.W.typeIn X.K (.ref fI) = some (.type "function"))
    (F : FnOk X.prog X.w X.K X.mg X.base CX0 k fI fd ps sp) (hr : Room (k + 1) X.A) (hb : Binds X.K fd ps []) (hg : Gl X x) (hm : X.mg x = some (.ref C)) (ha : PA X (e :: es) ta)
    (hdb : (x == ("__debug__" : Str)) = false := by decide) (hs : starEach (e :: es) X.env = (false, eval e X.env) :: starEach es X.env := by rfl) (hp : (backTo pos (starEach es X.env)).any (·.1) = false := by rfl) :
    PMk X (.Call (.Name x p) (e :: es) [] pos) (tMkO C sp [] ta) := by
  intro pins s σ H Q I h
  refine wpAny_Call_Name_kw (ld_glob I hg hm ?_ hdb)
  obtain ⟨B, newId, initId, bmB, FB, SF, ov, nm, q, N, bs, bm, sn, sub, ab, col, dd, k0, k1, k2, k3, k5, look, same⟩ := T.fam
  refine PySem.W.callWith_K (h₀ := X.base) I.ok.mod.kin T.kC (thn (ha.run pos pins s σ H _ I h) fun us s1 hu => ?_) hs hp
  obtain ⟨vs, H1, J, rv, hz, y⟩ := hu
  refine ⟨J.kIn, ?_⟩
  show wpAny _ _ (call (.ref C) us) _ _ _
  obtain ⟨hh, g, dr, tk, os⟩ := s1
  have big : hh.objs.size ≤ hh.objs.size + 1 := Nat.le_succ _
  have yy := y (hh.objs.size + 1) (J.hok.fresh big)
  rw [List.append_nil] at yy
  have more : ∀ b o, hh.get? b = some o → ((hh.push (PySem.W.kdv_tup us)).push (PySem.HandSPX.excO C hh.objs.size)).get? b = some o := fun b o z => Heap.get?_push_of_some _ (Heap.get?_push_of_some _ z)
  have at_ : ((hh.push (PySem.W.kdv_tup us)).push (PySem.HandSPX.excO C hh.objs.size)).get? (hh.objs.size + 1) = some (PySem.HandSPX.excO C hh.objs.size) := by heap_get
  have J2 : Inv X pins σ (upd H1 (hh.objs.size + 1) (exo (hh.objs.size + 1) C none)) ⟨(hh.push (PySem.W.kdv_tup us)).push (PySem.HandSPX.excO C hh.objs.size), g, dr, tk, os⟩ := J.laid (t' := tk) more big (exo_ok at_)
  have rv2 : Vals (V.ref (hh.objs.size + 1) :: vs) (Value.ref (hh.objs.size + 1) :: us) := .cons rfl rv
  have ln : (Value.ref (hh.objs.size + 1) :: us).length = ps.length := rv2.length.symm.trans (F.len _ _ _ _ yy)
  have few : us.length ≤ sizeLine := by
    rw [← Paired.length rv, sizeLine_eq]
    omega
  have bnd := hb _ (Value.ref (hh.objs.size + 1) :: us) J2.kIn (by rw [List.append_nil]; exact ln)
  rw [List.append_nil] at bnd
  have body := F.run _ X.stack _ _ ⟨Value.ref (hh.objs.size + 1) :: us, []⟩ _ _ _ (fun _ _ _ => False) (hr.make C us []) (J2.env0.make C us []) bnd rv2 yy
  refine wpAny_call (PySem.HandSPX.call_own FB same (J.kIn _ _ look) (PySem.W.looks_findIn J.kIn iC) (fun self => PySem.W.bind_fn J.kIn self tI) few (codeAny_mono body fun r s2 z => ?_))
  cases r with
  | error _ => exact z.elim
  | ok fl =>
    cases fl with
    | ret w =>
      obtain ⟨v, H2, o2, b2, un2, ok2, rw2, ev, dx, fs, ea, ed, nd, q2⟩ := z
      subst ev
      obtain ⟨h2, g2, d2, t2, os2⟩ := s2
      exact ⟨rw2, mk_end (raises_own T.exC T.tyC) J big more un2 ok2 o2 b2 ea ed nd q2⟩
    | next => exact z.elim
    | brk => exact z.elim
    | cont => exact z.elim
/-- e.n, e such an exception that was not raised -/
def tXo (K : PySem.W.Frag) (n : Str) (te : TE) : TE := fun σ H Q => te σ H fun x H1 => ∃ (a C dd : Addr) (fs : List (Str × V)) (v : V), x = .ref a ∧ H1 a = some (exo a C (some dd)) ∧ XfC K C ∧ PySem.W.findIn K (.ref C) n = some none ∧ H1 dd = some (exd dd fs) ∧ fs.lookup n = some v ∧ Q v H1
theorem pe_xo {X : Cx} {e : Expr} {te : TE} {pos : Pos} {n : Str} (he : PE X e te) (hb : attributeBase e n X.env (eval e X.env) = eval e X.env := by rfl) : PE X (.Attribute e n pos) (tXo X.K n te) := by
  refine ⟨fun pins s σ H Q I h => attr_of hb (thn (he.run pins s σ H _ I h) fun u s1 hu => ?_)⟩
  obtain ⟨x, H1, J, rx, a, C, dd, fs, v, rfl, ea, xf, no, ed, lk, q⟩ := hu
  cases rx
  obtain ⟨t1, g⟩ := exo_at J.hok ea
  obtain ⟨m, ns, rel⟩ := exd_at J.hok ed
  obtain ⟨od, _, _, god, _, _⟩ := ns.count (within_of rel)
  obtain ⟨od2, god2, lo⟩ := lookIn_ns ns
  obtain ⟨y, hy, ry⟩ := RelO.some_of (v := v) (o := m n) (by rw [← lk]; exact rel n)
  have inst : PySem.W.InstAt s1.heap a { cls := .ref C, dict := some dd, data := .fields #[.ref t1, .none, .none, .none, .bool false, .none] } C (some od2) := ⟨g, rfl, rfl, god2⟩
  exact HandSPX.exc_get J.kIn inst xf.ga xf.gg xf.exC (PySem.W.findObj_own xf.hdC no rfl (by rw [lo, hy])) (handed_of ry) ⟨v, H1, J.tok _, ry, q⟩
end Bh
namespace Bh
open PySem PySem.Spec PyProof.Rows L2
/-- isinstance(e, c), e such an exception that was not raised -/
def rIsO (K : PySem.W.Frag) : List V → Hp → VK → Prop := fun xs H Q => ∃ (a D dd : Addr) (fs : List (Str × V)) (c : V) (cv : Value) (b : Bool), xs = [.ref a, c] ∧ ExcC K D ∧ H a = some (exo a D (some dd)) ∧ H dd = some (exd dd fs) ∧ (∀ u, RelV c u → u = cv) ∧ PySem.W.kitOne K (.ref D) cv = some b ∧ Q (.bl b) H
theorem call_isO {X : Cx} : CallR X (.builtin "isinstance") (rIsO X.K) := by
  intro pins s σ H xs us Q I r h
  obtain ⟨a, D, dd, fs, c, cv, b, rfl, F, ea, ed, hc, e, q⟩ := h
  obtain ⟨u1, u2, rfl, r1, r2⟩ := vals2 r
  cases r1
  obtain rfl := hc _ r2
  obtain ⟨t1, g⟩ := exo_at I.hok ea
  obtain ⟨m, ns, rel⟩ := exd_at I.hok ed
  obtain ⟨od, god, _⟩ := lookIn_ns ns
  have inst : PySem.W.InstAt s.heap a { cls := .ref D, dict := some dd, data := .fields #[.ref t1, .none, .none, .none, .bool false, .none] } D (some od) := ⟨g, rfl, rfl, god⟩
  have hcl : (PySem.W.clsIn X.K D).isSome = true := by
    obtain ⟨cd, k, _⟩ := PySem.W.any_some F.hd
    rw [k]
    rfl
  exact PySem.W.kia_one (PySem.W.kitx_exc hcl F.hg F.hk F.hs F.ha F.hn F.ht F.hm) I.kIn inst e (fun z => nomatch z) fun tk => ⟨.bl b, H, I.kept (t' := tk) fun _ _ z => z, rfl, q⟩
end Bh

set_option Elab.async false
set_option linter.all false
set_option maxRecDepth 100000
namespace Bh
open PySem PySem.Spec PyProof PyProof.Rows L2 HandSPX
/-! ### an own exception made by keyword -/
section
variable {prog : Program} {w : World} {A : Around} {E : Value → Shared → Prop} {R : Result → Shared → Prop} {h : Heap} {g : Array GenState} {d : Drawn} {t : Nat} {os : OsState}
variable {nm q : Str} {C N : Addr} {bs bm bmB : List Value} {hdct : Bool} {sn : List Str} {sub : List Value} {ab : Bool} {col : Option Bool} {dd : Option Addr} {k0 k1 k2 k3 k5 : Option Value} {B newId initId : String} {kk : Str} {kv : Value}
theorem kw_check {M : Model} (F : ExcBaseFacts B newId initId bmB) (hT : ∀ X : String, bm.contains (.type X) = bmB.contains (.type X)) {Q : Unit → Shared → Prop}
    (hC : h.get? C = some (excClassObj nm q C N bs bm hdct sn sub ab col dd k0 k1 k2 k3 k5 newId)) (hq : Q () ⟨h, g, d, t, os⟩) : wpAny M A (checkBuiltinCall newId ⟨[.ref C], [(kk, kv)]⟩) Q E ⟨h, g, d, t, os⟩ := by
  have c1 : (Value.ref C :: bm).contains (.type B) = true := by rw [List.contains_cons, hT, F.hasB, Bool.or_true]
  have c2 := F.noStar
  simp only [checkBuiltinCall, F.newKind, F.newSplit, F.newRow]
  repeat (first | refine wpAny_loadPart_at hC ?_ | (refine wpAny_isSubtype_exc hC ?_; rw [c1]) | refine wpAny_staticBase_exc hC ?_ | refine wpAny_madeBy_exc hC ?_ | simp only [bne_self_eq_false, Bool.false_eq_true, if_false] | wp_step)
  exact hq
theorem kw_new (F : ExcBaseFacts B newId initId bmB) (hT : ∀ X : String, bm.contains (.type X) = bmB.contains (.type X))
    (hC : h.get? C = some (excClassObj nm q C N bs bm hdct sn sub ab col dd k0 k1 k2 k3 k5 newId))
    (hq : R (.ok (.ret (.ref (h.objs.size + 1)))) ⟨(h.push (PySem.W.kdv_tup [])).push (excO C h.objs.size), g, d, t, os⟩) :
    codeAny (model prog w) A (.builtin newId ⟨[.ref C], [(kk, kv)]⟩) R ⟨h, g, d, t, os⟩ := by
  have ends := F.ends
  have c1 : (Value.ref C :: bm).contains (.type B) = true := by rw [List.contains_cons, hT, F.hasB, Bool.or_true]
  have c2 : (Value.ref C :: bm).contains (.type "AttributeError") = false := by rw [List.contains_cons, hT, F.noAttr]; rfl
  have c3 : (Value.ref C :: bm).contains (.type "NameError") = false := by rw [List.contains_cons, hT, F.noName]; rfl
  refine codeAny_builtinAt F.entry ?_
  unfold Builtin.«BaseException.__new__»
  refine PySem.wpAt_bind ?_
  show PySem.wpAt _ _ _ (stack >>= _) _ _ _
  refine PySem.wpAt_bind (PySem.wpAt_stack fun p below => PySem.wpAt_of_wpAny ?_)
  wp_walk
  refine PySem.wpAt_of_wpAny ?_
  rw [F.owner]
  repeat (first | with_reducible refine wpAny_madeHere_exc F.canon hC ?_ | with_reducible refine wpAny_loadPart_at hC ?_ | (with_reducible refine wpAny_isSubtype_exc hC ?_; first | rw [c1] | rw [c2] | rw [c3]) | wp_step)
  show R _ _
  rw [Heap.size_push]
  exact hq
theorem kw_type (F : ExcBaseFacts B newId initId bmB) (hT : ∀ X : String, bm.contains (.type X) = bmB.contains (.type X)) {fI : Addr} {Q : Fin → Shared → Prop}
    (hC : h.get? C = some (excClassObj nm q C N bs bm hdct sn sub ab col dd k0 k1 k2 k3 k5 newId))
    (hi : PySem.W.Looks (model prog w) h (typeLookup (.ref C) "__init__") (some (.ref fI))) (hb : ∀ self, PySem.W.Looks (model prog w) h (bindSpecial (.ref fI) self) (.ref fI, [self]))
    (hq : codeAny (model prog w) A (.call (.ref fI) ⟨[.ref (h.objs.size + 1)], [(kk, kv)]⟩)
      (fun r s' => match r with | .ok (.ret v) => v = .none ∧ Q (.done (.ret (.ref (h.objs.size + 1)))) s' | .ok _ => False | .error e => E e s')
      ⟨(h.push (PySem.W.kdv_tup [])).push (excO C h.objs.size), g, d, t, os⟩) :
    wpAny (model prog w) A (Builtin.«type.__call__» ⟨[.ref C], [(kk, kv)]⟩) Q E ⟨h, g, d, t, os⟩ := by
  repeat (first | with_reducible refine wpAny_loadPart_at hC ?_ | with_reducible refine wpAny_madeBy_exc hC ?_ | wp_step)
  refine codeAny_call_builtin_code (Code.quiet_builtin _ F.quiet) (kw_check F hT hC ?_)
  refine kw_new F hT hC ?_
  show wpAny _ _ _ _ _ _
  have k : ∀ b o, h.get? b = some o → ((h.push (PySem.W.kdv_tup [])).push (excO C h.objs.size)).get? b = some o := fun b o e => Heap.get?_push_of_some _ (Heap.get?_push_of_some _ e)
  have hC1 := k _ _ hC
  have hget : ((h.push (PySem.W.kdv_tup [])).push (excO C h.objs.size)).get? (h.objs.size + 1) = some (excO C h.objs.size) := by heap_get
  have hcC : (Value.ref C :: bm).contains (.ref C) = true := by simp
  have i1 := hi.keeps k
  have b1 := (hb (.ref (h.objs.size + 1))).keeps k
  unfold isInstance
  repeat (first | with_reducible refine wpAny_loadPart_at hget ?_ | (with_reducible refine wpAny_isSubtype_exc hC1 ?_; rw [hcC]) | wp_step)
  show wpAny _ _ (typeLookup (.ref C) _) _ _ _
  refine i1.at ?_
  refine wpAny_holding (wpAny_bind (b1.at ?_))
  refine wpAny_bind (wpAny_call (codeAny_mono hq fun r s' z => ?_))
  rcases r with e | (v | _ | _ | _) <;> first | exact z | exact z.elim | skip
  obtain ⟨rfl, z⟩ := z
  first
    | exact wpAny_pure (wpAny_pure z)
    | (wp_walk; exact z)
theorem kw_call (F : ExcBaseFacts B newId initId bmB) (hT : ∀ X : String, bm.contains (.type X) = bmB.contains (.type X)) {fI : Addr}
    (hC : h.get? C = some (excClassObj nm q C N bs bm hdct sn sub ab col dd k0 k1 k2 k3 k5 newId))
    (hi : PySem.W.Looks (model prog w) h (typeLookup (.ref C) "__init__") (some (.ref fI))) (hb : ∀ self, PySem.W.Looks (model prog w) h (bindSpecial (.ref fI) self) (.ref fI, [self]))
    (hq : codeAny (model prog w) (A.under (.builtin "type.__call__" ⟨[.ref C], [(kk, kv)]⟩)) (.call (.ref fI) ⟨[.ref (h.objs.size + 1)], [(kk, kv)]⟩) (PySem.W.InitBack (h.objs.size + 1) R)
      ⟨(h.push (PySem.W.kdv_tup [])).push (excO C h.objs.size), g, d, t, os⟩) :
    codeAny (model prog w) A (.call (.ref C) ⟨[], [(kk, kv)]⟩) R ⟨h, g, d, t, os⟩ := by
  have f1 := tc_lookup
  have f2 := tc_bind (.ref C)
  have hTy : (⟨h, g, d, t, os⟩ : Shared).TypeIs (.ref C) "type" := ⟨_, hC, rfl⟩
  refine codeAny_of_tree ?_
  show wpAny _ _ (callAny (.ref C) _) _ _ _
  repeat (any_goals (first | assumption | with_reducible refine wpAny_loadPart_at hC ?_ | wp_step))
  refine ⟨rfl, ?_⟩
  refine codeAny_call_builtin_at (Code.quiet_builtin _ (by decide +kernel)) entry_typeCall (wpAny_check_type_call_sub hC (kw_type F hT hC hi hb ?_))
  refine codeAny_mono hq fun r s' z => ?_
  rcases r with e | (v | _ | _ | _) <;> exact z
end
end Bh

set_option Elab.async false
set_option linter.all false
set_option maxRecDepth 100000
namespace Bh
open PySem PySem.Spec PyProof.Rows L2
/-- C() with C's own __init__ -/
theorem pe_mkG0 {X : Cx} {x : Str} {C fI : Addr} {k : Nat} {fd : FuncData} {ps : List Str} {sp : Sp} {p pos : Pos} (T : ExG X.K C) (iC : PySem.W.findIn X.K (.ref C) "__init__" = some (some (.ref fI))) (tI : PySem.W.typeIn X.K (.ref fI) = some (.type "function"))
    (F : FnOk X.prog X.w X.K X.mg X.base CX0 k fI fd ps sp) (hr : Room (k + 1) X.A) (hb : Binds X.K fd ps []) (hg : Gl X x) (hm : X.mg x = some (.ref C))
    (hdb : (x == ("__debug__" : Str)) = false := by decide) :
    PE X (.Call (.Name x p) [] [] pos) (tMkG C sp tNil) := by
  refine ⟨fun pins s σ H Q I h => wpAny_Call_Name_kw (ld_glob I hg hm ?_ hdb)⟩
  obtain ⟨B, newId, initId, bmB, FB, SF, ov, nm, q, N, bs, bm, sn, sub, ab, col, dd, k0, k1, k2, k3, k5, look, same⟩ := T.fam
  refine PySem.W.callWith_K0 I.kIn T.kC ?_
  obtain ⟨_, y⟩ := (h : _ ∧ _)
  obtain ⟨hh, g, dr, tk, os⟩ := s
  have n1 : H (hh.objs.size + 1) = none := I.hok.fresh (Nat.le_succ _)
  have yy := y (hh.objs.size + 1) n1
  have more : ∀ b o, hh.get? b = some o → ((hh.push (PySem.W.kdv_tup [])).push (PySem.HandSPX.excO C hh.objs.size)).get? b = some o := fun b o z => Heap.get?_push_of_some _ (Heap.get?_push_of_some _ z)
  have at_ : ((hh.push (PySem.W.kdv_tup [])).push (PySem.HandSPX.excO C hh.objs.size)).get? (hh.objs.size + 1) = some (PySem.HandSPX.excO C hh.objs.size) := by heap_get
  have J2 : Inv X pins σ (upd H (hh.objs.size + 1) (exo (hh.objs.size + 1) C none)) ⟨(hh.push (PySem.W.kdv_tup [])).push (PySem.HandSPX.excO C hh.objs.size), g, dr, tk, os⟩ := I.laid (t' := tk) more (Nat.le_succ _) (exo_ok at_)
  have rv2 : Vals [V.ref (hh.objs.size + 1)] [Value.ref (hh.objs.size + 1)] := .cons rfl .nil
  have ln : [Value.ref (hh.objs.size + 1)].length = ps.length := rv2.length.symm.trans (F.len _ _ _ _ yy)
  have bnd := hb _ [Value.ref (hh.objs.size + 1)] J2.kIn (by rw [List.append_nil]; exact ln)
  rw [List.append_nil] at bnd
  have body := F.run _ X.stack _ _ ⟨[Value.ref (hh.objs.size + 1)], []⟩ _ _ _ (fun _ _ _ => False) (hr.make C [] []) (J2.env0.make C [] []) bnd rv2 yy
  refine wpAny_call (PySem.HandSPX.call_own FB same (I.kIn _ _ look) (PySem.W.looks_findIn I.kIn iC) (fun self => PySem.W.bind_fn I.kIn self tI) (Nat.zero_le _) (codeAny_mono body fun r s2 z => ?_))
  cases r with
  | error _ => exact z.elim
  | ok fl =>
    cases fl with
    | ret w =>
      obtain ⟨v, H2, o2, b2, un2, ok2, rw2, ev, q2⟩ := z
      subst ev
      exact ⟨rw2, ⟨V.ref (hh.objs.size + 1), H2, J2.call' (ch := []) o2 un2 ok2 b2 (fun _ m => nomatch m), rfl, q2⟩⟩
    | next => exact z.elim
    | brk => exact z.elim
    | cont => exact z.elim
/-- C(k = e): kb is the promise of the binding of self and one keyword -/
theorem pe_mkGK {X : Cx} {x kk : Str} {C fI : Addr} {k : Nat} {fd : FuncData} {ps : List Str} {sp : Sp} {p pos : Pos} {kws : List Keyword} {tk : TA} {g : List Value → List Value → List Value} {gV : List V → List V → List V} (T : ExG X.K C) (iC : PySem.W.findIn X.K (.ref C) "__init__" = some (some (.ref fI))) (tI : PySem.W.typeIn X.K (.ref fI) = some (.type "function"))
    (F : FnOk X.prog X.w X.K X.mg X.base CX0 k fI fd ps sp) (hr : Room (k + 1) X.A) (hb : KBn X.K fd ps 1 [kk] g gV) (hg : Gl X x) (hm : X.mg x = some (.ref C)) (hkw : PK X kws tk)
    (hall : (backToKw pos (keywordEach kws X.env)).all (·.1.isSome) = true := by rfl) (hks : (backToKw pos (keywordEach kws X.env)).filterMap (·.1) = [kk] := by rfl)
    (hdb : (x == ("__debug__" : Str)) = false := by decide) (hpl : ((backTo pos (starEach [] X.env)).any (·.1) || (backToKw pos (keywordEach kws X.env)).any (·.1.isNone)) = false := by rfl) :
    PE X (.Call (.Name x p) [] kws pos) (fun σ H Q => tk σ H fun zs H1 => zs.length = 1 ∧ ∀ a, H1 a = none → sp (gV [.ref a] zs) (upd H1 a (exo a C none)) (fun v H2 => v = .non ∧ Q (.ref a) H2) fun _ _ _ => False) := by
  refine ⟨fun pins s σ H Q I h => wpAny_Call_Name_kw (ld_glob I hg hm ?_ hdb)⟩
  obtain ⟨B, newId, initId, bmB, FB, SF, ov, nm, q, N, bs, bm, sn, sub, ab, col, dd, k0, k1, k2, k3, k5, look, same⟩ := T.fam
  refine PySem.W.callWith_KW0 (h₀ := X.base) I.ok.mod.kin T.kC hall ?_ hpl
  refine thn (hkw.run pos pins s σ H _ I h) fun ws s2 ⟨zs, H1, J, rz, lz, y⟩ => ⟨J.kIn, ?_⟩
  rw [hks]
  obtain ⟨u, rfl⟩ : ∃ u, ws = [u] := by
    cases rz with
    | nil => cases lz
    | cons a b => cases b with
      | nil => exact ⟨_, rfl⟩
      | cons => cases lz
  show wpAny _ _ (call (.ref C) [] [(kk, u)]) _ _ _
  obtain ⟨hh, gg, dr, tk2, os⟩ := s2
  have n1 : H1 (hh.objs.size + 1) = none := J.hok.fresh (Nat.le_succ _)
  have yy := y (hh.objs.size + 1) n1
  have more : ∀ b o, hh.get? b = some o → ((hh.push (PySem.W.kdv_tup [])).push (PySem.HandSPX.excO C hh.objs.size)).get? b = some o := fun b o z => Heap.get?_push_of_some _ (Heap.get?_push_of_some _ z)
  have at_ : ((hh.push (PySem.W.kdv_tup [])).push (PySem.HandSPX.excO C hh.objs.size)).get? (hh.objs.size + 1) = some (PySem.HandSPX.excO C hh.objs.size) := by heap_get
  have J2 : Inv X pins σ (upd H1 (hh.objs.size + 1) (exo (hh.objs.size + 1) C none)) ⟨(hh.push (PySem.W.kdv_tup [])).push (PySem.HandSPX.excO C hh.objs.size), gg, dr, tk2, os⟩ := J.laid (t' := tk2) more (Nat.le_succ _) (exo_ok at_)
  have rv2 : Vals [V.ref (hh.objs.size + 1)] [Value.ref (hh.objs.size + 1)] := .cons rfl .nil
  have bnd := hb.to _ [Value.ref (hh.objs.size + 1)] [u] J2.kIn rfl rfl
  have body := F.run _ X.stack _ _ ⟨[Value.ref (hh.objs.size + 1)], [(kk, u)]⟩ _ _ _ (fun _ _ _ => False) (hr.make C [] [(kk, u)]) (J2.env0.make C [] [(kk, u)]) bnd (hb.rel rv2 rz) yy
  refine wpAny_call (kw_call FB same (J.kIn _ _ look) (PySem.W.looks_findIn J.kIn iC) (fun self => PySem.W.bind_fn J.kIn self tI) (codeAny_mono body fun r s2 z => ?_))
  cases r with
  | error _ => exact z.elim
  | ok fl =>
    cases fl with
    | ret w =>
      obtain ⟨v, H2, o2, b2, un2, ok2, rw2, ev, q2⟩ := z
      subst ev
      exact ⟨rw2, ⟨V.ref (hh.objs.size + 1), H2, J2.call' (ch := []) o2 un2 ok2 b2 (fun _ m => nomatch m), rfl, q2⟩⟩
    | next => exact z.elim
    | brk => exact z.elim
    | cont => exact z.elim
end Bh

set_option Elab.async false
set_option linter.all false
set_option maxRecDepth 100000
set_option maxHeartbeats 1000000
namespace Bh
open PySem PySem.Spec PyProof.Rows L2
/-! ### what is new -/
def newOf (H H' : Hp) : Hp := fun a => if H a = none then H' a else none
section
variable {H H1 H2 : Hp} {a p D : Addr} {o : HO} {u : HO}
theorem newOf_le : Same (newOf H H1) H1 := fun a u e => by
  unfold newOf at e
  by_cases h : H a = none
  · rw [if_pos h] at e
    exact e
  · rw [if_neg h] at e
    cases e
theorem newOf_at (h : H a = none) : newOf H H1 a = H1 a := if_pos h
theorem newOf_mono (s : Same H1 H2) : Same (newOf H H1) (newOf H H2) := fun a u e => by
  unfold newOf at e ⊢
  by_cases h : H a = none
  · rw [if_pos h] at e ⊢
    exact s _ _ e
  · rw [if_neg h] at e
    cases e
theorem newOf_trans (s : Same H H1) : Same (newOf H1 H2) (newOf H H2) := fun a u e => by
  unfold newOf at e ⊢
  by_cases h : H1 a = none
  · rw [if_pos h] at e
    rw [if_pos (s.free h)]
    exact e
  · rw [if_neg h] at e
    cases e
/-- new since, and not at D, which was there -/
theorem newOf_hid (s : Same H H1) (hD : H1 D = some u) : Same (newOf H1 H2) (hid D (newOf H (upd H2 D o))) := fun a v e => by
  have n : H1 a = none := by
    cases q : H1 a with
    | none => rfl
    | some w =>
      unfold newOf at e
      rw [if_neg (by rw [q]; exact fun z => nomatch z)] at e
      cases e
  have ne : a ≠ D := fun z => by
    rw [z, hD] at n
    cases n
  rw [newOf_at n] at e
  rw [hid_ne ne, newOf_at (s.free n), upd_ne ne]
  exact e
theorem hid_newOf (s : Same H1 H2) : Same (hid D (newOf H H1)) (hid D (newOf H (upd H2 D o))) := fun a v e => by
  by_cases ne : a = D
  · rw [ne] at e
    unfold hid at e
    rw [if_pos rfl] at e
    cases e
  rw [hid_ne ne] at e ⊢
  have k := newOf_mono (H := H) s _ _ e
  unfold newOf at k ⊢
  by_cases h : H a = none
  · rw [if_pos h] at k ⊢
    rw [upd_ne ne]
    exact k
  · rw [if_neg h] at k
    cases k
end
/-- the promise of copy_of (n: how deep, one more): the same data, all of its lists and tuples new -/
def spCp (K : PySem.W.Frag) : Nat → Sp
  | 0 => fun _ _ _ _ => False
  | n + 1 => fun vs H Q _ => ∃ (v : V) (d : PyData), vs = [v] ∧ Dp K H v d ∧ Sh n d ∧ ∀ H' r, Same H H' → Dp K (newOf H H') r d → Q r H'
structure ExR (K : PySem.W.Frag) (mg : Str → Option Value) (x q : Str) (st : Stmt) (ps at_ : List Str) : Type where
  c : Addr
  f : Addr
  fd : FuncData
  F : Fun K "__init__" q st f fd
  b : Binds K fd ps []
  g : mg x = some (.ref c)
  e : ExG K c
  i : PySem.W.findIn K (.ref c) "__init__" = some (some (.ref f))
  t : PySem.W.typeIn K (.ref f) = some (.type "function")
  n : ∀ y ∈ at_, PySem.W.findIn K (.ref c) y = some none
  x : XfC K c
  k : ExcC K c

/-- an own error's dict gets the code and, under f, a copy of d all of whose lists and tuples are new -/
def spIe (K : PySem.W.Frag) (C : Addr) (nm f : Str) (n : Nat) : Sp := fun vs H Q _ => ∃ (a : Addr) (v : V) (d : PyData), vs = [.ref a, v] ∧ H a = some (exo a C none) ∧ Dp K H v d ∧ Sh n d ∧
  ∀ (dx : Addr) (r : V) (H2 : Hp), H dx = none → dx ≠ a → H2 a = some (exo a C (some dx)) → H2 dx = some (exd dx [("code", .str nm), (f, r)]) → Same (hid a H) H2 → Dp K (hid dx (newOf H H2)) r d → Q .non H2
theorem ie_same {H H3 : Hp} {a dx : Addr} {o1 o2 o3 : HO} (s : Same H H3) (nd : H3 dx = none) : Same (hid a H) (upd (upd (upd H3 dx o1) a o2) dx o3) := fun b u e => by
  have ne : b ≠ a := fun z => by
    rw [z] at e
    unfold hid at e
    rw [if_pos rfl] at e
    cases e
  rw [hid_ne ne] at e
  have k := s _ _ e
  have ne2 : b ≠ dx := ne_of_none k nd
  rw [upd_ne ne2, upd_ne ne, upd_ne ne2]
  exact k
theorem ie_new {H H3 : Hp} {a dx : Addr} {o1 o2 o3 w : HO} (ea : H a = some w) (s : Same H H3) (nd : H3 dx = none) : Same (newOf H H3) (hid dx (newOf H (upd (upd (upd H3 dx o1) a o2) dx o3))) := fun b u e => by
  have n : H b = none := by
    cases q : H b with
    | none => rfl
    | some z =>
      unfold newOf at e
      rw [if_neg (by rw [q]; exact fun z => nomatch z)] at e
      cases e
  rw [newOf_at n] at e
  have ne : b ≠ a := fun z => by
    rw [z, ea] at n
    cases n
  have ne2 : b ≠ dx := ne_of_none e nd
  rw [hid_ne ne2, newOf_at n, upd_ne ne2, upd_ne ne, upd_ne ne2]
  exact e
/-- the error, raised: what its making leaves -/
theorem ie_raise {K : PySem.W.Frag} {H : Hp} {C a : Addr} {nm f : Str} {n : Nat} {v : V} {d : PyData} {Q : XK} (hd : Dp K H v d) (hs : Sh n d) (na : H a = none)
    (k : ∀ (dd : Addr) (r : V) (H2 : Hp), H dd = none → Same H H2 → H2 dd = some (.xd [("code", .str nm), (f, r)]) → Dp K (newOf H H2) r d → Q (.ref C) (some dd) H2) :
    spIe K C nm f n (V.ref a :: ([v] ++ [])) (upd H a (exo a C none)) (fun v H2 => v = .non ∧ ∃ (d : Addr) (fs : List (Str × V)), H2 a = some (exo a C (some d)) ∧ H2 d = some (exd d fs) ∧ H d = none ∧ Q (.ref C) (some d) (upd (del H2 a) d (.xd fs))) (fun _ _ _ => False) := by
  refine ⟨a, v, d, rfl, upd_same, Dp.mono (same_new na) hd, hs, fun dx r H2 nd ne e1 e2 s1 hr => ⟨rfl, dx, _, e1, e2, ?_, ?_⟩⟩
  · rw [upd_ne ne] at nd
    exact nd
  · rw [upd_ne ne] at nd
    refine k dx r _ nd (fun b u e => ?_) upd_same (Dp.mono (fun b u e => ?_) hr)
    · have b1 : b ≠ dx := ne_of_none e nd
      have b2 : b ≠ a := ne_of_none e na
      rw [upd_ne b1, del_ne b2]
      exact s1 _ _ (by rw [hid_ne b2, upd_ne b2]; exact e)
    · have b1 : b ≠ dx := fun z => by
        rw [z] at e
        unfold hid at e
        rw [if_pos rfl] at e
        cases e
      rw [hid_ne b1] at e
      have n : upd H a (exo a C none) b = none := by
        cases q : upd H a (exo a C none) b with
        | none => rfl
        | some z =>
          unfold newOf at e
          rw [if_neg (by rw [q]; exact fun z => nomatch z)] at e
          cases e
      have b2 : b ≠ a := fun z => by
        rw [z, upd_same] at n
        cases n
      rw [newOf_at n] at e
      rw [upd_ne b2] at n
      rw [newOf_at n, upd_ne b1, del_ne b2]
      exact e
/-- what an except suite is to know of a raised error -/
structure ErC (K : PySem.W.Frag) (cBE cMS C : Addr) (nm f : Str) : Prop where
  x : XfC K C
  n1 : PySem.W.findIn K (.ref C) "code" = some none
  n2 : PySem.W.findIn K (.ref C) f = some none
  ex : PySem.W.exmAny K (.ref C) [.ref cBE, .ref cMS] = some true
theorem pe_weak {X : Cx} {e : Expr} {t : TE} (h : PE X e t) : PE X e (fun σ H Q => ∃ Q0, t σ H Q0 ∧ ∀ v H2, Q0 v H2 → Q v H2) :=
  ⟨fun pins s σ H Q I ⟨Q0, h0, m⟩ => wpAny_mono (h.run pins s σ H Q0 I h0) (fun u s1 ⟨v, H1, J, r, q⟩ => ⟨v, H1, J, r, m v H1 q⟩) (fun _ _ x => x)⟩
theorem pe_xz_K {X : Cx} {K : PySem.W.Frag} (hK : X.K = K) {e : Expr} {te : TE} {pos : Pos} {n : Str} (he : PE X e te) (hb : attributeBase e n X.env (eval e X.env) = eval e X.env := by rfl) : PE X (.Attribute e n pos) (tXz K n te) := by
  subst hK
  exact pe_xz he hb
/-- what _law_try makes of a question -/
def TTryE (K : PySem.W.Frag) (cBE cMS : Addr) (pairs : List (Str × Str)) : (XK → Hp → VK → Prop) → Hp → VK → Prop := fun tl H Q => ∃ (Ech : XK) (Q0 : VK), tl Ech H Q0 ∧
  (∀ cls d H2, Ech cls d H2 → ∃ (C dd : Addr) (nm f : Str) (v : V), cls = .ref C ∧ d = some dd ∧ H2 dd = some (.xd [("code", .str nm), (f, v)]) ∧ ErC K cBE cMS C nm f ∧ (nm, f) ∈ pairs ∧ ∀ H3 p, Same H2 H3 → H3 p = some (.tup [.str nm, v]) → Q (.ref p) H3) ∧
  ∀ v H2, Q0 v H2 → ∀ p, H2 p = none → Q (.ref p) (upd H2 p (.tup [.str "value", v]))
/-- what _law_given tells of a caught error -/
def spGivenE (K : PySem.W.Frag) (cBE cMS : Addr) (pairs : List (Str × Str)) : Sp := fun vs H Q _ => ∃ (a C dd : Addr) (nm f : Str) (v : V), vs = [.ref a] ∧ H a = some (exz a (.ref C) (some dd)) ∧ H dd = some (.xd [("code", .str nm), (f, v)]) ∧ ErC K cBE cMS C nm f ∧ (nm, f) ∈ pairs ∧ ∀ H', Same H H' → Q v H'
theorem op_inDK {X : Cx} {K : PySem.W.Frag} (hK : X.K = K) (hu : X.A.units + 65 < cLine) : OpR X (compareOp .In) (rInD K) := by
  subst hK
  exact op_inD hu
theorem op_notInDK {X : Cx} {K : PySem.W.Frag} (hK : X.K = K) (hu : X.A.units + 65 < cLine) : OpR X (compareOp .NotIn) (rNotInD K) := by
  subst hK
  exact op_notInD hu
theorem r65 {k : Nat} {A : Around} (r : Room k A) : A.units + 65 < cLine := by
  have := r.un
  omega
theorem eqv_strs (a b : Str) : PyData.eqv (.str a) (.str b) = decide (a = b) := by
  first | rfl | (simp [PyData.eqv])
end Bh

set_option Elab.async false
set_option linter.all false
set_option maxRecDepth 100000
set_option maxHeartbeats 2000000
namespace Bh
open PySem PySem.Spec PyProof.Rows L2
/-! ### own == and repr -/
/-- x == y by the class's own __eq__; y an instance of the class, or a tuple -/
def rEqIns (K : PySem.W.Frag) (C : Addr) (sp : Sp) : R2 := fun x y H Q => ∃ (a dx : Addr) (fs : List (Str × V)), x = .ref a ∧ H a = some (.ins C dx fs) ∧
  ((∃ (b dy : Addr) (gs : List (Str × V)), y = .ref b ∧ H b = some (.ins C dy gs)) ∨ ∃ (b : Addr) (zs : List V), y = .ref b ∧ SqT K H b zs) ∧ sp [x, y] H (fun v H' => (∃ r, v = .bl r) ∧ Q v H') C8.E0
section
variable {X : Cx} {C f : Addr} {fd : FuncData} {k : Nat} {sp : Sp} {p1 p2 : Str}
/-- the def f called with two values by the interpreter itself -/
theorem own_two (F : FnOk X.prog X.w X.K X.mg X.base C8.CX0 k f fd [p1, p2] sp) (hb : Binds X.K fd [p1, p2] []) {A : Around} (hr : Room k A) (fr : A.frames = X.A.frames) {pins : List (Addr × Obj)} {s : Shared} {σ : L2.St} {H : Hp} {x y : V} {u v : Value} {Q : VK} {E : Value → Shared → Prop}
    (I : Inv X pins σ H s) (rx : RelV x u) (ry : RelV y v) (h : sp [x, y] H Q C8.E0) : wpAny (model X.prog X.w) A (call (.ref f) [u, v]) (EP X pins σ Q) E s := by
  have en := I.env0
  have e0 : Env0 X.prog X.w X.K X.mg X.base A X.stack s H := ⟨by rw [fr]; exact en.frames, en.mod, en.bs, en.bsz, en.funs, en.frf, en.hok, en.bare⟩
  have bnd := hb s [u, v] I.kIn rfl
  rw [List.append_nil] at bnd
  refine wpAny_call (codeAny_mono (F.run A X.stack s H ⟨[u, v], []⟩ [u, v] [x, y] Q C8.E0 hr e0 bnd (.cons rx (.cons ry .nil)) h) fun r s2 z => ?_)
  cases r with
  | error e => exact (show False from z).elim
  | ok fl =>
    cases fl with
    | ret w => exact I.after z
    | next => exact z.elim
    | brk => exact z.elim
    | cont => exact z.elim
theorem op_eqIns (F : FnOk X.prog X.w X.K X.mg X.base C8.CX0 k f fd [p1, p2] sp) (hs : PySem.W.findIn X.K (.ref C) "__eq__" = some (some (.ref f))) (hf : PySem.W.isFn X.K (.ref f) = true) (hb : Binds X.K fd [p1, p2] []) (hr : Room k X.A)
    (ht : PySem.W.subIn X.K (.type "tuple") (.ref C) = some false) : OpR X (compareOp .Eq) (rEqIns X.K C sp) := by
  intro pins s σ H x y v u Q I rx ry h
  obtain ⟨a, dx, fs, rfl, ha, hy, hsp⟩ := h
  cases rx
  obtain ⟨mA, J, _⟩ := ins_get I.hok ha
  obtain ⟨od, J, _⟩ := J.look
  obtain ⟨m, hF⟩ := I.fr
  have body := own_two F hb hr rfl (E := X.xe) I (x := .ref a) (y := y) (u := .ref a) (v := u) rfl ry hsp
  show wpAny (model X.prog X.w) X.A (richCompare .Eq (.ref a) u) (EP X pins σ Q) X.xe s
  have go : ∀ tb, PySem.W.Looks (model X.prog X.w) s.heap (typeOf u) tb → PySem.W.notFirst X.K C tb = true → wpAny (model X.prog X.w) X.A (richCompare .Eq (.ref a) u) (EP X pins σ Q) X.xe s := fun tb h1 h2 => by
    refine PySem.W.cmp_K (op := .Eq) (tb := tb) hr.units0 hF I.ok.mod.kin J h1 h2 hs hf (wpAny_mono body (fun w s' z => ?_) fun _ _ e => e)
    obtain ⟨vr, H', I', rv, ⟨r, rfl⟩, q⟩ := z
    cases rv
    exact ⟨.bl r, H', I', rfl, q⟩
  rcases hy with ⟨b, dy, gs, rfl, hb'⟩ | ⟨b, zs, rfl, hz⟩
  · cases ry
    obtain ⟨mB, J', _⟩ := ins_get I.hok hb'
    obtain ⟨od', J', _⟩ := J'.look
    exact go _ J'.type (by simp [PySem.W.notFirst])
  · cases ry
    obtain ⟨its, _, pl, _⟩ := I.tuple hz
    obtain ⟨ob, ho, hc, _⟩ := id pl
    exact go (.type "tuple") (hc ▸ (PySem.W.Looks.ld ho).andThen .now) (by unfold PySem.W.notFirst; rw [ht]; rfl)
/-- repr(x) by the class's own __repr__ -/
def rReprIns (C : Addr) (sp : Sp) : List V → Hp → VK → Prop := fun xs H Q => ∃ (a dx : Addr) (fs : List (Str × V)), xs = [.ref a] ∧ H a = some (.ins C dx fs) ∧ sp xs H (fun v H' => (∃ r, v = .str r) ∧ Q v H') C8.E0
theorem own_one (F : FnOk X.prog X.w X.K X.mg X.base C8.CX0 k f fd [p1] sp) (hb : Binds X.K fd [p1] []) {A : Around} (hr : Room k A) (fr : A.frames = X.A.frames) {pins : List (Addr × Obj)} {s : Shared} {σ : L2.St} {H : Hp} {x : V} {u : Value} {Q : VK} {E : Value → Shared → Prop}
    (I : Inv X pins σ H s) (rx : RelV x u) (h : sp [x] H Q C8.E0) : wpAny (model X.prog X.w) A (call (.ref f) [u]) (EP X pins σ Q) E s := by
  have en := I.env0
  have e0 : Env0 X.prog X.w X.K X.mg X.base A X.stack s H := ⟨by rw [fr]; exact en.frames, en.mod, en.bs, en.bsz, en.funs, en.frf, en.hok, en.bare⟩
  have bnd := hb s [u] I.kIn rfl
  rw [List.append_nil] at bnd
  refine wpAny_call (codeAny_mono (F.run A X.stack s H ⟨[u], []⟩ [u] [x] Q C8.E0 hr e0 bnd (.cons rx .nil) h) fun r s2 z => ?_)
  cases r with
  | error e => exact (show False from z).elim
  | ok fl =>
    cases fl with
    | ret w => exact I.after z
    | next => exact z.elim
    | brk => exact z.elim
    | cont => exact z.elim
theorem call_reprIns (F : FnOk X.prog X.w X.K X.mg X.base C8.CX0 k f fd [p1] sp) (hs : PySem.W.findIn X.K (.ref C) "__repr__" = some (some (.ref f))) (hf : PySem.W.isFn X.K (.ref f) = true) (hb : Binds X.K fd [p1] []) (hr : Room (k + 1) X.A) : CallR X (.builtin "repr") (rReprIns C sp) := by
  intro pins s σ H xs us Q I r h
  obtain ⟨a, dx, fs, rfl, ha, hsp⟩ := h
  obtain ⟨u, rfl, rx⟩ := vals1 r
  cases rx
  obtain ⟨mA, J, _⟩ := ins_get I.hok ha
  obtain ⟨od, J, _⟩ := J.look
  obtain ⟨m, hF⟩ := I.fr
  have body := own_one F hb hr.in1 rfl (E := X.xe) I (x := .ref a) (u := .ref a) rfl hsp
  refine PySem.W.repr_K hr.in1.units0 hF I.ok.mod.kin J hs hf (wpAny_mono body (fun w s' z => ?_) fun _ _ e => e)
  obtain ⟨vr, H', I', rv, ⟨r, rfl⟩, q⟩ := z
  obtain ⟨t, rfl⟩ := rv
  exact ⟨.str r, H', I', ⟨t, rfl⟩, q⟩
/-- the class's own names: its __eq__, no __ne__ -/
def nsB (K : PySem.W.Frag) (N f : Addr) : Bool := match K.lookup N with
  | some ⟨_, _, .dict es _, _⟩ => (es.toList.all fun e => match e.key with
      | .str _ _ => true
      | _ => false) && (decide (nsFind es "__eq__" = some (.ref f)) && decide (nsFind es "__ne__" = none))
  | _ => false
/-- a class over object alone -/
structure NeC (K : PySem.W.Frag) (C f : Addr) : Prop where
  lk : ∃ nm q N bs hdct sn sub ab col dd k0 k1 k2 k3 k5 newId, K.lookup C = some (excClassObj nm q C N bs [.type "object"] hdct sn sub ab col dd k0 k1 k2 k3 k5 newId) ∧ nsB K N f = true
  fn : ∃ o : Obj, K.lookup f = some o ∧ o.cls = .type "function"
theorem NeC.own {K : PySem.W.Frag} {C f x : Addr} {h : Heap} {ox : Obj} (c : NeC K C f) (X : K.In h) (hx : h.get? x = some ox) (hc : ox.cls = .ref C) : h.OwnEqNoNe x C f "object" [.type "object"] := by
  obtain ⟨nm, q, N, bs, hdct, sn, sub, ab, col, dd, k0, k1, k2, k3, k5, newId, lk, hn⟩ := c.lk
  obtain ⟨of, lf, cf⟩ := c.fn
  unfold nsB at hn
  cases e : K.lookup N with
  | none => rw [e] at hn; cases hn
  | some o =>
    obtain ⟨oc, od, dt, osl⟩ := o
    rw [e] at hn
    cases dt with
    | dict es ep =>
      have hn : ((es.toList.all fun e => match e.key with
        | .str _ _ => true
        | _ => false) && (decide (nsFind es "__eq__" = some (.ref f)) && decide (nsFind es "__ne__" = none))) = true := hn
      rw [Bool.and_eq_true, Bool.and_eq_true, decide_eq_true_eq, decide_eq_true_eq] at hn
      obtain ⟨n1, n2, n3⟩ := hn
      have sk : StrKeys es := fun u hu => by
        have z := List.all_eq_true.mp n1 u (Array.mem_toList_iff.mpr hu)
        cases ek : u.key with
        | str a b => exact ⟨a, b, rfl⟩
        | _ => rw [ek] at z; cases z
      exact ⟨ox, of, nm, q, N, bs, hdct, sn, sub, ab, col, dd, k0, k1, k2, k3, k5, newId, nsFind es, _, hx, hc, X _ _ lk, ⟨_, es, ep, X _ _ e, rfl, sk, fun _ => rfl⟩, n2, X _ _ lf, cf, F.cmp_object.mro, F.cmp_object.eq.lookup, n3⟩
    | _ => cases hn
/-- x != y of two instances of a class with its own __eq__ -/
def rNeIns (C : Addr) (sp : Sp) : R2 := fun x y H Q => ∃ (a dx : Addr) (fs : List (Str × V)) (b dy : Addr) (gs : List (Str × V)), x = .ref a ∧ H a = some (.ins C dx fs) ∧ y = .ref b ∧ H b = some (.ins C dy gs) ∧ sp [x, y] H (fun v H' => ∃ r, v = .bl r ∧ Q (.bl (!r)) H') C8.E0
theorem op_neIns (F : FnOk X.prog X.w X.K X.mg X.base C8.CX0 k f fd [p1, p2] sp) (c : NeC X.K C f) (hb : Binds X.K fd [p1, p2] []) (hr : Room (k + 1) X.A) : OpR X (compareOp .NotEq) (rNeIns C sp) := by
  intro pins s σ H x y v u Q I rx ry h
  obtain ⟨a, dx, fs, b, dy, gs, rfl, ha, rfl, hb', hsp⟩ := h
  cases rx
  cases ry
  obtain ⟨mA, J, _⟩ := ins_get I.hok ha
  obtain ⟨od, J, _⟩ := J.look
  obtain ⟨mB, J', _⟩ := ins_get I.hok hb'
  obtain ⟨od', J', _⟩ := J'.look
  have body := own_two F hb hr.in1 rfl (E := X.xe) I (x := .ref a) (y := .ref b) (u := .ref a) (v := .ref b) rfl rfl hsp
  refine compareOp_ne_ownEq PySem.F.cmp_object (c.own I.kIn J.at_ J.cls) J'.at_ J'.cls (by have := hr.units; omega) (wpAny_mono body (fun w s' z => ?_) fun _ _ e => e)
  obtain ⟨vr, H', I', rv, r, rfl, q⟩ := z
  cases rv
  exact ⟨r, rfl, .bl (!r), H', I', rfl, q⟩
end
end Bh

set_option Elab.async false
set_option linter.all false
set_option maxRecDepth 100000
set_option maxHeartbeats 2000000
set_option autoImplicit false
namespace Bh
open PySem PySem.Spec PyProof.Rows L2
/-! ### dicts whose keys are tuples: del d[t], a comprehension -/
theorem paired_filter {α β : Type} {F : α → β → Prop} {p : α → Bool} {q : β → Bool} (e : ∀ a b, F a b → p a = q b) : ∀ {as : List α} {bs : List β}, Paired F as bs → Paired F (as.filter p) (bs.filter q)
  | _, _, .nil => .nil
  | _, _, .cons h t => by
    have ih := paired_filter e t
    simp only [List.filter_cons, e _ _ h]
    split
    · exact .cons h ih
    · exact ih
theorem KT_without {H : Hp} (k : List L2.Key) {kvs : List (List L2.Key × V)} {xs : List (List L2.Key × Addr × Value)} (r : KT H kvs xs) : KT H (dropK kvs k) (withoutH xs k) :=
  paired_filter (fun a b h => by rw [h.1]) r
section
variable {X : Cx} {pins : List (Addr × Obj)} {σ : L2.St} {H : Hp} {s : Shared} {E : Value → Shared → Prop} {a b D : Addr} {kvs : List (List L2.Key × V)} {k : List L2.Key} {v : V} {r : Value}
/-- another table of tuples at a -/
theorem dt_back {h' : Heap} {t' : Nat} {kvs' : List (List L2.Key × V)} {xs' : List (List L2.Key × Addr × Value)} (I : Inv X pins σ H s) (e : H a = some (.dT kvs)) (r : KT H kvs' xs') (few : kvs'.length ≤ sizeLine) (d : h'.DictOfH (tupleKind (mixKind X.prog X.w)) a xs') (sb : Heap.SameBut a s.heap h') :
    Inv X pins σ (upd H a (.dT kvs')) { s with heap := h', toks := t' } := by
  have nm := (dt_of I.hok e).2.1
  have ks : KT (upd H a (.dT kvs')) kvs' xs' := KT.keeps r fun c ys ec => (upd_ne (ne_of ec e (fun z => nomatch z))).trans ec
  obtain ⟨o, es, ep, g, x, da, en, _, nd⟩ := d
  exact d_write I (by rw [e]; exact True.intro) sb ⟨o, g⟩ ⟨few, nm, xs', ks, o, es, ep, g, x, da, en, nd⟩
theorem d_delT {A : Around} {Q : Unit → Shared → Prop} (hu : A.units + 1 < cLine) (I : Inv X pins σ H s) (e : H a = some (.dT kvs)) (eb : H b = some (.tup (k.map kV))) (l : (valV kvs k).isSome = true) (h : ∀ s', Inv X pins σ (upd H a (.dT (dropK kvs k))) s' → Q () s') :
    wpAny (model X.prog X.w) A (delItem (.ref a) (.ref b)) Q E s := by
  obtain ⟨few, nm, xs, r, d⟩ := dt_of I.hok e
  obtain ⟨p, hp⟩ : ∃ p, atKey xs k = some p := by
    have q := (r.val k).isSome_eq
    rw [Option.isSome_map, l] at q
    exact Option.isSome_iff_exists.mp q.symm
  exact wpAny_delItem_heap (hsz := Nat.le_trans (Nat.le_of_eq (Paired.length r).symm) few) (tupleKind_room_in1 hu) (key_of I.hok eb) nm d hp fun h' d' sb => h _ (dt_back I e (KT_without k r) (Nat.le_trans (dropK_le kvs k) few) d' sb)
theorem d_dictSetT {Q : Unit → Shared → Prop} (hu : X.A.units + 1 < cLine) (I : Inv X pins σ H s) (e : H D = some (.dT kvs)) (eb : H b = some (.tup (k.map kV))) (hl : kvs.length < sizeLine)
    (rv : RelV v r) (h : ∀ s', Inv X pins σ (upd H D (.dT (putK kvs k v))) s' → Q () s') : wpAny (model X.prog X.w) X.A (dictSet D (.ref b) r) Q E s := by
  obtain ⟨few, nm, xs, rel, d⟩ := dt_of I.hok e
  exact wpAny_dictSet_heap (hsz := Nat.le_trans (Nat.le_of_eq (Paired.length rel).symm) few) (show (tupleKind (mixKind X.prog X.w)).room X.A from Nat.lt_of_succ_lt hu) (key_of I.hok eb) d fun h' d' sb => h _ (dt_back I e (rel.put k eb rv) (Nat.le_trans (length_putK kvs k v) hl) d' sb)
end
/-- del d[y], y a tuple -/
def sDDelT (td ty : TE) : TS := fun D σ H => td σ H fun x H1 => ty σ H1 fun y H2 => ∃ (a b : Addr) (kvs : List (List L2.Key × V)) (k : List L2.Key), x = .ref a ∧ y = .ref b ∧ H2 a = some (.dT kvs) ∧ H2 b = some (.tup (k.map kV)) ∧ (valV kvs k).isSome = true ∧ D.nx σ (upd H2 a (.dT (dropK kvs k)))
section
variable {X : Cx} {o i : Expr} {pos tpos : Pos} {td ty : TE}
theorem ps_ddelT (hu : X.A.units + 1 < cLine) (ho : PE X o td) (hi : PE X i ty) : PS X (.Delete [.Subscript o i tpos] pos) (sDDelT td ty) := by
  refine ⟨fun pins s σ H D I h => ?_⟩
  refine wpAny_Delete (wpAny_deleteEach_cons (wpAny_delete_Subscript (thn (ho.run pins s σ H _ I h) fun u s1 ⟨x, H1, I1, rx, q1⟩ => thn (hi.run pins s1 σ H1 _ I1 q1) fun iv s2 ⟨y, H2, I2, ry, a, b, kvs, k, ex, ey, e, eb, l, q2⟩ => ?_)))
  subst ex ey
  obtain rfl : u = Value.ref a := rx
  obtain rfl : iv = Value.ref b := ry
  exact d_delT hu I2 e eb l fun s3 I3 => wpAny_deleteEach_nil ⟨σ, _, I3, q2⟩
end
/-! ### {t: v for target in iter if ..}, the keys tuples -/
def tDcT (wi : TI) (g : TG) (tt : TT) (tk tv : TE) (vs : List Nat) : TE := fun σ H Q => wi σ H fun J H1 => ∀ D, H1 D = none → ∃ W : Nat → Nat → Hp → Prop, (∃ m, W 0 m (upd H1 D (.dT []))) ∧ ∀ i m h0, W i m h0 →
  (J.stop i h0 ∧ Q (.ref D) h0) ∨ (J.go i h0 ∧ ∃ Nx : Hp → Prop, (∀ h1, Nx h1 → ∃ m', m' < m ∧ W (i + 1) m' h1) ∧ ∀ x h1, J.yld i h0 x h1 → g x (wipe σ vs) h1 fun σ2 h2 => wipe σ2 vs = wipe σ vs ∧ tt σ2 h2 fun b h3 =>
    if b = true then tk σ2 h3 fun y h4 => tv σ2 h4 fun z h5 => ∃ (kvs : List (List L2.Key × V)) (k : List L2.Key) (q : Addr), y = .ref q ∧ h5 q = some (.tup (k.map kV)) ∧ h5 D = some (.dT kvs) ∧ kvs.length < sizeLine ∧ Nx (upd h5 D (.dT (putK kvs k z))) else Nx h3)
section
variable {X : Cx}
theorem pe_dcT {kx vx tg iter : Expr} {ifs : List Expr} {scope : Scope} {own : List (Str × Nat)} {pos : Pos} {wi : TI} {g : TG} {tt : TT} {tk tv : TE} (hu : X.A.units + 1 < cLine) (calm : X.calm = true) (nd : X.N.Nodup) (hi : PI X tg iter wi) (blk : BlkOk X.N X.env.scope scope own)
    (hg : ∀ s H C cl fp, PG (X.blk s H scope (compEnvC scope cl C X.env) fp) tg g) (ht : ∀ s H C cl fp, PTs (X.blk s H scope (compEnvC scope cl C X.env) fp) ifs tt)
    (hk : ∀ s H C cl fp, PE (X.blk s H scope (compEnvC scope cl C X.env) fp) kx tk) (hv : ∀ s H C cl fp, PE (X.blk s H scope (compEnvC scope cl C X.env) fp) vx tv) (hs : ∀ x, foldedSetIterable iter X.env x = pure x := by intro _; rfl) :
    PE X (.DictComp kx vx [⟨tg, iter, ifs, 0⟩] scope pos) (tDcT wi g tt tk tv (own.map (·.2))) := by
  constructor
  intro pins s σ H Q I h
  rw [arm_eval_DictComp]
  have caught : ∀ y ∈ scope.names, y.2 = .free → ∃ c, X.env.cells.lookup y.1 = some c := fun y hy e => (blk.free y hy e).elim (fun k => I.ok.has _ (.inl k)) fun k => I.ok.has _ (.inr k)
  apply wpAny_comprehension_free (use := none) rfl hs (closure_ok caught) blk.kind (fun y hy e => (blk.uniq y hy).trans (congrArg some e))
  refine thn (hi.run pins s σ H _ I h) fun w1 t1 k1 => thn k1 fun w2 t2 k2 => ?_
  obtain ⟨it, fp, tn, J, Ha, rfl, Ia, T, sta, fa, q⟩ := k2
  refine wpAny_newObj_type (newEnv_comp ?_)
  obtain ⟨D, hD⟩ : ∃ D, D = t2.heap.objs.size := ⟨_, rfl⟩
  have freeD : Ha D = none := Ia.hok.fresh (Nat.le_of_eq hD.symm)
  obtain ⟨W, ⟨m0, w0⟩, turn⟩ := q D freeD
  rw [← hD]
  obtain ⟨t3, h3⟩ : ∃ t3 : Shared, t3 = { t2 with heap := t2.heap.push { cls := .type "dict", data := .dict #[] } } := ⟨_, rfl⟩
  obtain ⟨Hb, hb⟩ : ∃ Hb, Hb = upd Ha D (.dT []) := ⟨_, rfl⟩
  have keep3 : ∀ b o, t2.heap.get? b = some o → t3.heap.get? b = some o := fun b o e => by subst h3; exact Heap.get?_push_of_some _ e
  have Ib : Inv X pins σ Hb t3 := by
    subst h3 hb
    exact Ia.laid (t' := t2.toks) (fun b o e => Heap.get?_push_of_some _ e) (Nat.le_of_eq hD.symm) (by rw [hD]; exact dt_empty t2.heap Ia.big)
  have low : ∀ b ∈ fp, b < t2.heap.objs.size := fun b m => (T.obj _ _ sta b m).elim fun o e => Heap.lt_size e.1
  have size3 : t3.heap.objs.size = t2.heap.objs.size + 1 := by subst h3; exact Heap.size_push _ _
  have fb : ∀ b ∈ fp, FpOk X pins Hb b ∧ b < t3.heap.objs.size := fun b m => by
    have l := low b m
    refine ⟨⟨?_, (fa b m).2⟩, Nat.lt_of_lt_of_le l (by rw [size3]; exact Nat.le_succ _)⟩
    subst hb
    rw [upd_ne (by rw [hD]; exact Nat.ne_of_lt l)]
    exact (fa b m).1
  have Ic := block_start Ib blk nd fb
  have nofp : ∀ b ∈ fp, Hb b = none := fun b m => (fb b m).1.1
  rw [show ({ t2 with heap := t2.heap.push { cls := .type "dict", data := .dict #[] } } : Shared) = t3 from h3.symm]
  obtain ⟨cells, hcells⟩ : ∃ l, l = cellsFrom (t3.heap.objs.size + 1) scope.names (cloFrom X.env.cells scope.names []) := ⟨_, rfl⟩
  rw [← hcells] at Ic ⊢
  have runG := hg t3 Hb t3.heap.objs.size cells fp
  have runT := ht t3 Hb t3.heap.objs.size cells fp
  have runK := hk t3 Hb t3.heap.objs.size cells fp
  have runV := hv t3 Hb t3.heap.objs.size cells fp
  obtain ⟨ce, hce⟩ : ∃ ce, ce = compEnvC scope cells t3.heap.objs.size X.env := ⟨_, rfl⟩
  have ceL : ce.locals = t3.heap.objs.size := by subst hce; rfl
  show codeAny _ _ (.compStart (.DictComp kx vx [⟨tg, iter, ifs, 0⟩] scope pos) 0 (.ref it) (.ref D) (compEnvC scope cells t3.heap.objs.size X.env)) (compPost (model X.prog X.w) X.A X.xe none (EP X pins σ Q) (.ref D) t3.heap.objs.size) { t3 with heap := pushCells (t3.heap.push { cls := .type "dict", data := .dict #[] }) scope.names }
  rw [← hce] at Ic runG runT runK runV ⊢
  rw [← hb] at w0
  obtain ⟨t4, h4⟩ : ∃ t4 : Shared, t4 = { t3 with heap := pushCells (t3.heap.push { cls := .type "dict", data := .dict #[] }) scope.names } := ⟨_, rfl⟩
  rw [← h4] at Ic ⊢
  have st3 : tn 0 t3.heap := T.keep _ _ _ sta fun b _ o e => keep3 b o e
  have st4 : tn 0 t4.heap := T.keep _ _ _ st3 fun b _ o e => by subst h4; exact pushCells_keeps _ _ _ _ (Heap.get?_push_of_some _ e)
  have own' : ∀ {σ' : L2.St} {H' : Hp} {s' : Shared}, Inv (X.blk t3 Hb scope ce fp) [] σ' H' s' → (∀ b ∈ fp, H' b = none) → ∀ b ∈ fp, FpOk (X.blk t3 Hb scope ce fp) [] H' b := fun J' n b m =>
    ⟨n b m, (J'.ok.exf b m).1, J'.ok.exfs b m, .inl m, fun x c e => (J'.ok.exf b m).2 x c e, fun p hp => by cases (show p ∈ ([] : List (Addr × Obj)) from hp)⟩
  have loop : codeAny (model X.prog X.w) X.A (.compLoop (.DictComp kx vx [⟨tg, iter, ifs, 0⟩] scope pos) 0 (.ref it) (.ref D) ce) (compPost (model X.prog X.w) X.A X.xe none (EP X pins σ Q) (.ref D) t3.heap.objs.size) t4 := by
    apply compLoop_anyD (fun n s' => ∃ i H', Inv (X.blk t3 Hb scope ce fp) [] (wipe σ (own.map (·.2))) H' s' ∧ tn i s'.heap ∧ (∀ b ∈ fp, H' b = none) ∧ W i n H') ?_ m0 ⟨0, Hb, Ic, st4, nofp, w0⟩
    intro n s5 ⟨i, H5, I5, st5, n5, w5⟩
    rcases turn i n H5 w5 with ⟨stop, fin⟩ | ⟨go, Nx, more, step⟩
    · refine thnF (T.done (X.blk t3 Hb scope ce fp) rfl rfl rfl calm i [] s5 _ H5 (fun _ _ => False) I5 (own' I5 n5) st5 stop) fun r s6 k6 => ?_
      obtain ⟨rfl, I6⟩ := k6
      have back : Inv X pins σ H5 s6 := Ib.call' (ch := fp) I6.os I6.base I6.hok I6.bare fun b m => ⟨(fb b m).1.2.2.2.1, (fb b m).1.2.1, (fb b m).1.2.2.2.2.1, (fb b m).1.2.2.2.2.2⟩
      have gone : H5 t3.heap.objs.size = none := ceL ▸ (show H5 ce.locals = none from I6.free)
      obtain ⟨m, ns, _⟩ := I6.loc
      have ns : s6.heap.Ns t3.heap.objs.size m := ceL ▸ (show s6.heap.Ns ce.locals m from ns)
      obtain ⟨f0, f1, f2, f3, f4, f5⟩ := Ib.fpOk (H' := H5) (Nat.le_refl _) gone
      exact ⟨m, ns, fun h'' sb => ⟨.ref D, H5, back.turned (t' := s6.toks) (fun b o hb e => (sb.2 b hb).trans e) f0 f1 f3 f4 f5, rfl, fin⟩⟩
    · refine thnF (T.item (X.blk t3 Hb scope ce fp) rfl rfl rfl calm i [] s5 _ H5 (fun _ _ => False) I5 (own' I5 n5) st5 go) fun r s6 k6 => ?_
      obtain ⟨u, rfl, k6⟩ := k6
      refine thnF k6 fun _ s7 k7 => ?_
      obtain ⟨x, H7, I7, r7, y7, st7, n7⟩ := k7
      have held := T.obj _ _ st7
      have turnEnd : ∀ {σ8 : L2.St} {H' : Hp} {s' : Shared}, wipe σ8 (own.map (·.2)) = wipe σ (own.map (·.2)) → Inv (X.blk t3 Hb scope ce fp) ([] ++ pinsAt fp s7.heap) σ8 H' s' → Nx H' →
          ∃ m, m < n ∧ ∃ i H', Inv (X.blk t3 Hb scope ce fp) [] (wipe σ (own.map (·.2))) H' s' ∧ tn i s'.heap ∧ (∀ b ∈ fp, H' b = none) ∧ W i m H' := by
        intro σ8 H' s' e8 J' nx
        obtain ⟨m', lt, w'⟩ := more H' nx
        have still : ∀ b ∈ fp, ∀ o, s7.heap.get? b = some o → s'.heap.get? b = some o ∧ H' b = none := fun b hb o e => by
          obtain ⟨z1, z2, _⟩ := J'.pin (b, o) (List.mem_append_right _ (List.mem_append_right _ (mem_pinsAt hb e)))
          exact ⟨z1, z2⟩
        have J2 : Inv (X.blk t3 Hb scope ce fp) [] σ8 H' s' := J'.unpinned (pins := [])
        refine ⟨m', lt, i + 1, H', J2.weak (by rw [← e8, wipe_length]) (fun j v e => (wipe_some (vs := own.map (·.2)) (by rw [e8]; exact e)).1), T.keep _ _ _ st7 fun b hb o e => (still b hb o e).1, fun b hb => ?_, w'⟩
        obtain ⟨o, e, _⟩ := held b hb
        exact (still b hb o e).2
      refine thnF (runG.run _ s7 _ H7 x u _ (I7.pinned (own' I7 n7) held) r7 (step x H7 y7)) fun _ s8 k8 => ?_
      obtain ⟨σ8, H8, I8, e8, q8⟩ := k8
      refine thnF (runT.run _ s8 σ8 H8 _ I8 q8) fun b s9 k9 => ?_
      obtain ⟨H9, I9, q9⟩ := k9
      by_cases kept : b = true
      · rw [if_pos kept] at q9 ⊢
        refine thnF (runK.run _ s9 σ8 H9 _ I9 q9) fun z s10 k10 => ?_
        obtain ⟨y, H10, I10, r10, q10⟩ := k10
        refine thnF (runV.run _ s10 σ8 H10 _ I10 q10) fun z2 s11 k11 => ?_
        obtain ⟨y2, H11, I11, r11, kvs, k, qa, rfl, eq, eD, few, nx⟩ := k11
        cases r10
        exact d_dictSetT (X := X.blk t3 Hb scope ce fp) hu I11 eD eq few r11 fun s12 I12 => turnEnd e8 I12 nx
      · rw [if_neg kept] at q9 ⊢
        exact turnEnd e8 I9 q9
  exact codeAny_compStart_dict loop (T.self _ 0 _ _ _ st4 loop)
end
/-- it over a walk -/
theorem dcT_it {J : It} {n : Nat} {G : Hp → Prop} {Y : Nat → Hp → V → Hp → Prop} (w : Walk J n G Y) {g : TG} {tt : TT} {tk tv : TE} {vs : List Nat} {σ : L2.St} {H1 : Hp} {D : Addr} {Qd : Hp → Prop} (Pv : Nat → Hp → Prop) (h0 : Pv 0 (upd H1 D (.dT []))) (hG : ∀ i H, i ≤ n → Pv i H → G H)
    (hs : ∀ i x H H', i < n → Pv i H → Y i H x H' → g x (wipe σ vs) H' fun σ2 h2 => wipe σ2 vs = wipe σ vs ∧ tt σ2 h2 fun b h3 =>
      if b = true then tk σ2 h3 fun y h4 => tv σ2 h4 fun z h5 => ∃ (kvs : List (List L2.Key × V)) (k : List L2.Key) (q : Addr), y = .ref q ∧ h5 q = some (.tup (k.map kV)) ∧ h5 D = some (.dT kvs) ∧ kvs.length < sizeLine ∧ Pv (i + 1) (upd h5 D (.dT (putK kvs k z))) else Pv (i + 1) h3) (hd : ∀ H, Pv n H → Qd H) :
    ∃ W : Nat → Nat → Hp → Prop, (∃ m, W 0 m (upd H1 D (.dT []))) ∧ ∀ i m h0, W i m h0 →
      (J.stop i h0 ∧ Qd h0) ∨ (J.go i h0 ∧ ∃ Nx : Hp → Prop, (∀ h1, Nx h1 → ∃ m', m' < m ∧ W (i + 1) m' h1) ∧ ∀ x h1, J.yld i h0 x h1 → g x (wipe σ vs) h1 fun σ2 h2 => wipe σ2 vs = wipe σ vs ∧ tt σ2 h2 fun b h3 =>
        if b = true then tk σ2 h3 fun y h4 => tv σ2 h4 fun z h5 => ∃ (kvs : List (List L2.Key × V)) (k : List L2.Key) (q : Addr), y = .ref q ∧ h5 q = some (.tup (k.map kV)) ∧ h5 D = some (.dT kvs) ∧ kvs.length < sizeLine ∧ Nx (upd h5 D (.dT (putK kvs k z))) else Nx h3) := by
  refine ⟨fun i m h => i ≤ n ∧ m + i = n ∧ Pv i h, ⟨n, Nat.zero_le _, rfl, h0⟩, fun i m h z => ?_⟩
  obtain ⟨le, em, p⟩ := z
  have gd := hG i h le p
  rcases Nat.lt_or_ge i n with lt | ge
  · exact .inr ⟨w.goes i h lt gd, Pv (i + 1), fun h1 p1 => ⟨m - 1, by omega, lt, by omega, p1⟩, fun x h1 y => hs i x h h1 lt p (w.yields i h x h1 lt gd y)⟩
  · have e : i = n := Nat.le_antisymm le ge
    rw [e] at p ⊢
    exact .inl ⟨w.stops h gd, hd h p⟩
end Bh

set_option Elab.async false
set_option linter.all false
set_option maxRecDepth 100000
set_option maxHeartbeats 2000000
set_option autoImplicit false
namespace Bh
open PySem PySem.Spec PyProof.Rows L2
/-! ### a class's own in, len, [] and []= -/
section
variable {X : Cx} {C f : Addr} {fd : FuncData} {k : Nat} {sp : Sp} {ps : List Str} {CX : CXT} {EX : XK}
/-- the interpreter itself calls the def f -/
theorem own_call (F : FnOk X.prog X.w X.K X.mg X.base CX k f fd ps sp) (hb : Binds X.K fd ps []) (hx : Passes CX X EX) {A : Around} (hr : Room k A) (fr : A.frames = X.A.frames) {pins : List (Addr × Obj)} {s : Shared} {σ : L2.St} {H : Hp} {vs : List V} {us : List Value} {Q : VK}
    (I : Inv X pins σ H s) (r : Vals vs us) (h : sp vs H Q EX) : wpAny (model X.prog X.w) A (call (.ref f) us) (EP X pins σ Q) X.xe s := by
  have en := I.env0
  have e0 : Env0 X.prog X.w X.K X.mg X.base A X.stack s H := ⟨by rw [fr]; exact en.frames, en.mod, en.bs, en.bsz, en.funs, en.frf, en.hok, en.bare⟩
  have hl := F.len _ _ _ _ h
  have bnd := hb s us I.kIn (by rw [List.append_nil, ← r.length]; exact hl)
  rw [List.append_nil] at bnd
  refine wpAny_call (codeAny_mono (F.run A X.stack s H ⟨us, []⟩ us vs Q EX hr e0 bnd r h) fun r s2 z => ?_)
  match r, z with
  | .error e, z => exact hx pins σ H s e s2 I z
  | .ok (.ret w), z => exact I.after z
/-- y in x, y not in x: x an instance of the class at C -/
def rInIns (C : Addr) (sp : Sp) (EX : XK) (neg : Bool) : R2 := fun y x H Q => ∃ (a dx : Addr) (fs : List (Str × V)), x = .ref a ∧ H a = some (.ins C dx fs) ∧ sp [x, y] H (fun v H' => ∃ b, v = .bl b ∧ Q (.bl (b != neg)) H') EX
theorem op_inIns (F : FnOk X.prog X.w X.K X.mg X.base CX k f fd ps sp) (hs : PySem.W.findIn X.K (.ref C) "__contains__" = some (some (.ref f))) (hf : PySem.W.isFn X.K (.ref f) = true) (hb : Binds X.K fd ps []) (hx : Passes CX X EX) (hr : Room k X.A) :
    OpR X (compareOp .In) (rInIns C sp EX false) := by
  intro pins s σ H y x v u Q I ry rx h
  obtain ⟨a, dx, fs, rfl, ha, hsp⟩ := h
  cases rx
  obtain ⟨mA, J, _⟩ := ins_get I.hok ha
  obtain ⟨od, J, _⟩ := J.look
  obtain ⟨m, hF⟩ := I.fr
  refine PySem.W.in_K hF I.ok.mod.kin J hs hf (wpAny_mono (own_call F hb hx hr rfl I (vs := [.ref a, y]) (us := [.ref a, v]) (.cons rfl (.cons ry .nil)) hsp) (fun w s' z => ?_) fun _ _ e => e)
  obtain ⟨vr, H', I', rv, b, rfl, q⟩ := z
  cases rv
  refine wpAny_truthy_bool ?_
  rw [Bool.bne_false] at q
  exact ⟨.bl b, H', I', rfl, q⟩
theorem op_notInIns (F : FnOk X.prog X.w X.K X.mg X.base CX k f fd ps sp) (hs : PySem.W.findIn X.K (.ref C) "__contains__" = some (some (.ref f))) (hf : PySem.W.isFn X.K (.ref f) = true) (hb : Binds X.K fd ps []) (hx : Passes CX X EX) (hr : Room k X.A) :
    OpR X (compareOp .NotIn) (rInIns C sp EX true) := by
  intro pins s σ H y x v u Q I ry rx h
  obtain ⟨a, dx, fs, rfl, ha, hsp⟩ := h
  cases rx
  obtain ⟨mA, J, _⟩ := ins_get I.hok ha
  obtain ⟨od, J, _⟩ := J.look
  obtain ⟨m, hF⟩ := I.fr
  refine PySem.W.notIn_K hF I.ok.mod.kin J hs hf (wpAny_mono (own_call F hb hx hr rfl I (vs := [.ref a, y]) (us := [.ref a, v]) (.cons rfl (.cons ry .nil)) hsp) (fun w s' z => ?_) fun _ _ e => e)
  obtain ⟨vr, H', I', rv, b, rfl, q⟩ := z
  cases rv
  refine wpAny_truthy_bool ?_
  rw [Bool.bne_true] at q
  exact ⟨.bl (!b), H', I', rfl, q⟩
/-- len(x) -/
def rLenIns (C : Addr) (sp : Sp) (EX : XK) : List V → Hp → VK → Prop := fun xs H Q => ∃ (a dx : Addr) (fs : List (Str × V)), xs = [.ref a] ∧ H a = some (.ins C dx fs) ∧ sp xs H (fun v H' => ∃ n : Nat, v = .int n ∧ n ≤ sizeLine ∧ Q v H') EX
theorem call_lenIns (F : FnOk X.prog X.w X.K X.mg X.base CX k f fd ps sp) (hs : PySem.W.findIn X.K (.ref C) "__len__" = some (some (.ref f))) (hf : PySem.W.isFn X.K (.ref f) = true) (hb : Binds X.K fd ps []) (hx : Passes CX X EX) (hr : Room (k + 1) X.A) :
    CallR X (.builtin "len") (rLenIns C sp EX) := by
  intro pins s σ H xs us Q I r h
  obtain ⟨a, dx, fs, rfl, ha, hsp⟩ := h
  obtain ⟨u, rfl, rx⟩ := vals1 r
  cases rx
  obtain ⟨mA, J, _⟩ := ins_get I.hok ha
  obtain ⟨od, J, _⟩ := J.look
  obtain ⟨m, hF⟩ := I.fr
  refine PySem.W.len_K hF I.ok.mod.kin J hs hf (wpAny_mono (own_call F hb hx hr.in1 rfl I (vs := [.ref a]) (us := [.ref a]) (.cons rfl .nil) hsp) (fun w s' z => ?_) fun _ _ e => e)
  obtain ⟨vr, H', I', rv, n, rfl, le, q⟩ := z
  obtain ⟨t, rfl⟩ := rv
  exact ⟨⟨by omega, by have := line63; omega⟩, .int n, H', I'.tok _, ⟨_, rfl⟩, q⟩
/-- x[y] -/
def rIxIns (C : Addr) (sp : Sp) (EX : XK) : R2 := fun x y H Q => ∃ (a dx : Addr) (fs : List (Str × V)), x = .ref a ∧ H a = some (.ins C dx fs) ∧ sp [x, y] H Q EX
theorem ix_ins (F : FnOk X.prog X.w X.K X.mg X.base CX k f fd ps sp) (hs : PySem.W.findIn X.K (.ref C) "__getitem__" = some (some (.ref f))) (hf : PySem.W.isFn X.K (.ref f) = true) (hfn : PySem.W.fnIn X.K f = true) (hb : Binds X.K fd ps []) (hx : Passes CX X EX) (hr : Room (k + 1) X.A)
    {value slice : Expr} {pos : Pos} {ta tb : TE} (ha : PE X value ta) (hi : PE X slice tb) (hsl : ∀ (a : Addr) (i : Value), subscripted slice true (.ref a) i = runValue (.builtin "lifetime.subscript" ⟨[.ref a, i], []⟩)) : PE X (.Subscript value slice pos) (tOp (rIxIns C sp EX) ta tb) := by
  refine ⟨fun pins s σ H Q I h => Subscript_ (binT ha hi I h fun v u s2 x y H2 I2 rx ry q => ?_)⟩
  obtain ⟨a, dx, fs, rfl, hA, hsp⟩ := q
  cases rx
  obtain ⟨mA, J, _⟩ := ins_get I2.hok hA
  obtain ⟨od, J, _⟩ := J.look
  obtain ⟨m, hF⟩ := I2.fr
  exact PySem.W.sub_K hF I2.ok.mod.kin J hs hfn hf (own_call F hb hx hr.in1 rfl I2 (vs := [.ref a, y]) (us := [.ref a, u]) (.cons rfl (.cons ry .nil)) hsp) (hsl a u)
/-- x[y] = v -/
def rSetIns (C : Addr) (sp : Sp) (EX : XK) : V → V → V → Hp → (Hp → Prop) → Prop := fun x y v H Q => ∃ (a dx : Addr) (fs : List (Str × V)), x = .ref a ∧ H a = some (.ins C dx fs) ∧ sp [x, y, v] H (fun _ H' => Q H') EX
theorem set_ins (F : FnOk X.prog X.w X.K X.mg X.base CX k f fd ps sp) (hq : PySem.W.noSeq X.K C = true) (hs : PySem.W.findIn X.K (.ref C) "__setitem__" = some (some (.ref f))) (hf : PySem.W.isFn X.K (.ref f) = true) (hb : Binds X.K fd ps []) (hx : Passes CX X EX) (hr : Room k X.A) :
    PSet X (rSetIns C sp EX) := by
  intro pins s σ H o i v ov iv u Q I ro ri rv h
  obtain ⟨a, dx, fs, rfl, ha, hsp⟩ := h
  cases ro
  obtain ⟨mA, J, _⟩ := ins_get I.hok ha
  obtain ⟨od, J, _⟩ := J.look
  obtain ⟨m, hF⟩ := I.fr
  refine PySem.W.ksp_setItem hF I.ok.mod.kin J hq hs hf (wpAny_mono (own_call F hb hx hr rfl I (vs := [.ref a, i, v]) (us := [.ref a, iv, u]) (.cons rfl (.cons ri (.cons rv .nil))) hsp) (fun w s' z => ?_) fun _ _ e => e)
  obtain ⟨vr, H', I', _, q⟩ := z
  exact ⟨H', I', q⟩
end
theorem u1 {k : Nat} {A : Around} (r : Room k A) : A.units + 1 < cLine := by
  have := r.un
  omega
section
variable {X : Cx}
/-- y in d, y not in d -/
def rInD (neg : Bool) : R2 := fun y x H Q => ∃ (a : Addr) (o : Option V), x = .ref a ∧ DGet H a y o ∧ Q (.bl (o.isSome != neg)) H
theorem op_inD (hu : X.A.units + 1 < cLine) : OpR X (compareOp .In) (rInD false) := by
  intro pins s σ H y x v u Q I ry rx h
  obtain ⟨a, o, rfl, g, q⟩ := h
  cases rx
  rw [Bool.bne_false] at q
  exact d_in hu I g ry fun s2 I2 => ⟨.bl o.isSome, H, I2, rfl, q⟩
theorem op_notInD (hu : X.A.units + 1 < cLine) : OpR X (compareOp .NotIn) (rInD true) := by
  intro pins s σ H y x v u Q I ry rx h
  obtain ⟨a, o, rfl, g, q⟩ := h
  cases rx
  rw [Bool.bne_true] at q
  exact d_notIn hu I g ry fun s2 I2 => ⟨.bl (!o.isSome), H, I2, rfl, q⟩
end
end Bh

set_option Elab.async false
set_option linter.all false
set_option maxRecDepth 100000
set_option maxHeartbeats 2000000
set_option autoImplicit false
namespace Bh
open PySem PySem.Spec PyProof.Rows L2
/-! ### == of two dicts whose keys are tuples and whose values are all True -/
section
variable {prog : Program} {w : World} {κ : Type} [DecidableEq κ] {knd : HeapKind prog w κ} {A : Around} {E : Value → Shared → Prop} {s : Shared}
theorem eq_truths {Q : Bool → Shared → Prop} (h : Q true s) : wpAny (model prog w) A (eqBool (.bool true) (.bool true)) Q E s := by
  have z : SeqAt.EqAt A s (.bool true) (.bool true) true := SeqAt.EqAt.same _
  exact z _ _ _ _ h
theorem samePairsT {nm : String} {a b : Addr} {xa xb : List (κ × Addr × Value)} {Q : Bool → Shared → Prop} (hu : knd.room A) (la : (a == sysModules) = false) (lb : (b == sysModules) = false) (da : s.heap.DictOfH knd a xa) (db : s.heap.DictOfH knd b xb)
    (va : ∀ x ∈ xa, x.2.2 = .bool true) (vb : ∀ x ∈ xb, x.2.2 = .bool true) (h : Q (xa.length == xb.length && xa.all fun x => (atKey xb x.1).isSome) s) : wpAny (model prog w) A (Builtin.Dict.samePairs nm a b) Q E s := by
  obtain ⟨oa, es, ep, ga, _, ea, la', ka, _⟩ := da
  obtain ⟨ob, fs, eq, gb, _, eb, lb', kb, nb⟩ := db
  have za := size_of_entries la'
  have zb := size_of_entries lb'
  unfold Builtin.Dict.samePairs Builtin.Dict.showsAll
  rw [la, lb]
  refine wpAny_bind (wpAny_pure (wpAny_bind (wpAny_pure (wpAny_bind (wpAny_dictEntries ga ea (wpAny_bind (wpAny_dictEntries gb eb ?_)))))))
  rw [za, zb]
  by_cases n : xa.length = xb.length
  · have c1 : ¬ (xa.length != xb.length) = true := by simp [n]
    have c2 : (xa.length == xb.length) = true := by simp [n]
    rw [c2, Bool.true_and] at h
    rw [if_neg c1]
    refine wpAny_bind (wpAny_dictEpoch ga ea ?_)
    refine wpAny_bind ?_
    refine SeqAt.wpAny_forIn_span 0 xa.length _ (fun i c s' => s' = s ∧ c = (none, ()) ∧ (xa.all fun x => (atKey xb x.1).isSome) = ((xa.drop i).all fun x => (atKey xb x.1).isSome)) _ ?_ ?_ _ ⟨rfl, rfl, rfl⟩
    · rintro i c s' - lt ⟨rfl, rfl, e⟩
      refine wpAny_bind (wpAny_dictEntries ga ea ?_)
      have ei : es[i]? = some (entryOfKey knd xa[i]) := by rw [entry_at la', List.getElem?_eq_getElem lt]; rfl
      rw [ei]
      have mi : xa[i] ∈ xa := List.getElem_mem lt
      rw [List.drop_eq_getElem_cons lt, List.all_cons] at e
      dsimp only
      refine wpAny_bind (wpAny_holding (wpAny_bind ?_))
      refine wpAny_dictFind_heap hu (ka _ mi) gb eb lb' kb nb (fun no => ?_) fun j p ej => ?_
      · have nn : atKey xb xa[i].1 = none := by
          unfold atKey
          rw [Option.map_eq_none_iff, List.find?_eq_none]
          intro x hx hd
          obtain ⟨j, hj⟩ := List.mem_iff_getElem?.mp hx
          have e1 := of_decide_eq_true hd
          exact no j x.2 (by rw [hj, ← e1])
        rw [nn] at e
        dsimp only
        rw [e] at h
        exact wpAny_pure (wpAny_pure (wpAny_pure h))
      · have mj : (xa[i].1, p) ∈ xb := List.mem_of_getElem? ej
        have ns : (atKey xb xa[i].1).isSome = true := by
          unfold atKey
          rw [Option.isSome_map, List.find?_isSome]
          exact ⟨_, mj, decide_eq_true rfl⟩
        rw [ns, Bool.true_and] at e
        dsimp only
        refine wpAny_bind (wpAny_dictEntries gb eb ?_)
        have ej' : fs[j]? = some (entryOfKey knd (xa[i].1, p)) := by rw [entry_at lb', ej]; rfl
        rw [ej']
        dsimp only
        have v1 : (entryOfKey knd xa[i]).val = .bool true := va _ mi
        have v2 : (entryOfKey knd (xa[i].1, p)).val = .bool true := vb _ mj
        rw [v1, v2]
        refine wpAny_holding (eq_truths ?_)
        rw [if_neg (by decide)]
        refine wpAny_bind (wpAny_dictEpoch ga ea ?_)
        rw [if_neg (by simp)]
        exact wpAny_pure ⟨rfl, rfl, e⟩
    · rintro c s' ⟨rfl, rfl, e⟩
      have e2 : max 0 xa.length = xa.length := Nat.max_eq_right (Nat.zero_le _)
      rw [e2, List.drop_length] at e
      rw [e] at h
      exact wpAny_pure h
  · have c1 : (xa.length != xb.length) = true := by simp [n]
    have c2 : (xa.length == xb.length) = false := by simp [n]
    rw [c2, Bool.false_and] at h
    rw [if_pos c1]
    exact wpAny_bind (wpAny_rule (wpAny_pure h))
end
theorem kt_truths {H : Hp} : ∀ {ks : List (List L2.Key × V)} {xs : List (List L2.Key × Addr × Value)}, KT H ks xs → (∀ p ∈ ks, p.2 = .bl true) → ∀ x ∈ xs, x.2.2 = .bool true
  | _, _, .nil, _, x, m => nomatch m
  | _, _, .cons (a := p) (b := q) h t, a, x, m => by
    rcases List.mem_cons.mp m with rfl | m
    · have z := h.2.2
      rw [a p List.mem_cons_self] at z
      exact z
    · exact kt_truths t (fun p' m' => a p' (List.mem_cons_of_mem _ m')) x m
theorem kt_all {H : Hp} {ls : List (List L2.Key × V)} {ys : List (List L2.Key × Addr × Value)} (r : KT H ls ys) : ∀ {ks : List (List L2.Key × V)} {xs : List (List L2.Key × Addr × Value)}, KT H ks xs → (xs.all fun x => (atKey ys x.1).isSome) = ks.all fun p => (valV ls p.1).isSome
  | _, _, .nil => rfl
  | _, _, .cons (a := p) (b := q) h t => by
    have e := (r.val p.1).isSome_eq
    rw [Option.isSome_map] at e
    rw [List.all_cons, List.all_cons, kt_all r t, ← h.1, e]
section
variable {X : Cx}
/-- == of two dicts of tuples to True -/
def rEqT : R2 := fun x y H Q => ∃ (a b : Addr) (ks ls : List (List L2.Key × V)), x = .ref a ∧ y = .ref b ∧ H a = some (.dT ks) ∧ H b = some (.dT ls) ∧ (∀ p ∈ ks, p.2 = .bl true) ∧ (∀ p ∈ ls, p.2 = .bl true) ∧
  Q (.bl (ks.length == ls.length && ks.all fun p => (valV ls p.1).isSome)) H
theorem op_eqT (hu : X.A.units + 1 < cLine) : OpR X (compareOp .Eq) rEqT := by
  intro pins s σ H x y v u Q I rx ry h
  obtain ⟨a, b, ks, ls, rfl, rfl, ea, eb, ta, tb, q⟩ := h
  cases rx
  cases ry
  obtain ⟨_, ma, xs, ra, da⟩ := dt_of I.hok ea
  obtain ⟨_, mb, ys, rb, db⟩ := dt_of I.hok eb
  refine wpAny_richCompare_same_room (op := .Eq) da.typeIs db.typeIs PySem.F.slot_dict_eq (wpAny_call_entry PySem.F.slot_dict_eq da.typeIs PySem.F.entry_dict_eq ?_ (PySem.F.args_dict_eq_2 _ _)) (Nat.lt_of_succ_lt hu)
  refine wpAny_bind (m := Builtin.Dict.dictSlotArgs _ _) ?_
  unfold Builtin.Dict.dictSlotArgs
  refine wpAny_bind (wpAny_notOrdered_dict da.typeIs ?_)
  refine wpAny_pure (wpAny_bind (wpAny_isInstance (T := "dict") db.typeIs PySem.F.sub_dict_dict ?_))
  rw [if_neg (by decide)]
  refine wpAny_bind (wpAny_pure (wpAny_bind (wpAny_pure (wpAny_bind (samePairsT (show (tupleKind (mixKind X.prog X.w)).room X.A.in1 from hu) ma mb da db (kt_truths ra ta) (kt_truths rb tb) ?_)))))
  refine wpAny_pure ⟨_, rfl, (fun z => nomatch (show Value.bool _ = Value.notImplemented from z)), ?_⟩
  rw [(by intro b; cases b <;> rfl : ∀ b : Bool, (b == true) = b), ← Paired.length ra, ← Paired.length rb, kt_all rb ra]
  exact ⟨.bl _, H, I, rfl, q⟩
end
end Bh

set_option Elab.async false
set_option linter.all false
set_option maxRecDepth 100000
set_option maxHeartbeats 2000000
set_option autoImplicit false
namespace Bh
open PySem PySem.Spec PyProof.Rows L2
/-! ### text.endswith(tuple of texts) -/
section
variable {prog : Program} {w : World} {A : Around} {E : Value → Shared → Prop} {s : Shared}
theorem ends_loop {z : Str} {a : Addr} {its : List Value} {ps : List Str} {Q : Value → Shared → Prop} (r : Vals (ps.map V.str) its) (ht : IsTup s.heap a its.toArray) (h : Q (.bool (ps.any fun p => Txt.endswith z p)) s) (t : Tok) :
    wpAny (model prog w) A (Builtin.«str.endswith» ⟨[.str z t, .ref a], []⟩) (fun fin s' => ∃ v, fin = .done (.ret v) ∧ Q v s') E s := by
  obtain ⟨o, ho, hc, n, hd⟩ := ht
  have hT : s.TypeIs (.ref a) "tuple" := ⟨o, ho, hc⟩
  unfold Builtin.«str.endswith» Builtin.Str.affixEntry
  refine wpAny_bind (m := Builtin.Str.strSomeArgs _ _ _ _) (wpAny_pure ?_)
  refine wpAny_bind (m := Builtin.Str.searchRange _ _) (wpAny_pure ?_)
  refine wpAny_bind ?_
  refine PySem.W.KPt.asStr_ref ho hd ?_
  dsimp only
  refine wpAny_bind (wpAny_isInstance (T := "tuple") hT PySem.W.KPt.sub_tt ?_)
  rw [if_pos rfl]
  refine wpAny_bind (wpAny_rule ?_)
  refine wpAny_bind (wpAny_seqItems ho hd ?_)
  dsimp only
  refine wpAny_bind ?_
  refine wpAny_forIn_array' _ (fun rest st s' => s' = s ∧ ∃ qs : List Str, Vals (qs.map V.str) rest ∧ (ps.any fun p => Txt.endswith z p) = (qs.any fun p => Txt.endswith z p) ∧ st = (none, ())) _ ?_ ?_ _ _ ⟨rfl, ps, by simpa using r, rfl, rfl⟩
  · rintro x rest b s' ⟨rfl, qs, rq, eq, rfl⟩
    cases qs with
    | nil => cases rq
    | cons p qs =>
      rw [List.map_cons] at rq
      cases rq with
      | cons rx rq =>
        obtain ⟨u, rfl⟩ := rx
        refine wpAny_bind (m := asStr? _) (wpAny_pure ?_)
        dsimp only
        have e1 : (decide (Int.toNat 0 + p.length ≤ min ((z.length : Nat) : Int).toNat z.length) && Builtin.Str.subAt z p (min ((z.length : Nat) : Int).toNat z.length - p.length)) = Txt.endswith z p := by
          rw [Int.toNat_natCast, Nat.min_self]; rfl
        rw [List.any_cons] at eq
        cases hb : Txt.endswith z p with
        | true =>
          rw [hb, Bool.true_or] at eq
          rw [if_pos (e1.trans hb)]
          rw [eq] at h
          exact wpAny_bind (m := ret _) (wpAny_pure (wpAny_pure (wpAny_pure ⟨_, rfl, h⟩)))
        | false =>
          rw [hb, Bool.false_or] at eq
          rw [if_neg (by rw [e1, hb]; decide)]
          exact wpAny_pure ⟨rfl, qs, rq, eq, rfl⟩
  · rintro b s' ⟨rfl, qs, rq, eq, rfl⟩
    have e0 : qs = [] := by
      cases qs with
      | nil => rfl
      | cons _ _ => cases rq
    rw [e0] at eq
    rw [eq] at h
    exact wpAny_pure ⟨_, rfl, h⟩
end
section
variable {X : Cx}
/-- also one text -/
def rEndsT (K : PySem.W.Frag) : V → List V → Hp → VK → Prop := fun x xs H Q => ∃ (z : Str) (a : Addr) (ps : List Str), x = .str z ∧ xs = [.ref a] ∧ SqT K H a (ps.map V.str) ∧ Q (.bl (ps.any fun p => Txt.endswith z p)) H
theorem mt_endsT : MtR X "str.endswith" (rEndsT X.K) := by
  intro pins s σ H x xs v us Q I rx rxs h
  obtain ⟨z, a, ps, rfl, rfl, hq, q⟩ := h
  obtain ⟨t, rfl⟩ := rx
  obtain ⟨u, rfl, ru⟩ := vals1 rxs
  cases ru
  obtain ⟨its, rv, pl, hz⟩ := I.tuple hq
  refine wpAny_call_entry PySem.F.slot_str_endswith (typeIs_str s z t) PySem.F.entry_str_endswith (ends_loop rv pl ⟨.bl _, H, I, rfl, q⟩ t) (PySem.F.args_str_endswith_2 _ _)
theorem mt_endsT_K {K : PySem.W.Frag} (e : X.K = K) : MtR X "str.endswith" (rEndsT K) := by
  subst e
  exact mt_endsT
end
end Bh

set_option Elab.async false
set_option linter.all false
set_option maxRecDepth 100000
set_option maxHeartbeats 1000000
namespace Bh
open PySem PySem.Spec PyProof.Rows L2
structure Top (K : PySem.W.Frag) (mg : Str → Option Value) : Type where
  a_copy_of : Addr
  fd_copy_of : FuncData
  d_copy_of : Df K mg "copy_of" s_copy_of ["value"] a_copy_of fd_copy_of
  a_is_name : Addr
  fd_is_name : FuncData
  d_is_name : Df K mg "is_name" s_is_name ["value"] a_is_name fd_is_name
  a_is_word : Addr
  fd_is_word : FuncData
  d_is_word : Df K mg "_is_word" s_is_word ["value", "characters"] a_is_word fd_is_word
  a_kinds_of : Addr
  fd_kinds_of : FuncData
  d_kinds_of : Df K mg "_kinds_of" s_kinds_of ["cells"] a_kinds_of fd_kinds_of
  a_ties_between : Addr
  fd_ties_between : FuncData
  d_ties_between : Df K mg "_ties_between" s_ties_between ["kinds", "ties"] a_ties_between fd_ties_between
  a_check_cell : Addr
  fd_check_cell : FuncData
  d_check_cell : Df K mg "_check_cell" s_check_cell ["kinds", "name", "kind"] a_check_cell fd_check_cell
  a_check_tie : Addr
  fd_check_tie : FuncData
  d_check_tie : Df K mg "_check_tie" s_check_tie ["kinds", "ties", "tie", "source", "target"] a_check_tie fd_check_tie
  a_is_kind : Addr
  fd_is_kind : FuncData
  d_is_kind : Df K mg "_is_kind" s_is_kind ["value"] a_is_kind fd_is_kind
  a_l_bag : Addr
  fd_l_bag : FuncData
  d_l_bag : Df K mg "_law_bag" s_l_bag ["_law_script"] a_l_bag fd_l_bag
  a_l_draw : Addr
  fd_l_draw : FuncData
  d_l_draw : Df K mg "_law_draw" s_l_draw ["_law_bag_here", "_law_many"] a_l_draw fd_l_draw
  a_l_any : Addr
  fd_l_any : FuncData
  d_l_any : Df K mg "_law_any" s_l_any ["_law_bag_here", "_law_row"] a_l_any fd_l_any
  a_l_mixed : Addr
  fd_l_mixed : FuncData
  d_l_mixed : Df K mg "_law_mixed" s_l_mixed ["_law_bag_here", "_law_row"] a_l_mixed fd_l_mixed
  a_l_like : Addr
  fd_l_like : FuncData
  d_l_like : Df K mg "_law_like" s_l_like ["_law_found", "_law_due"] a_l_like fd_l_like
  a_l_given : Addr
  fd_l_given : FuncData
  d_l_given : Df K mg "_law_given" s_l_given ["_law_e"] a_l_given fd_l_given
  a_l_try : Addr
  fd_l_try : FuncData
  d_l_try : Df K mg "_law_try" s_l_try ["_law_ask"] a_l_try fd_l_try
  a_l_words : Addr
  fd_l_words : FuncData
  d_l_words : Df K mg "_law_words" s_l_words ["_law_bag_here", "_law_many"] a_l_words fd_l_words
  a_l_options : Addr
  fd_l_options : FuncData
  d_l_options : Df K mg "_law_options" s_l_options ["_law_bag_here", "_law_many"] a_l_options fd_l_options
  a_l_fields : Addr
  fd_l_fields : FuncData
  d_l_fields : Df K mg "_law_fields" s_l_fields ["_law_bag_here", "_law_room"] a_l_fields fd_l_fields
  a_l_case : Addr
  fd_l_case : FuncData
  d_l_case : Df K mg "_law_case" s_l_case ["_law_bag_here", "_law_fields_here"] a_l_case fd_l_case
  a_l_program : Addr
  fd_l_program : FuncData
  d_l_program : Df K mg "_law_program" s_l_program ["_law_bag_here", "_law_fields_here", "_law_most"] a_l_program fd_l_program
  a_l_value : Addr
  fd_l_value : FuncData
  d_l_value : Df K mg "_law_value" s_l_value ["_law_bag_here", "_law_fields_here"] a_l_value fd_l_value
  a_l_keys : Addr
  fd_l_keys : FuncData
  d_l_keys : Df K mg "_law_keys" s_l_keys ["_law_bag_here", "_law_fields_here"] a_l_keys fd_l_keys
  a_l_kinds : Addr
  fd_l_kinds : FuncData
  d_l_kinds : Df K mg "_law_kinds" s_l_kinds ["_law_bag_here", "_law_fields_here", "_law_most"] a_l_kinds fd_l_kinds
  a_l_book : Addr
  fd_l_book : FuncData
  d_l_book : Df K mg "_law_book" s_l_book ["_law_bag_here", "_law_room", "_law_most"] a_l_book fd_l_book
  a_l_net : Addr
  fd_l_net : FuncData
  d_l_net : Df K mg "_law_net" s_l_net ["_law_bag_here", "_law_m", "_law_most"] a_l_net fd_l_net
  a_l_web : Addr
  fd_l_web : FuncData
  d_l_web : Df K mg "_law_web" s_l_web ["_law_net_here"] a_l_web fd_l_web
  a_l_net_of : Addr
  fd_l_net_of : FuncData
  d_l_net_of : Df K mg "_law_net_of" s_l_net_of ["_law_web_here"] a_l_net_of fd_l_net_of
  a_l_text_of : Addr
  fd_l_text_of : FuncData
  d_l_text_of : Df K mg "_law_text_of" s_l_text_of ["_law_net_here"] a_l_text_of fd_l_text_of
  a_l_wrong_line : Addr
  fd_l_wrong_line : FuncData
  d_l_wrong_line : Df K mg "_law_wrong_line" s_l_wrong_line ["_law_bag_here"] a_l_wrong_line fd_l_wrong_line
  b_all : mg "all" = none
  b_dict : mg "dict" = none
  b_isinstance : mg "isinstance" = none
  b_len : mg "len" = none
  b_list : mg "list" = none
  b_max : mg "max" = none
  b_min : mg "min" = none
  b_range : mg "range" = none
  b_sorted : mg "sorted" = none
  b_tuple : mg "tuple" = none
  b_int : mg "int" = none
  b_zip : mg "zip" = none
  b_bool : mg "bool" = none
  b_str : mg "str" = none
  b_enumerate : mg "enumerate" = none
  g_LETTERS : ∃ t, mg "LETTERS" = some (Value.str "abcdefghijklmnopqrstuvwxyz" t)
  g_LONGEST : ∃ t, mg "LONGEST" = some (Value.int 8 t)
  a_NUMBERS : Addr
  g_NUMBERS : mg "NUMBERS" = some (.ref a_NUMBERS)
  k_NUMBERS : ∀ H : Hp, SqT K H a_NUMBERS [V.str ".0", V.str ".1", V.str ".2"]
  r_InvalidName : ExR K mg "InvalidName" "InvalidName.__init__" s_InvalidName__init ["self", "given"] ["code", "given"]
  r_InvalidNetwork : ExR K mg "InvalidNetwork" "InvalidNetwork.__init__" s_InvalidNetwork__init ["self", "line"] ["code", "line"]
  r_DuplicateCell : ExR K mg "DuplicateCell" "DuplicateCell.__init__" s_DuplicateCell__init ["self", "name"] ["code", "name"]
  r_UnknownCell : ExR K mg "UnknownCell" "UnknownCell.__init__" s_UnknownCell__init ["self", "name"] ["code", "name"]
  r_DuplicateTie : ExR K mg "DuplicateTie" "DuplicateTie.__init__" s_DuplicateTie__init ["self", "tie"] ["code", "tie"]
  cBE : Addr
  cMS : Addr
  gBE : mg "BestError" = some (.ref cBE)
  gMS : mg "Missing" = some (.ref cMS)
  e_InvalidNetwork : ErC K cBE cMS r_InvalidNetwork.c "InvalidNetwork" "line"
  f_InvalidName : PySem.W.exmAny K (.ref r_InvalidName.c) [.ref r_InvalidName.c, .ref r_DuplicateCell.c, .ref r_UnknownCell.c, .ref r_DuplicateTie.c] = some true
  f_DuplicateCell : PySem.W.exmAny K (.ref r_DuplicateCell.c) [.ref r_InvalidName.c, .ref r_DuplicateCell.c, .ref r_UnknownCell.c, .ref r_DuplicateTie.c] = some true
  f_UnknownCell : PySem.W.exmAny K (.ref r_UnknownCell.c) [.ref r_InvalidName.c, .ref r_DuplicateCell.c, .ref r_UnknownCell.c, .ref r_DuplicateTie.c] = some true
  f_DuplicateTie : PySem.W.exmAny K (.ref r_DuplicateTie.c) [.ref r_InvalidName.c, .ref r_DuplicateCell.c, .ref r_UnknownCell.c, .ref r_DuplicateTie.c] = some true
section
variable {P : Program} {w : World} {K : PySem.W.Frag} {mg : Str → Option Value} {base : Heap}
theorem cut63 (ns : List Int) (h : ns.length ≤ 63) : cutV (ns.map V.int) none (some 63) = ns.map V.int := by
  unfold cutV
  rw [HT.sIx_none, show HT.sIx (ns.map V.int).length (ns.map V.int).length (some 63) = min 63 (ns.map V.int).length from HT.sIx_nat _ _ 63, List.length_map, Nat.min_eq_right h]
  show List.take (ns.length - 0) (List.drop 0 (ns.map V.int)) = _
  rw [List.drop_zero, Nat.sub_zero]
  exact List.take_of_length_le (by rw [List.length_map]; exact Nat.le_refl _)
theorem ok_bag (T : Top K mg) : FnOk P w K mg base CX0 1 T.a_l_bag T.fd_l_bag ["_law_script"] (spBag K) := by
  refine T.d_l_bag.F.ok sc_l_bag (fun vs H Q E h => ?_) (fun cdv A outer s H vs Q E hr h => ?_)
  · obtain ⟨a, ns, rfl, _⟩ := h
    rfl
  obtain ⟨a, ns, rfl, hS, h63, q⟩ := h
  refine ⟨_, (pss_cons (ps_set (i := 1) sc_l_bag.nd rfl (Or.inl rfl) (pe_op op_add pe_int (pe_op op_mul pe_int (pe_callB (call_len_seq_K (K := K) (by rfl)) (by rfl) T.b_len PySem.boot_len (pa_cons (pe_slice (sl_list_K (K := K) (by rfl)) (pv 0) po_none (po_some pe_int)) pa_nil)))))
    (pss_cons (ps_for PassesOwn.never rfl (pi_list_K (K := K) (by rfl) (pe_slice (sl_list_K (K := K) (by rfl)) (pv 0) po_none (po_some pe_int))) (pg_name (i := 2) sc_l_bag.nd rfl (Or.inl rfl))
      (pss_one (ps_set (i := 1) sc_l_bag.nd rfl (Or.inl rfl) (pe_op op_mod (pe_callTy call_int1 (by rfl) T.b_int (by decide +kernel) (pa_cons (pe_op op_add (pe_op op_add (pe_op op_mul (pv 1) pe_int) (pe_op op_mod (pe_callTy call_int1 (by rfl) T.b_int (by decide +kernel) (pa_cons (pv 2) pa_nil)) pe_int)) pe_int) pa_nil)) pe_int))))
    (pss_one (ps_ret (pe_lst (pa_cons (pe_callTy (call_list_of_K (K := K) (by rfl)) (by rfl) T.b_list (by decide +kernel) (pa_cons (pe_slice (sl_list_K (K := K) (by rfl)) (pv 0) po_none (po_some pe_int)) pa_nil)) (pa_cons pe_int (pa_cons pe_int (pa_cons (pv 1) pa_nil))))))))), ?_⟩
  refine ⟨_, rfl, _, rfl, _, _, rfl, hS, fun p1 n1 => ?_⟩
  rw [cut63 ns h63]
  refine ⟨_, _, rfl, .inl (SqL.of upd_same), _, _, rfl, rfl, .inl ⟨by decide, by decide⟩, _, _, rfl, rfl, ?_⟩
  have e1 : Same H (upd H p1 (.lst (ns.map V.int))) := same_new n1
  refine ⟨_, rfl, _, rfl, _, _, rfl, e1.seq hS, fun p2 n2 => ?_⟩
  rw [cut63 ns h63]
  have e2 := e1.trans (same_new (o := .lst (ns.map V.int)) n2)
  refine ⟨p2, rfl, ⟨_, SqL.of upd_same⟩, for_list (K := K) (a := p2) (xs := ns.map V.int) (fun i σ H' => ∃ (z : Int) (v : Option V), σ = [some (.ref a), some (.int z), v] ∧ (0 < i → 0 ≤ z ∧ z < 2147483647) ∧ (z < 100000 ∨ 0 < i) ∧ 0 ≤ z ∧ H' = (upd (upd H p1 (.lst (ns.map V.int))) p2 (.lst (ns.map V.int))))
    ⟨_, none, rfl, fun z => absurd z (Nat.lt_irrefl _), .inl ?_, ?_, rfl⟩ (fun i σ H' _ ⟨_, _, _, _, _, _, e⟩ => by rw [e]; exact SqL.of upd_same) ?_ ?_⟩
  · rw [List.length_map]
    omega
  · rw [List.length_map]
    omega
  · rintro i y σ H' hi ⟨z, v, rfl, z1, z2, z0, rfl⟩
    obtain ⟨u, _, rfl⟩ := get_map hi
    refine ⟨_, rfl, _, _, rfl, rfl, .inr ⟨by decide, by decide⟩, _, rfl, .inl ⟨_, rfl, _, _, rfl, rfl, p31, _, _, rfl, rfl, _, _, rfl, rfl, .inl ⟨_, rfl, _, _, rfl, rfl, p31, ?_⟩⟩⟩
    refine ⟨_, _, rfl, fun _ => ⟨?_, ?_⟩, .inr (Nat.succ_pos i), ?_, rfl⟩ <;> omega
  · rintro σ H' ⟨z, v, rfl, z1, z2, z0, rfl⟩
    refine ⟨_, rfl, _, rfl, _, _, rfl, e2.seq hS, fun p3 n3 => ?_⟩
    rw [cut63 ns h63]
    refine ⟨_, _, rfl, .inl (SqL.of upd_same), fun l nl => ?_⟩
    have e3 := e2.trans (same_new (o := .lst (ns.map V.int)) n3)
    have e4 := e3.trans (same_new (o := .lst (ns.map V.int)) nl)
    refine ⟨_, rfl, (by show 4 ≤ sizeLine; decide), fun b nb => ?_⟩
    have e5 := e4.trans (same_new (o := .lst [.ref l, .int 0, .int 0, .int z]) nb)
    refine q b l _ (e4.free nb) (e3.free nl) e5 ⟨ns, 0, 0, z, upd_same, ?_, h63, by omega, by omega, by omega, z0, by omega⟩
    rw [upd_ne (ne_of_none upd_same nb), upd_same]
theorem ok_draw (T : Top K mg) : FnOk P w K mg base CX0 1 T.a_l_draw T.fd_l_draw ["_law_bag_here", "_law_many"] spDraw := by
  refine T.d_l_draw.F.ok sc_l_draw (fun vs H Q E h => ?_) (fun cdv A outer s H vs Q E hr h => ?_)
  · obtain ⟨b, l, G, n, rfl, _⟩ := h
    rfl
  obtain ⟨b, l, G, n, rfl, n0, n1, wd, q⟩ := h
  refine ⟨_, (Evl.pss_cut (ps_if (PW.pt (pw_and (pt_cmpR op_eq (pe_ix (ix_list_K (K := K) (by rfl)) (pv 0) pe_int (fun _ _ => rfl)) pe_int (nomark _)) (pw_and1 (pt_cmpR op_lt (pe_ix (ix_list_K (K := K) (by rfl)) (pv 0) pe_int (fun _ _ => rfl)) (pe_callB (call_len_seq_K (K := K) (by rfl)) (by rfl) T.b_len PySem.boot_len (pa_cons (pe_ix (ix_list_K (K := K) (by rfl)) (pv 0) pe_int (fun _ _ => rfl)) pa_nil)) (nomark _))))) (pss_cons (ps_set (i := 2) sc_l_draw.nd rfl (Or.inl rfl) (pe_ix (ix_list_K (K := K) (by rfl)) (pe_ix (ix_list_K (K := K) (by rfl)) (pv 0) pe_int (fun _ _ => rfl)) (pe_ix (ix_list_K (K := K) (by rfl)) (pv 0) pe_int (fun _ _ => rfl)) (fun _ _ => rfl)))
      (pss_cons (ps_asg (pe_op op_add (pe_ix (ix_list_K (K := K) (by rfl)) (pv 0) pe_int (fun _ _ => rfl)) pe_int) (pg_sub (pv 0) pe_int set_list))
      (pss_one (ps_if (pt_cmpR op_ge (pv 2) (pe_op op_pow pe_int pe_int) (nomark _)) (pss_one (ps_asg (pv 2) (pg_sub (pv 0) pe_int set_list))) (pss_one (ps_asg (pe_op op_mod (pe_callTy call_int1 (by rfl) T.b_int (by decide +kernel) (pa_cons (pe_op op_add (pe_op op_add (pe_op op_mul (pe_ix (ix_list_K (K := K) (by rfl)) (pv 0) pe_int (fun _ _ => rfl)) pe_int) (pe_op op_mul (pe_op op_mod (pe_callTy call_int1 (by rfl) T.b_int (by decide +kernel) (pa_cons (pv 2) pa_nil)) pe_int) pe_int)) (pe_ix (ix_list_K (K := K) (by rfl)) (pv 0) pe_int (fun _ _ => rfl))) pa_nil)) pe_int) (pg_sub (pv 0) pe_int set_list))))))) pss_nil)
    (pss_cons (ps_if (pt_cmpR op_gt (pe_ix (ix_list_K (K := K) (by rfl)) (pv 0) pe_int (fun _ _ => rfl)) pe_int (nomark _)) (pss_cons (ps_set (i := 3) sc_l_draw.nd rfl (Or.inl rfl) (pe_op op_mod (pe_callTy call_int1 (by rfl) T.b_int (by decide +kernel) (pa_cons (pe_ix (ix_list_K (K := K) (by rfl)) (pv 0) pe_int (fun _ _ => rfl)) pa_nil)) (pv 1)))
      (pss_cons (ps_asg (pe_op op_fdiv (pe_ix (ix_list_K (K := K) (by rfl)) (pv 0) pe_int (fun _ _ => rfl)) (pv 1)) (pg_sub (pv 0) pe_int set_list))
      (pss_one (ps_ret (pv 3))))) pss_nil)
    (pss_cons (ps_set (i := 4) sc_l_draw.nd rfl (Or.inl rfl) (pe_ix (ix_list_K (K := K) (by rfl)) (pv 0) pe_int (fun _ _ => rfl)))
    (pss_cons (ps_asg (pe_op op_mod (pe_callTy call_int1 (by rfl) T.b_int (by decide +kernel) (pa_cons (pe_op op_add (pe_op op_add (pe_op op_mul (pv 4) (pv 4)) (pe_op op_mul (pv 4) pe_int)) pe_int) pa_nil)) pe_int) (pg_sub (pv 0) pe_int set_list))
    (pss_one (ps_ret (pe_op op_mod (pe_callTy call_int1 (by rfl) T.b_int (by decide +kernel) (pa_cons (pe_op op_add (pe_op op_fdiv (pe_ix (ix_list_K (K := K) (by rfl)) (pv 0) pe_int (fun _ _ => rfl)) pe_int) (pe_op op_mul (pe_op op_mod (pe_callTy call_int1 (by rfl) T.b_int (by decide +kernel) (pa_cons (pe_ix (ix_list_K (K := K) (by rfl)) (pv 0) pe_int (fun _ _ => rfl)) pa_nil)) pe_int) pe_int)) pa_nil)) (pv 1)))))))), ?_⟩
  obtain ⟨ns, i, c, s, hb, hl, h63, i0, i1, c0, s0, s1⟩ := id wd.bag
  have lb : l ≠ b := ne_of hl hb (by intro z; cases ns with | nil => cases z | cons x r => cases r with | nil => cases z | cons => cases z)
  have B := SqL.of (K := K) hb
  refine ⟨fun σ' H' => ∃ v, σ' = [some (.ref b), some (.int n), v, none, none] ∧ Wd b l G H', ?_, ?_⟩
  · refine ⟨_, rfl, _, _, _, _, rfl, rfl, B, rfl, rfl, _, rfl, ?_⟩
    refine ite2 (fun _ => ?_) (fun _ => ?_)
    · refine ⟨_, rfl, _, _, _, _, rfl, rfl, B, rfl, _, rfl, _, _, _, _, rfl, rfl, B, rfl, _, _, rfl, .inl (SqL.of hl), _, _, rfl, rfl, _, rfl, ?_⟩
      refine ite2 (fun c1 => ?_) (fun _ => ?_)
      · have c2 := of_decide_eq_true c1
        rw [List.length_map] at c2
        have c3 : i.toNat < ns.length := by omega
        refine ⟨_, rfl, _, _, _, _, rfl, rfl, B, rfl, _, rfl, _, _, _, _, rfl, rfl, B, rfl, _, _, _, .int ns[i.toNat], rfl, rfl, SqL.of hl, at_nn i0 (by rw [List.getElem?_map, List.getElem?_eq_getElem c3]; rfl), ?_⟩
        refine ⟨_, rfl, _, _, _, _, rfl, rfl, B, rfl, _, _, rfl, rfl, _, rfl, _, _, _, 1, rfl, rfl, hb, rfl, ?_⟩
        refine ⟨_, rfl, _, _, rfl, rfl, ⟨by decide, by decide, by decide⟩, _, _, rfl, rfl, _, rfl, ?_⟩
        refine ite2 (fun g1 => ?_) (fun _ => ?_)
        · have g2 := of_decide_eq_true g1
          refine ⟨_, rfl, _, rfl, _, _, _, 2, rfl, rfl, upd_same, rfl, ?_⟩
          refine ⟨_, rfl, ?_⟩
          rw [upd_upd]
          exact wd.bagged ⟨ns, i + 1, _, s, upd_same, by rw [upd_ne lb]; exact hl, h63, by omega, by omega, Int.le_trans (by decide) g2, s0, s1⟩
        · refine ⟨_, rfl, _, _, _, _, rfl, rfl, SqL.of upd_same, rfl, _, _, rfl, rfl, .inr ⟨by decide, by decide⟩, _, rfl, .inl ⟨_, rfl, _, _, rfl, rfl, p31, _, _, rfl, rfl, .inr ⟨by decide, by decide⟩, _, _, rfl, rfl, _, rfl, _, _, _, _, rfl, rfl, SqL.of upd_same, rfl, _, _, rfl, rfl, .inl ⟨_, rfl, _, _, rfl, rfl, p31, ?_⟩⟩⟩
          refine ⟨_, rfl, _, _, _, 3, rfl, rfl, upd_same, rfl, ?_⟩
          refine ⟨_, rfl, ?_⟩
          rw [upd_upd]
          exact wd.bagged ⟨ns, i + 1, c, _, upd_same, by rw [upd_ne lb]; exact hl, h63, by omega, by omega, c0, Int.emod_nonneg _ (by decide), Int.emod_lt_of_pos _ (by decide)⟩
      · exact ⟨_, rfl, wd⟩
    · exact ⟨_, rfl, wd⟩
  · rintro σ' H' ⟨v, rfl, wd⟩
    obtain ⟨ns, i, c, s, hb, hl, h63, i0, i1, c0, s0, s1⟩ := id wd.bag
    have lb : l ≠ b := ne_of hl hb (by intro z; cases ns with | nil => cases z | cons x r => cases r with | nil => cases z | cons => cases z)
    have B := SqL.of (K := K) hb
    refine ⟨_, rfl, _, _, _, _, rfl, rfl, B, rfl, _, _, rfl, rfl, _, rfl, ?_⟩
    refine ite2 (fun g1 => ?_) (fun _ => ?_)
    · refine ⟨_, rfl, _, _, _, _, rfl, rfl, B, rfl, .inl ⟨_, rfl, _, rfl, _, _, rfl, rfl, n0, ?_⟩⟩
      refine ⟨_, rfl, _, _, _, _, rfl, rfl, B, rfl, _, rfl, _, _, rfl, rfl, ⟨n0, n1⟩, _, rfl, _, _, _, 2, rfl, rfl, hb, rfl, ?_⟩
      refine ⟨_, rfl, ?_⟩
      exact q _ _ (Int.emod_nonneg _ (by omega)) (Int.emod_lt_of_pos _ n0) (wd.bagged ⟨ns, i, c / n, s, upd_same, by rw [upd_ne lb]; exact hl, h63, i0, i1, Int.ediv_nonneg c0 (by omega), s0, s1⟩)
    · refine ⟨_, rfl, _, _, _, _, rfl, rfl, B, rfl, ?_⟩
      refine ⟨_, rfl, _, rfl, _, _, rfl, rfl, .inl ⟨by omega, by omega⟩, _, rfl, _, _, rfl, rfl, .inr ⟨by decide, by decide⟩, _, _, rfl, rfl, _, _, rfl, rfl, .inl ⟨_, rfl, _, _, rfl, rfl, p31, ?_⟩⟩
      refine ⟨_, rfl, _, _, _, 3, rfl, rfl, hb, rfl, ?_⟩
      refine ⟨_, rfl, _, _, _, _, rfl, rfl, SqL.of upd_same, rfl, _, _, rfl, rfl, ⟨by decide, by decide⟩, _, rfl, _, _, _, _, rfl, rfl, SqL.of upd_same, rfl, .inl ⟨_, rfl, _, _, rfl, rfl, p8117, _, _, rfl, rfl, .inr ⟨by decide, by decide⟩, _, _, rfl, rfl, .inl ⟨_, rfl, _, rfl, _, _, rfl, rfl, n0, ?_⟩⟩⟩
      exact q _ _ (Int.emod_nonneg _ (by omega)) (Int.emod_lt_of_pos _ n0) (wd.bagged ⟨ns, i, c, _, upd_same, by rw [upd_ne lb]; exact hl, h63, i0, i1, c0, Int.emod_nonneg _ (by decide), Int.emod_lt_of_pos _ (by decide)⟩)
end
end Bh

set_option Elab.async false
set_option linter.all false
set_option maxRecDepth 100000
set_option maxHeartbeats 1000000
namespace Bh
open PySem PySem.Spec PyProof.Rows L2
def spWord : Sp := fun vs H Q _ => ∃ (w z : Str), vs = [.str w, .str z] ∧ w.length ≤ 100000 ∧ ∀ H', Same H H' → Q (.bl (wordB w z)) H'
def spNm (z : Str) : Sp := fun vs H Q _ => ∃ (w : Str), vs = [.str w] ∧ w.length ≤ 100000 ∧ ∀ H', Same H H' → Q (.bl (wordB w z)) H'
/-- the ends that mark a kind -/
def ends3 : List Str := [".0", ".1", ".2"]
def kindB (v : Str) : Bool := if (ends3.any fun p => Txt.endswith v p) = true then wordB (cutS v none (some (-2))) letters else wordB v letters
def spIsKind : Sp := fun vs H Q _ => ∃ (v : Str), vs = [.str v] ∧ v.length ≤ 100000 ∧ ∀ H', Same H H' → Q (.bl (kindB v)) H'
section
variable {P : Program} {w : World} {K : PySem.W.Frag} {mg : Str → Option Value} {base : Heap}
theorem ok_word (T : Top K mg) : FnOk P w K mg base CX0 1 T.a_is_word T.fd_is_word ["value", "characters"] spWord := by
  refine T.d_is_word.F.ok sc_is_word (fun vs H Q E h => ?_) (fun cdv A outer s H vs Q E hr h => ?_)
  · obtain ⟨v, z, rfl, _⟩ := h
    rfl
  obtain ⟨v, z, rfl, hl, q⟩ := h
  refine ⟨_, (pss_cons (ps_if (pt_not (pt_val (pe_callB (call_isi_K (K := K) (by rfl)) (by rfl) T.b_isinstance (by decide +kernel) (pa_cons (pv 0) (pa_cons (pe_tyN "str" (by rfl) T.b_str (by decide +kernel)) pa_nil))))) (pss_one (ps_ret pe_bl)) pss_nil)
    (pss_one (ps_ret (pe_and (pe_chain op_le op_le pe_int (pe_callB call_len_str (by rfl) T.b_len PySem.boot_len (pa_cons (pv 0) pa_nil)) (pe_gI rfl T.g_LONGEST)) (pe_one (pe_callB (cr_all_K (K := K) (by rfl) rfl) (by rfl) T.b_all (by decide +kernel) (pa_cons (pe_lc (own := [("character", 2)]) rfl sc_is_word.nd (pi_str (pv 0)) (blkOk_by (own := [("character", 2)]) (N := ["value", "characters", "character"]) (sc := defScope s_is_word) (by decide +kernel)) (fun _ _ _ _ _ => by exact (pg_name (i := 2) sc_is_word.nd rfl (Or.inl rfl))) (fun _ _ _ _ _ => by exact pts_nil) (fun _ _ _ _ _ => by exact (pe_cmpR op_in_sign (pv 2) (pv 1) (by rfl)))) pa_nil))))))), ?_⟩
  refine ⟨_, rfl, _, _, _, _, true, rfl, .ty _, .base (.str v), kit_ty (by decide +kernel), _, rfl, ?_⟩
  refine iteF ?_
  refine ⟨_, rfl, v, rfl, le_line hl, _, _, rfl, rfl, _, rfl, ?_⟩
  have no : ¬ (1 ≤ v.length ∧ v.length ≤ 8) → Q (.bl false) H := fun z => by
    have k := q H (Same.refl _)
    unfold wordB at k
    rw [decide_eq_false z] at k
    exact k
  refine ite3 (fun h1 => ?_) (fun h1 => ⟨false, rfl, iteF (no (by omega))⟩)
  refine ⟨_, _, rfl, rfl, _, rfl, ite3 (fun h2 => ?_) (fun h2 => no (by omega))⟩
  refine ⟨_, rfl, v, rfl, fun D nD => ?_⟩
  refine lc_it walk_str (fun i H' => Same H H' ∧ H' D = some (.lst ((((TL.tl v).map fun c => decide (c ∈ TL.tl z)).take i).map V.bl))) ⟨same_new nD, upd_same⟩ (fun _ _ _ _ => True.intro) ?_ ?_
  · rintro i y H' H'' hi ⟨s1, hDl⟩ ⟨rfl, c, ec, rfl⟩
    have ec' : (TL.tl v)[i]? = some c := by rw [← ec]; exact Array.getElem?_toList
    refine ⟨rfl, _, rfl, _, rfl, c, z, rfl, rfl, _, hDl, ?_, same_mut s1 nD, ?_⟩
    · rw [List.length_map, List.length_take]
      have : i < v.length := hi
      exact lt_line (by omega)
    · rw [upd_same, List.take_add_one, List.getElem?_map, ec', List.map_append]
      rfl
  · rintro H' ⟨s1, hDl⟩
    rw [List.take_of_length_le (by rw [List.length_map, ← TL.len_tl]; exact Nat.le_refl _)] at hDl
    refine ⟨D, _, rfl, SqL.of hDl, ?_⟩
    have k := q _ s1
    unfold wordB at k
    rw [decide_eq_true (show 1 ≤ v.length ∧ v.length ≤ 8 by omega)] at k
    rw [List.all_map]
    exact k
theorem ok_name (T : Top K mg) : FnOk P w K mg base CX0 2 T.a_is_name T.fd_is_name ["value"] (spNm letters) := by
  have G_is_word := ok_word (P := P) (w := w) (base := base) T
  refine T.d_is_name.F.ok sc_is_name (fun vs H Q E h => ?_) (fun cdv A outer s H vs Q E hr h => ?_)
  · obtain ⟨v, rfl, _⟩ := h
    rfl
  obtain ⟨v, rfl, hl, q⟩ := h
  refine ⟨_, (pss_one (ps_ret (pe_call G_is_word (hr.mono (by decide)) (by rfl) T.d_is_word.g T.d_is_word.kp T.d_is_word.b .nil pass0 (pa_cons (pv 0) (pa_cons (pe_gS rfl T.g_LETTERS) pa_nil))))), ?_⟩
  exact ⟨_, rfl, v, letters, rfl, hl, q⟩
theorem ok_iskind (T : Top K mg) : FnOk P w K mg base CX0 3 T.a_is_kind T.fd_is_kind ["value"] spIsKind := by
  have G_is_name := ok_name (P := P) (w := w) (base := base) T
  refine T.d_is_kind.F.ok sc_is_kind (fun vs H Q E h => ?_) (fun cdv A outer s H vs Q E hr h => ?_)
  · obtain ⟨v, rfl, _⟩ := h
    rfl
  obtain ⟨v, rfl, hl, q⟩ := h
  refine ⟨_, (pss_cons (ps_if (PW.pt (pw_and (pt_val (pe_callB (call_isi_K (K := K) (by rfl)) (by rfl) T.b_isinstance (by decide +kernel) (pa_cons (pv 0) (pa_cons (pe_tyN "str" (by rfl) T.b_str (by decide +kernel)) pa_nil)))) (pw_and1 (pt_val (pe_m1 PySem.F.slot_str_endswith PySem.F.type_str_endswith (mt_endsT_K (K := K) (by rfl)) (pv 0) (pe_gR rfl T.g_NUMBERS)))))) (pss_one (ps_ret (pe_call G_is_name (hr.mono (by decide)) (by rfl) T.d_is_name.g T.d_is_name.kp T.d_is_name.b .nil pass0 (pa_cons (pe_slice sl_str (pv 0) po_none (po_some (pe_un un_neg pe_int))) pa_nil)))) pss_nil)
    (pss_one (ps_ret (pe_call G_is_name (hr.mono (by decide)) (by rfl) T.d_is_name.g T.d_is_name.kp T.d_is_name.b .nil pass0 (pa_cons (pv 0) pa_nil))))), ?_⟩
  refine ⟨_, rfl, _, _, _, _, true, rfl, .ty _, .base (.str v), kit_ty (by decide +kernel), _, rfl, ?_⟩
  refine ⟨_, rfl, ⟨v, rfl⟩, v, _, ends3, rfl, rfl, T.k_NUMBERS _, _, rfl, iteB (fun e => ?_) (fun e => ?_)⟩
  · have := cutS_length v none (some (-2))
    refine ⟨_, rfl, 2, rfl, (-2 : Int), rfl, v, rfl, le_line hl, _, rfl, by omega, fun H' s => ?_⟩
    have k := q H' s
    unfold kindB at k
    rw [if_pos e] at k
    exact k
  · refine ⟨_, rfl, v, rfl, hl, fun H' s => ?_⟩
    have k := q H' s
    unfold kindB at k
    rw [if_neg (by rw [e]; decide)] at k
    exact k
end
end Bh

set_option Elab.async false
set_option linter.all false
set_option maxRecDepth 100000
set_option maxHeartbeats 1000000
set_option autoImplicit false
namespace Bh
open PySem PySem.Spec PyProof.Rows L2
/-- a for over a list or a tuple in a name -/
theorem for_sq {K : PySem.W.Frag} {j : Nat} {a : Addr} {xs : List V} {g : TG} {tb : TS} {D : Ends} {σ : L2.St} {H0 H : Hp} (hv : ∀ Q : VK, Q (.ref a) H → tVar j σ H Q) (hS : SqL K H0 a xs ∨ SqT K H0 a xs) (h00 : Same H0 H) (Pv : Nat → L2.St → Hp → Prop) (h0 : Pv 0 σ H) (hG : ∀ i σ H', i ≤ xs.length → Pv i σ H' → Same H0 H')
    (hs : ∀ i x σ H', i < xs.length → Pv i σ H' → xs[i]? = some x → g x σ H' fun σ2 H2 => tb { D with nx := Pv (i + 1), ct := Pv (i + 1), bk := D.nx } σ2 H2) (hd : ∀ σ H', Pv xs.length σ H' → D.nx σ H') : tFor (iSeq K (tVar j)) g tb D σ H := by
  rcases hS with hS | hS
  · exact .inl (hv _ ⟨a, rfl, ⟨_, h00.seq hS⟩, for_it walk_list Pv h0 (fun i σ H' l p => (hG i σ H' l p).seq hS) (fun i x σ H' H'' hi p y => by
      obtain ⟨rfl, e⟩ := y
      exact hs i x σ _ hi p e) hd⟩)
  · exact .inr (hv _ ⟨a, rfl, ⟨_, Same.tup h00 hS⟩, for_it walk_tup Pv h0 (fun i σ H' l p => Same.tup (hG i σ H' l p) hS) (fun i x σ H' H'' hi p y => by
      obtain ⟨rfl, e⟩ := y
      exact hs i x σ _ hi p e) hd⟩)
/-! ### cells and ties as the two dicts hold them -/
abbrev Cl := Str × Str
abbrev Ti := Str × Str × Str
def eC (c : Cl) : L2.Key × V := (.inr c.1, .str c.2)
def kT (t : Ti) : List L2.Key := [.inr t.1, .inr t.2.1, .inr t.2.2]
def eT (t : Ti) : List L2.Key × V := (kT t, .bl true)
def dCell (c : Cl) : PyData := .tuple [.str c.1, .str c.2]
def dTi (t : Ti) : PyData := .tuple [.str t.1, .str t.2.1, .str t.2.2]
theorem kT_inj {a b : Ti} (h : kT a = kT b) : a = b := by
  obtain ⟨a1, a2, a3⟩ := a
  obtain ⟨b1, b2, b3⟩ := b
  have h : ([.inr a1, .inr a2, .inr a3] : List L2.Key) = [.inr b1, .inr b2, .inr b3] := h
  injection h with h1 h
  injection h with h2 h
  injection h with h3 _
  injection h1 with h1
  injection h2 with h2
  injection h3 with h3
  rw [h1, h2, h3]
def kindAt (cs : List Cl) (n : Str) : Option Str := (cs.find? fun c => decide (c.1 = n)).map (·.2)
theorem val_cells (n : Str) : ∀ cs : List Cl, valV (cs.map eC) (.inr n) = (kindAt cs n).map V.str
  | [] => rfl
  | c :: cs => by
    have ih := val_cells n cs
    rw [List.map_cons]
    by_cases h : c.1 = n
    · rw [valV_pos (by show (Sum.inr c.1 : L2.Key) = Sum.inr n; rw [h])]
      unfold kindAt
      rw [List.find?_cons, decide_eq_true h]
      rfl
    · rw [valV_neg (fun z => h (by have z : (Sum.inr c.1 : L2.Key) = Sum.inr n := z; injection z)), ih]
      unfold kindAt
      rw [List.find?_cons, decide_eq_false h]
theorem kindAt_some {n : Str} {cs : List Cl} (h : n ∈ cs.map (·.1)) : ∃ k, kindAt cs n = some k ∧ (n, k) ∈ cs := by
  obtain ⟨c, hc, rfl⟩ := List.mem_map.mp h
  have : (cs.find? fun d => decide (d.1 = c.1)).isSome = true := List.find?_isSome.mpr ⟨c, hc, by simp⟩
  obtain ⟨d, hd⟩ := Option.isSome_iff_exists.mp this
  have e0 := List.find?_some (p := fun d : Cl => decide (d.1 = c.1)) hd
  have e : d.1 = c.1 := of_decide_eq_true e0
  refine ⟨d.2, by unfold kindAt; rw [hd]; rfl, ?_⟩
  rw [← e]
  exact List.mem_of_find?_eq_some hd
theorem kindAt_none {n : Str} {cs : List Cl} (h : n ∉ cs.map (·.1)) : kindAt cs n = none := by
  unfold kindAt
  rw [Option.map_eq_none_iff, List.find?_eq_none]
  intro c hc z
  exact h (List.mem_map.mpr ⟨c, hc, of_decide_eq_true z⟩)
theorem kindAt_isSome {n : Str} {cs : List Cl} : (kindAt cs n).isSome = decide (n ∈ cs.map (·.1)) := by
  by_cases h : n ∈ cs.map (·.1)
  · obtain ⟨k, e, _⟩ := kindAt_some h
    rw [e, decide_eq_true h]
    rfl
  · rw [kindAt_none h, decide_eq_false h]
    rfl
theorem cells_in {n : Str} {cs : List Cl} : (valV (cs.map eC) (.inr n)).isSome = decide (n ∈ cs.map (·.1)) := by
  rw [val_cells, Option.isSome_map, kindAt_isSome]
theorem val_ties (t : Ti) : ∀ ts : List Ti, valV (ts.map eT) (kT t) = if t ∈ ts then some (.bl true) else none
  | [] => rfl
  | c :: ts => by
    have ih := val_ties t ts
    rw [List.map_cons]
    by_cases h : c = t
    · rw [valV_pos (by rw [h]; rfl), if_pos (by rw [h]; exact List.mem_cons_self)]
      rfl
    · rw [valV_neg (fun z => h (kT_inj z)), ih]
      by_cases m : t ∈ ts
      · rw [if_pos m, if_pos (List.mem_cons_of_mem _ m)]
      · rw [if_neg m, if_neg (fun z => (List.mem_cons.mp z).elim (fun e => h e.symm) m)]
theorem ties_in {t : Ti} {ts : List Ti} : (valV (ts.map eT) (kT t)).isSome = decide (t ∈ ts) := by
  rw [val_ties]
  by_cases m : t ∈ ts
  · rw [if_pos m, decide_eq_true m]
    rfl
  · rw [if_neg m, decide_eq_false m]
    rfl
theorem put_cell {cs : List Cl} {n k : Str} (h : n ∉ cs.map (·.1)) : putK (cs.map eC) (.inr n) (.str k) = (cs ++ [(n, k)]).map eC := by
  rw [putK_new _ (by rw [val_cells, kindAt_none h]; rfl), List.map_append]
  rfl
theorem put_tie {ts : List Ti} {t : Ti} (h : t ∉ ts) : putK (ts.map eT) (kT t) (.bl true) = (ts ++ [t]).map eT := by
  rw [putK_new _ (by rw [val_ties, if_neg h]), List.map_append]
  rfl
/-- one cell's kind -/
def setKind (cs : List Cl) (n k : Str) : List Cl := cs.map fun c => if c.1 = n then (c.1, k) else c
theorem put_kind {cs : List Cl} {n k : Str} (h : n ∈ cs.map (·.1)) : putK (cs.map eC) (.inr n) (.str k) = (setKind cs n k).map eC := by
  unfold putK
  rw [valV_any, cells_in, decide_eq_true h, if_pos rfl]
  unfold setKind
  rw [List.map_map, List.map_map]
  refine List.map_congr_left fun c _ => ?_
  show (if (eC c).1 = Sum.inr n then ((eC c).1, V.str k) else eC c) = eC (if c.1 = n then (c.1, k) else c)
  by_cases e : c.1 = n
  · rw [if_pos e, if_pos (by show (Sum.inr c.1 : L2.Key) = _; rw [e])]
    rfl
  · rw [if_neg e, if_neg (fun z => e (by have z : (Sum.inr c.1 : L2.Key) = Sum.inr n := z; injection z))]
theorem drop_cell {cs : List Cl} {n : Str} : dropK (cs.map eC) (.inr n) = (cs.filter fun c => decide (c.1 ≠ n)).map eC := by
  unfold dropK
  rw [List.filter_map]
  congr 1
  refine List.filter_congr fun c _ => ?_
  show decide ((Sum.inr c.1 : L2.Key) ≠ Sum.inr n) = decide (c.1 ≠ n)
  by_cases e : c.1 = n
  · rw [e]
    simp
  · rw [decide_eq_true (show c.1 ≠ n from e), decide_eq_true (show (Sum.inr c.1 : L2.Key) ≠ Sum.inr n from fun z => e (by injection z))]
theorem drop_tie {ts : List Ti} {t : Ti} : dropK (ts.map eT) (kT t) = (ts.filter fun c => decide (c ≠ t)).map eT := by
  unfold dropK
  rw [List.filter_map]
  congr 1
  refine List.filter_congr fun c _ => ?_
  show decide (kT c ≠ kT t) = decide (c ≠ t)
  by_cases e : c = t
  · rw [e]
    simp
  · rw [decide_eq_true (show c ≠ t from e), decide_eq_true (show kT c ≠ kT t from fun z => e (kT_inj z))]
theorem inCells {neg : Bool} {H : Hp} {d : Addr} {cs : List Cl} {n : Str} {Q : VK} (h : H d = some (.dK (cs.map eC))) (q : Q (.bl (decide (n ∈ cs.map (·.1)) != neg)) H) : rInD neg (.str n) (.ref d) H Q :=
  ⟨d, _, rfl, DGet.k (k := .inr n) h, by rw [cells_in]; exact q⟩
theorem inTies {neg : Bool} {H : Hp} {d p : Addr} {ts : List Ti} {t : Ti} {Q : VK} (h : H d = some (.dT (ts.map eT))) (hp : H p = some (.tup [.str t.1, .str t.2.1, .str t.2.2])) (q : Q (.bl (decide (t ∈ ts) != neg)) H) : rInD neg (.ref p) (.ref d) H Q :=
  ⟨d, _, rfl, DGet.t (k := kT t) h hp, by rw [ties_in]; exact q⟩
end Bh

set_option Elab.async false
set_option linter.all false
set_option maxRecDepth 100000
set_option maxHeartbeats 1000000
set_option autoImplicit false
namespace Bh
open PySem PySem.Spec PyProof.Rows L2
/-- a name of a cell or a tie -/
def NmOk (n : Str) : Prop := wordB n letters = true ∧ n.length ≤ 1000
def KdOk (k : Str) : Prop := kindB k = true ∧ k.length ≤ 1000
structure CsOk (cs : List Cl) : Prop where
  nd : (cs.map (·.1)).Nodup
  nm : ∀ c ∈ cs, NmOk c.1 ∧ KdOk c.2
  few : cs.length ≤ 1000
structure TsOk (cs : List Cl) (ts : List Ti) : Prop where
  nd : ts.Nodup
  nm : ∀ t ∈ ts, NmOk t.1 ∧ t.2.1 ∈ cs.map (·.1) ∧ t.2.2 ∈ cs.map (·.1)
  few : ts.length ≤ 1000
def spChkCell : Sp := fun vs H Q _ => ∃ (d : Addr) (cs : List Cl) (n k : Str), vs = [.ref d, .str n, .str k] ∧ H d = some (.dK (cs.map eC)) ∧ NmOk n ∧ KdOk k ∧ n ∉ cs.map (·.1) ∧ ∀ H', Same H H' → Q .non H'
def spChkTie : Sp := fun vs H Q _ => ∃ (d e : Addr) (cs : List Cl) (ts : List Ti) (t : Ti), vs = [.ref d, .ref e, .str t.1, .str t.2.1, .str t.2.2] ∧ H d = some (.dK (cs.map eC)) ∧ H e = some (.dT (ts.map eT)) ∧ NmOk t.1 ∧ t.2.1 ∈ cs.map (·.1) ∧ t.2.2 ∈ cs.map (·.1) ∧ t ∉ ts ∧ ∀ H', Same H H' → Q .non H'
def spKindsOf (K : PySem.W.Frag) : Sp := fun vs H Q _ => ∃ (v : V) (cs : List Cl), vs = [v] ∧ DpS K H v (cs.map dCell) ∧ CsOk cs ∧ ∀ (p : Addr) (H' : Hp), H p = none → Same H H' → H' p = some (.dK (cs.map eC)) → Q (.ref p) H'
def spTiesBetween (K : PySem.W.Frag) : Sp := fun vs H Q _ => ∃ (d : Addr) (v : V) (cs : List Cl) (ts : List Ti), vs = [.ref d, v] ∧ H d = some (.dK (cs.map eC)) ∧ DpS K H v (ts.map dTi) ∧ TsOk cs ts ∧ ∀ (p : Addr) (H' : Hp), H p = none → Same H H' → H' p = some (.dT (ts.map eT)) → Q (.ref p) H'
theorem dp_cell {K : PySem.W.Frag} {H : Hp} {xs : List V} {cs : List Cl} {i : Nat} {x : V} (h : DpAll K H xs (cs.map dCell)) (e : xs[i]? = some x) : ∃ (c : Cl) (a : Addr), cs[i]? = some c ∧ x = .ref a ∧ SqT K H a [.str c.1, .str c.2] := by
  obtain ⟨d, hd, hx⟩ := DpAll.get h e
  rw [List.getElem?_map] at hd
  obtain ⟨c, hc, rfl⟩ := Option.map_eq_some_iff.mp hd
  obtain ⟨a, ys, rfl, ht, hy⟩ := dp_tup hx
  exact ⟨c, a, hc, rfl, by rw [dp_strs (zs := [c.1, c.2]) hy] at ht; exact ht⟩
theorem dp_ti {K : PySem.W.Frag} {H : Hp} {xs : List V} {ts : List Ti} {i : Nat} {x : V} (h : DpAll K H xs (ts.map dTi)) (e : xs[i]? = some x) : ∃ (t : Ti) (a : Addr), ts[i]? = some t ∧ x = .ref a ∧ SqT K H a [.str t.1, .str t.2.1, .str t.2.2] := by
  obtain ⟨d, hd, hx⟩ := DpAll.get h e
  rw [List.getElem?_map] at hd
  obtain ⟨c, hc, rfl⟩ := Option.map_eq_some_iff.mp hd
  obtain ⟨a, ys, rfl, ht, hy⟩ := dp_tup hx
  exact ⟨c, a, hc, rfl, by rw [dp_strs (zs := [c.1, c.2.1, c.2.2]) hy] at ht; exact ht⟩
theorem take_notMem {α : Type} {xs : List α} {i : Nat} {x : α} (nd : xs.Nodup) (e : xs[i]? = some x) : x ∉ xs.take i := fun m => by
  obtain ⟨j, hj⟩ := List.mem_iff_getElem?.mp m
  obtain ⟨lt, _⟩ := List.getElem?_eq_some_iff.mp hj
  rw [List.length_take] at lt
  rw [List.getElem?_take_of_lt (by omega)] at hj
  obtain ⟨li, _⟩ := List.getElem?_eq_some_iff.mp e
  have := (List.getElem?_inj (by omega) nd).mp (hj.trans e.symm)
  omega
theorem take_next {α : Type} {xs : List α} {i : Nat} {x : α} (e : xs[i]? = some x) : xs.take (i + 1) = xs.take i ++ [x] := by
  rw [List.take_add_one, e]
  rfl
section
variable {P : Program} {w : World} {K : PySem.W.Frag} {mg : Str → Option Value} {base : Heap}
theorem ok_chkcell (T : Top K mg) : FnOk P w K mg base CX0 4 T.a_check_cell T.fd_check_cell ["kinds", "name", "kind"] spChkCell := by
  have G_is_name := ok_name (P := P) (w := w) (base := base) T
  have G_is_kind := ok_iskind (P := P) (w := w) (base := base) T
  refine T.d_check_cell.F.ok sc_check_cell (fun vs H Q E h => ?_) (fun cdv A outer s H vs Q E hr h => ?_)
  · obtain ⟨d, cs, n, k, rfl, _⟩ := h
    rfl
  obtain ⟨d, cs, n, k, rfl, hd, ⟨n1, n2⟩, ⟨k1, k2⟩, nin, q⟩ := h
  refine ⟨_, (pss_cons (ps_if (pt_not (pt_val (pe_call G_is_name (hr.mono (by decide)) (by rfl) T.d_is_name.g T.d_is_name.kp T.d_is_name.b .nil pass0 (pa_cons (pv 1) pa_nil)))) (pss_one ps_dead) pss_nil)
    (pss_cons (ps_if (pt_cmpR (op_inD (by exact (u1 hr))) (pv 1) (pv 0) (by rfl)) (pss_one ps_dead) pss_nil)
    (pss_one (ps_if (pt_not (pt_val (pe_call G_is_kind (hr.mono (by decide)) (by rfl) T.d_is_kind.g T.d_is_kind.kp T.d_is_kind.b .nil pass0 (pa_cons (pv 2) pa_nil)))) (pss_one ps_dead) pss_nil)))), ?_⟩
  refine ⟨_, rfl, n, rfl, by omega, fun H1 s1 => ⟨_, rfl, ?_⟩⟩
  rw [n1]
  refine iteF ?_
  refine ⟨_, rfl, _, rfl, inCells (s1 _ _ hd) ⟨_, rfl, ?_⟩⟩
  rw [decide_eq_false nin]
  refine iteF ?_
  refine ⟨_, rfl, k, rfl, by omega, fun H2 s2 => ⟨_, rfl, ?_⟩⟩
  rw [k1]
  exact iteF (q _ (s1.trans s2))
theorem ok_chktie (T : Top K mg) : FnOk P w K mg base CX0 4 T.a_check_tie T.fd_check_tie ["kinds", "ties", "tie", "source", "target"] spChkTie := by
  have G_is_name := ok_name (P := P) (w := w) (base := base) T
  refine T.d_check_tie.F.ok sc_check_tie (fun vs H Q E h => ?_) (fun cdv A outer s H vs Q E hr h => ?_)
  · obtain ⟨d, e, cs, ts, t, rfl, _⟩ := h
    rfl
  obtain ⟨d, e, cs, ts, ⟨t1, t2, t3⟩, rfl, hd, he, ⟨n1, n2⟩, m1, m2, nin, q⟩ := h
  refine ⟨_, (pss_cons (ps_if (pt_not (pt_val (pe_call G_is_name (hr.mono (by decide)) (by rfl) T.d_is_name.g T.d_is_name.kp T.d_is_name.b .nil pass0 (pa_cons (pv 2) pa_nil)))) (pss_one ps_dead) pss_nil)
    (pss_cons (ps_for PassesOwn.never rfl (pi_tup_K (K := K) (by rfl) (pe_tup (pa_cons (pv 3) (pa_cons (pv 4) pa_nil)))) (pg_name (i := 5) sc_check_tie.nd rfl (Or.inl rfl))
      (pss_one (ps_if (PW.pt (pw_or (pt_not (pt_val (pe_callB (call_isi_K (K := K) (by rfl)) (by rfl) T.b_isinstance (by decide +kernel) (pa_cons (pv 5) (pa_cons (pe_tyN "str" (by rfl) T.b_str (by decide +kernel)) pa_nil))))) (pw_or1 (pt_cmpR (op_notInD (by exact (u1 hr))) (pv 5) (pv 0) (by rfl))))) (pss_one ps_dead) pss_nil)))
    (pss_one (ps_if (pt_cmpR (op_inD (by exact (u1 hr))) (pe_tup (pa_cons (pv 2) (pa_cons (pv 3) (pa_cons (pv 4) pa_nil)))) (pv 1) (by rfl)) (pss_one ps_dead) pss_nil)))), ?_⟩
  refine ⟨_, rfl, t1, rfl, by have : t1.length ≤ 1000 := n2; omega, fun H1 s1 => ⟨_, rfl, ?_⟩⟩
  have n1 : wordB t1 letters = true := n1
  rw [n1]
  refine iteF ?_
  refine ⟨_, rfl, _, rfl, (by show 2 ≤ sizeLine; decide), fun p np => ?_⟩
  have s2 := s1.trans (same_new (o := .tup [.str t2, .str t3]) np)
  refine ⟨p, rfl, ⟨[.str t2, .str t3], .inl (.inl upd_same)⟩, ?_⟩
  refine for_it walk_tup (fun i σ H' => ∃ v, σ = [some (.ref d), some (.ref e), some (.str t1), some (.str t2), some (.str t3), v] ∧ H' = upd H1 p (.tup [.str t2, .str t3])) ⟨none, rfl, rfl⟩ (fun i σ H' _ ⟨_, _, e⟩ => by rw [e]; exact .inl (.inl upd_same)) ?_ ?_
  · rintro i x σ H' H'' hi ⟨v, rfl, rfl⟩ ⟨rfl, ex⟩
    obtain ⟨z, rfl, hz⟩ : ∃ z, x = V.str z ∧ z ∈ cs.map (·.1) := by
      match i, ex with
      | 0, ex => exact ⟨t2, (Option.some.inj ex).symm, m1⟩
      | 1, ex => exact ⟨t3, (Option.some.inj ex).symm, m2⟩
    refine ⟨_, rfl, _, _, _, _, true, rfl, .ty _, .base (.str z), kit_ty (by decide +kernel), _, rfl, ?_⟩
    refine ⟨_, rfl, _, rfl, inCells (s2 _ _ hd) ⟨_, rfl, ?_⟩⟩
    rw [decide_eq_true hz]
    exact iteF ⟨_, rfl, rfl⟩
  · rintro σ H' ⟨v, rfl, rfl⟩
    refine ⟨_, rfl, _, rfl, _, rfl, (by show 3 ≤ sizeLine; decide), fun p3 np3 => ⟨_, rfl, inTies (t := (t1, t2, t3)) ((s2.trans (same_new np3)) _ _ he) upd_same ⟨_, rfl, ?_⟩⟩⟩
    rw [decide_eq_false nin]
    exact iteF (q _ (s2.trans (same_new np3)))
theorem ok_kindsof (T : Top K mg) : FnOk P w K mg base CX0 5 T.a_kinds_of T.fd_kinds_of ["cells"] (spKindsOf K) := by
  have G_check_cell := ok_chkcell (P := P) (w := w) (base := base) T
  refine T.d_kinds_of.F.ok sc_kinds_of (fun vs H Q E h => ?_) (fun cdv A outer s H vs Q E hr h => ?_)
  · obtain ⟨v, cs, rfl, _⟩ := h
    rfl
  obtain ⟨v, cs, rfl, ⟨a, xs, rfl, hS, hp⟩, ok, q⟩ := h
  refine ⟨_, (pss_cons (ps_set (i := 1) sc_kinds_of.nd rfl (Or.inl rfl) pe_dnewK)
    (pss_cons (ps_for PassesOwn.never rfl (pi_seq_K (K := K) (by rfl) (pv 0)) (pg_tup_K (K := K) (by rfl) (n := 2) (by rfl) (pgs_cons (pg_name (i := 2) sc_kinds_of.nd rfl (Or.inl rfl)) (pgs_cons (pg_name (i := 3) sc_kinds_of.nd rfl (Or.inl rfl)) pgs_nil)))
      (pss_cons (ps_expr (pe_call G_check_cell (hr.mono (by decide)) (by rfl) T.d_check_cell.g T.d_check_cell.kp T.d_check_cell.b .nil pass0 (pa_cons (pv 1) (pa_cons (pv 2) (pa_cons (pv 3) pa_nil)))))
      (pss_one (ps_dput (u1 hr) (pv 1) (pv 2) (pv 3) rfl))))
    (pss_one (ps_ret (pv 1))))), ?_⟩
  refine fun p np => ?_
  have lx := DpAll.length hp
  rw [List.length_map] at lx
  have few := ok.few
  refine for_sq (fun Q h => ⟨_, rfl, h⟩) hS (same_new np) (fun i σ H' => ∃ v2 v3, σ = [some (.ref a), some (.ref p), v2, v3] ∧ Same H H' ∧ H' p = some (.dK ((cs.take i).map eC))) ⟨none, none, rfl, same_new np, upd_same⟩ ?_ ?_ ?_
  · rintro i σ H' _ ⟨_, _, _, s1, _⟩
    exact s1
  · rintro i x σ H' hi ⟨v2, v3, rfl, s1, h1⟩ ex
    obtain ⟨c, ca, hc, rfl, ht⟩ := dp_cell hp ex
    have mc := List.mem_of_getElem? hc
    have fresh : c.1 ∉ (cs.take i).map (·.1) := by
      rw [List.map_take]
      exact take_notMem (i := i) ok.nd (by rw [List.getElem?_map, hc]; rfl)
    refine ⟨ca, _, rfl, Same.tup s1 ht, rfl, ?_⟩
    refine ⟨_, _, rfl, _, _, rfl, rfl, ?_⟩
    refine ⟨_, rfl, _, rfl, _, rfl, p, cs.take i, c.1, c.2, rfl, h1, (ok.nm c mc).1, (ok.nm c mc).2, fresh, fun H2 s2 => ?_⟩
    refine ⟨_, rfl, _, rfl, _, rfl, p, _, rfl, DPut.k (k := .inr c.1) (s2 _ _ h1) (by rw [List.length_map, List.length_take]; exact lt_line (by omega)), _, _, rfl, same_mut (s1.trans s2) np, ?_⟩
    rw [upd_same, take_next hc, put_cell fresh]
  · rintro σ H' ⟨v2, v3, rfl, s1, h1⟩
    rw [lx, List.take_length] at h1
    exact ⟨_, rfl, q p H' np s1 h1⟩
theorem ok_tiesbetween (T : Top K mg) : FnOk P w K mg base CX0 5 T.a_ties_between T.fd_ties_between ["kinds", "ties"] (spTiesBetween K) := by
  have G_check_tie := ok_chktie (P := P) (w := w) (base := base) T
  refine T.d_ties_between.F.ok sc_ties_between (fun vs H Q E h => ?_) (fun cdv A outer s H vs Q E hr h => ?_)
  · obtain ⟨d, v, cs, ts, rfl, _⟩ := h
    rfl
  obtain ⟨d, v, cs, ts, rfl, hd, ⟨a, xs, rfl, hS, hp⟩, ok, q⟩ := h
  refine ⟨_, (pss_cons (ps_set (i := 2) sc_ties_between.nd rfl (Or.inl rfl) pe_dnewT)
    (pss_cons (ps_for PassesOwn.never rfl (pi_seq_K (K := K) (by rfl) (pv 1)) (pg_tup_K (K := K) (by rfl) (n := 3) (by rfl) (pgs_cons (pg_name (i := 3) sc_ties_between.nd rfl (Or.inl rfl)) (pgs_cons (pg_name (i := 4) sc_ties_between.nd rfl (Or.inl rfl)) (pgs_cons (pg_name (i := 5) sc_ties_between.nd rfl (Or.inl rfl)) pgs_nil))))
      (pss_cons (ps_expr (pe_call G_check_tie (hr.mono (by decide)) (by rfl) T.d_check_tie.g T.d_check_tie.kp T.d_check_tie.b .nil pass0 (pa_cons (pv 0) (pa_cons (pv 2) (pa_cons (pv 3) (pa_cons (pv 4) (pa_cons (pv 5) pa_nil)))))))
      (pss_one (ps_dput (u1 hr) (pv 2) (pe_tup (pa_cons (pv 3) (pa_cons (pv 4) (pa_cons (pv 5) pa_nil)))) pe_bl rfl))))
    (pss_one (ps_ret (pv 2))))), ?_⟩
  refine fun p np => ?_
  have lx := DpAll.length hp
  rw [List.length_map] at lx
  have few := ok.few
  refine for_sq (fun Q h => ⟨_, rfl, h⟩) hS (same_new np) (fun i σ H' => ∃ v3 v4 v5, σ = [some (.ref d), some (.ref a), some (.ref p), v3, v4, v5] ∧ Same H H' ∧ H' p = some (.dT ((ts.take i).map eT))) ⟨none, none, none, rfl, same_new np, upd_same⟩ ?_ ?_ ?_
  · rintro i σ H' _ ⟨_, _, _, _, s1, _⟩
    exact s1
  · rintro i x σ H' hi ⟨v3, v4, v5, rfl, s1, h1⟩ ex
    obtain ⟨⟨t1, t2, t3⟩, ta, hc, rfl, ht⟩ := dp_ti hp ex
    have mc := List.mem_of_getElem? hc
    have fresh := take_notMem ok.nd hc
    obtain ⟨m1, m2, m3⟩ := ok.nm _ mc
    refine ⟨ta, _, rfl, Same.tup s1 ht, rfl, ?_⟩
    refine ⟨_, _, rfl, _, _, rfl, _, _, rfl, rfl, ?_⟩
    refine ⟨_, rfl, _, rfl, _, rfl, _, rfl, _, rfl, d, p, cs, ts.take i, (t1, t2, t3), rfl, s1 _ _ hd, h1, m1, m2, m3, fresh, fun H2 s2 => ?_⟩
    refine ⟨_, rfl, _, rfl, _, rfl, _, rfl, (by show 3 ≤ sizeLine; decide), fun b nb => ?_⟩
    have s3 := s2.trans (same_new (o := .tup [.str t1, .str t2, .str t3]) nb)
    refine ⟨p, _, rfl, DPut.t (k := kT (t1, t2, t3)) (s3 _ _ h1) upd_same (by rw [List.length_map, List.length_take]; exact lt_line (by omega)), _, _, _, rfl, same_mut (s1.trans s3) np, ?_⟩
    rw [upd_same, take_next hc, put_tie fresh]
  · rintro σ H' ⟨v3, v4, v5, rfl, s1, h1⟩
    rw [lx, List.take_length] at h1
    exact ⟨_, rfl, q p H' np s1 h1⟩
end
end Bh

set_option Elab.async false
set_option linter.all false
set_option maxRecDepth 100000
set_option maxHeartbeats 1000000
set_option autoImplicit false
namespace Bh
open PySem PySem.Spec PySem.Calls PyProof.Rows L2
/-! ### *a, b = xs, a list that is not empty -/
def gStar0 (K : PySem.W.Frag) (t : TGs) : TG := fun v σ H Q => ∃ (l : Addr) (xs : List V) (y : V), v = .ref l ∧ SqL K H l (xs ++ [y]) ∧ ∀ D, H D = none → t [.ref D, y] σ (upd H D (.lst xs)) Q
section
variable {X : Cx} {pins : List (Addr × Obj)} {σ : L2.St} {H : Hp} {s : Shared}
/-- the items of a list, the first ones in a new list, the last alone -/
theorem star0_items {l : Addr} {xs : List V} {y : V} {Q : List Value → Shared → Prop} {E : Value → Shared → Prop} (hh : X.A.handled = none) (I : Inv X pins σ H s) (h : SqL X.K H l (xs ++ [y]))
    (q : ∀ (s' : Shared) (D : Addr) (u : Value), H D = none → RelV y u → Inv X pins σ (upd H D (.lst xs)) s' → Q [.ref D, u] s') : wpAny (model X.prog X.w) X.A (unpackItems (.ref l) 2 (some 0)) Q E s := by
  obtain ⟨its, rv, ⟨o, n, ho, hc, _, hd⟩, hz⟩ := I.list h
  have hl : s.heap.IsList l its.toArray := ⟨o, ho, hc, n, hd⟩
  have hlt : l ≠ s.heap.objs.size := Nat.ne_of_lt (Heap.lt_size ho)
  have len : its.length = xs.length + 1 := by
    rw [← rv.length, List.length_append]
    rfl
  unfold unpackItems
  refine wpAny_bind ?_
  unfold notIterableAtAll
  refine wpAny_bind (wpAny_specialOf hl.typeIs slot_list_iter.lookup ?_)
  refine wpAny_pure ?_
  simp only [Bool.false_eq_true, if_false]
  refine wpAny_bind (wpAny_holding (wpAny_pyIter_list hl ?_))
  have hl1 : (s.heap.push { cls := .type "list_iterator", data := .fields #[.ref l, .int 0 0] }).IsList l its.toArray := hl.push _
  obtain ⟨o1, ho1, _⟩ := id hl1
  refine wpAny_bind (wpAny_holding (show wpAny _ _ (draw _ 0) _ _ _ from wpAny_pure ?_))
  rw [if_neg (by show ¬ (([] : List Value).length < 0); exact Nat.not_lt_zero _)]
  refine wpAny_bind (wpAny_holding (PySem.W.kun_collect (T := "list_iterator") (.inr (.inr (.inl rfl))) (Walks.list (A := X.A.in1) hh s.heap.objs.size l hlt its.toArray) (fun j u st => st.1.typeIs) (k := 0) (Nat.zero_le _) ⟨⟨_, Heap.get?_push_size _ rfl, rfl, rfl⟩, hl1⟩ (Heap.lt_size (Heap.get?_push_size s.heap rfl)) (Heap.lt_size ho1) (fun h2 tk hk => ?_) ?_))
  · rw [show (its.toArray.toList.drop 0) = its from by simp]
    show wpAny _ _ (if its.length < 1 then _ else _) _ _ _
    rw [if_neg (by omega)]
    show wpAny _ _ (newList (its.take (its.length - 1)) >>= fun d => pure (([] : List Value) ++ [d] ++ its.drop (its.length - 1))) _ _ _
    have I1 : Inv X pins σ H { s with heap := h2, toks := tk } := I.kept fun b u e => hk b u (Nat.ne_of_lt (Heap.lt_size e)) (Heap.get?_push_of_some _ e)
    obtain ⟨us, ws, e1, r1, r2⟩ : ∃ us ws, its = us ++ ws ∧ Vals xs us ∧ Vals [y] ws := ⟨its.take xs.length, its.drop xs.length, (List.take_append_drop ..).symm, by
      have := rv.take xs.length
      rwa [List.take_left] at this, by
      have := rv.drop xs.length
      rwa [List.drop_left] at this⟩
    obtain ⟨u, rfl, ru⟩ := vals1 r2
    have l1 : us.length = xs.length := r1.length.symm
    subst e1
    rw [show (us ++ [u]).length - 1 = us.length by simp, List.take_left, List.drop_left]
    refine wpAny_bind (wpAny_newList ?_ (by rw [l1]; rw [List.length_append] at hz; omega))
    refine wpAny_pure ?_
    exact q _ _ u I1.fresh ru (I1.lnew r1 (by rw [List.length_append] at hz; omega))
  · rw [List.size_toArray, len]
    rw [List.length_append] at hz
    exact hz
/-- *a, b = .. -/
theorem pg_star0 {e1 e2 : Expr} {k : Nat} {p pos : Pos} {t : TGs} (hc : X.calm = true) (h : PGs X [e1, e2] t) (hm : (assignEach [.Starred e1 p, e2] X.env).map (·.2) = (assignEach [e1, e2] X.env).map (·.2) := by rfl)
    (hn : (assignEach [.Starred e1 p, e2] X.env).length = 2 := by rfl) (hst : (assignEach [.Starred e1 p, e2] X.env).findIdx? (·.1) = some 0 := by rfl) : PG X (.Tuple [.Starred e1 p, e2] k pos) (gStar0 X.K t) := by
  refine ⟨fun pins s σ H v u Q I r hw => ?_⟩
  obtain ⟨l, xs, y, rfl, hq, hw⟩ := hw
  cases r
  rw [assign_Tuple]
  refine wpAny_bind (wpAny_standAt ?_)
  unfold unpack
  rw [hn, hst, hm]
  refine wpAny_bind (wpAny_holding (star0_items (I.ok.hd hc) I hq fun s' D u nD ry I' => ?_))
  exact h.run pins s' σ _ [.ref D, y] [.ref D, u] Q I' (.cons rfl (.cons ry .nil)) (hw D nD)
end
theorem pg_star0K {X : Cx} {K : PySem.W.Frag} {e1 e2 : Expr} {k : Nat} {p pos : Pos} {t : TGs} (hK : X.K = K) (hc : X.calm = true) (h : PGs X [e1, e2] t) (hm : (assignEach [.Starred e1 p, e2] X.env).map (·.2) = (assignEach [e1, e2] X.env).map (·.2) := by rfl)
    (hn : (assignEach [.Starred e1 p, e2] X.env).length = 2 := by rfl) (hst : (assignEach [.Starred e1 p, e2] X.env).findIdx? (·.1) = some 0 := by rfl) : PG X (.Tuple [.Starred e1 p, e2] k pos) (gStar0 K t) := by
  subst hK
  exact pg_star0 hc h hm hn hst
/-! ### classmethods and staticmethods read off the class, also by keyword; the class called by a local name -/
theorem fnR_of {P : Program} {w : World} {K : PySem.W.Frag} {mg : Str → Option Value} {base : Heap} {CX : CXT} {k : Nat} {f : Addr} {fd : FuncData} {ps : List Str} {sp : Sp} (F : FnOk P w K mg base CX k f fd ps sp) (hb : Binds K fd ps []) : FnR P w K mg base CX k f sp :=
  fun A outer s H us vs Q E hr e0 r h => F.run A outer s H ⟨us, []⟩ us vs Q E hr e0 (by
    have b := hb s us (e0.mod.kin.keeps fun b o e => (e0.bs b o e).1) (by rw [List.append_nil, ← r.length]; exact F.len _ _ _ _ h)
    rwa [List.append_nil] at b) r h
/-- C.m is a staticmethod: its record at p, its def at g -/
structure SMet (K : PySem.W.Frag) (C : Addr) (mc : Value) (m : Str) (p g : Addr) : Prop where
  at_ : PySem.W.findCls K (.ref C) mc m = some (.get (.builtin "staticmethod.__get__") (.ref p) .none (.ref C))
  rc : ∃ rest, PySem.W.recIn K p "staticmethod" = some (.ref g :: rest)
  kp : PySem.W.keepIn K (.ref g) = true
def tCMethN (C : Addr) (n : Nat) (sp : Sp) (gV : List V → List V → List V) (E : XK) (ta : TE) (tk : TA) : TE := fun σ H Q => ta σ H fun x H1 => x = .ref C ∧ tk σ H1 fun zs H2 => zs.length = n ∧ sp (gV [.ref C] zs) H2 Q E
def tSMeth (C : Addr) (sp : Sp) (E : XK) (ta : TE) (t : TA) : TE := fun σ H Q => ta σ H fun x H1 => x = .ref C ∧ t σ H1 fun vs H2 => sp vs H2 Q E
def tSMethN (C : Addr) (n : Nat) (sp : Sp) (gV : List V → List V → List V) (E : XK) (ta : TE) (tk : TA) : TE := fun σ H Q => ta σ H fun x H1 => x = .ref C ∧ tk σ H1 fun zs H2 => zs.length = n ∧ sp (gV [] zs) H2 Q E
def tMakeV (C : Addr) (sp : Sp) (dvs : List V) (E : XK) (tf : TE) (t : TA) : TE := fun σ H Q => tf σ H fun c H1 => c = .ref C ∧ tMake C sp dvs E t σ H1 Q
def tMakeVK (C : Addr) (n m : Nat) (sp : Sp) (gV : List V → List V → List V) (E : XK) (tf : TE) (t tk : TA) : TE := fun σ H Q => tf σ H fun c H1 => c = .ref C ∧ tMakeK C n m sp gV E t tk σ H1 Q
section
variable {X : Cx} {CX : CXT} {k n : Nat} {C p g f : Addr} {fd : FuncData} {ps ks : List Str} {mc : Value} {sp : Sp} {E : XK} {o e : Expr} {es : List Expr} {kws : List Keyword} {m x : Str} {pos apos np : Pos} {ta tf : TE} {t tk : TA} {pl : Sem Bool} {gf : List Value → List Value → List Value} {gV : List V → List V → List V} {dvs : List V} {ds : List Value}
/-- C.m(k = v, ..), m a classmethod -/
theorem pe_cmethN (he : PE X o ta) (r : ClX.CRead X.K C mc) (c : ClX.CMet X.K C mc m p g) (F : FnOk X.prog X.w X.K X.mg X.base CX k g fd ps sp) (hr : Room k X.A) (hb : KBn X.K fd ps 1 ks gf gV) (hx : Passes CX X E) (hkw : PK X kws tk)
    (hall : (backToKw pos (keywordEach kws X.env)).all (·.1.isSome) = true := by rfl) (hks : (backToKw pos (keywordEach kws X.env)).filterMap (·.1) = ks := by rfl)
    (hpl : ((backTo pos (starEach [] X.env)).any (·.1) || (backToKw pos (keywordEach kws X.env)).any (·.1.isNone)) = false := by rfl)
    (ht : eval (.Call (.Attribute o m apos) [] kws pos) X.env = (do
      let ov ← eval o X.env
      standAt apos.atName
      let (f, first) ← holding [ov] (getMethod ov m pl)
      callWith pos f first (backTo pos (starEach [] X.env)) (backToKw pos (keywordEach kws X.env))) := by rfl) :
    PE X (.Call (.Attribute o m apos) [] kws pos) (tCMethN C ks.length sp gV E ta tk) := by
  refine ⟨fun pins s σ H Q I h => ?_⟩
  refine PySem.W.methodCall_KW (pl := pl) (thn (he.run pins s σ H _ I h) fun u s1 ⟨x, H1, I1, rx, ex, q⟩ => ?_) ht
  subst ex
  obtain rfl : u = Value.ref C := rx
  refine ClX.getmethcm_ok I1 r c fun s2 I2 => ?_
  refine PySem.W.callWith_of hpl (PySem.W.keeps_M c.fi) (evalArgs_kw2_nil hall (thn (hkw.run pos _ s2 σ H1 _ I2 q) fun ws s3 ⟨zs, H2, I3, rz, l2, q2⟩ => ⟨⟨ClX.pin_at I3, I3.kIn⟩, ?_⟩))
  rw [hks]
  refine wpAny_call (PySem.W.method_call (ClX.pin_at I3) (codeAny_mono (F.run X.A X.stack s3 H2 ⟨.ref C :: ([] ++ []), ks.zip ws⟩ (gf [.ref C] ws) (gV [.ref C] zs) Q E hr I3.env0 (hb.to s3 [.ref C] ws I3.kIn rfl (rz.length.symm.trans l2)) (hb.rel (.cons rfl .nil) rz) q2) fun res s4 z => ?_))
  cases res with
  | error err => exact hx pins σ H2 s3 err s4 (ClX.unpin I3) z
  | ok fl =>
    cases fl with
    | ret u => exact ClX.unpinE (I3.after z)
    | next => exact z.elim
    | brk => exact z.elim
    | cont => exact z.elim
/-- C.m as a value, m a staticmethod -/
theorem getmethsm_ok {pins : List (Addr × Obj)} {σ : L2.St} {H : Hp} {s : Shared} {A : Around} {Ex : Value → Shared → Prop} {Q : Value × List Value → Shared → Prop} (I : Inv X pins σ H s) (r : ClX.CRead X.K C mc) (c : SMet X.K C mc m p g) (h : ∀ s', Inv X pins σ H s' → Q (.ref g, []) s') :
    wpAny (model X.prog X.w) A (getMethod (.ref C) m pl) Q Ex s := by
  obtain ⟨rest, hp⟩ := c.rc
  refine PySem.W.method_cls I.kIn r.ga ?_
  refine PySem.W.cls_bind I.kIn r.rd c.at_ ?_
  exact wpAny_call (PySem.W.sm_get (s := { s with toks := s.toks + 1 }) I.kIn hp (PySem.W.handed_on rfl (h _ (I.tok _))))
theorem pe_smeth (he : PE X o ta) (r : ClX.CRead X.K C mc) (c : SMet X.K C mc m p g) (F : FnOk X.prog X.w X.K X.mg X.base CX k g fd ps sp) (hr : Room k X.A) (hb : Binds X.K fd ps []) (hx : Passes CX X E) (ha : PA X (e :: es) t)
    (hst : starEach (e :: es) X.env = (false, eval e X.env) :: starEach es X.env := by rfl) (hpl : (backTo pos (starEach es X.env)).any (·.1) = false := by rfl)
    (ht : eval (.Call (.Attribute o m apos) (e :: es) [] pos) X.env = (do
      let ov ← eval o X.env
      standAt apos.atName
      let (f, first) ← holding [ov] (getMethod ov m pl)
      callWith pos f first (backTo pos (starEach (e :: es) X.env)) (backToKw pos (keywordEach [] X.env))) := by rfl) :
    PE X (.Call (.Attribute o m apos) (e :: es) [] pos) (tSMeth C sp E ta t) := by
  refine ⟨fun pins s σ H Q I h => ?_⟩
  refine PySem.W.methodCall_KW (pl := pl) (thn (he.run pins s σ H _ I h) fun u s1 ⟨x, H1, I1, rx, ex, q⟩ => ?_) ht
  subst ex
  obtain rfl : u = Value.ref C := rx
  refine getmethsm_ok I1 r c fun s2 I2 => ?_
  refine PySem.W.callWith_K (h₀ := X.base) I.ok.mod.kin c.kp (thn (ha.run pos pins s2 σ H1 _ I2 q) fun us s3 ⟨vs, H2, I3, rv, q2⟩ => ⟨I3.kIn, ?_⟩) hst hpl
  exact wpAny_call (run_fnR (us := us) (fnR_of F hb) hr hx I3 rv q2)
theorem pe_smethN (he : PE X o ta) (r : ClX.CRead X.K C mc) (c : SMet X.K C mc m p g) (F : FnOk X.prog X.w X.K X.mg X.base CX k g fd ps sp) (hr : Room k X.A) (hb : KBn X.K fd ps 0 ks gf gV) (hx : Passes CX X E) (hkw : PK X kws tk)
    (hall : (backToKw pos (keywordEach kws X.env)).all (·.1.isSome) = true := by rfl) (hks : (backToKw pos (keywordEach kws X.env)).filterMap (·.1) = ks := by rfl)
    (hpl : ((backTo pos (starEach [] X.env)).any (·.1) || (backToKw pos (keywordEach kws X.env)).any (·.1.isNone)) = false := by rfl)
    (ht : eval (.Call (.Attribute o m apos) [] kws pos) X.env = (do
      let ov ← eval o X.env
      standAt apos.atName
      let (f, first) ← holding [ov] (getMethod ov m pl)
      callWith pos f first (backTo pos (starEach [] X.env)) (backToKw pos (keywordEach kws X.env))) := by rfl) :
    PE X (.Call (.Attribute o m apos) [] kws pos) (tSMethN C ks.length sp gV E ta tk) := by
  refine ⟨fun pins s σ H Q I h => ?_⟩
  refine PySem.W.methodCall_KW (pl := pl) (thn (he.run pins s σ H _ I h) fun u s1 ⟨x, H1, I1, rx, ex, q⟩ => ?_) ht
  subst ex
  obtain rfl : u = Value.ref C := rx
  refine getmethsm_ok I1 r c fun s2 I2 => ?_
  refine PySem.W.callWith_KW0 (first := []) (h₀ := X.base) I.ok.mod.kin c.kp hall ?_ hpl
  refine thn (hkw.run pos pins s2 σ H1 _ I2 q) fun ws s3 ⟨zs, H2, I3, rz, l2, q2⟩ => ⟨I3.kIn, ?_⟩
  rw [hks]
  exact run_fnN (us := []) (vs := []) F hr hb hx I3 .nil rz rfl l2 q2
/-- x(), x a name that holds the class -/
theorem pe_makeV0 (M : Mk X.K C f) (F : FnOk X.prog X.w X.K X.mg X.base CX k f fd ps sp) (hr : Room (k + 1) X.A) (hf : PE X (.Name x np) tf) (hb : Binds X.K fd ps ds) (hd : Vals dvs ds) (hx : Passes CX X E) : PE X (.Call (.Name x np) [] [] pos) (tMakeV C sp dvs E tf tNil) := by
  refine ⟨fun pins s σ H Q I h => ?_⟩
  refine wpAny_Call_Name_kw (thn (hf.run pins s σ H _ I h) fun u s1 ⟨c, H1, I1, rc, ec, q1⟩ => ?_)
  subst ec
  obtain rfl : u = Value.ref C := rc
  exact PySem.W.callWith_K0 I1.kIn M.kp (run_make (us := []) M F hr hb hd hx I1 .nil q1)
/-- x(e, .., k = v, ..) -/
theorem pe_makeVK (M : Mk X.K C f) (F : FnOk X.prog X.w X.K X.mg X.base CX k f fd ps sp) (hr : Room (k + 1) X.A) (hf : PE X (.Name x np) tf) (hb : KBn X.K fd ps (n + 1) ks gf gV) (hx : Passes CX X E) (ha : PA X (e :: es) t) (hkw : PK X kws tk)
    (hall : (backToKw pos (keywordEach kws X.env)).all (·.1.isSome) = true := by rfl) (hks : (backToKw pos (keywordEach kws X.env)).filterMap (·.1) = ks := by rfl)
    (he : starEach (e :: es) X.env = (false, eval e X.env) :: starEach es X.env := by rfl) (hpl : ((backTo pos (starEach (e :: es) X.env)).any (·.1) || (backToKw pos (keywordEach kws X.env)).any (·.1.isNone)) = false := by rfl) :
    PE X (.Call (.Name x np) (e :: es) kws pos) (tMakeVK C n ks.length sp gV E tf t tk) := by
  refine ⟨fun pins s σ H Q I h => ?_⟩
  refine wpAny_Call_Name_kw (thn (hf.run pins s σ H _ I h) fun u s1 ⟨c, H1, I1, rc, ec, q1⟩ => ?_)
  subst ec
  obtain rfl : u = Value.ref C := rc
  refine PySem.W.callWith_KW (h₀ := X.base) I.ok.mod.kin M.kp hall (thn (ha.run pos pins s1 σ H1 _ I1 q1) fun us s2 ⟨vs, H2, I2, r, q⟩ => ?_) hpl he
  refine thn (hkw.run pos pins s2 σ H2 _ I2 q) fun ws s3 ⟨zs, H3, I3, rz, l1, l2, q3⟩ => ⟨I3.kIn, ?_⟩
  rw [hks]
  exact run_makeK M F hr hb hx I3 r rz l1 l2 q3
end
end Bh

set_option Elab.async false
set_option linter.all false
set_option maxRecDepth 100000
set_option maxHeartbeats 1000000
namespace Bh
open PySem PySem.Spec PyProof.Rows L2 ClX
/-! ### a classmethod called within a try: what it raises is caught at the slots -/
theorem run_fnRS {X : Cx} {CX : CXT} {k : Nat} {f : Addr} {sp : Sp} {E : L2.St → XK} {pins : List (Addr × Obj)} {σ : L2.St} {H : Hp} {s : Shared} {Q : VK} {us : List Value} {vs : List V} (F : FnR X.prog X.w X.K X.mg X.base CX k f sp) (hr : Room k X.A) (hx : PassesAt CX X σ (E σ))
    (I : Inv X pins σ H s) (r : Vals vs us) (h : sp vs H Q (E σ)) :
    codeAny (model X.prog X.w) X.A (.call (.ref f) ⟨us, []⟩) (fun r s' => match r with | .ok (.ret v) => EP X pins σ Q v s' | .ok _ => False | .error e => X.xe e s') s := by
  refine (codeAny_mono (F X.A X.stack s H us vs Q (E σ) hr I.env0 r h) fun r s' hq => ?_)
  cases r with
  | error e => exact hx pins H s e s' I hq
  | ok fl =>
    cases fl with
    | ret u => exact I.after hq
    | next => exact False.elim hq
    | brk => exact False.elim hq
    | cont => exact False.elim hq
def tCMethS (C : Addr) (sp : Sp) (E : L2.St → XK) (ta : TE) (t : TA) : TE := fun σ H Q => ta σ H fun x H1 => x = .ref C ∧ t σ H1 fun vs H2 => sp (.ref C :: vs) H2 Q (E σ)
section
variable {X : Cx} {CX : CXT} {k : Nat} {C p g : Addr} {mc : Value} {sp : Sp} {E : L2.St → XK} {o e : Expr} {es : List Expr} {f m : Str} {pos apos : Pos} {ta : TE} {t : TA} {pl : Sem Bool}
theorem pe_cmethS (he : PE X o ta) (r : CRead X.K C mc) (c : CMet X.K C mc m p g) (F : FnR X.prog X.w X.K X.mg X.base CX k g sp) (hr : Room k X.A) (hx : ∀ σ, PassesAt CX X σ (E σ)) (ha : PA X (e :: es) t)
    (hst : starEach (e :: es) X.env = (false, eval e X.env) :: starEach es X.env := by rfl) (hpl : (backTo pos (starEach es X.env)).any (·.1) = false := by rfl)
    (ht : eval (.Call (.Attribute o m apos) (e :: es) [] pos) X.env = (do
      let ov ← eval o X.env
      standAt apos.atName
      let (f, first) ← holding [ov] (getMethod ov m pl)
      callWith pos f first (backTo pos (starEach (e :: es) X.env)) (backToKw pos (keywordEach [] X.env))) := by rfl) :
    PE X (.Call (.Attribute o m apos) (e :: es) [] pos) (tCMethS C sp E ta t) := by
  refine ⟨fun pins s σ H Q I h => ?_⟩
  refine PySem.W.methodCall_KW (pl := pl) (thn (he.run pins s σ H _ I h) fun u s1 ⟨x, H1, I1, rx, ex, q⟩ => ?_) ht
  subst ex
  obtain rfl : u = Value.ref C := rx
  refine getmethcm_ok I1 r c fun s2 I2 => ?_
  refine callwith_cm I2 (base_none I1 (Nat.le_refl _)) c.fi (thn (ha.run pos _ s2 σ H1 _ I2 q) fun us s3 ⟨vs, H2, I3, rv, q2⟩ => ⟨⟨pin_at I3, I3.kIn⟩, ?_⟩) hst hpl
  have z : wpAny (model X.prog X.w) X.A (call (.ref s1.heap.objs.size) us) (EP X ((s1.heap.objs.size, PySem.W.methodObj (.ref g) (.ref C)) :: pins) σ Q) X.xe s3 :=
    wpAny_call (PySem.W.method_call (pin_at I3) (run_fnRS (us := .ref C :: us) (vs := .ref C :: vs) F hr (hx σ) I3 (.cons rfl rv) q2))
  exact thn z fun _ _ y => unpinE y
end
end Bh

set_option Elab.async false
set_option linter.all false
set_option maxRecDepth 100000
namespace Bh
open PySem PySem.Spec PyProof.Rows L2
/-! ### an instance called; a method called by keywords alone -/
section
variable {X : Cx} {CX : CXT} {k : Nat} {C f : Addr} {fd : FuncData} {ps ks : List Str} {sp : Sp} {E : XK} {fe e o : Expr} {es : List Expr} {pos apos : Pos} {tf to : TE} {t tk : TA} {m : Str} {kws : List Keyword} {g : List Value → List Value → List Value} {gV : List V → List V → List V}
/-- x(e, ..), x an instance of C -/
def tCallI (C : Addr) (sp : Sp) (E : XK) (tf : TE) (t : TA) : TE := fun σ H Q => tf σ H fun y H1 => ∃ a, y = V.ref a ∧ t σ H1 fun vs H2 => (∃ dx fs, H2 a = some (.ins C dx fs)) ∧ sp (V.ref a :: vs) H2 Q E
theorem pe_callI (hf : PE X fe tf) (c : StX.CallO X.K C f) (F : FnOk X.prog X.w X.K X.mg X.base CX k f fd ps sp) (hr : Room k X.A) (hb : Binds X.K fd ps []) (hx : Passes CX X E) (ha : PA X (e :: es) t)
    (ht : eval (.Call fe (e :: es) [] pos) X.env = (do callWith pos (← eval fe X.env) [] (backTo pos (starEach (e :: es) X.env)) (backToKw pos (keywordEach [] X.env))) := by rfl)
    (he : starEach (e :: es) X.env = (false, eval e X.env) :: starEach es X.env := by rfl) (hpl : (backTo pos (starEach es X.env)).any (·.1) = false := by rfl) : PE X (.Call fe (e :: es) [] pos) (tCallI C sp E tf t) := by
  refine ⟨fun pins s σ H Q I h => ?_⟩
  refine Call_ (thn (hf.run pins s σ H _ I h) fun u s1 ⟨y, H1, I1, ry, a, ey, q⟩ => ?_) ht
  subst ey
  obtain rfl : u = Value.ref a := ry
  refine StX.callO_with (thn (ha.run pos pins s1 σ H1 _ I1 q) fun us s2 ⟨vs, H2, I2, r, hi, q2⟩ => ?_) he hpl
  obtain ⟨ox, od, J, hd⟩ := StX.insC_at I2 (.inr hi)
  refine ⟨⟨C, ox, od, J, hd⟩, ?_⟩
  have l := F.len _ _ _ _ q2
  have bnd := hb s2 (.ref a :: us) I2.kIn (by rw [List.append_nil, ← l, List.length_cons, List.length_cons, r.length])
  rw [List.append_nil] at bnd
  refine wpAny_call (PySem.W.kco_code I2.kIn J hd c.at_ c.fn c.fi (codeAny_mono (F.run X.A X.stack s2 H2 ⟨.ref a :: us, []⟩ (.ref a :: us) (.ref a :: vs) Q E hr I2.env0 bnd (.cons rfl r) q2) fun res s3 z => ?_))
  cases res with
  | error err => exact hx pins σ H2 s2 err s3 I2 z
  | ok fl =>
    cases fl with
    | ret u => exact I2.after z
    | next => exact z.elim
    | brk => exact z.elim
    | cont => exact z.elim
/-- o.m(k = v, ..) -/
def tMethN (C : Addr) (m : Str) (n : Nat) (sp : Sp) (gV : List V → List V → List V) (E : XK) (to : TE) (tk : TA) : TE := fun σ H Q => to σ H fun x H1 => ∃ a dx fs, x = .ref a ∧ H1 a = some (.ins C dx fs) ∧ fs.lookup m = none ∧ tk σ H1 fun zs H2 => zs.length = n ∧ sp (gV [x] zs) H2 Q E
theorem pe_methN {pl : Sem Bool} (he : PE X o to) (c : Cls X.K C) (hm : Meth X.K C m f) (F : FnOk X.prog X.w X.K X.mg X.base CX k f fd ps sp) (hr : Room k X.A) (hb : KBn X.K fd ps 1 ks g gV) (hx : Passes CX X E) (hkw : PK X kws tk)
    (hall : (backToKw pos (keywordEach kws X.env)).all (·.1.isSome) = true := by rfl) (hks : (backToKw pos (keywordEach kws X.env)).filterMap (·.1) = ks := by rfl)
    (hpl : ((backTo pos (starEach [] X.env)).any (·.1) || (backToKw pos (keywordEach kws X.env)).any (·.1.isNone)) = false := by rfl)
    (ht : eval (.Call (.Attribute o m apos) [] kws pos) X.env = (do
      let ov ← eval o X.env
      standAt apos.atName
      let (f, first) ← holding [ov] (getMethod ov m pl)
      callWith pos f first (backTo pos (starEach [] X.env)) (backToKw pos (keywordEach kws X.env))) := by rfl) :
    PE X (.Call (.Attribute o m apos) [] kws pos) (tMethN C m ks.length sp gV E to tk) := by
  refine ⟨fun pins s σ H Q I h => ?_⟩
  refine PySem.W.methodCall_KW (pl := pl) (thn (he.run pins s σ H _ I h) fun u s1 ⟨x, H1, I1, rx, a, dx, fs, ex, ea, l, q⟩ => ?_) ht
  subst ex
  obtain rfl : u = Value.ref a := rx
  refine getmeth_ok I1 ea c hm l ?_
  refine PySem.W.callWith_KW0 (first := [.ref a]) (h₀ := X.base) I.ok.mod.kin hm.kp hall ?_ hpl
  refine thn (hkw.run pos pins s1 σ H1 _ I1 q) fun ws s2 ⟨zs, H2, I2, rz, l2, q2⟩ => ⟨I2.kIn, ?_⟩
  rw [hks]
  exact run_fnN (us := [.ref a]) (vs := [.ref a]) F hr hb hx I2 (.cons rfl .nil) rz rfl l2 q2
end
end Bh

set_option Elab.async false
set_option linter.all false
set_option maxRecDepth 100000
set_option maxHeartbeats 1000000
set_option autoImplicit false
namespace Bh
open PySem PySem.Spec PyProof.Rows L2
/-- a method of the class at C -/
structure Mt (K : PySem.W.Frag) (C : Addr) (m qual : Str) (st : Stmt) (ps : List Str) : Type where
  f : Addr
  fd : FuncData
  F : Fun K m qual st f fd
  M : Meth K C m f
  b : Binds K fd ps []
/-- the class Network -/
structure NtC (K : PySem.W.Frag) (mg : Str → Option Value) : Type where
  C : Addr
  g : mg "Network" = some (.ref C)
  cl : Cls K C
  n1 : NoAttr K C "_cells"
  n2 : NoAttr K C "_ties"
  ha : PySem.W.findIn K (.ref C) "__class__" = some (some (.builtin "object.__class__"))
  hn : PySem.W.specialIn K (.builtin "object.__class__") "__get__" = some (some (.builtin "getset_descriptor.__get__"))
  ht : PySem.W.takesIn K (.builtin "object.__class__") = some true
  hm : PySem.W.mroIn K C (.type "object") = some true
  k1 : PySem.W.kitOne K (.ref C) (.ref C) = some true
  nq : PySem.W.noSeq K C = true
  t2 : PySem.W.subIn K (.type "tuple") (.ref C) = some false
  t3 : PySem.W.subIn K (.type "str") (.ref C) = some false
  kt : PySem.W.kitOne K (.type "tuple") (.ref C) = some false
  ks : PySem.W.kitOne K (.type "str") (.ref C) = some false
/-- .. with all that is called of it -/
structure NtM (K : PySem.W.Frag) (mg : Str → Option Value) (R : NtC K mg) : Type where
  fI : Addr
  fdI : FuncData
  z1 : Addr
  z2 : Addr
  e1 : ∀ H : Hp, SqT K H z1 []
  e2 : ∀ H : Hp, SqT K H z2 []
  FI : FunD K "__init__" "Network.__init__" (defArgs s_Network__init) (defBody s_Network__init) (defScope s_Network__init) [] [("cells", .ref z1), ("ties", .ref z2)] fI fdI
  mkr : Mk K R.C fI
  add_cell : Mt K R.C "add_cell" "Network.add_cell" s_Network_add_cell ["self", "name", "kind"]
  add_tie : Mt K R.C "add_tie" "Network.add_tie" s_Network_add_tie ["self", "tie", "source", "target"]
  cells : Mt K R.C "cells" "Network.cells" s_Network_cells ["self"]
  ties : Mt K R.C "ties" "Network.ties" s_Network_ties ["self"]
  getitem : Mt K R.C "__getitem__" "Network.__getitem__" s_Network__getitem ["self", "name"]
  gi : PySem.W.fnIn K getitem.f = true
  contains : Mt K R.C "__contains__" "Network.__contains__" s_Network__contains ["self", "name"]
  eq : Mt K R.C "__eq__" "Network.__eq__" s_Network__eq ["self", "other"]
  check_known : Mt K R.C "_check_known" "Network._check_known" s_Network_check_known ["self", "name"]
  text : Mt K R.C "text" "Network.text" s_Network_text ["self"]
  take : Mt K R.C "take" "Network.take" s_Network_take ["self", "line"]
  ne : NeC K R.C eq.f
  mc : Value
  rd : ClX.CRead K R.C mc
  pR : Addr
  fR : Addr
  fdR : FuncData
  FR : Fun K "read" "Network.read" s_Network_read fR fdR
  bR : Binds K fdR ["cls", "text"] []
  cR : ClX.CMet K R.C mc "read" pR fR
abbrev ntF (dc dt : Addr) : List (Str × V) := [("_cells", .ref dc), ("_ties", .ref dt)]
/-- the network x with its dicts -/
def NetA (H : Hp) (C x dc dt : Addr) (cs : List Cl) (ts : List Ti) : Prop := ∃ dx : Addr, H x = some (.ins C dx (ntF dc dt)) ∧ H dc = some (.dK (cs.map eC)) ∧ H dt = some (.dT (ts.map eT))
theorem NetA.mono {H H' : Hp} {C x dc dt : Addr} {cs : List Cl} {ts : List Ti} (s : Same H H') (h : NetA H C x dc dt cs ts) : NetA H' C x dc dt cs ts := by
  obtain ⟨dx, h0, h1, h2⟩ := h
  exact ⟨dx, s _ _ h0, s _ _ h1, s _ _ h2⟩
theorem kb_ties_cells {K : PySem.W.Frag} {mg : Str → Option Value} {R : NtC K mg} (M : NtM K mg R) : KBn K M.fdI ["self", "cells", "ties"] 1 ["ties", "cells"] (fun us ws => us ++ ws.reverse) (fun vs zs => vs ++ zs.reverse) := by
  obtain ⟨oc, od, dV, kV, doc, pm, an, cdv, ct, osl, e, lk, hcd, hD, hK⟩ := M.FI.ex
  rw [e]
  rcases hD with ⟨_, rfl⟩ | ⟨z, _⟩
  · exact ⟨fun s us ws _ l1 l2 => match us, ws, l1, l2 with
      | [_], [_, _], _, _ => .of_eq rfl, fun r1 r2 => r1.append r2.reverse⟩
  · exact absurd rfl z
theorem kb_cells_ties {K : PySem.W.Frag} {mg : Str → Option Value} {R : NtC K mg} (M : NtM K mg R) : KBn K M.fdI ["self", "cells", "ties"] 1 ["cells", "ties"] (fun us ws => us ++ ws) (fun vs zs => vs ++ zs) := by
  obtain ⟨oc, od, dV, kV, doc, pm, an, cdv, ct, osl, e, lk, hcd, hD, hK⟩ := M.FI.ex
  rw [e]
  rcases hD with ⟨_, rfl⟩ | ⟨z, _⟩
  · exact ⟨fun s us ws _ l1 l2 => match us, ws, l1, l2 with
      | [_], [_, _], _, _ => .of_eq rfl, fun r1 r2 => r1.append r2⟩
  · exact absurd rfl z
theorem kb_none {K : PySem.W.Frag} {mg : Str → Option Value} {R : NtC K mg} (M : NtM K mg R) : ∃ ds, Vals [V.ref M.z1, V.ref M.z2] ds ∧ Binds K M.fdI ["self", "cells", "ties"] ds :=
  M.FI.binds0 (n := 1) (by simp) rfl fun D doc pm an cdv ct us ks l1 l2 => match us, ks, l1, l2 with
    | [_], [_, _], _, _ => by
      refine ⟨_, _, _, _, _, _, rfl, rfl, ?_⟩
      refine ⟨_, _, _, _, _, _, rfl, rfl, ?_⟩
      exact rfl
end Bh

set_option Elab.async false
set_option linter.all false
set_option maxRecDepth 100000
set_option maxHeartbeats 2000000
set_option autoImplicit false
namespace Bh
open PySem PySem.Spec PyProof.Rows L2
/-! ### a class's own | and |=, its own == with any other thing -/
/-- x | y of two instances of the class: the answer is an object -/
def rOrIns (C : Addr) (sp : Sp) (EX : XK) : R2 := fun x y H Q => ∃ (a dx : Addr) (fs : List (Str × V)) (b dy : Addr) (gs : List (Str × V)), x = .ref a ∧ H a = some (.ins C dx fs) ∧ y = .ref b ∧ H b = some (.ins C dy gs) ∧ sp [x, y] H (fun v H' => (∃ r, v = .ref r) ∧ Q v H') EX
section
variable {X : Cx} {C f : Addr} {fd : FuncData} {k : Nat} {sp : Sp} {ps : List Str} {CX : CXT} {EX : XK}
theorem op_orIns (F : FnOk X.prog X.w X.K X.mg X.base CX k f fd ps sp) (hs : PySem.W.findIn X.K (.ref C) (PySem.dunder "or") = some (some (.ref f))) (hf : PySem.W.isFn X.K (.ref f) = true) (sf : PySem.W.selfFirst X.K C = true) (hb : Binds X.K fd ps []) (hx : Passes CX X EX) (hr : Room k X.A) :
    OpR X (binaryOp .BitOr) (rOrIns C sp EX) := by
  intro pins s σ H x y v u Q I rx ry h
  obtain ⟨a, dx, fs, b, dy, gs, rfl, ha, rfl, hB, hsp⟩ := h
  cases rx
  cases ry
  obtain ⟨mA, J, _⟩ := ins_get I.hok ha
  obtain ⟨od, J, _⟩ := J.look
  obtain ⟨mB, J', _⟩ := ins_get I.hok hB
  obtain ⟨od', J', _⟩ := J'.look
  obtain ⟨m, hF⟩ := I.fr
  refine PySem.W.binop_K (op := .BitOr) hF I.ok.mod.kin J J'.type sf hs hf (wpAny_mono (own_call F hb hx hr rfl I (vs := [.ref a, .ref b]) (us := [.ref a, .ref b]) (.cons rfl (.cons rfl .nil)) hsp) (fun w s' z => ?_) fun _ _ e => e)
  obtain ⟨vr, H', I', rv, ⟨r, rfl⟩, q⟩ := z
  cases rv
  exact ⟨.ref r, H', I', rfl, q⟩
theorem ip_orIns (F : FnOk X.prog X.w X.K X.mg X.base CX k f fd ps sp) (hs : PySem.W.findIn X.K (.ref C) (PySem.dunderI "or") = some (some (.ref f))) (hf : PySem.W.isFn X.K (.ref f) = true) (sf : PySem.W.selfFirst X.K C = true) (hb : Binds X.K fd ps []) (hx : Passes CX X EX) (hr : Room k X.A) :
    PIp X .BitOr (rOrIns C sp EX) := by
  intro pins s σ H x y v u Q I rx ry h
  obtain ⟨a, dx, fs, b, dy, gs, rfl, ha, rfl, hB, hsp⟩ := h
  cases rx
  cases ry
  obtain ⟨mA, J, _⟩ := ins_get I.hok ha
  obtain ⟨od, J, _⟩ := J.look
  obtain ⟨m, hF⟩ := I.fr
  refine PySem.W.ksp_inplace (op := .BitOr) hF I.ok.mod.kin J sf hs hf (wpAny_mono (own_call F hb hx hr rfl I (vs := [.ref a, .ref b]) (us := [.ref a, .ref b]) (.cons rfl (.cons rfl .nil)) hsp) (fun w s' z => ?_) fun _ _ e => e)
  obtain ⟨vr, H', I', rv, ⟨r, rfl⟩, q⟩ := z
  cases rv
  exact ⟨.ref r, H', I', rfl, q⟩
end
/-- x == y by the class's own __eq__; y an instance of the class, a tuple or a text -/
def rEqX (K : PySem.W.Frag) (C : Addr) (sp : Sp) : R2 := fun x y H Q => ∃ (a dx : Addr) (fs : List (Str × V)), x = .ref a ∧ H a = some (.ins C dx fs) ∧
  ((∃ (b dy : Addr) (gs : List (Str × V)), y = .ref b ∧ H b = some (.ins C dy gs)) ∨ (∃ (b : Addr) (zs : List V), y = .ref b ∧ SqT K H b zs) ∨ ∃ z, y = .str z) ∧ sp [x, y] H (fun v H' => (∃ r, v = .bl r) ∧ Q v H') C8.E0
section
variable {X : Cx} {C f : Addr} {fd : FuncData} {k : Nat} {sp : Sp} {p1 p2 : Str}
theorem op_eqX (F : FnOk X.prog X.w X.K X.mg X.base C8.CX0 k f fd [p1, p2] sp) (hs : PySem.W.findIn X.K (.ref C) "__eq__" = some (some (.ref f))) (hf : PySem.W.isFn X.K (.ref f) = true) (hb : Binds X.K fd [p1, p2] []) (hr : Room k X.A)
    (ht : PySem.W.subIn X.K (.type "tuple") (.ref C) = some false) (ht2 : PySem.W.subIn X.K (.type "str") (.ref C) = some false) : OpR X (compareOp .Eq) (rEqX X.K C sp) := by
  intro pins s σ H x y v u Q I rx ry h
  obtain ⟨a, dx, fs, rfl, ha, hy, hsp⟩ := h
  cases rx
  obtain ⟨mA, J, _⟩ := ins_get I.hok ha
  obtain ⟨od, J, _⟩ := J.look
  obtain ⟨m, hF⟩ := I.fr
  have body := own_two F hb hr rfl (E := X.xe) I (x := .ref a) (y := y) (u := .ref a) (v := u) rfl ry hsp
  show wpAny (model X.prog X.w) X.A (richCompare .Eq (.ref a) u) (EP X pins σ Q) X.xe s
  have go : ∀ tb, PySem.W.Looks (model X.prog X.w) s.heap (typeOf u) tb → PySem.W.notFirst X.K C tb = true → wpAny (model X.prog X.w) X.A (richCompare .Eq (.ref a) u) (EP X pins σ Q) X.xe s := fun tb h1 h2 => by
    refine PySem.W.cmp_K (op := .Eq) (tb := tb) hr.units0 hF I.ok.mod.kin J h1 h2 hs hf (wpAny_mono body (fun w s' z => ?_) fun _ _ e => e)
    obtain ⟨vr, H', I', rv, ⟨r, rfl⟩, q⟩ := z
    cases rv
    exact ⟨.bl r, H', I', rfl, q⟩
  rcases hy with ⟨b, dy, gs, rfl, hb'⟩ | ⟨b, zs, rfl, hz⟩ | ⟨z, rfl⟩
  · cases ry
    obtain ⟨mB, J', _⟩ := ins_get I.hok hb'
    obtain ⟨od', J', _⟩ := J'.look
    exact go _ J'.type (by simp [PySem.W.notFirst])
  · cases ry
    obtain ⟨its, _, pl, _⟩ := I.tuple hz
    obtain ⟨ob, ho, hc, _⟩ := id pl
    exact go (.type "tuple") (hc ▸ (PySem.W.Looks.ld ho).andThen .now) (by unfold PySem.W.notFirst; rw [ht]; rfl)
  · obtain ⟨t, rfl⟩ := ry
    exact go (.type "str") .now (by unfold PySem.W.notFirst; rw [ht2]; rfl)
end
/-- o.f, .. = .. : an attribute as a target -/
def gFld (K : PySem.W.Frag) (ta : TE) (f : Str) : TG := fun v σ H Q => ta σ H fun x H2 => ∃ (a C dx : Addr) (fs : List (Str × V)), x = .ref a ∧ H2 a = some (.ins C dx fs) ∧ Cls K C ∧ NoAttr K C f ∧ fs.length < 1000 ∧ Q σ (upd H2 a (.ins C dx (putF f v fs)))
theorem pg_fld_K {X : Cx} {K : PySem.W.Frag} (hK : X.K = K) {o : Expr} {f : Str} {pos : Pos} {ta : TE} (ha : PE X o ta) : PG X (.Attribute o f pos) (gFld K ta f) := by
  subst hK
  refine ⟨fun pins s σ H v u Q I r h => ?_⟩
  rw [assign_Attribute]
  refine wpAny_bind (wpAny_holding (thn (ha.run pins s σ H _ I h) fun ov s2 ⟨x, H2, I2, rx, a, C, dx, fs, ex, ea, c, n, l, q2⟩ => ?_))
  subst ex
  obtain rfl : ov = Value.ref a := rx
  refine wpAny_bind (wpAny_standAt (wpAny_bind (wpAny_holding (setattr_ok I2 ea c n l r fun s3 I3 => ?_))))
  exact wpAny_release ⟨σ, _, I3, q2⟩
/-- a statement that only leaves (a raise), while the dict at d is locked: it leaves unlocked -/
def tUnl (H0 : Hp) (t : TS) : TS := fun _ σ H => ∃ (d : Addr) (od : Obj) (u : HO), H d = some (.frz od u) ∧ (∀ o' u', H0 d ≠ some (.frz o' u')) ∧ t { nx := fun _ _ => False, rt := fun _ _ => False } σ (upd H d u)
theorem ps_unl {X : Cx} {st : Stmt} {t : TS} (h : PS X st t) : PS X st (tUnl X.H_0 t) := by
  refine ⟨fun pins s σ H D I hw => ?_⟩
  obtain ⟨d, od, u, hd, hn, hw⟩ := hw
  refine thn (h.run pins s σ _ _ (I.unlock hd hn) hw) fun f s1 q => ?_
  cases f with
  | next => obtain ⟨_, _, _, z⟩ := q; exact z.elim
  | brk => obtain ⟨_, _, _, z⟩ := q; exact z.elim
  | cont => obtain ⟨_, _, _, z⟩ := q; exact z.elim
  | ret v => obtain ⟨_, _, _, _, _, z⟩ := q; exact z.elim
/-! ### == of two dicts whose values are texts -/
theorem hits_strs {A : Around} {s : Shared} {ls : List (L2.Key × V)} {vb : List (L2.Key × Value)} (rb : KV ls vb) (sb : ∀ p ∈ ls, ∃ z, p.2 = V.str z) {ks : List (L2.Key × V)} {va : List (L2.Key × Value)} (ra : KV ks va) :
    (∀ p ∈ ks, ∃ z, p.2 = V.str z) → PySem.W.KeqHits A s vb va (ks.all fun p => decide (valV ls p.1 = some p.2)) := by
  unfold KV at ra
  induction ra with
  | nil => intro _; exact .nil
  | @cons p q ps qs h t ih =>
    intro hp
    obtain ⟨h1, h2⟩ := h
    obtain ⟨z, ez⟩ := hp p List.mem_cons_self
    obtain ⟨k, v⟩ := q
    have h1' : p.1 = k := h1
    have rr := rb.val p.1
    have ih' := ih fun p' hm => hp p' (List.mem_cons_of_mem _ hm)
    rw [List.all_cons]
    cases e : valV ls p.1 with
    | none =>
      rw [e] at rr
      have hy : valueAt vb k = none := by
        rw [← h1']
        cases ey : valueAt vb p.1 with
        | none => rfl
        | some y => rw [ey] at rr; exact rr.elim
      rw [decide_eq_false (fun z => nomatch z), Bool.false_and]
      exact .miss hy
    | some x =>
      rw [e] at rr
      obtain ⟨y, hy, ry⟩ := rr.some_of
      obtain ⟨zx, ex⟩ : ∃ zx, x = V.str zx := by
        unfold valV at e
        obtain ⟨p', hp', rfl⟩ := Option.map_eq_some_iff.mp e
        exact sb p' (List.mem_of_find?_eq_some hp')
      rw [h1'] at hy
      rw [ex] at ry
      rw [ez] at h2
      obtain ⟨t1, rfl⟩ := ry
      obtain ⟨t2, rfl⟩ : ∃ t2, v = Value.str z t2 := h2
      have eb : decide (some x = some p.2) = (z == zx) := by
        rw [ex, ez]
        by_cases c : z = zx
        · rw [c]; simp
        · rw [decide_eq_false (fun w => c (by injection w with w; injection w with w; exact w.symm))]
          exact (beq_eq_false_iff_ne.mpr c).symm
      rw [eb]
      exact .hit hy (SeqAt.EqAt.str_str z t2 zx t1) ih'
def rEqKS : R2 := fun x y H Q => ∃ (a b : Addr) (ks ls : List (L2.Key × V)), x = .ref a ∧ y = .ref b ∧ H a = some (.dK ks) ∧ H b = some (.dK ls) ∧ (∀ p ∈ ks, ∃ z, p.2 = V.str z) ∧ (∀ p ∈ ls, ∃ z, p.2 = V.str z) ∧
  Q (.bl (ks.length == ls.length && ks.all fun p => decide (valV ls p.1 = some p.2))) H
theorem op_eqKS {X : Cx} (hu : X.A.units < cLine) : OpR X (compareOp .Eq) rEqKS := by
  intro pins s σ H x y v u Q I rx ry h
  obtain ⟨a, b, ks, ls, rfl, rfl, ea, eb, sa, sb, q⟩ := h
  cases rx
  cases ry
  obtain ⟨_, ya, va, ra, da⟩ := (show ObjOk X.prog X.w H s.heap a (.dK ks) from I.hok a _ ea)
  obtain ⟨_, yb, vb, rb, db⟩ := (show ObjOk X.prog X.w H s.heap b (.dK ls) from I.hok b _ eb)
  exact PySem.W.keq_eq (knd := mixKind X.prog X.w) ya yb da db hu (fun _ => hits_strs rb sb ra sa) (fin_bl I q (by rw [Paired.length ra, Paired.length rb]))
/-- o.f, over a named K (within a comprehension's block) -/
theorem pe_fld_K {X : Cx} {K : PySem.W.Frag} (hK : X.K = K) {e : Expr} {f : Str} {pos : Pos} {ta : TE} (he : PE X e ta) (hb : attributeBase e f X.env (eval e X.env) = eval e X.env) : PE X (.Attribute e f pos) (tFld K ta f) := by
  subst hK
  exact pe_fld he hb
/-! ### steps of a reading -/
theorem gn_step {i : Nat} {v : V} {σ : L2.St} {H : Hp} {Q : L2.St → Hp → Prop} (h : Q (σ.set i (some v)) H) : gName i v σ H Q := h
theorem sq_asg {te : TE} {g : TG} {B : TS} {D : Ends} {σ : L2.St} {H : Hp} (h : te σ H fun x H1 => g x σ H1 (B D)) : tSeq (tAsg te g) B D σ H := h
theorem cons_step {ta : TE} {t : TA} {σ : L2.St} {H : Hp} {Q : List V → Hp → Prop} (h : ta σ H fun x H1 => t σ H1 fun xs H2 => Q (x :: xs) H2) : tCons ta t σ H Q := h
theorem lst_step {t : TA} {σ : L2.St} {H : Hp} {Q : VK} (h : t σ H fun xs H1 => xs.length ≤ sizeLine ∧ ∀ p, H1 p = none → Q (.ref p) (upd H1 p (.lst xs))) : tLst t σ H Q := h
theorem tup_step {t : TA} {σ : L2.St} {H : Hp} {Q : VK} (h : t σ H fun xs H1 => xs.length ≤ sizeLine ∧ ∀ p, H1 p = none → Q (.ref p) (upd H1 p (.tup xs))) : tTup t σ H Q := h
theorem pair_at {α β : Type} {F : α → β → Prop} : ∀ {xs : List α} {ys : List β}, Paired F xs ys → ∀ {i : Nat} {x : α}, xs[i]? = some x → ∃ y, ys[i]? = some y ∧ F x y
  | _, _, .nil, _, _, e => nomatch e
  | _, _, .cons h t, 0, _, e => ⟨_, rfl, by cases e; exact h⟩
  | _, _, .cons h t, i + 1, _, e => pair_at t e
end Bh

set_option Elab.async false
set_option linter.all false
set_option maxRecDepth 100000
set_option maxHeartbeats 1000000
namespace Bh
open PySem PySem.Spec PyProof.Rows L2
section
variable {P : Program} {w : World} {K : PySem.W.Frag} {mg : Str → Option Value} {base : Heap}
theorem copy_step (T : Top K mg) (n : Nat) (G_copy_of : FnOk P w K mg base CX0 n T.a_copy_of T.fd_copy_of ["value"] (spCp K n)) : FnOk P w K mg base CX0 (n + 1) T.a_copy_of T.fd_copy_of ["value"] (spCp K (n + 1)) := by
  refine T.d_copy_of.F.ok sc_copy_of (fun vs H Q E h => ?_) (fun cdv A outer s H vs Q E hr h => ?_)
  · obtain ⟨v, d, rfl, _⟩ := h
    rfl
  obtain ⟨v, d, rfl, hd, hs, q⟩ := h
  refine ⟨_, (pss_cons (ps_if (pt_val (pe_callB (call_isi_K (K := K) (by rfl)) (by rfl) T.b_isinstance (by decide +kernel) (pa_cons (pv 0) (pa_cons (pe_tyN "list" (by rfl) T.b_list (by decide +kernel)) pa_nil)))) (pss_one (ps_ret (pe_lc (own := [("item", 1)]) rfl sc_copy_of.nd (pi_seq_K (K := K) (by rfl) (pv 0)) (blkOk_by (own := [("item", 1)]) (N := ["value", "item", "key", "worth"]) (sc := defScope s_copy_of) (by decide +kernel)) (fun _ _ _ _ _ => by exact (pg_name (i := 1) sc_copy_of.nd rfl (Or.inl rfl))) (fun _ _ _ _ _ => by exact pts_nil) (fun _ _ _ _ _ => by exact (pe_call G_copy_of hr (by rfl) T.d_copy_of.g T.d_copy_of.kp T.d_copy_of.b .nil pass0 (pa_cons (pv 1) pa_nil)))))) pss_nil)
    (pss_cons (ps_if (pt_val (pe_callB (call_isi_K (K := K) (by rfl)) (by rfl) T.b_isinstance (by decide +kernel) (pa_cons (pv 0) (pa_cons (pe_tyN "tuple" (by rfl) T.b_tuple (by decide +kernel)) pa_nil)))) (pss_one (ps_ret (pe_callTy (call_tuple_of_P (K := K) (by rfl)) (by rfl) T.b_tuple (by decide +kernel) (pa_cons (pe_lc (own := [("item", 1)]) rfl sc_copy_of.nd (pi_seq_K (K := K) (by rfl) (pv 0)) (blkOk_by (own := [("item", 1)]) (N := ["value", "item", "key", "worth"]) (sc := defScope s_copy_of) (by decide +kernel)) (fun _ _ _ _ _ => by exact (pg_name (i := 1) sc_copy_of.nd rfl (Or.inl rfl))) (fun _ _ _ _ _ => by exact pts_nil) (fun _ _ _ _ _ => by exact (pe_call G_copy_of hr (by rfl) T.d_copy_of.g T.d_copy_of.kp T.d_copy_of.b .nil pass0 (pa_cons (pv 1) pa_nil)))) pa_nil)))) pss_nil)
    (pss_cons (ps_if (pt_val (pe_callB (call_isi_K (K := K) (by rfl)) (by rfl) T.b_isinstance (by decide +kernel) (pa_cons (pv 0) (pa_cons (pe_tyN "dict" (by rfl) T.b_dict (by decide +kernel)) pa_nil)))) (pss_one ps_never) pss_nil)
    (pss_one (ps_ret (pv 0)))))), ?_⟩
  cases hd with
  | non => exact ⟨_, rfl, _, _, _, _, false, rfl, .ty _, .base .non, kit_ty (by decide +kernel), _, rfl, iteF ⟨_, rfl, _, _, _, _, false, rfl, .ty _, .base .non, kit_ty (by decide +kernel), _, rfl, iteF ⟨_, rfl, _, _, _, _, false, rfl, .ty _, .base .non, kit_ty (by decide +kernel), _, rfl, iteF ⟨_, rfl, q _ _ (Same.refl _) .non⟩⟩⟩⟩
  | bl b => exact ⟨_, rfl, _, _, _, _, false, rfl, .ty _, .base (.bl b), kit_ty (by decide +kernel), _, rfl, iteF ⟨_, rfl, _, _, _, _, false, rfl, .ty _, .base (.bl b), kit_ty (by decide +kernel), _, rfl, iteF ⟨_, rfl, _, _, _, _, false, rfl, .ty _, .base (.bl b), kit_ty (by decide +kernel), _, rfl, iteF ⟨_, rfl, q _ _ (Same.refl _) (.bl b)⟩⟩⟩⟩
  | int i => exact ⟨_, rfl, _, _, _, _, false, rfl, .ty _, .base (.int i), kit_ty (by decide +kernel), _, rfl, iteF ⟨_, rfl, _, _, _, _, false, rfl, .ty _, .base (.int i), kit_ty (by decide +kernel), _, rfl, iteF ⟨_, rfl, _, _, _, _, false, rfl, .ty _, .base (.int i), kit_ty (by decide +kernel), _, rfl, iteF ⟨_, rfl, q _ _ (Same.refl _) (.int i)⟩⟩⟩⟩
  | str z => exact ⟨_, rfl, _, _, _, _, false, rfl, .ty _, .base (.str z), kit_ty (by decide +kernel), _, rfl, iteF ⟨_, rfl, _, _, _, _, false, rfl, .ty _, .base (.str z), kit_ty (by decide +kernel), _, rfl, iteF ⟨_, rfl, _, _, _, _, false, rfl, .ty _, .base (.str z), kit_ty (by decide +kernel), _, rfl, iteF ⟨_, rfl, q _ _ (Same.refl _) (.str z)⟩⟩⟩⟩
  | @lst a xs ds h1 h2 =>
    cases hs with
    | @lst m _ hl hall =>
    have lx := DpAll.length h2
    refine ⟨_, rfl, _, _, _, _, true, rfl, .ty _, tyL h1, kit_ty (by decide +kernel), _, rfl, iteT (.inl ⟨_, rfl, a, rfl, ⟨_, h1⟩, fun D nD => ?_⟩)⟩
    refine lc_it walk_list (fun i H' => ∃ ys, Same H H' ∧ H' D = some (.lst ys) ∧ DpAll K (hid D (newOf H H')) ys (ds.take i)) ⟨[], same_new nD, upd_same, .nil⟩ (fun i H' _ ⟨_, e, _⟩ => e.seq h1) ?_ ?_
    · rintro i y H' H'' hi ⟨ys, s1, hD, hY⟩ ⟨rfl, ey⟩
      obtain ⟨d, e1, e2⟩ := DpAll.get h2 ey
      refine ⟨rfl, _, rfl, y, d, rfl, Dp.mono s1 e2, hall d (List.mem_of_getElem? e1), fun H3 r s3 hr3 => ⟨ys, s3 _ _ hD, ?_, ys ++ [r], same_mut (s1.trans s3) nD, upd_same, ?_⟩⟩
      · rw [DpAll.length hY, List.length_take]
        exact lt_line (by omega)
      · rw [List.take_add_one, e1]
        exact DpAll.append (DpAll.mono (hid_newOf s3) hY) (.cons (Dp.mono (newOf_hid s1 hD) hr3) .nil)
    · rintro H' ⟨ys, s1, hD, hY⟩
      rw [lx, List.take_length] at hY
      exact q _ _ s1 (.lst (SqL.of ((newOf_at nD).trans hD)) (DpAll.mono hid_le hY))
  | @tup a xs ds h1 h2 =>
    cases hs with
    | @tup m _ hl hall =>
    have lx := DpAll.length h2
    refine ⟨_, rfl, _, _, _, _, false, rfl, .ty _, tyT h1, kit_ty (by decide +kernel), _, rfl, iteF ?_⟩
    refine ⟨_, rfl, _, _, _, _, true, rfl, .ty _, tyT h1, kit_ty (by decide +kernel), _, rfl, iteT ?_⟩
    refine .inr ⟨_, rfl, a, rfl, ⟨_, h1⟩, fun D nD => ?_⟩
    refine lc_it walk_tup (fun i H' => ∃ ys, Same H H' ∧ H' D = some (.lst ys) ∧ DpAll K (hid D (newOf H H')) ys (ds.take i)) ⟨[], same_new nD, upd_same, .nil⟩ (fun i H' _ ⟨_, e, _⟩ => Same.tup e h1) ?_ ?_
    · rintro i y H' H'' hi ⟨ys, s1, hD, hY⟩ ⟨rfl, ey⟩
      obtain ⟨d, e1, e2⟩ := DpAll.get h2 ey
      refine ⟨rfl, _, rfl, y, d, rfl, Dp.mono s1 e2, hall d (List.mem_of_getElem? e1), fun H3 r s3 hr3 => ⟨ys, s3 _ _ hD, ?_, ys ++ [r], same_mut (s1.trans s3) nD, upd_same, ?_⟩⟩
      · rw [DpAll.length hY, List.length_take]
        exact lt_line (by omega)
      · rw [List.take_add_one, e1]
        exact DpAll.append (DpAll.mono (hid_newOf s3) hY) (.cons (Dp.mono (newOf_hid s1 hD) hr3) .nil)
    · rintro H' ⟨ys, s1, hD, hY⟩
      rw [lx, List.take_length] at hY
      refine ⟨D, ys, rfl, .inl ⟨SqL.of hD, fun p o np hd => ?_⟩⟩
      have s2 := same_new (o := .frz o (.tup ys)) np
      have hp : newOf H (upd H' p (.frz o (.tup ys))) p = some (.frz o (.tup ys)) := by
        rw [newOf_at (s1.free np)]
        exact upd_same
      exact q _ _ (s1.trans s2) (.tup (.inl (.inr ⟨o, hp⟩)) (DpAll.mono (newOf_mono s2) (DpAll.mono hid_le hY)))
theorem ok_copy (T : Top K mg) : ∀ n : Nat, FnOk P w K mg base CX0 n T.a_copy_of T.fd_copy_of ["value"] (spCp K n)
  | 0 => ⟨fun _ _ _ _ h => h.elim, fun _ _ _ _ _ _ _ _ _ _ _ _ _ h => h.elim⟩
  | n + 1 => copy_step T n (ok_copy T n)
theorem in_InvalidName (T : Top K mg) (n : Nat) : FnOk P w K mg base CX0 (n + 2) T.r_InvalidName.f T.r_InvalidName.fd ["self", "given"] (spIe K T.r_InvalidName.c "InvalidName" "given" n) := by
  have G_copy_of := ok_copy (P := P) (w := w) (base := base) T (n + 1)
  refine T.r_InvalidName.F.ok sc_InvalidName__init (fun vs H Q E h => ?_) (fun cdv A outer s H vs Q E hr h => ?_)
  · obtain ⟨a, v, d, rfl, _⟩ := h
    rfl
  obtain ⟨a, v, d, rfl, ea, hd, n, q⟩ := h
  refine ⟨_, (pss_cons (ps_setG (pv 0) (pe_call G_copy_of hr (by rfl) T.d_copy_of.g T.d_copy_of.kp T.d_copy_of.b .nil pass0 (pa_cons (pv 1) pa_nil)))
    (pss_one (ps_setG (pv 0) pe_str))), ?_⟩
  refine ⟨_, rfl, v, d, rfl, hd, n, fun H3 r s3 hr3 => ⟨_, rfl, a, T.r_InvalidName.c, rfl, T.r_InvalidName.e, T.r_InvalidName.n _ (by decide), .inl ⟨s3 _ _ ea, fun dx nd ne => ?_⟩⟩⟩
  refine ⟨_, rfl, a, T.r_InvalidName.c, rfl, T.r_InvalidName.e, T.r_InvalidName.n _ (by decide), .inr ⟨dx, _, upd_same, (upd_ne ne).trans upd_same, (by show 1 ≤ 900; decide), ?_⟩⟩
  refine q dx r _ (s3.free nd) ne ?_ upd_same (ie_same s3 nd) (Dp.mono (ie_new ea s3 nd) hr3)
  rw [upd_ne ne.symm]
  exact upd_same
theorem in_InvalidNetwork (T : Top K mg) (n : Nat) : FnOk P w K mg base CX0 (n + 2) T.r_InvalidNetwork.f T.r_InvalidNetwork.fd ["self", "line"] (spIe K T.r_InvalidNetwork.c "InvalidNetwork" "line" n) := by
  have G_copy_of := ok_copy (P := P) (w := w) (base := base) T (n + 1)
  refine T.r_InvalidNetwork.F.ok sc_InvalidNetwork__init (fun vs H Q E h => ?_) (fun cdv A outer s H vs Q E hr h => ?_)
  · obtain ⟨a, v, d, rfl, _⟩ := h
    rfl
  obtain ⟨a, v, d, rfl, ea, hd, n, q⟩ := h
  refine ⟨_, (pss_cons (ps_setG (pv 0) (pe_call G_copy_of hr (by rfl) T.d_copy_of.g T.d_copy_of.kp T.d_copy_of.b .nil pass0 (pa_cons (pv 1) pa_nil)))
    (pss_one (ps_setG (pv 0) pe_str))), ?_⟩
  refine ⟨_, rfl, v, d, rfl, hd, n, fun H3 r s3 hr3 => ⟨_, rfl, a, T.r_InvalidNetwork.c, rfl, T.r_InvalidNetwork.e, T.r_InvalidNetwork.n _ (by decide), .inl ⟨s3 _ _ ea, fun dx nd ne => ?_⟩⟩⟩
  refine ⟨_, rfl, a, T.r_InvalidNetwork.c, rfl, T.r_InvalidNetwork.e, T.r_InvalidNetwork.n _ (by decide), .inr ⟨dx, _, upd_same, (upd_ne ne).trans upd_same, (by show 1 ≤ 900; decide), ?_⟩⟩
  refine q dx r _ (s3.free nd) ne ?_ upd_same (ie_same s3 nd) (Dp.mono (ie_new ea s3 nd) hr3)
  rw [upd_ne ne.symm]
  exact upd_same
theorem in_DuplicateCell (T : Top K mg) (n : Nat) : FnOk P w K mg base CX0 (n + 2) T.r_DuplicateCell.f T.r_DuplicateCell.fd ["self", "name"] (spIe K T.r_DuplicateCell.c "DuplicateCell" "name" n) := by
  have G_copy_of := ok_copy (P := P) (w := w) (base := base) T (n + 1)
  refine T.r_DuplicateCell.F.ok sc_DuplicateCell__init (fun vs H Q E h => ?_) (fun cdv A outer s H vs Q E hr h => ?_)
  · obtain ⟨a, v, d, rfl, _⟩ := h
    rfl
  obtain ⟨a, v, d, rfl, ea, hd, n, q⟩ := h
  refine ⟨_, (pss_cons (ps_setG (pv 0) (pe_call G_copy_of hr (by rfl) T.d_copy_of.g T.d_copy_of.kp T.d_copy_of.b .nil pass0 (pa_cons (pv 1) pa_nil)))
    (pss_one (ps_setG (pv 0) pe_str))), ?_⟩
  refine ⟨_, rfl, v, d, rfl, hd, n, fun H3 r s3 hr3 => ⟨_, rfl, a, T.r_DuplicateCell.c, rfl, T.r_DuplicateCell.e, T.r_DuplicateCell.n _ (by decide), .inl ⟨s3 _ _ ea, fun dx nd ne => ?_⟩⟩⟩
  refine ⟨_, rfl, a, T.r_DuplicateCell.c, rfl, T.r_DuplicateCell.e, T.r_DuplicateCell.n _ (by decide), .inr ⟨dx, _, upd_same, (upd_ne ne).trans upd_same, (by show 1 ≤ 900; decide), ?_⟩⟩
  refine q dx r _ (s3.free nd) ne ?_ upd_same (ie_same s3 nd) (Dp.mono (ie_new ea s3 nd) hr3)
  rw [upd_ne ne.symm]
  exact upd_same
theorem in_UnknownCell (T : Top K mg) (n : Nat) : FnOk P w K mg base CX0 (n + 2) T.r_UnknownCell.f T.r_UnknownCell.fd ["self", "name"] (spIe K T.r_UnknownCell.c "UnknownCell" "name" n) := by
  have G_copy_of := ok_copy (P := P) (w := w) (base := base) T (n + 1)
  refine T.r_UnknownCell.F.ok sc_UnknownCell__init (fun vs H Q E h => ?_) (fun cdv A outer s H vs Q E hr h => ?_)
  · obtain ⟨a, v, d, rfl, _⟩ := h
    rfl
  obtain ⟨a, v, d, rfl, ea, hd, n, q⟩ := h
  refine ⟨_, (pss_cons (ps_setG (pv 0) (pe_call G_copy_of hr (by rfl) T.d_copy_of.g T.d_copy_of.kp T.d_copy_of.b .nil pass0 (pa_cons (pv 1) pa_nil)))
    (pss_one (ps_setG (pv 0) pe_str))), ?_⟩
  refine ⟨_, rfl, v, d, rfl, hd, n, fun H3 r s3 hr3 => ⟨_, rfl, a, T.r_UnknownCell.c, rfl, T.r_UnknownCell.e, T.r_UnknownCell.n _ (by decide), .inl ⟨s3 _ _ ea, fun dx nd ne => ?_⟩⟩⟩
  refine ⟨_, rfl, a, T.r_UnknownCell.c, rfl, T.r_UnknownCell.e, T.r_UnknownCell.n _ (by decide), .inr ⟨dx, _, upd_same, (upd_ne ne).trans upd_same, (by show 1 ≤ 900; decide), ?_⟩⟩
  refine q dx r _ (s3.free nd) ne ?_ upd_same (ie_same s3 nd) (Dp.mono (ie_new ea s3 nd) hr3)
  rw [upd_ne ne.symm]
  exact upd_same
theorem in_DuplicateTie (T : Top K mg) (n : Nat) : FnOk P w K mg base CX0 (n + 2) T.r_DuplicateTie.f T.r_DuplicateTie.fd ["self", "tie"] (spIe K T.r_DuplicateTie.c "DuplicateTie" "tie" n) := by
  have G_copy_of := ok_copy (P := P) (w := w) (base := base) T (n + 1)
  refine T.r_DuplicateTie.F.ok sc_DuplicateTie__init (fun vs H Q E h => ?_) (fun cdv A outer s H vs Q E hr h => ?_)
  · obtain ⟨a, v, d, rfl, _⟩ := h
    rfl
  obtain ⟨a, v, d, rfl, ea, hd, n, q⟩ := h
  refine ⟨_, (pss_cons (ps_setG (pv 0) (pe_call G_copy_of hr (by rfl) T.d_copy_of.g T.d_copy_of.kp T.d_copy_of.b .nil pass0 (pa_cons (pv 1) pa_nil)))
    (pss_one (ps_setG (pv 0) pe_str))), ?_⟩
  refine ⟨_, rfl, v, d, rfl, hd, n, fun H3 r s3 hr3 => ⟨_, rfl, a, T.r_DuplicateTie.c, rfl, T.r_DuplicateTie.e, T.r_DuplicateTie.n _ (by decide), .inl ⟨s3 _ _ ea, fun dx nd ne => ?_⟩⟩⟩
  refine ⟨_, rfl, a, T.r_DuplicateTie.c, rfl, T.r_DuplicateTie.e, T.r_DuplicateTie.n _ (by decide), .inr ⟨dx, _, upd_same, (upd_ne ne).trans upd_same, (by show 1 ≤ 900; decide), ?_⟩⟩
  refine q dx r _ (s3.free nd) ne ?_ upd_same (ie_same s3 nd) (Dp.mono (ie_new ea s3 nd) hr3)
  rw [upd_ne ne.symm]
  exact upd_same
end
end Bh

set_option Elab.async false
set_option linter.all false
set_option maxRecDepth 100000
set_option maxHeartbeats 1000000
set_option autoImplicit false
namespace Bh
open PySem PySem.Spec PyProof.Rows L2
/-- a value that is no text -/
def NotStr (K : PySem.W.Frag) (H : Hp) (v : V) : Prop := ∃ t : Value, TyX K H v t ∧ PySem.W.kitOne K t (.type "str") = some false
def spHas (K : PySem.W.Frag) (C : Addr) : Sp := fun vs H Q _ => ∃ (x dc dt : Addr) (cs : List Cl) (ts : List Ti) (v : V) (b : Bool), vs = [.ref x, v] ∧ NetA H C x dc dt cs ts ∧ ((∃ n : Str, v = .str n ∧ b = decide (n ∈ cs.map (·.1))) ∨ (NotStr K H v ∧ b = false)) ∧ Q (.bl b) H
def spKnown (C : Addr) : Sp := fun vs H Q _ => ∃ (x dc dt : Addr) (cs : List Cl) (ts : List Ti) (n : Str), vs = [.ref x, .str n] ∧ NetA H C x dc dt cs ts ∧ n ∈ cs.map (·.1) ∧ Q .non H
def spCells (C : Addr) : Sp := fun vs H Q _ => ∃ (x dc dt : Addr) (cs : List Cl) (ts : List Ti), vs = [.ref x] ∧ NetA H C x dc dt cs ts ∧ ∀ p, H p = none → Q (.ref p) (upd H p (.lst (cs.map fun c => .str c.1)))
/-- a tie's own tuple -/
def TiA (H : Hp) (v : V) (t : Ti) : Prop := ∃ b : Addr, v = .ref b ∧ H b = some (.tup [.str t.1, .str t.2.1, .str t.2.2])
theorem tia_mono {H H' : Hp} (k : ∀ b xs, H b = some (.tup xs) → H' b = some (.tup xs)) {ys : List V} {ts : List Ti} (h : Paired (TiA H) ys ts) : Paired (TiA H') ys ts :=
  Paired.mapP h fun _ _ ⟨b, e, z⟩ => ⟨b, e, k _ _ z⟩
theorem tia_upd {H : Hp} {a : Addr} {o o' : HO} (h : H a = some o) (n : ∀ xs, o ≠ .tup xs) {ys : List V} {ts : List Ti} (p : Paired (TiA H) ys ts) : Paired (TiA (upd H a o')) ys ts :=
  tia_mono (fun b xs e => by
    rw [upd_ne (fun z => by rw [z, h] at e; exact n _ (Option.some.inj e))]
    exact e) p
theorem tia_dp {K : PySem.W.Frag} {H : Hp} : ∀ {ys : List V} {ts : List Ti}, Paired (TiA H) ys ts → DpAll K H ys (ts.map dTi)
  | _, _, .nil => .nil
  | _, _, .cons (b := t) ⟨b, e, z⟩ r => by
    rw [e]
    exact .cons (.tup (.inl (.inl z)) (strs_dp [t.1, t.2.1, t.2.2])) (tia_dp r)
/-- a new list of these ties -/
def spTies (C : Addr) : Sp := fun vs H Q _ => ∃ (x dc dt : Addr) (cs : List Cl) (ts : List Ti), vs = [.ref x] ∧ NetA H C x dc dt cs ts ∧ ∀ p H' ys, H p = none → Same H H' → H' p = some (.lst ys) → Paired (TiA H') ys ts → Q (.ref p) H'
def spKindAt (C : Addr) : Sp := fun vs H Q _ => ∃ (x dc dt : Addr) (cs : List Cl) (ts : List Ti) (n k : Str), vs = [.ref x, .str n] ∧ NetA H C x dc dt cs ts ∧ kindAt cs n = some k ∧ Q (.str k) H
/-- the two dicts of networks compared -/
def eqNet (cs ds : List Cl) (ts us : List Ti) : Bool := (cs.length == ds.length && cs.all fun c => decide (kindAt ds c.1 = some c.2)) && (ts.length == us.length && ts.all fun t => decide (t ∈ us))
def partNet (cs ds : List Cl) (ts us : List Ti) : Bool := (cs.all fun c => decide (kindAt ds c.1 = some c.2)) && ts.all fun t => decide (t ∈ us)
def spEq (K : PySem.W.Frag) (C : Addr) : Sp := fun vs H Q _ => ∃ (x dc dt : Addr) (cs : List Cl) (ts : List Ti) (v : V), vs = [.ref x, v] ∧ NetA H C x dc dt cs ts ∧
  ((∃ (y ec et : Addr) (ds : List Cl) (us : List Ti), v = .ref y ∧ NetA H C y ec et ds us ∧ Q (.bl (eqNet cs ds ts us)) H) ∨ (∃ (b : Addr) (zs : List V), v = .ref b ∧ SqT K H b zs ∧ Q (.bl false) H) ∨ ∃ z, v = .str z ∧ Q (.bl false) H)
theorem len_add (a b : Str) : (a ++ b).length = a.length + b.length := by
  show (a.cps ++ b.cps).size = _
  rw [Array.size_append]
  rfl
theorem int_text : ∀ n < 1001, (toString ((n : Nat) : Int) : Str).length ≤ 10 := by decide +kernel
theorem int_log : ∀ n < 1001, (((n : Nat) : Int)).natAbs.log2 < 1920 := by decide +kernel
theorem keys_tia {H : Hp} : ∀ {ts : List Ti} {bs : List Addr}, IsKeys H (ts.map eT) bs → Paired (TiA H) (bs.map V.ref) ts
  | [], _, h => by
    cases h
    exact .nil
  | t :: ts, _, h => by
    rw [List.map_cons] at h
    cases h with
    | cons a r => exact .cons ⟨_, rfl, a⟩ (keys_tia r)
theorem kind_nodup {cs : List Cl} (nd : (cs.map (·.1)).Nodup) {c : Cl} (h : c ∈ cs) : kindAt cs c.1 = some c.2 := by
  obtain ⟨k, e, m⟩ := kindAt_some (List.mem_map.mpr ⟨c, h, rfl⟩ : c.1 ∈ cs.map (·.1))
  rw [e]
  obtain ⟨i, hi⟩ := List.mem_iff_getElem?.mp h
  obtain ⟨j, hj⟩ := List.mem_iff_getElem?.mp m
  have li := (List.getElem?_eq_some_iff.mp hi).1
  have q : (cs.map (·.1))[i]? = (cs.map (·.1))[j]? := by rw [List.getElem?_map, List.getElem?_map, hi, hj]; rfl
  have eij := (List.getElem?_inj (by rw [List.length_map]; exact li) nd).mp q
  rw [eij, hj] at hi
  rw [← Option.some.inj hi]
theorem all_ties (ts : List Ti) : (ts.map eT).all (fun p => (valV (ts.map eT) p.1).isSome) = true := by
  rw [List.all_eq_true]
  intro p hp
  obtain ⟨t, ht, rfl⟩ := List.mem_map.mp hp
  show (valV (ts.map eT) (kT t)).isSome = true
  rw [ties_in, decide_eq_true ht]
section
variable {P : Program} {w : World} {K : PySem.W.Frag} {mg : Str → Option Value} {base : Heap} {R : NtC K mg}
theorem ok_mcontains (T : Top K mg) (M : NtM K mg R) : FnOk P w K mg base CX0 1 M.contains.f M.contains.fd ["self", "name"] (spHas K R.C) := by
  refine M.contains.F.ok sc_Network__contains (fun vs H Q E h => ?_) (fun cdv A outer s H vs Q E hr h => ?_)
  · obtain ⟨x, dc, dt, cs, ts, v, b, rfl, _⟩ := h
    rfl
  obtain ⟨x, dc, dt, cs, ts, v, b, rfl, ⟨dx, h0, h1, h2⟩, hv, q⟩ := h
  refine ⟨_, (pss_one (ps_ret (pe_and (pe_callB (call_isi_K (K := K) (by rfl)) (by rfl) T.b_isinstance (by decide +kernel) (pa_cons (pv 1) (pa_cons (pe_tyN "str" (by rfl) T.b_str (by decide +kernel)) pa_nil))) (pe_one (pe_cmpR (op_inD (by exact (u1 hr))) (pv 1) (pe_fld (pv 0) (by rfl)) (by rfl)))))), ?_⟩
  rcases hv with ⟨n, rfl, rfl⟩ | ⟨⟨t, ty, kt⟩, rfl⟩
  · refine ⟨_, rfl, _, _, _, _, true, rfl, .ty _, .base (.str n), kit_ty (by decide +kernel), _, rfl, ?_⟩
    refine ⟨_, rfl, _, rfl, x, R.C, dx, _, .ref dc, rfl, h0, R.cl, R.n1, rfl, inCells h1 ?_⟩
    rw [Bool.bne_false]
    exact q
  · refine ⟨_, rfl, _, _, _, _, false, rfl, .ty _, ty, kt, _, rfl, ?_⟩
    exact q
theorem ok_mknown (T : Top K mg) (M : NtM K mg R) : FnOk P w K mg base CX0 2 M.check_known.f M.check_known.fd ["self", "name"] (spKnown R.C) := by
  have G_m_contains := ok_mcontains (P := P) (w := w) (base := base) T M
  refine M.check_known.F.ok sc_Network_check_known (fun vs H Q E h => ?_) (fun cdv A outer s H vs Q E hr h => ?_)
  · obtain ⟨x, dc, dt, cs, ts, n, rfl, _⟩ := h
    rfl
  obtain ⟨x, dc, dt, cs, ts, n, rfl, ⟨dx, h0, h1, h2⟩, hn, q⟩ := h
  refine ⟨_, (pss_one (ps_if (pt_cmpR (op_notInIns G_m_contains M.contains.M.at_ M.contains.M.fn M.contains.b pass0 (hr.mono (by decide))) (pv 1) (pv 0) (by rfl)) (pss_one ps_dead) pss_nil)), ?_⟩
  refine ⟨_, rfl, _, rfl, x, dx, _, rfl, h0, x, dc, dt, cs, ts, .str n, true, rfl, ⟨dx, h0, h1, h2⟩, .inl ⟨n, rfl, (decide_eq_true hn).symm⟩, true, rfl, _, rfl, ?_⟩
  exact iteF q
theorem ok_mcells (T : Top K mg) (M : NtM K mg R) : FnOk P w K mg base CX0 1 M.cells.f M.cells.fd ["self"] (spCells R.C) := by
  refine M.cells.F.ok sc_Network_cells (fun vs H Q E h => ?_) (fun cdv A outer s H vs Q E hr h => ?_)
  · obtain ⟨x, dc, dt, cs, ts, rfl, _⟩ := h
    rfl
  obtain ⟨x, dc, dt, cs, ts, rfl, ⟨dx, h0, h1, h2⟩, q⟩ := h
  refine ⟨_, (pss_one (ps_ret (pe_callTy (call_listD rfl) (by rfl) T.b_list (by decide +kernel) (pa_cons (pe_fld (pv 0) (by rfl)) pa_nil)))), ?_⟩
  refine ⟨_, rfl, x, R.C, dx, _, .ref dc, rfl, h0, R.cl, R.n1, rfl, dc, _, rfl, .inl h1, fun p np => ?_⟩
  rw [List.map_map]
  exact q p np
theorem ok_mties (T : Top K mg) (M : NtM K mg R) : FnOk P w K mg base CX0 1 M.ties.f M.ties.fd ["self"] (spTies R.C) := by
  refine M.ties.F.ok sc_Network_ties (fun vs H Q E h => ?_) (fun cdv A outer s H vs Q E hr h => ?_)
  · obtain ⟨x, dc, dt, cs, ts, rfl, _⟩ := h
    rfl
  obtain ⟨x, dc, dt, cs, ts, rfl, ⟨dx, h0, h1, h2⟩, q⟩ := h
  refine ⟨_, (pss_one (ps_ret (pe_callTy (call_list_dT rfl) (by rfl) T.b_list (by decide +kernel) (pa_cons (pe_fld (pv 0) (by rfl)) pa_nil)))), ?_⟩
  refine ⟨_, rfl, x, R.C, dx, _, .ref dt, rfl, h0, R.cl, R.n2, rfl, dt, _, rfl, .inl h2, fun p bs np ks => ?_⟩
  exact q p _ _ np (same_new np) upd_same (keys_tia (Paired.mapP ks fun _ _ z => same_new np _ _ z))
theorem ok_mgetitem (T : Top K mg) (M : NtM K mg R) : FnOk P w K mg base CX0 3 M.getitem.f M.getitem.fd ["self", "name"] (spKindAt R.C) := by
  have G_m_check_known := ok_mknown (P := P) (w := w) (base := base) T M
  refine M.getitem.F.ok sc_Network__getitem (fun vs H Q E h => ?_) (fun cdv A outer s H vs Q E hr h => ?_)
  · obtain ⟨x, dc, dt, cs, ts, n, k, rfl, _⟩ := h
    rfl
  obtain ⟨x, dc, dt, cs, ts, n, k, rfl, ⟨dx, h0, h1, h2⟩, hk, q⟩ := h
  refine ⟨_, (pss_cons (ps_expr (pe_meth (pv 0) R.cl M.check_known.M G_m_check_known (hr.mono (by decide)) M.check_known.b .nil pass0 (pa_cons (pv 1) pa_nil)))
    (pss_one (ps_ret (pe_dget (u1 hr) (pe_fld (pv 0) (by rfl)) (pv 1) (fun _ _ => rfl))))), ?_⟩
  have mn : n ∈ cs.map (·.1) := by
    have z := kindAt_isSome (n := n) (cs := cs)
    rw [hk] at z
    exact of_decide_eq_true z.symm
  refine ⟨_, rfl, x, dx, _, rfl, h0, rfl, _, rfl, x, dc, dt, cs, ts, n, rfl, ⟨dx, h0, h1, h2⟩, mn, ?_⟩
  refine ⟨_, rfl, x, R.C, dx, _, .ref dc, rfl, h0, R.cl, R.n1, rfl, _, rfl, dc, .str k, rfl, ?_, q⟩
  have z := DGet.k (k := .inr n) h1
  rw [val_cells, hk] at z
  exact z
theorem cells_eq (cs ds : List Cl) : ((cs.map eC).all fun p => decide (valV (ds.map eC) p.1 = some p.2)) = cs.all fun c => decide (kindAt ds c.1 = some c.2) := by
  rw [List.all_map]
  congr 1
  funext c
  show decide (valV (ds.map eC) (.inr c.1) = some (.str c.2)) = decide (kindAt ds c.1 = some c.2)
  rw [val_cells]
  congr 1
  cases kindAt ds c.1 with
  | none => simp
  | some k => simp
theorem ties_eq (ts us : List Ti) : ((ts.map eT).all fun p => (valV (us.map eT) p.1).isSome) = ts.all fun t => decide (t ∈ us) := by
  rw [List.all_map]
  congr 1
  funext t
  exact ties_in
theorem ok_meq (T : Top K mg) (M : NtM K mg R) : FnOk P w K mg base CX0 1 M.eq.f M.eq.fd ["self", "other"] (spEq K R.C) := by
  refine M.eq.F.ok sc_Network__eq (fun vs H Q E h => ?_) (fun cdv A outer s H vs Q E hr h => ?_)
  · obtain ⟨x, dc, dt, cs, ts, v, rfl, _⟩ := h
    rfl
  obtain ⟨x, dc, dt, cs, ts, v, rfl, ⟨dx, h0, h1, h2⟩, hv⟩ := h
  refine ⟨_, (pss_cons (ps_if (pt_not (pt_val (pe_callB (call_isi_K (K := K) (by rfl)) (by rfl) T.b_isinstance (by decide +kernel) (pa_cons (pv 1) (pa_cons (pe_glob (v := .ref R.C) rfl R.g rfl) pa_nil))))) (pss_one (ps_ret pe_bl)) pss_nil)
    (pss_one (ps_ret (pe_and (pe_cmpR (op_eqKS (Nat.lt_of_succ_lt (u1 hr))) (pe_fld (pv 0) (by rfl)) (pe_fld (pv 1) (by rfl)) (nomark _)) (pe_one (pe_cmpR (op_eqT (u1 hr)) (pe_fld (pv 0) (by rfl)) (pe_fld (pv 1) (by rfl)) (nomark _))))))), ?_⟩
  rcases hv with ⟨y, ec, et, ds, us, rfl, ⟨dy, g0, g1, g2⟩, q⟩ | ⟨b, zs, rfl, hz, q⟩ | ⟨z, rfl, q⟩
  · refine ⟨_, rfl, _, _, _, _, true, rfl, .own _, .base (.ins g0 R.cl R.ha R.hn R.ht R.hm), R.k1, _, rfl, iteF ?_⟩
    refine ⟨_, rfl, x, R.C, dx, _, .ref dc, rfl, h0, R.cl, R.n1, rfl, _, rfl, y, R.C, dy, _, .ref ec, rfl, g0, R.cl, R.n1, rfl, dc, ec, _, _, rfl, rfl, h1, g1, ?_, ?_, ?_⟩
    · intro p hp
      obtain ⟨c, _, rfl⟩ := List.mem_map.mp hp
      exact ⟨_, rfl⟩
    · intro p hp
      obtain ⟨c, _, rfl⟩ := List.mem_map.mp hp
      exact ⟨_, rfl⟩
    rw [cells_eq, List.length_map, List.length_map]
    unfold eqNet at q
    refine ⟨_, rfl, iteB (fun c => ?_) (fun c => ?_)⟩
    · rw [c, Bool.true_and] at q
      refine ⟨_, rfl, x, R.C, dx, _, .ref dt, rfl, h0, R.cl, R.n2, rfl, _, rfl, y, R.C, dy, _, .ref et, rfl, g0, R.cl, R.n2, rfl, dt, et, _, _, rfl, rfl, h2, g2, ?_, ?_, ?_⟩
      · intro p hp
        obtain ⟨c, hc, rfl⟩ := List.mem_map.mp hp
        rfl
      · intro p hp
        obtain ⟨c, hc, rfl⟩ := List.mem_map.mp hp
        rfl
      · rw [ties_eq, List.length_map, List.length_map]
        exact q
    · rw [c, Bool.false_and] at q
      exact q
  · exact ⟨_, rfl, _, _, _, _, false, rfl, .own _, tyT hz, R.kt, _, rfl, iteT q⟩
  · exact ⟨_, rfl, _, _, _, _, false, rfl, .own _, .base (.str z), R.ks, _, rfl, iteT q⟩
end
end Bh

set_option Elab.async false
set_option linter.all false
set_option maxRecDepth 100000
set_option maxHeartbeats 1000000
set_option autoImplicit false
namespace Bh
open PySem PySem.Spec PyProof.Rows L2
/-- all but these three -/
def h3 (x d e : Addr) (H : Hp) : Hp := fun a => if a = x ∨ a = d ∨ a = e then none else H a
theorem h3_le {x d e : Addr} {H : Hp} : Same (h3 x d e H) H := fun a o k => by
  unfold h3 at k
  split at k
  · cases k
  · exact k
theorem h3_ne {x d e a : Addr} {H : Hp} (n1 : a ≠ x) (n2 : a ≠ d) (n3 : a ≠ e) : h3 x d e H a = H a := if_neg (by rintro (z | z | z); exact n1 z; exact n2 z; exact n3 z)
theorem h3_some {x d e a : Addr} {H : Hp} {o : HO} (k : h3 x d e H a = some o) : a ≠ x ∧ a ≠ d ∧ a ≠ e ∧ H a = some o := by
  unfold h3 at k
  split at k
  · cases k
  · rename_i n
    exact ⟨fun z => n (.inl z), fun z => n (.inr (.inl z)), fun z => n (.inr (.inr z)), k⟩
theorem h3_upd {x d e a : Addr} {H H' : Hp} {o : HO} (s : Same (h3 x d e H) H') (h : a = x ∨ a = d ∨ a = e ∨ H a = none) : Same (h3 x d e H) (upd H' a o) := fun b u k => by
  obtain ⟨n1, n2, n3, kb⟩ := h3_some k
  rw [upd_ne (fun z => by
    rcases h with h | h | h | h
    · exact n1 (z.trans h)
    · exact n2 (z.trans h)
    · exact n3 (z.trans h)
    · rw [z, h] at kb; cases kb)]
  exact s _ _ k
theorem NetA.ne {H : Hp} {C x dc dt : Addr} {cs : List Cl} {ts : List Ti} (h : NetA H C x dc dt cs ts) : dc ≠ x ∧ dt ≠ x ∧ dt ≠ dc := by
  obtain ⟨dx, h0, h1, h2⟩ := h
  refine ⟨fun z => ?_, fun z => ?_, fun z => ?_⟩
  · rw [z, h0] at h1; cases h1
  · rw [z, h0] at h2; cases h2
  · rw [z, h1] at h2; cases h2
theorem NetA.putC {H : Hp} {C x dc dt : Addr} {cs cs' : List Cl} {ts : List Ti} (h : NetA H C x dc dt cs ts) : NetA (upd H dc (.dK (cs'.map eC))) C x dc dt cs' ts := by
  obtain ⟨n1, n2, n3⟩ := h.ne
  obtain ⟨dx, h0, h1, h2⟩ := h
  exact ⟨dx, by rw [upd_ne (Ne.symm n1)]; exact h0, upd_same, by rw [upd_ne n3]; exact h2⟩
theorem NetA.putT {H : Hp} {C x dc dt : Addr} {cs : List Cl} {ts ts' : List Ti} (h : NetA H C x dc dt cs ts) : NetA (upd H dt (.dT (ts'.map eT))) C x dc dt cs ts' := by
  obtain ⟨n1, n2, n3⟩ := h.ne
  obtain ⟨dx, h0, h1, h2⟩ := h
  exact ⟨dx, by rw [upd_ne (Ne.symm n2)]; exact h0, by rw [upd_ne (Ne.symm n3)]; exact h1, upd_same⟩
/-- the network is now this one, all else stays -/
def NetTo (H : Hp) (C x dc dt : Addr) (cs : List Cl) (ts : List Ti) (Q : Hp → Prop) : Prop := ∀ (H' : Hp) (dt' : Addr), (dt' = dt ∨ H dt' = none) → Same (h3 x dc dt H) H' → NetA H' C x dc dt' cs ts → Q H'
def spAddCell (C : Addr) : Sp := fun vs H Q _ => ∃ (x dc dt : Addr) (cs : List Cl) (ts : List Ti) (n k : Str), vs = [.ref x, .str n, .str k] ∧ NetA H C x dc dt cs ts ∧ NmOk n ∧ KdOk k ∧ n ∉ cs.map (·.1) ∧ cs.length < 1000 ∧ NetTo H C x dc dt (cs ++ [(n, k)]) ts fun H' => Q .non H'
def spAddTie (C : Addr) : Sp := fun vs H Q _ => ∃ (x dc dt : Addr) (cs : List Cl) (ts : List Ti) (t : Ti), vs = [.ref x, .str t.1, .str t.2.1, .str t.2.2] ∧ NetA H C x dc dt cs ts ∧ NmOk t.1 ∧ t.2.1 ∈ cs.map (·.1) ∧ t.2.2 ∈ cs.map (·.1) ∧ t ∉ ts ∧ ts.length < 1000 ∧ NetTo H C x dc dt cs (ts ++ [t]) fun H' => Q .non H'
def spNetInit (K : PySem.W.Frag) (C : Addr) : Sp := fun vs H Q _ => ∃ (x dx : Addr) (v1 v2 : V) (cs : List Cl) (ts : List Ti), vs = [.ref x, v1, v2] ∧ H x = some (.ins C dx []) ∧ DpS K (hid x H) v1 (cs.map dCell) ∧ DpS K (hid x H) v2 (ts.map dTi) ∧ CsOk cs ∧ TsOk cs ts ∧
  ∀ (H' : Hp) (dc dt : Addr), H dc = none → H dt = none → Same (hid x H) H' → NetA H' C x dc dt cs ts → Q .non H'
theorem hid_in {x a : Addr} {H : Hp} {o : HO} (k : hid x H a = some o) : a ≠ x ∧ H a = some o := by
  unfold hid at k
  split at k
  · cases k
  · rename_i n
    exact ⟨n, k⟩
theorem hid_put {x : Addr} {H H' : Hp} {o : HO} (s : Same (hid x H) H') : Same (hid x H) (upd H' x o) := fun a u k => by
  rw [upd_ne (hid_in k).1]
  exact s _ _ k
/-- a locked thing is let go -/
theorem thaw {d D : Addr} {H H' : Hp} {u o : HO} (h : H d = some u) (s : Same (upd H d o) H') : Same H (upd H' d u) := fun a v e => by
  by_cases z : a = d
  · rw [z, h] at e
    rw [z, upd_same]
    exact e
  · rw [upd_ne z]
    exact s _ _ (by rw [upd_ne z]; exact e)
theorem str_dec (a b : Str) : decide (V.str a = V.str b) = decide (a = b) := by
  by_cases h : a = b
  · rw [decide_eq_true h, decide_eq_true (by rw [h])]
  · rw [decide_eq_false h, decide_eq_false (fun z => h (by injection z))]
theorem tie_at {ts : List Ti} {i : Nat} {k : List L2.Key} {v : V} (e : (ts.map eT)[i]? = some (k, v)) : ∃ t, ts[i]? = some t ∧ k = kT t := by
  rw [List.getElem?_map] at e
  obtain ⟨t, ht, e⟩ := Option.map_eq_some_iff.mp e
  exact ⟨t, ht, congrArg Prod.fst e.symm⟩
theorem filter_next {α : Type} {xs : List α} {i : Nat} {x : α} (p : α → Bool) (e : xs[i]? = some x) : (xs.take (i + 1)).filter p = if p x = true then (xs.take i).filter p ++ [x] else (xs.take i).filter p := by
  rw [take_next e, List.filter_append, List.filter_cons]
  split
  · rfl
  · rw [List.filter_nil, List.append_nil]
section
variable {P : Program} {w : World} {K : PySem.W.Frag} {mg : Str → Option Value} {base : Heap} {R : NtC K mg}
theorem ok_maddcell (T : Top K mg) (M : NtM K mg R) : FnOk P w K mg base CX0 5 M.add_cell.f M.add_cell.fd ["self", "name", "kind"] (spAddCell R.C) := by
  have G_check_cell := ok_chkcell (P := P) (w := w) (base := base) T
  refine M.add_cell.F.ok sc_Network_add_cell (fun vs H Q E h => ?_) (fun cdv A outer s H vs Q E hr h => ?_)
  · obtain ⟨x, dc, dt, cs, ts, n, k, rfl, _⟩ := h
    rfl
  obtain ⟨x, dc, dt, cs, ts, n, k, rfl, na, hn, hk, nin, few, q⟩ := h
  obtain ⟨dx, h0, h1, h2⟩ := id na
  refine ⟨_, (pss_cons (ps_expr (pe_call G_check_cell (hr.mono (by decide)) (by rfl) T.d_check_cell.g T.d_check_cell.kp T.d_check_cell.b .nil pass0 (pa_cons (pe_fld (pv 0) (by rfl)) (pa_cons (pv 1) (pa_cons (pv 2) pa_nil)))))
    (pss_one (ps_dput (u1 hr) (pe_fld (pv 0) (by rfl)) (pv 1) (pv 2) rfl))), ?_⟩
  refine ⟨_, rfl, x, R.C, dx, _, .ref dc, rfl, h0, R.cl, R.n1, rfl, _, rfl, _, rfl, dc, cs, n, k, rfl, h1, hn, hk, nin, fun H1 s1 => ?_⟩
  refine ⟨_, rfl, _, rfl, x, R.C, dx, _, .ref dc, rfl, s1 _ _ h0, R.cl, R.n1, rfl, _, rfl, dc, _, rfl, DPut.k (k := .inr n) (s1 _ _ h1) (by rw [List.length_map]; exact lt_line (by omega)), ?_⟩
  rw [put_cell nin]
  exact q _ dt (.inl rfl) (h3_upd (fun a o e => s1 _ _ (h3_le _ _ e)) (.inr (.inl rfl))) (na.mono s1).putC
theorem ok_maddtie (T : Top K mg) (M : NtM K mg R) : FnOk P w K mg base CX0 5 M.add_tie.f M.add_tie.fd ["self", "tie", "source", "target"] (spAddTie R.C) := by
  have G_check_tie := ok_chktie (P := P) (w := w) (base := base) T
  refine M.add_tie.F.ok sc_Network_add_tie (fun vs H Q E h => ?_) (fun cdv A outer s H vs Q E hr h => ?_)
  · obtain ⟨x, dc, dt, cs, ts, t, rfl, _⟩ := h
    rfl
  obtain ⟨x, dc, dt, cs, ts, ⟨t1, t2, t3⟩, rfl, na, hn, m1, m2, nin, few, q⟩ := h
  obtain ⟨dx, h0, h1, h2⟩ := id na
  refine ⟨_, (pss_cons (ps_expr (pe_call G_check_tie (hr.mono (by decide)) (by rfl) T.d_check_tie.g T.d_check_tie.kp T.d_check_tie.b .nil pass0 (pa_cons (pe_fld (pv 0) (by rfl)) (pa_cons (pe_fld (pv 0) (by rfl)) (pa_cons (pv 1) (pa_cons (pv 2) (pa_cons (pv 3) pa_nil)))))))
    (pss_one (ps_dput (u1 hr) (pe_fld (pv 0) (by rfl)) (pe_tup (pa_cons (pv 1) (pa_cons (pv 2) (pa_cons (pv 3) pa_nil)))) pe_bl rfl))), ?_⟩
  refine ⟨_, rfl, x, R.C, dx, _, .ref dc, rfl, h0, R.cl, R.n1, rfl, _, rfl, x, R.C, dx, _, .ref dt, rfl, h0, R.cl, R.n2, rfl, _, rfl, _, rfl, _, rfl, dc, dt, cs, ts, (t1, t2, t3), rfl, h1, h2, hn, m1, m2, nin, fun H1 s1 => ?_⟩
  refine ⟨_, rfl, x, R.C, dx, _, .ref dt, rfl, s1 _ _ h0, R.cl, R.n2, rfl, _, rfl, _, rfl, _, rfl, (by show 3 ≤ sizeLine; decide), fun p np => ?_⟩
  have s2 := s1.trans (same_new (o := .tup [.str t1, .str t2, .str t3]) np)
  refine ⟨dt, _, rfl, DPut.t (k := kT (t1, t2, t3)) (s2 _ _ h2) upd_same (by rw [List.length_map]; exact lt_line (by omega)), ?_⟩
  rw [put_tie nin]
  exact q _ dt (.inl rfl) (h3_upd (fun a o e => s2 _ _ (h3_le _ _ e)) (.inr (.inr (.inl rfl)))) (na.mono s2).putT
theorem ok_mnetinit (T : Top K mg) (M : NtM K mg R) : FnOk P w K mg base CX0 6 M.fI M.fdI ["self", "cells", "ties"] (spNetInit K R.C) := by
  have G_kinds_of := ok_kindsof (P := P) (w := w) (base := base) T
  have G_ties_between := ok_tiesbetween (P := P) (w := w) (base := base) T
  refine M.FI.ok sc_Network__init (fun vs H Q E h => ?_) (fun cdv A outer s H vs Q E hr h => ?_)
  · obtain ⟨x, dx, v1, v2, cs, ts, rfl, _⟩ := h
    rfl
  obtain ⟨x, dx, v1, v2, cs, ts, rfl, h0, d1, d2, okc, okt, q⟩ := h
  refine ⟨_, (pss_cons (ps_fld (pv 0) (pe_call G_kinds_of (hr.mono (by decide)) (by rfl) T.d_kinds_of.g T.d_kinds_of.kp T.d_kinds_of.b .nil pass0 (pa_cons (pv 1) pa_nil)) (by rfl))
    (pss_one (ps_fld (pv 0) (pe_call G_ties_between (hr.mono (by decide)) (by rfl) T.d_ties_between.g T.d_ties_between.kp T.d_ties_between.b .nil pass0 (pa_cons (pe_fld (pv 0) (by rfl)) (pa_cons (pv 2) pa_nil))) (by rfl)))), ?_⟩
  refine ⟨_, rfl, v1, cs, rfl, d1.mono hid_le, okc, fun dc H1 nc s1 hc => ?_⟩
  have h0' := s1 _ _ h0
  have ndc : dc ≠ x := fun z => by rw [z, h0] at nc; cases nc
  refine ⟨_, rfl, x, R.C, dx, _, rfl, h0', R.cl, R.n1, by decide, ?_⟩
  have s2 : Same (hid x H) (upd H1 x (.ins R.C dx (putF "_cells" (.ref dc) []))) := hid_put fun a u k => s1 _ _ (hid_in k).2
  refine ⟨_, rfl, x, R.C, dx, _, .ref dc, rfl, upd_same, R.cl, R.n1, rfl, _, rfl, dc, v2, cs, ts, rfl, by rw [upd_ne ndc]; exact hc, d2.mono s2, okt, fun dt H2 nt s3 ht => ?_⟩
  have hx2 := s3 _ _ upd_same
  have ndt : dt ≠ x := fun z => by rw [z, upd_same] at nt; cases nt
  have nt1 : H1 dt = none := by rw [upd_ne ndt] at nt; exact nt
  have ntH : H dt = none := s1.free nt1
  refine ⟨_, rfl, x, R.C, dx, _, rfl, hx2, R.cl, R.n2, (by show 1 < 1000; decide), ?_⟩
  refine q _ dc dt nc ntH (hid_put (s2.trans s3)) ⟨dx, upd_same, ?_, ?_⟩
  · rw [upd_ne ndc]
    exact s3 _ _ (by rw [upd_ne ndc]; exact hc)
  · rw [upd_ne ndt]
    exact ht
end
end Bh

set_option Elab.async false
set_option linter.all false
set_option maxRecDepth 100000
namespace Bh
open PySem PySem.Spec PyProof.Rows L2
/-! ### ends of the law of programs -/
theorem at_last {α : Type} {xs : List α} {v : α} (h : xs.getLast? = some v) : atI xs (-1) = some v := by
  cases xs with
  | nil => cases h
  | cons x r =>
    have e : (x :: r).getLast? = (x :: r)[(x :: r).length - 1]? := List.getLast?_eq_getElem?
    unfold atI ixN
    rw [if_neg (by decide), if_pos (by rw [List.length_cons]; omega)]
    show (x :: r)[(-1 + ((x :: r).length : Int)).toNat]? = some v
    rw [show (-1 + ((x :: r).length : Int)).toNat = (x :: r).length - 1 by rw [List.length_cons]; omega, ← e]
    exact h
theorem vals_first : ∀ (fs : List Fld) (acc : List (List Str)) (h : List Str), acc[0]? = some h → (∀ f ∈ fs, f.2 ≠ []) → ∃ t : List Str, (fs.foldl ext1 acc)[0]? = some (h ++ t) ∧ ∀ f r, fs = f :: r → t[0]? = f.2[0]?
  | [], acc, h, h0, _ => ⟨[], by rw [List.append_nil]; exact h0, fun f r e => by cases e⟩
  | f :: r, acc, h, h0, hn => by
    cases ho : f.2 with
    | nil => exact absurd ho (hn f (List.mem_cons_self ..))
    | cons o os =>
      cases acc with
      | nil => cases h0
      | cons a as =>
        have eh : a = h := Option.some.inj h0
        subst eh
        have e1 : (ext1 (a :: as) f)[0]? = some (a ++ [o]) := by
          unfold ext1
          rw [List.flatMap_cons, ho]
          rfl
        obtain ⟨t, e2, _⟩ := vals_first r (ext1 (a :: as) f) (a ++ [o]) e1 (fun g hg => hn g (List.mem_cons_of_mem _ hg))
        refine ⟨o :: t, ?_, fun g r' e => ?_⟩
        · show (r.foldl ext1 (ext1 (a :: as) f))[0]? = _
          rw [e2, List.append_assoc]
          rfl
        · cases e
          rw [ho]
          rfl
theorem vals_zero {f : Fld} {r : List Fld} (hn : ∀ g ∈ f :: r, g.2 ≠ []) : ∃ v : List Str, (vals (f :: r))[0]? = some v ∧ v[0]? = f.2[0]? := by
  obtain ⟨t, e1, e2⟩ := vals_first (f :: r) [[]] [] rfl hn
  exact ⟨t, e1, e2 f r rfl⟩
theorem plus_steps {f : Fld} {r : List Fld} (nd : f.2.Nodup) : ∀ (m k : Nat) (v : List Str) (o : Str), v[0]? = some o → f.2[k]? = some o → (stepped (f :: r) (List.replicate m ((f.1, "+") : Stp)) v)[0]? = f.2[min (k + m) (f.2.length - 1)]?
  | 0, k, v, o, hv, hk => by
    have hl := (List.getElem?_eq_some_iff.mp hk).1
    show v[0]? = _
    rw [hv, Nat.add_zero, show min k (f.2.length - 1) = k by omega, hk]
  | m + 1, k, v, o, hv, hk => by
    have hl := (List.getElem?_eq_some_iff.mp hk).1
    have hp : posOf (f :: r) f.1 = 0 := by
      show ix (f.1 :: r.map (·.1)) f.1 = 0
      unfold ix
      rw [if_pos rfl]
    have ho : optsOf (f :: r) f.1 = f.2 := by
      unfold optsOf
      rw [hp]
      rfl
    have hlv : 0 < v.length := (List.getElem?_eq_some_iff.mp hv).1
    have hk2 : f.2[min (k + 1) (f.2.length - 1)]? = some (nextO f.2 o) := by
      have q := (next_mem (List.mem_of_getElem? hk)).1
      rw [ix_at nd hk] at q
      exact q
    have hv2 : (stepO (f :: r) v ((f.1, "+") : Stp))[0]? = some (nextO f.2 o) := by
      unfold stepO
      show (v.set (posOf (f :: r) f.1) _)[0]? = _
      rw [hp, List.getElem?_set_self hlv, if_pos rfl, ho, List.getD_eq_getElem?_getD, hv]
      rfl
    rw [List.replicate_succ]
    show (stepped (f :: r) (List.replicate m ((f.1, "+") : Stp)) (stepO (f :: r) v ((f.1, "+") : Stp)))[0]? = _
    rw [plus_steps nd m _ _ _ hv2 hk2]
    congr 1
    omega
def perm3 {α : Type} : List α → List α
  | [a, b, c] => [a, c, b]
  | _ => []
theorem perm3_rel {vs : List V} {us : List Value} (h : Vals vs us) : Vals (perm3 vs) (perm3 us) := by
  cases h with
  | nil => exact .nil
  | cons a h =>
    cases h with
    | nil => exact .nil
    | cons b h =>
      cases h with
      | nil => exact .nil
      | cons c h =>
        cases h with
        | nil => exact .cons a (.cons c (.cons b .nil))
        | cons d h => exact .nil
theorem Sh.strs (n : Nat) (zs : List Str) (h : zs.length ≤ 100000) : Sh (n + 1) (.tuple (zs.map PyData.str)) :=
  .tup (by rw [List.length_map]; exact h) fun d hd => by
    obtain ⟨z, _, rfl⟩ := List.mem_map.mp hd
    exact .str
end Bh

set_option Elab.async false
set_option linter.all false
set_option maxRecDepth 100000
set_option maxHeartbeats 1000000
namespace Bh
open PySem PySem.Spec PyProof.Rows L2
theorem wordsOf_nodup4 {z : Str} {k : Nat} {s : Int} {n : Nat} (h : k ≤ z.length) (hn : n ≤ 8) : (wordsOf z k s n).Nodup := by
  unfold wordsOf
  refine List.pairwise_map.mpr ((List.pairwise_lt_range (n := n)).imp_of_mem fun {a b} ha hb hab e => ?_)
  have h2 := List.mem_range.mp hb
  have q := wordK_inj h e
  omega
/-- the fields of a drawn book, of any room -/
def spFields4 (K : PySem.W.Frag) : Sp := fun vs H Q _ => ∃ (b l : Addr) (G : Hp), vs = [.ref b, .int 4] ∧ Wd b l G H ∧
  ∀ (G' H' : Hp) (p : Addr) (xs : List V) (fs : List Fld), Same G G' → Wd b l G' H' → G' p = some (.lst xs) → Paired (FdAt K G') xs fs → FsOk fs → Q (.ref p) H'
def spWords5 : Sp := fun vs H Q _ => ∃ (b l : Addr) (G : Hp) (n : Int), vs = [.ref b, .int n] ∧ 0 ≤ n ∧ n ≤ 8 ∧ Wd b l G H ∧
  ∀ (G' H' : Hp) (p : Addr) (ws : List Str), Same G G' → Wd b l G' H' → G' p = some (.lst (ws.map V.str)) → ws.length = n.toNat → ws.Nodup → (∀ w ∈ ws, IsNm w) → Q (.ref p) H'
section
variable {P : Program} {w : World} {K : PySem.W.Frag} {mg : Str → Option Value} {base : Heap}
theorem ok_any (T : Top K mg) : FnOk P w K mg base CX0 2 T.a_l_any T.fd_l_any ["_law_bag_here", "_law_row"] (spAny K) := by
  have G_l_draw := ok_draw (P := P) (w := w) (base := base) T
  refine T.d_l_any.F.ok sc_l_any (fun vs H Q E h => ?_) (fun cdv A outer s H vs Q E hr h => ?_)
  · obtain ⟨b, l, a, G, xs, rfl, _⟩ := h
    rfl
  obtain ⟨b, l, a, G, xs, rfl, hS, ne, hl, wd, q⟩ := h
  refine ⟨_, (pss_one (ps_ret (pe_ix (ix_seq_K (K := K) (by rfl)) (pv 1) (pe_call G_l_draw (hr.mono (by decide)) (by rfl) T.d_l_draw.g T.d_l_draw.kp T.d_l_draw.b .nil pass0 (pa_cons (pv 0) (pa_cons (pe_callB (call_len_seq_K (K := K) (by rfl)) (by rfl) T.b_len PySem.boot_len (pa_cons (pv 1) pa_nil)) pa_nil))) (fun _ _ => rfl)))), ?_⟩
  have hp : 0 < xs.length := List.length_pos_iff.mpr ne
  refine ⟨_, rfl, _, rfl, _, rfl, a, xs, rfl, seq_mono wd.sm hS, b, l, G, _, rfl, by omega, by omega, wd, fun r H1 r0 r1 w1 => ?_⟩
  obtain ⟨v, e, hm⟩ := at_lt r0 r1
  exact rIx_go (seq_mono w1.sm hS) e (q v H1 hm w1)
theorem ok_mixed (T : Top K mg) : FnOk P w K mg base CX0 2 T.a_l_mixed T.fd_l_mixed ["_law_bag_here", "_law_row"] (spMixed K) := by
  have G_l_draw := ok_draw (P := P) (w := w) (base := base) T
  refine T.d_l_mixed.F.ok sc_l_mixed (fun vs H Q E h => ?_) (fun cdv A outer s H vs Q E hr h => ?_)
  · obtain ⟨b, l, a, G, xs, rfl, _⟩ := h
    rfl
  obtain ⟨b, l, a, G, xs, rfl, hS, hl, wd, q⟩ := h
  refine ⟨_, (pss_cons (ps_set (i := 2) sc_l_mixed.nd rfl (Or.inl rfl) (pe_lst pa_nil))
    (pss_cons (ps_for PassesOwn.never rfl (pi_list_K (K := K) (by rfl) (pv 1)) (pg_name (i := 3) sc_l_mixed.nd rfl (Or.inl rfl))
      (pss_one (ps_expr (pe_bm_K (K := K) (by rfl) PySem.F.plainAttrs_list PySem.F.slot_list_insert PySem.F.type_list_insert mt_insert (pv 2) (pa_cons (pe_call G_l_draw (hr.mono (by decide)) (by rfl) T.d_l_draw.g T.d_l_draw.kp T.d_l_draw.b .nil pass0 (pa_cons (pv 0) (pa_cons (pe_op op_add (pe_callB (call_len_seq_K (K := K) (by rfl)) (by rfl) T.b_len PySem.boot_len (pa_cons (pv 2) pa_nil)) pe_int) pa_nil))) (pa_cons (pv 3) pa_nil))))))
    (pss_one (ps_ret (pv 2))))), ?_⟩
  refine ⟨Nat.zero_le _, fun p np => ?_⟩
  have gp : G p = none := wd.free np
  refine ⟨_, rfl, a, rfl, ⟨_, (wd.sm.trans (same_new np)).seq hS⟩, for_it walk_list (fun i σ H' => ∃ v3 G' ys, σ = [some (.ref b), some (.ref a), some (.ref p), v3] ∧ Same G G' ∧ Wd b l G' H' ∧ G' p = some (.lst ys) ∧ ys.Perm (xs.take i))
    ⟨none, _, [], rfl, same_new gp, wd.new np, upd_same, .nil⟩ (fun i σ H' _ ⟨_, _, _, _, e, w', _⟩ => (e.trans w'.sm).seq hS) ?_ ?_⟩
  · rintro i x σ H' H'' hi ⟨v3, G', ys, rfl, sg, w1, hp, pm⟩ ⟨rfl, ex⟩
    have ly : ys.length = i := by
      rw [pm.length_eq, List.length_take]
      omega
    refine ⟨_, rfl, .inl ⟨rfl, _, SqL.of (w1.sm _ _ hp)⟩, _, rfl, _, rfl, p, ys, rfl, .inl (SqL.of (w1.sm _ _ hp)), _, _, rfl, rfl, b, l, G', _, rfl, by omega, by omega, w1, fun r H1 r0 r1 w2 => ?_⟩
    refine ⟨_, rfl, p, ys, r, x, rfl, rfl, w2.sm _ _ hp, lt_line (by omega), r0, by omega, ?_⟩
    refine ⟨_, _, ys.take r.toNat ++ [x] ++ ys.drop r.toNat, rfl, same_mut sg gp, w2.mut hp, upd_same, ?_⟩
    have e : xs.take (i + 1) = xs.take i ++ [x] := by rw [List.take_add_one, ex]; rfl
    rw [e]
    have k : (ys.take r.toNat ++ [x] ++ ys.drop r.toNat).Perm (ys.take r.toNat ++ ys.drop r.toNat ++ [x]) := by
      rw [List.append_assoc, List.append_assoc]
      exact List.Perm.append_left _ List.perm_append_comm
    rw [List.take_append_drop] at k
    exact k.trans (pm.append_right [x])
  · rintro σ H' ⟨v3, G', ys, rfl, sg, w1, hp, pm⟩
    rw [List.take_length] at pm
    exact ⟨_, rfl, q G' H' p ys sg w1 hp pm⟩
theorem ok_words (T : Top K mg) : FnOk P w K mg base CX0 3 T.a_l_words T.fd_l_words ["_law_bag_here", "_law_many"] spWords5 := by
  have G_l_draw := ok_draw (P := P) (w := w) (base := base) T
  have G_l_any := ok_any (P := P) (w := w) (base := base) T
  refine T.d_l_words.F.ok sc_l_words (fun vs H Q E h => ?_) (fun cdv A outer s H vs Q E hr h => ?_)
  · obtain ⟨b, l, G, n, rfl, _⟩ := h
    rfl
  obtain ⟨b, l, G, n, rfl, n0, n3, wd, q⟩ := h
  refine ⟨_, (pss_cons (ps_set (i := 2) sc_l_words.nd rfl (Or.inr rfl) (pe_call G_l_any (hr.mono (by decide)) (by rfl) T.d_l_any.g T.d_l_any.kp T.d_l_any.b .nil pass0 (pa_cons (pv 0) (pa_cons (pe_lst (pa_cons pe_str (pa_cons pe_str (pa_cons pe_str (pa_cons pe_str (pa_cons pe_str pa_nil)))))) pa_nil))))
    (pss_cons (ps_asg (pe_tup (pa_cons (pe_call G_l_draw (hr.mono (by decide)) (by rfl) T.d_l_draw.g T.d_l_draw.kp T.d_l_draw.b .nil pass0 (pa_cons (pv 0) (pa_cons (pe_op op_add (pe_callB call_len_str (by rfl) T.b_len PySem.boot_len (pa_cons (pv 2) pa_nil)) pe_int) pa_nil))) (pa_cons (pe_call G_l_draw (hr.mono (by decide)) (by rfl) T.d_l_draw.g T.d_l_draw.kp T.d_l_draw.b .nil pass0 (pa_cons (pv 0) (pa_cons pe_int pa_nil))) pa_nil))) (pg_tup_K (K := K) (by rfl) (n := 2) (by rfl) (pgs_cons (pg_name (i := 3) sc_l_words.nd rfl (Or.inr rfl)) (pgs_cons (pg_name (i := 4) sc_l_words.nd rfl (Or.inr rfl)) pgs_nil))))
    (pss_cons (ps_set (i := 5) sc_l_words.nd rfl (Or.inr rfl) pe_str)
    (pss_one (ps_ret (pe_lc (own := [("_law_k", 6)]) rfl sc_l_words.nd (pi_range1 rfl T.b_range (pa_cons (pv 1) pa_nil)) (blkOk_by (own := [("_law_k", 6)]) (N := ["_law_bag_here", "_law_many", "_law_tail", "_law_at", "_law_start", "_law_letters", "_law_k"]) (sc := defScope s_l_words) (by decide +kernel)) (fun _ _ _ _ _ => by exact (pg_name (i := 6) sc_l_words.nd rfl (Or.inl rfl))) (fun _ _ _ _ _ => by exact pts_nil) (fun _ _ _ _ _ => by exact (pe_op op_add_str (pe_op op_add_str (pe_slice sl_str (pv 2) po_none (po_some (pv 3))) (pe_ix ix_str (pv 5) (pe_op op_mod (pe_callTy call_int1 (by rfl) T.b_int (by decide +kernel) (pa_cons (pe_op op_add (pv 4) (pe_op op_mul pe_int (pv 6))) pa_nil)) pe_int) (fun _ _ => rfl))) (pe_slice sl_str (pv 2) (po_some (pv 3)) po_none))))))))), ?_⟩
  refine ⟨_, rfl, (by show 5 ≤ sizeLine; decide), fun p np => ?_⟩
  refine ⟨b, l, p, upd G p (.lst (tails.map V.str)), tails.map V.str, rfl, .inl (SqL.of upd_same), (fun z => by cases z), by decide, wd.new np, fun x H1 hx w1 => ?_⟩
  have s1 : Same G (upd G p (.lst (tails.map V.str))) := wd.sameG np
  obtain ⟨z, hz, rfl⟩ := List.mem_map.mp hx
  obtain ⟨z1, z2⟩ := tails_ok z hz
  refine ⟨_, rfl, _, rfl, z, rfl, le_line (by omega), _, _, rfl, rfl, b, l, _, _, rfl, by omega, by omega, w1, fun k H2 k0 k1 w2 => ?_⟩
  refine ⟨_, rfl, b, l, _, 26, rfl, by decide, by decide, w2, fun st H3 t0 t1 w3 => ?_⟩
  refine ⟨(by show 2 ≤ sizeLine; decide), fun t nt => ?_⟩
  have w4 := w3.new (o := .tup [.int k, .int st]) nt
  have s2 := s1.trans (w3.sameG (o := .tup [.int k, .int st]) nt)
  refine ⟨t, _, rfl, .inl (.inl upd_same), rfl, _, _, rfl, _, _, rfl, rfl, ?_⟩
  obtain ⟨kn, rfl⟩ : ∃ m : Nat, k = (m : Int) := ⟨k.toNat, by omega⟩
  have hk : kn ≤ z.length := by omega
  refine ⟨_, rfl, n, rfl, by omega, by omega, fun D nD => ?_⟩
  have gD := w4.free nD
  refine lc_it walk_range (fun i H' => ∃ G', Same G G' ∧ Wd b l G' H' ∧ G' D = some (.lst ((wordsOf z kn st i).map V.str))) ⟨_, s2.trans (w4.sameG nD), w4.new nD, upd_same⟩ (fun _ _ _ _ => True.intro) ?_ ?_
  · rintro i v H' H'' hi ⟨G', sg, w5, hD⟩ ⟨rfl, rfl⟩
    refine ⟨rfl, ?_⟩
    have a0 : (0 : Int) + (i : Int) = (i : Int) := by omega
    have ln1 : (cutS z none (some (kn : Int))).length ≤ z.length := cutS_length z _ _
    have ln2 : (cutS z (some (kn : Int)) none).length ≤ z.length := cutS_length z _ _
    have m0 := Int.emod_nonneg (st + 5 * ((0 : Int) + (i : Int))) (show (26 : Int) ≠ 0 by decide)
    have m1 := Int.emod_lt_of_pos (st + 5 * ((0 : Int) + (i : Int))) (show (0 : Int) < 26 by decide)
    refine ⟨_, rfl, _, rfl, _, rfl, z, rfl, le_line (by omega), _, rfl, _, rfl, _, rfl, _, _, rfl, rfl, .inl ⟨by decide, by decide⟩, _, _, rfl, rfl, .inl ⟨_, rfl, _, _, rfl, rfl, (show (0 : Int) < 26 by decide), letters, _, _, rfl, rfl, le_line (by decide +kernel), letters_at m0 m1, ?_⟩⟩
    refine ⟨_, _, rfl, rfl, ?_, _, rfl, _, rfl, _, rfl, z, rfl, le_line (by omega), _, _, rfl, rfl, ?_, _, w5.sm _ _ hD, ?_, ?_⟩
    · exact le_line (by show _ + 1 ≤ _; omega)
    · refine le_line ?_
      have e : (cutS z none (some (kn : Int)) ++ (⟨#[97 + ((st + 5 * ((0 : Int) + (i : Int))) % 26).toNat]⟩ : Str)).length = (cutS z none (some (kn : Int))).length + 1 := by
        show ((cutS z none (some (kn : Int))).cps ++ #[_]).size = _
        rw [Array.size_append]
        rfl
      rw [e]
      omega
    · rw [List.length_map, wordsOf_len]
      exact lt_line (by omega)
    · refine ⟨_, same_mut sg (s2.free gD), w5.mut hD, ?_⟩
      rw [upd_same]
      have e : wordsOf z kn st (i + 1) = wordsOf z kn st i ++ [wordK z kn (97 + ((st + 5 * (i : Int)) % 26).toNat)] := by
        unfold wordsOf
        rw [List.range_succ, List.map_append]
        rfl
      rw [e, List.map_append, a0]
      rfl
  · rintro H' ⟨G', sg, w5, hD⟩
    exact q G' H' D _ sg w5 hD wordsOf_len (wordsOf_nodup4 hk (by omega)) fun w hw => wordsOf_nm hz hk w hw
theorem ok_options (T : Top K mg) : FnOk P w K mg base CX0 3 T.a_l_options T.fd_l_options ["_law_bag_here", "_law_many"] (spOptions K) := by
  have G_l_mixed := ok_mixed (P := P) (w := w) (base := base) T
  refine T.d_l_options.F.ok sc_l_options (fun vs H Q E h => ?_) (fun cdv A outer s H vs Q E hr h => ?_)
  · obtain ⟨b, l, G, n, rfl, _⟩ := h
    rfl
  obtain ⟨b, l, G, n, rfl, n2, n6, wd, q⟩ := h
  refine ⟨_, (pss_cons (ps_set (i := 2) sc_l_options.nd rfl (Or.inl rfl) (pe_lst (pa_cons pe_str (pa_cons pe_str (pa_cons pe_str (pa_cons pe_str (pa_cons pe_str (pa_cons pe_str (pa_cons pe_str (pa_cons pe_str (pa_cons pe_str (pa_cons pe_str pa_nil))))))))))))
    (pss_one (ps_ret (pe_callTy (call_tuple_of_P (K := K) (by rfl)) (by rfl) T.b_tuple (by decide +kernel) (pa_cons (pe_slice (sl_list_K (K := K) (by rfl)) (pe_call G_l_mixed (hr.mono (by decide)) (by rfl) T.d_l_mixed.g T.d_l_mixed.kp T.d_l_mixed.b .nil pass0 (pa_cons (pv 0) (pa_cons (pv 2) pa_nil))) po_none (po_some (pv 1))) pa_nil))))), ?_⟩
  refine ⟨(by show 10 ≤ sizeLine; decide), fun p np => ?_⟩
  refine ⟨_, rfl, _, rfl, b, l, p, upd G p (.lst (pool.map V.str)), pool.map V.str, rfl, SqL.of upd_same, by decide, wd.new np, fun G1 H1 p1 ys s1 w1 h1 pm => ?_⟩
  have s0 := (wd.sameG (o := .lst (pool.map V.str)) np).trans s1
  obtain ⟨zs, pz, rfl⟩ := perm_strs pm
  refine ⟨_, rfl, _, rfl, _, _, rfl, SqL.of (w1.sm _ _ h1), fun c nc => ?_⟩
  rw [cutV_take _ (by omega), ← List.map_take]
  have w2 := w1.new (o := .lst ((zs.take n.toNat).map V.str)) nc
  refine ⟨c, _, rfl, .inl ⟨SqL.of upd_same, fun t o nt ho => ?_⟩⟩
  have w3 := w2.new (o := .frz o (.tup ((zs.take n.toNat).map V.str))) nt
  have lz : zs.length = 10 := pz.length_eq
  refine q _ _ t (zs.take n.toNat) ((s0.trans (w1.sameG nc)).trans (w2.sameG nt)) w3 (SqP.new ho) (by rw [List.length_take]; omega) ((pz.nodup_iff.mpr pool_nodup).sublist (List.take_sublist _ _)) fun o' h' => pz.mem_iff.mp (List.mem_of_mem_take h')
theorem ok_fields (T : Top K mg) : FnOk P w K mg base CX0 4 T.a_l_fields T.fd_l_fields ["_law_bag_here", "_law_room"] (spFields4 K) := by
  have G_l_draw := ok_draw (P := P) (w := w) (base := base) T
  have G_l_words := ok_words (P := P) (w := w) (base := base) T
  have G_l_options := ok_options (P := P) (w := w) (base := base) T
  refine T.d_l_fields.F.ok sc_l_fields (fun vs H Q E h => ?_) (fun cdv A outer s H vs Q E hr h => ?_)
  · obtain ⟨b, l, G, rfl, _⟩ := h
    rfl
  obtain ⟨b, l, G, rfl, wd, q⟩ := h
  refine ⟨_, (pss_cons (ps_par3 (i := 2) (j := 3) (l := 4) (by rfl) sc_l_fields.nd rfl rfl rfl (by decide) (by decide) (by decide) rfl rfl rfl (pa_cons (pe_call G_l_words (hr.mono (by decide)) (by rfl) T.d_l_words.g T.d_l_words.kp T.d_l_words.b .nil pass0 (pa_cons (pv 0) (pa_cons pe_int pa_nil))) (pa_cons (pe_lst pa_nil) (pa_cons (pv 1) pa_nil))) (by rfl))
    (pss_cons (ps_for PassesOwn.never rfl (pi_range1 rfl T.b_range (pa_cons (pe_op op_add pe_int (pe_call G_l_draw (hr.mono (by decide)) (by rfl) T.d_l_draw.g T.d_l_draw.kp T.d_l_draw.b .nil pass0 (pa_cons (pv 0) (pa_cons pe_int pa_nil)))) pa_nil)) (pg_name (i := 5) sc_l_fields.nd rfl (Or.inl rfl))
      (pss_one (ps_if (PW.pt (pw_or (pt_cmpR op_ge (pv 4) pe_int (nomark _)) (pw_or1 (pt_cmpR (op_eqP (K := K) (by rfl) hr.units) (pv 3) (pe_lst pa_nil) (nomark _))))) (pss_cons (ps_set (i := 6) sc_l_fields.nd rfl (Or.inl rfl) (pe_op op_add pe_int (pe_call G_l_draw (hr.mono (by decide)) (by rfl) T.d_l_draw.g T.d_l_draw.kp T.d_l_draw.b .nil pass0 (pa_cons (pv 0) (pa_cons (pe_callB (call_min2 rfl) (by rfl) T.b_min (by decide +kernel) (pa_cons pe_int (pa_cons (pe_callB (call_max2 rfl) (by rfl) T.b_max (by decide +kernel) (pa_cons pe_int (pa_cons (pe_op op_sub (pv 4) pe_int) pa_nil))) pa_nil))) pa_nil)))))
        (pss_cons (ps_expr (pe_bm_K (K := K) (by rfl) PySem.F.plainAttrs_list PySem.F.slot_list_append PySem.F.type_list_append mt_append (pv 3) (pa_cons (pe_tup (pa_cons (pe_ix (ix_list_K (K := K) (by rfl)) (pv 2) (pv 5) (fun _ _ => rfl)) (pa_cons (pe_call G_l_options (hr.mono (by decide)) (by rfl) T.d_l_options.g T.d_l_options.kp T.d_l_options.b .nil pass0 (pa_cons (pv 0) (pa_cons (pv 6) pa_nil))) pa_nil))) pa_nil)))
        (pss_one (ps_set (i := 4) sc_l_fields.nd rfl (Or.inl rfl) (pe_op op_fdiv (pv 4) (pv 6)))))) pss_nil)))
    (pss_one (ps_ret (pv 3))))), ?_⟩
  refine ⟨_, rfl, b, l, G, 3, rfl, by decide, by decide, wd, fun G1 H1 p ws s1 w1 h1 lw ndw nmw => ?_⟩
  refine ⟨Nat.zero_le _, fun pf nf => ?_⟩
  have g1f : G pf = none := s1.free (w1.free nf)
  have w2 := w1.new (o := .lst []) nf
  have s2 := s1.trans (w1.sameG (o := .lst []) nf)
  have h1' : (upd G1 pf (.lst [])) p = some (.lst (ws.map V.str)) := by
    rw [upd_ne (ne_of_none h1 (w1.free nf))]
    exact h1
  have hpf : p ≠ pf := ne_of_none h1 (w1.free nf)
  refine ⟨_, rfl, _, _, _, rfl, ?_⟩
  refine ⟨_, rfl, b, l, _, 3, rfl, by decide, by decide, w2, fun r H4 r0 r1 w4 => ?_⟩
  refine ⟨_, _, rfl, rfl, _, rfl, by omega, by omega, ?_⟩
  refine for_it walk_range (fun i σ H' => ∃ x5 x6 G' xs fs left, σ = [some (.ref b), some (.int 4), some (.ref p), some (.ref pf), some (.int left), x5, x6] ∧ Same G G' ∧ Wd b l G' H' ∧ G' pf = some (.lst xs) ∧ Paired (FdAt K G') xs fs ∧
      G' p = some (.lst (ws.map V.str)) ∧ fs.length ≤ i ∧ (0 < i → fs ≠ []) ∧ (fs ≠ [] ∨ 2 ≤ left) ∧ (∀ f ∈ fs, ∃ j, j < i ∧ ws[j]? = some f.1) ∧ (fs.map (·.1)).Nodup ∧ (∀ f ∈ fs, f.2.Nodup ∧ 2 ≤ f.2.length ∧ f.2.length ≤ 6 ∧ ∀ o ∈ f.2, o ∈ pool))
    ⟨none, none, _, [], [], 4, rfl, s2, w4, upd_same, .nil, h1', Nat.le_refl _, fun z => absurd z (Nat.lt_irrefl _), .inr (by decide), (fun f hf => by cases hf), .nil, (fun f hf => by cases hf)⟩ (fun _ _ _ _ _ => True.intro) ?_ ?_
  · rintro i v σ H' H'' hi ⟨x5, x6, G', xs, fs, left, rfl, sg, w5, hx, hp, hw, hl, hne, hor, hj, nd, hos⟩ ⟨rfl, rfl⟩
    have hi3 : i < 3 := by omega
    have lxs := fds_len hp
    have hwi : ws[i]? = some ws[i] := List.getElem?_eq_getElem (by rw [lw]; exact hi3)
    have body : 2 ≤ left → True := fun _ => True.intro
    refine ⟨_, rfl, _, _, rfl, rfl, _, rfl, ite3 (fun h2 => ?_) (fun h2 => ?_)⟩
    · refine ⟨_, rfl, _, rfl, _, _, rfl, rfl, _, _, rfl, _, _, rfl, b, l, G', _, rfl, (min_max_bound _).1, by have := (min_max_bound (left - 1)).2; omega, w5, fun r5 H5 r50 r51 w6 => ?_⟩
      have r6 := (min_max_bound (left - 1)).2
      refine ⟨_, _, rfl, rfl, ?_⟩
      refine ⟨_, rfl, .inl ⟨rfl, _, SqL.of (w6.sm _ _ hx)⟩, _, rfl, _, rfl, p, _, _, .str ws[i], rfl, rfl, SqL.of (w6.sm _ _ hw), at_nn (by omega) (by rw [show ((0 : Int) + (i : Int)).toNat = i by omega, List.getElem?_map, hwi]; rfl), ?_⟩
      refine ⟨_, rfl, _, rfl, b, l, G', 2 + r5, rfl, by omega, by omega, w6, fun G7 H7 po os s7 w7 hP7 lo ndo hpo => ?_⟩
      refine ⟨(by show 2 ≤ sizeLine; decide), fun t7 nt7 => ?_⟩
      have w8 := w7.new (o := .tup [.str ws[i], .ref po]) nt7
      have s8 := s7.trans (w7.sameG (o := .tup [.str ws[i], .ref po]) nt7)
      have hx8 := s8 _ _ hx
      refine ⟨pf, xs, _, rfl, rfl, w8.sm _ _ hx8, lt_line (by omega), ?_⟩
      refine ⟨_, rfl, _, rfl, _, _, rfl, rfl, ⟨by omega, by omega⟩, ?_⟩
      have hfd : FdAt K (upd (upd G7 t7 (.tup [.str ws[i], .ref po])) pf (.lst (xs ++ [.ref t7]))) (.ref t7) (ws[i], os) := by
        have nf7 : t7 ≠ pf := fun z => by
          have k := s7 _ _ hx
          rw [← z, w7.free nt7] at k
          cases k
        refine ⟨t7, po, rfl, .inl (.inl ?_), ?_⟩
        · rw [upd_ne nf7]
          exact upd_same
        · have k := hP7.mono (w7.sameG (o := .tup [.str ws[i], .ref po]) nt7)
          rcases k with ⟨o, k, ko⟩ | k
          · refine .inl ⟨o, ?_, ko⟩
            rw [upd_ne (ne_of k hx8 (by intro z; cases z))]
            exact k
          · exact .inr k
      have hp8 : Paired (FdAt K (upd (upd G7 t7 (.tup [.str ws[i], .ref po])) pf (.lst (xs ++ [.ref t7])))) xs fs := by
        have key : ∀ {ys : List V} {gs : List Fld}, Paired (FdAt K G') ys gs → Paired (FdAt K (upd (upd G7 t7 (.tup [.str ws[i], .ref po])) pf (.lst (xs ++ [.ref t7])))) ys gs := by
          intro ys gs k
          induction k with
          | nil => exact .nil
          | cons h _ ih =>
            refine .cons ?_ ih
            obtain ⟨a', o', e', k1, k2⟩ := h.mono s8
            refine ⟨a', o', e', ?_, ?_⟩
            · rcases k1 with (k1 | ⟨u, k1⟩) | k1
              · exact .inl (.inl (by rw [upd_ne (ne_of k1 hx8 (by intro z; cases z))]; exact k1))
              · exact .inl (.inr ⟨u, by rw [upd_ne (ne_of k1 hx8 (by intro z; cases z))]; exact k1⟩)
              · exact .inr k1
            · rcases k2 with ⟨u, k2, ku⟩ | k2
              · exact .inl ⟨u, by rw [upd_ne (ne_of k2 hx8 (by intro z; cases z))]; exact k2, ku⟩
              · exact .inr k2
        exact key hp
      refine ⟨_, _, _, _, fs ++ [(ws[i], os)], _, rfl, same_mut (sg.trans s8) g1f, w8.mut hx8, upd_same, fds_snoc hp8 hfd, ?_, ?_, fun _ z => by simp at z, .inl (by simp), ?_, ?_, ?_⟩
      · rw [upd_ne hpf]
        exact s8 _ _ hw
      · rw [List.length_append]
        exact Nat.succ_le_succ hl
      · intro f hf
        rcases List.mem_append.mp hf with hf | hf
        · obtain ⟨j, h1, h2⟩ := hj f hf
          exact ⟨j, by omega, h2⟩
        · cases List.mem_singleton.mp hf
          exact ⟨i, by omega, hwi⟩
      · rw [List.map_append]
        refine List.nodup_append.mpr ⟨nd, by simp, fun x hx1 y hy e => ?_⟩
        obtain ⟨f, hf, rfl⟩ := List.mem_map.mp hx1
        have ey : y = ws[i] := by simpa using hy
        obtain ⟨j, h1, h2⟩ := hj f hf
        rw [e, ey] at h2
        have := nd_ix ndw h2 hwi
        omega
      · intro f hf
        rcases List.mem_append.mp hf with hf | hf
        · exact hos f hf
        · cases List.mem_singleton.mp hf
          exact ⟨ndo, by rw [lo]; omega, by rw [lo]; omega, hpo⟩
    · have hnn : fs ≠ [] := hor.resolve_right h2
      refine ⟨_, rfl, Nat.zero_le _, fun e ne => ?_⟩
      have w6 := w5.new (o := .lst []) ne
      have s6 := w5.sameG (o := .lst []) ne
      refine ⟨.list (fs.map dF), .list [], .lst (SqL.of (w6.sm _ _ (s6 _ _ hx))) (DpAll.mono (s6.trans w6.sm) (fds_dp hp)), .lst (SqL.of upd_same) .nil, ?_, _, rfl, ?_⟩
      · exact Nat.le_trans (Nat.min_le_right _ _) (by decide)
      have ev : PyData.eqv (.list (fs.map dF)) (.list []) = false := by
        cases fs with
        | nil => exact absurd rfl hnn
        | cons f r => rfl
      rw [ev]
      exact ⟨_, _, _, _, fs, left, rfl, sg.trans s6, w6, s6 _ _ hx, fds_mono s6 hp, s6 _ _ hw, by omega, fun _ => hnn, .inl hnn, (fun f hf => by obtain ⟨j, h1, h2⟩ := hj f hf; exact ⟨j, by omega, h2⟩), nd, hos⟩
  · rintro σ H' ⟨x5, x6, G', xs, fs, left, rfl, sg, w5, hx, hp, hw, hl, hne, hor, hj, nd, hos⟩
    refine ⟨_, rfl, q G' H' pf xs fs sg w5 hx hp ⟨?_, by omega, nd, fun f hf => ?_, hos⟩⟩
    · exact List.length_pos_iff.mpr (hne (by omega))
    · obtain ⟨j, h1, h2⟩ := hj f hf
      exact nmw _ (List.mem_of_getElem? h2)
end
end Bh

set_option Elab.async false
set_option linter.all false
set_option maxRecDepth 100000
set_option maxHeartbeats 1000000
set_option autoImplicit false
namespace Bh
open PySem PySem.Spec PyProof.Rows L2
structure Good (ns : List Str) (cs : List Cl) (ts : List Ti) : Prop where
  c : CsOk cs
  t : TsOk cs ts
  m : ∀ c ∈ cs, c.1 ∈ ns
theorem good_cell {ns : List Str} {cs : List Cl} {ts : List Ti} {n k : Str} (g : Good ns cs ts) (hn : n ∈ ns) (nm : NmOk n) (kd : KdOk k) (nin : n ∉ cs.map (·.1)) (few : cs.length < 1000) : Good ns (cs ++ [(n, k)]) ts := by
  refine ⟨⟨?_, ?_, ?_⟩, ⟨g.t.nd, fun t ht => ?_, g.t.few⟩, ?_⟩
  · rw [List.map_append, List.nodup_append]
    refine ⟨g.c.nd, by simp, fun a ha b hb => ?_⟩
    have e : b = n := by simpa using hb
    rw [e]
    exact fun z => nin (z ▸ ha)
  · intro c hc
    rcases List.mem_append.mp hc with h | h
    · exact g.c.nm c h
    · have e : c = (n, k) := by simpa using h
      rw [e]
      exact ⟨nm, kd⟩
  · rw [List.length_append]; exact few
  · obtain ⟨a, b, d⟩ := g.t.nm t ht
    rw [List.map_append]
    exact ⟨a, List.mem_append_left _ b, List.mem_append_left _ d⟩
  · intro c hc
    rcases List.mem_append.mp hc with h | h
    · exact g.m c h
    · have e : c = (n, k) := by simpa using h
      rw [e]
      exact hn
theorem good_tie {ns : List Str} {cs : List Cl} {ts : List Ti} {t : Ti} (g : Good ns cs ts) (nm : NmOk t.1) (m1 : t.2.1 ∈ cs.map (·.1)) (m2 : t.2.2 ∈ cs.map (·.1)) (nin : t ∉ ts) (few : ts.length < 1000) : Good ns cs (ts ++ [t]) := by
  refine ⟨g.c, ⟨?_, fun u hu => ?_, ?_⟩, g.m⟩
  · rw [List.nodup_append]
    refine ⟨g.t.nd, by simp, fun a ha b hb => ?_⟩
    have e : b = t := by simpa using hb
    rw [e]
    exact fun z => nin (z ▸ ha)
  · rcases List.mem_append.mp hu with h | h
    · exact g.t.nm u h
    · have e : u = t := by simpa using h
      rw [e]
      exact ⟨nm, m1, m2⟩
  · rw [List.length_append]; exact few
theorem good_cut {ns : List Str} {cs : List Cl} {ts : List Ti} (p : Ti → Bool) (g : Good ns cs ts) : Good ns cs (ts.filter p) :=
  ⟨g.c, ⟨g.t.nd.sublist List.filter_sublist, fun u hu => g.t.nm u (List.mem_filter.mp hu).1, Nat.le_trans (List.length_filter_le _ _) g.t.few⟩, g.m⟩
/-- what stays of a known world behind a change of the network -/
theorem wd_net {b l x dc dt : Addr} {G H H' : Hp} {C dt' : Addr} {cs cs' : List Cl} {ts ts' : List Ti} (w : Wd b l G H) (na : NetA G C x dc dt cs ts) (hd : dt' = dt ∨ H dt' = none) (s : Same (h3 x dc dt H) H') (na' : NetA H' C x dc dt' cs' ts') :
    ∃ G', Wd b l G' H' ∧ NetA G' C x dc dt' cs' ts' ∧ Same (h3 x dc dt G) G' ∧ ∀ a o, G' a = some o → G a = none → a = dt' := by
  obtain ⟨dx, h0, h1, h2⟩ := na'
  obtain ⟨dy, g0, g1, g2⟩ := na
  have bx : b ≠ x := fun z => by rw [← z, w.nb] at g0; cases g0
  have bc : b ≠ dc := fun z => by rw [← z, w.nb] at g1; cases g1
  have bt : b ≠ dt := fun z => by rw [← z, w.nb] at g2; cases g2
  have lx : l ≠ x := fun z => by rw [← z, w.nl] at g0; cases g0
  have lc : l ≠ dc := fun z => by rw [← z, w.nl] at g1; cases g1
  have lt : l ≠ dt := fun z => by rw [← z, w.nl] at g2; cases g2
  have bd : b ≠ dt' := fun z => by
    rcases hd with e | e
    · exact bt (z.trans e)
    · exact absurd e (by rw [← z]; obtain ⟨o, k⟩ := w.bag.b_some; rw [k]; exact fun y => nomatch y)
  have ld : l ≠ dt' := fun z => by
    rcases hd with e | e
    · exact lt (z.trans e)
    · exact absurd e (by rw [← z]; obtain ⟨o, k⟩ := w.bag.l_some; rw [k]; exact fun y => nomatch y)
  let G' : Hp := fun a => if a = x ∨ a = dc ∨ a = dt ∨ a = dt' then H' a else G a
  have gx : ∀ a, (a = x ∨ a = dc ∨ a = dt ∨ a = dt') → G' a = H' a := fun a h => if_pos h
  have gn : ∀ a, ¬ (a = x ∨ a = dc ∨ a = dt ∨ a = dt') → G' a = G a := fun a h => if_neg h
  have nb : G' b = none := (gn b (by rintro (z | z | z | z); exact bx z; exact bc z; exact bt z; exact bd z)).trans w.nb
  have nl : G' l = none := (gn l (by rintro (z | z | z | z); exact lx z; exact lc z; exact lt z; exact ld z)).trans w.nl
  have sm : Same G' H' := fun a o e => by
    by_cases h : a = x ∨ a = dc ∨ a = dt ∨ a = dt'
    · rw [gx a h] at e
      exact e
    · rw [gn a h] at e
      refine s a o ?_
      rw [h3_ne (fun z => h (.inl z)) (fun z => h (.inr (.inl z))) (fun z => h (.inr (.inr (.inl z))))]
      exact w.sm _ _ e
  have bag : BagAt b l H' := by
    obtain ⟨ns, i, c, z, k1, k2, k3⟩ := w.bag
    refine ⟨ns, i, c, z, s _ _ ?_, s _ _ ?_, k3⟩
    · rw [h3_ne bx bc bt]; exact k1
    · rw [h3_ne lx lc lt]; exact k2
  refine ⟨G', ⟨nb, nl, sm, bag⟩, ⟨dx, (gx x (.inl rfl)).trans h0, (gx dc (.inr (.inl rfl))).trans h1, (gx dt' (.inr (.inr (.inr rfl)))).trans h2⟩, fun a o e => ?_, fun a o e n => ?_⟩
  · obtain ⟨n1, n2, n3, k⟩ := h3_some e
    by_cases z : a = dt'
    · rcases hd with y | y
      · exact absurd (z.trans y) n3
      · rw [z] at k
        rw [w.sm _ _ k] at y
        cases y
    · rw [gn a (by rintro (q | q | q | q); exact n1 q; exact n2 q; exact n3 q; exact z q)]
      exact k
  · by_cases h : a = x ∨ a = dc ∨ a = dt ∨ a = dt'
    · rcases h with h | h | h | h
      · rw [h, g0] at n; cases n
      · rw [h, g1] at n; cases n
      · rw [h, g2] at n; cases n
      · exact h
    · rw [gn a h, n] at e
      cases e
theorem eqv_str (a b : Str) : PyData.eqv (.str a) (.str b) = decide (a = b) := by
  show (a == b) = decide (a = b)
  by_cases h : a = b
  · rw [h]; simp
  · rw [decide_eq_false h]; exact beq_eq_false_iff_ne.mpr h
theorem eqv_ti (a b : Ti) : PyData.eqv (dTi a) (dTi b) = decide (a = b) := by
  obtain ⟨a1, a2, a3⟩ := a
  obtain ⟨b1, b2, b3⟩ := b
  show (PyData.eqv (.str a1) (.str b1) && (PyData.eqv (.str a2) (.str b2) && (PyData.eqv (.str a3) (.str b3) && true))) = _
  rw [eqv_str, eqv_str, eqv_str, Bool.and_true]
  by_cases h1 : a1 = b1
  · by_cases h2 : a2 = b2
    · by_cases h3 : a3 = b3
      · rw [h1, h2, h3]; simp
      · simp [h3]
    · simp [h2]
  · simp [h1]
theorem eqv_nil (ds : List PyData) : PyData.eqv (.list ds) (.list []) = decide (ds = []) := by
  cases ds with
  | nil => rfl
  | cons a r => rfl
theorem any_ti (t : Ti) : ∀ ts : List Ti, ((ts.map dTi).any fun z => PyData.eqv z (dTi t)) = decide (t ∈ ts)
  | [] => rfl
  | u :: ts => by
    rw [List.map_cons, List.any_cons, any_ti t ts, eqv_ti]
    by_cases h : u = t
    · subst h
      rw [decide_eq_true rfl, Bool.true_or, decide_eq_true List.mem_cons_self]
    · rw [decide_eq_false h, Bool.false_or]
      by_cases m : t ∈ ts
      · rw [decide_eq_true m, decide_eq_true (List.mem_cons_of_mem _ m)]
      · rw [decide_eq_false m, decide_eq_false (fun z => (List.mem_cons.mp z).elim (fun e => h e.symm) m)]
theorem IsNm.ok {z : Str} (h : IsNm z) : NmOk z := ⟨h.word, by
  have k := h.word
  unfold wordB at k
  rw [Bool.and_eq_true] at k
  have := of_decide_eq_true k.1
  omega⟩
theorem strOk_nm {o : Str} (h : NmOk o) : PySem.PyData.strOk o = true := by
  unfold PySem.PyData.strOk
  rw [Array.all_eq_true_iff_forall_mem]
  intro c hc
  have k := h.1
  unfold wordB at k
  have k2 := List.all_eq_true.mp (Bool.and_eq_true_iff.mp k).2 c (by simpa [TL.tl] using hc)
  have k3 : ∀ z ∈ TL.tl letters, z < 0x110000 := by decide +kernel
  exact decide_eq_true (k3 c (of_decide_eq_true k2))
theorem lay_ti {t : Ti} (h1 : NmOk t.1) (h2 : NmOk t.2.1) (h3 : NmOk t.2.2) : (dTi t).canLay0 = true := by
  show (PySem.PyData.strOk t.1 && (PySem.PyData.strOk t.2.1 && (PySem.PyData.strOk t.2.2 && true))) = true
  rw [strOk_nm h1, strOk_nm h2, strOk_nm h3]
  rfl
theorem shaped_ti {t : Ti} (h1 : NmOk t.1) (h2 : NmOk t.2.1) (h3 : NmOk t.2.2) : SeqAt.shaped (dTi t) = true := by
  unfold SeqAt.shaped
  rw [lay_ti h1 h2 h3, Bool.true_and]
  rfl
theorem lay_tis : ∀ {ts : List Ti}, (∀ t ∈ ts, NmOk t.1 ∧ NmOk t.2.1 ∧ NmOk t.2.2) → PyData.canLayAll0 (ts.map dTi) = true
  | [], _ => rfl
  | t :: ts, h => by
    obtain ⟨a, b, c⟩ := h t List.mem_cons_self
    show ((dTi t).canLay0 && PyData.canLayAll0 (ts.map dTi)) = true
    rw [lay_ti a b c, lay_tis fun m hm => h m (List.mem_cons_of_mem _ hm)]
    rfl
theorem shaped_tis {ts : List Ti} (h : ∀ t ∈ ts, NmOk t.1 ∧ NmOk t.2.1 ∧ NmOk t.2.2) : SeqAt.shaped (.list (ts.map dTi)) = true := by
  unfold SeqAt.shaped
  rw [Bool.and_eq_true, decide_eq_true_iff]
  refine ⟨lay_tis h, ?_⟩
  exact Nat.le_trans (Nat.succ_le_succ (depth_all (n := 1) fun d hd => by
    obtain ⟨u, _, rfl⟩ := List.mem_map.mp hd
    exact Nat.le_refl 1)) (by decide)
theorem name_ok {cs : List Cl} (h : CsOk cs) {z : Str} (hz : z ∈ cs.map (·.1)) : NmOk z := by
  obtain ⟨c, hc, rfl⟩ := List.mem_map.mp hz
  exact (h.nm c hc).1
end Bh

set_option Elab.async false
set_option linter.all false
set_option maxRecDepth 100000
set_option maxHeartbeats 1000000
set_option autoImplicit false
namespace Bh
open PySem PySem.Spec PyProof.Rows L2
theorem net_made {K : PySem.W.Frag} {C : Addr} {Q : Hp → Prop} {E : XK} {H : Hp} {x dx : Addr} {v1 v2 : V} {cs : List Cl} {ts : List Ti} (nx : H x = none) (nd : H dx = none) (ne : dx ≠ x) (d1 : DpS K H v1 (cs.map dCell)) (d2 : DpS K H v2 (ts.map dTi)) (okc : CsOk cs) (okt : TsOk cs ts)
    (q : ∀ (H' : Hp) (dc dt : Addr), Same H H' → H dc = none → H dt = none → NetA H' C x dc dt cs ts → Q H') : spNetInit K C [.ref x, v1, v2] (upd (upd H dx (.own x)) x (.ins C dx [])) (fun v H3 => v = .non ∧ Q H3) E := by
  have s1 : Same H (hid x (upd (upd H dx (.own x)) x (.ins C dx []))) := by
    rw [hid_upd]
    exact hid_of (same_new nd) nx
  have non : ∀ {a : Addr}, upd (upd H dx (.own x)) x (.ins C dx []) a = none → H a = none := fun {a} e => by
    cases k : H a with
    | none => rfl
    | some o =>
      have := hid_le _ _ (s1 _ _ k)
      rw [e] at this
      cases this
  exact ⟨x, dx, v1, v2, cs, ts, rfl, upd_same, d1.mono s1, d2.mono s1, okc, okt, fun H' dc dt n1 n2 s na => ⟨rfl, q H' dc dt (s1.trans s) (non n1) (non n2) na⟩⟩
theorem wd_made {b l x dc dt C : Addr} {G H H' : Hp} {cs : List Cl} {ts : List Ti} (w : Wd b l G H) (s : Same H H') (na : NetA H' C x dc dt cs ts) (nx : H x = none) (n1 : H dc = none) (n2 : H dt = none) : ∃ G', Wd b l G' H' ∧ Same G G' ∧ NetA G' C x dc dt cs ts := by
  obtain ⟨dx, h0, h1, h2⟩ := na
  let G' : Hp := fun a => if a = x ∨ a = dc ∨ a = dt then H' a else G a
  have gx : ∀ a, (a = x ∨ a = dc ∨ a = dt) → G' a = H' a := fun a h => if_pos h
  have gn : ∀ a, ¬ (a = x ∨ a = dc ∨ a = dt) → G' a = G a := fun a h => if_neg h
  have sg : Same G G' := fun a o e => by
    by_cases h : a = x ∨ a = dc ∨ a = dt
    · have k := w.sm _ _ e
      rcases h with h | h | h
      · rw [h, nx] at k; cases k
      · rw [h, n1] at k; cases k
      · rw [h, n2] at k; cases k
    · rw [gn a h]; exact e
  refine ⟨G', w.grow s (fun a o e => ?_) (fun a o e n => ?_), sg, dx, (gx x (.inl rfl)).trans h0, (gx dc (.inr (.inl rfl))).trans h1, (gx dt (.inr (.inr rfl))).trans h2⟩
  · by_cases h : a = x ∨ a = dc ∨ a = dt
    · rw [gx a h] at e; exact e
    · rw [gn a h] at e; exact s _ _ (w.sm _ _ e)
  · by_cases h : a = x ∨ a = dc ∨ a = dt
    · rcases h with h | h | h
      · rw [h]; exact nx
      · rw [h]; exact n1
      · rw [h]; exact n2
    · rw [gn a h, n] at e
      cases e
theorem NetA.lst {H : Hp} {C x dc dt p : Addr} {cs : List Cl} {ts : List Ti} {ys : List V} {o : HO} (h : NetA H C x dc dt cs ts) (hp : H p = some (.lst ys)) : NetA (upd H p o) C x dc dt cs ts := by
  obtain ⟨dx, h0, h1, h2⟩ := h
  exact ⟨dx, by rw [upd_ne (fun z => by rw [z, hp] at h0; cases h0)]; exact h0, by rw [upd_ne (fun z => by rw [z, hp] at h1; cases h1)]; exact h1, by rw [upd_ne (fun z => by rw [z, hp] at h2; cases h2)]; exact h2⟩
theorem items_dp {K : PySem.W.Frag} {H : Hp} : ∀ {cs : List Cl} {as : List Addr}, Paired (fun (t : Addr) (q : L2.Key × V) => H t = some (.tup [kV q.1, q.2])) as (cs.map eC) → DpAll K H (as.map V.ref) (cs.map dCell)
  | [], _, h => by
    cases h
    exact .nil
  | c :: cs, _, h => by
    rw [List.map_cons] at h
    cases h with
    | cons a r => exact .cons (.tup (.inl (.inl a)) (strs_dp [c.1, c.2])) (items_dp r)
theorem item_at {cs : List Cl} {i : Nat} {a b : V} (ea : (fun i => Option.map (fun kv : L2.Key × V => kV kv.1) (cs.map eC)[i]?) i = some a) (eb : (fun i => Option.map Prod.snd (cs.map eC)[i]?) i = some b) : ∃ c, cs[i]? = some c ∧ a = .str c.1 ∧ b = .str c.2 := by
  cases e : cs[i]? with
  | none =>
    have z : Option.map (fun kv : L2.Key × V => kV kv.1) (cs.map eC)[i]? = some a := ea
    rw [List.getElem?_map, e] at z
    cases z
  | some c =>
    have z1 : Option.map (fun kv : L2.Key × V => kV kv.1) (cs.map eC)[i]? = some a := ea
    have z2 : Option.map Prod.snd (cs.map eC)[i]? = some b := eb
    rw [List.getElem?_map, e] at z1 z2
    exact ⟨c, rfl, (Option.some.inj z1).symm, (Option.some.inj z2).symm⟩
theorem NetA.off {H : Hp} {C x dc dt d : Addr} {o : HO} {cs : List Cl} {ts : List Ti} (h : NetA H C x dc dt cs ts) (n1 : x ≠ d) (n2 : dc ≠ d) (n3 : dt ≠ d) : NetA (upd H d o) C x dc dt cs ts := by
  obtain ⟨dx, h0, h1, h2⟩ := h
  exact ⟨dx, by rw [upd_ne n1]; exact h0, by rw [upd_ne n2]; exact h1, by rw [upd_ne n3]; exact h2⟩
/-- a new network of these parts -/
def NetNew (H : Hp) (C : Addr) (cs : List Cl) (ts : List Ti) (Q : V → Hp → Prop) : Prop := ∀ (H' : Hp) (y ec et : Addr), H y = none → H ec = none → H et = none → Same H H' → NetA H' C y ec et cs ts → Q (.ref y) H'
end Bh

set_option Elab.async false
set_option linter.all false
set_option maxRecDepth 100000
set_option maxHeartbeats 1000000
set_option autoImplicit false
namespace Bh
open PySem PySem.Spec PyProof.Rows L2
def cellLn (c : Cl) : Str := Str.empty ++ "cell " ++ c.1 ++ " " ++ c.2 ++ "\n"
def tieLn (t : Ti) : Str := Str.empty ++ "tie " ++ t.1 ++ " " ++ t.2.1 ++ " " ++ t.2.2 ++ "\n"
def textN (cs : List Cl) (ts : List Ti) : Str := Txt.join "" (cs.map cellLn ++ ts.map tieLn)
def spText (C : Addr) : Sp := fun vs H Q _ => ∃ (x dc dt : Addr) (cs : List Cl) (ts : List Ti), vs = [.ref x] ∧ NetA H C x dc dt cs ts ∧ CsOk cs ∧ TsOk cs ts ∧ ∀ H', Same H H' → Q (.str (textN cs ts)) H'
theorem cell_len {c : Cl} (h1 : c.1.length ≤ 1000) (h2 : c.2.length ≤ 1000) : (cellLn c).length ≤ 4000 := by
  have b0 : (Str.empty : Str).length = 0 := rfl
  have b1 : ("cell " : Str).length = 5 := by decide +kernel
  have b2 : (" " : Str).length = 1 := by decide +kernel
  have b3 : ("\n" : Str).length = 1 := by decide +kernel
  unfold cellLn
  simp only [len_add]
  omega
theorem tie_len {t : Ti} (h1 : t.1.length ≤ 1000) (h2 : t.2.1.length ≤ 1000) (h3 : t.2.2.length ≤ 1000) : (tieLn t).length ≤ 4000 := by
  have b0 : (Str.empty : Str).length = 0 := rfl
  have b1 : ("tie " : Str).length = 4 := by decide +kernel
  have b2 : (" " : Str).length = 1 := by decide +kernel
  have b3 : ("\n" : Str).length = 1 := by decide +kernel
  unfold tieLn
  simp only [len_add]
  omega
abbrev jC : TE := fun σ H Q => tJs [tC (V.str "cell "), tFmt (tVar 3), tC (V.str " "), tFmt (tVar 4), tC (V.str "\n")] Str.empty σ H fun out H1 => Q (V.str out) H1
abbrev jT : TE := fun σ H Q => tJs [tC (V.str "tie "), tFmt (tVar 5), tC (V.str " "), tFmt (tVar 6), tC (V.str " "), tFmt (tVar 7), tC (V.str "\n")] Str.empty σ H fun out H1 => Q (V.str out) H1
theorem sum_le {l : List Nat} {m : Nat} (h : ∀ x ∈ l, x ≤ m) : l.sum ≤ l.length * m := by
  induction l with
  | nil => exact Nat.zero_le _
  | cons a l ih =>
    rw [List.sum_cons, List.length_cons, Nat.succ_mul]
    have := ih fun x hx => h x (List.mem_cons_of_mem _ hx)
    have := h a List.mem_cons_self
    omega
section
variable {P : Program} {w : World} {K : PySem.W.Frag} {mg : Str → Option Value} {base : Heap} {R : NtC K mg}
theorem ok_mtext (T : Top K mg) (M : NtM K mg R) : FnOk P w K mg base CX0 2 M.text.f M.text.fd ["self"] (spText R.C) := by
  refine M.text.F.ok sc_Network_text (fun vs H Q E h => ?_) (fun cdv A outer s H vs Q E hr h => ?_)
  · obtain ⟨x, dc, dt, cs, ts, rfl, _⟩ := h
    rfl
  obtain ⟨x, dc, dt, cs, ts, rfl, na, okc, okt, q⟩ := h
  obtain ⟨dx, h0, h1, h2⟩ := id na
  refine ⟨_, (pss_cons (ps_lock (ps_setLc (i := 1) (own := [("name", 3), ("kind", 4)]) rfl sc_Network_text.nd rfl rfl (sw_true rfl rfl rfl (by decide +kernel)) (pi_items (pe_fld (pv 0) (by rfl))) (blkOk_by (own := [("name", 3), ("kind", 4)]) (N := ["self", "cells", "ties", "name", "kind", "tie", "source", "target"]) (sc := defScope s_Network_text) (by decide +kernel)) (fun _ _ _ _ _ => by exact (pg_tup_K (K := K) (by rfl) (n := 2) (by rfl) (pgs_cons (pg_name (i := 3) sc_Network_text.nd rfl (Or.inl rfl)) (pgs_cons (pg_name (i := 4) sc_Network_text.nd rfl (Or.inl rfl)) pgs_nil)))) (fun _ _ _ _ _ => by exact pts_nil) (fun _ _ _ _ _ => by exact (pe_joined (.cons pe_str (.cons (pe_fmt (pv 3)) (.cons pe_str (.cons (pe_fmt (pv 4)) (.cons pe_str .nil)))))))))
    (pss_cons (ps_lock (ps_setLc (i := 2) (own := [("tie", 5), ("source", 6), ("target", 7)]) rfl sc_Network_text.nd rfl rfl (sw_true rfl rfl rfl (by decide +kernel)) (pi_keys (pe_fld (pv 0) (by rfl))) (blkOk_by (own := [("tie", 5), ("source", 6), ("target", 7)]) (N := ["self", "cells", "ties", "name", "kind", "tie", "source", "target"]) (sc := defScope s_Network_text) (by decide +kernel)) (fun _ _ _ _ _ => by exact (pg_tup_K (K := K) (by rfl) (n := 3) (by rfl) (pgs_cons (pg_name (i := 5) sc_Network_text.nd rfl (Or.inl rfl)) (pgs_cons (pg_name (i := 6) sc_Network_text.nd rfl (Or.inl rfl)) (pgs_cons (pg_name (i := 7) sc_Network_text.nd rfl (Or.inl rfl)) pgs_nil))))) (fun _ _ _ _ _ => by exact pts_nil) (fun _ _ _ _ _ => by exact (pe_joined (.cons pe_str (.cons (pe_fmt (pv 5)) (.cons pe_str (.cons (pe_fmt (pv 6)) (.cons pe_str (.cons (pe_fmt (pv 7)) (.cons pe_str .nil)))))))))))
    (pss_one (ps_ret (pe_join_K (K := K) (by rfl) pe_str (pe_op op_cat (pv 1) (pv 2))))))), ?_⟩
  refine ⟨dc, _, h1, True.intro, fun od => ?_⟩
  have nx : x ≠ dc := Ne.symm na.ne.1
  refine ⟨_, rfl, x, R.C, dx, _, .ref dc, rfl, by rw [upd_ne nx]; exact h0, R.cl, R.n1, rfl, dc, od, _, rfl, upd_same, fun D nD => ?_⟩
  have few := okc.few
  have fewt := okt.few
  have b0 : (Str.empty : Str).length = 0 := rfl
  have b1 : ("cell " : Str).length = 5 := by decide +kernel
  have b2 : (" " : Str).length = 1 := by decide +kernel
  have b3 : ("\n" : Str).length = 1 := by decide +kernel
  have b4 : ("tie " : Str).length = 4 := by decide +kernel
  refine lc_it (te := jC) walk_items (fun i H' => Same (upd H dc (.frz od (.dK (cs.map eC)))) H' ∧ H' D = some (.lst (((cs.take i).map cellLn).map V.str))) ⟨same_new nD, upd_same⟩ ?_ ?_ ?_
  · rintro i H' _ ⟨s1, _⟩
    exact s1 _ _ upd_same
  · rintro i z H' H'' hi ⟨s1, hD⟩ ⟨Tp, a, b, rfl, nT, rfl, ea, eb⟩
    obtain ⟨c, ec2, rfl, rfl⟩ := item_at ea eb
    have sT : Same H' (upd H' Tp (.tup [.str c.1, .str c.2])) := same_new nT
    obtain ⟨⟨_, l1⟩, ⟨_, l2⟩⟩ := okc.nm c (List.mem_of_getElem? ec2)
    refine ⟨Tp, _, rfl, SqT.of upd_same, rfl, _, _, rfl, _, _, rfl, rfl, rfl, ?_⟩
    refine ⟨_, rfl, le_line (by simp only [len_add]; omega), _, rfl, .inl ⟨_, rfl, le_line (by omega), _, rfl, le_line (by simp only [len_add]; omega), ?_⟩⟩
    refine ⟨_, rfl, le_line (by simp only [len_add]; omega), _, rfl, .inl ⟨_, rfl, le_line (by omega), _, rfl, le_line (by simp only [len_add]; omega), ?_⟩⟩
    refine ⟨_, rfl, le_line (by simp only [len_add]; omega), ?_⟩
    refine ⟨_, sT _ _ hD, ?_, same_mut (s1.trans sT) nD, ?_⟩
    · rw [List.length_map, List.length_map, List.length_take]
      exact lt_line (by omega)
    · rw [upd_same, take_next ec2, List.map_append, List.map_append]
      rfl
  · rintro H' ⟨s1, hD⟩
    rw [List.length_map, List.take_length] at hD
    refine ⟨s1 _ _ upd_same, ?_⟩
    have s2 := thaw (D := D) h1 s1
    have nDc : D ≠ dc := fun z => by rw [z, upd_same] at nD; cases nD
    have hD2 : upd H' dc (.dK (cs.map eC)) D = some (.lst ((cs.map cellLn).map V.str)) := by rw [upd_ne nDc]; exact hD
    generalize upd H' dc (.dK (cs.map eC)) = H2 at s2 hD2 ⊢
    obtain ⟨dx2, k0, k1, k2⟩ := id (na.mono s2)
    refine ⟨dt, _, k2, True.intro, fun od2 => ?_⟩
    have nx2 : x ≠ dt := Ne.symm na.ne.2.1
    refine ⟨_, rfl, x, R.C, dx2, _, .ref dt, rfl, by rw [upd_ne nx2]; exact k0, R.cl, R.n2, rfl, dt, od2, rfl, .inr ⟨_, upd_same, fun D2 nD2 => ?_⟩⟩
    refine lc_it (te := jT) walk_keysT (fun i H' => Same (upd H2 dt (.frz od2 (.dT (ts.map eT)))) H' ∧ H' D2 = some (.lst (((ts.take i).map tieLn).map V.str))) ⟨same_new nD2, upd_same⟩ ?_ ?_ ?_
    · rintro i H' _ ⟨s1, _⟩
      exact s1 _ _ upd_same
    · rintro i z H' H'' hi ⟨s3, hD3⟩ ⟨rfl, k, v, b, e, rfl, hb⟩
      obtain ⟨⟨t1, t2, t3⟩, et2, rfl⟩ := tie_at e
      have hb : H'' b = some (.tup [.str t1, .str t2, .str t3]) := hb
      rw [List.length_map] at hi
      obtain ⟨⟨_, l1⟩, m2, m3⟩ := okt.nm _ (List.mem_of_getElem? et2)
      have l1 : t1.length ≤ 1000 := l1
      have l2 : t2.length ≤ 1000 := (name_ok okc m2).2
      have l3 : t3.length ≤ 1000 := (name_ok okc m3).2
      refine ⟨b, _, rfl, SqT.of hb, rfl, _, _, rfl, _, _, rfl, _, _, rfl, rfl, rfl, ?_⟩
      refine ⟨_, rfl, le_line (by simp only [len_add]; omega), _, rfl, .inl ⟨_, rfl, le_line (by omega), _, rfl, le_line (by simp only [len_add]; omega), ?_⟩⟩
      refine ⟨_, rfl, le_line (by simp only [len_add]; omega), _, rfl, .inl ⟨_, rfl, le_line (by omega), _, rfl, le_line (by simp only [len_add]; omega), ?_⟩⟩
      refine ⟨_, rfl, le_line (by simp only [len_add]; omega), _, rfl, .inl ⟨_, rfl, le_line (by omega), _, rfl, le_line (by simp only [len_add]; omega), ?_⟩⟩
      refine ⟨_, rfl, le_line (by simp only [len_add]; omega), ?_⟩
      refine ⟨_, hD3, ?_, same_mut s3 nD2, ?_⟩
      · rw [List.length_map, List.length_map, List.length_take]
        exact lt_line (by omega)
      · rw [upd_same, take_next et2, List.map_append, List.map_append]
        rfl
    · rintro H' ⟨s3, hD3⟩
      rw [List.length_map, List.take_length] at hD3
      refine ⟨s3 _ _ upd_same, ?_⟩
      have s4 := thaw (D := D2) k2 s3
      have nDt : D2 ≠ dt := fun z => by rw [z, upd_same] at nD2; cases nD2
      have hD4 : upd H' dt (.dT (ts.map eT)) D2 = some (.lst ((ts.map tieLn).map V.str)) := by rw [upd_ne nDt]; exact hD3
      generalize upd H' dt (.dT (ts.map eT)) = H4 at s4 hD4 ⊢
      refine ⟨⟨_, rfl⟩, _, rfl, _, rfl, D, D2, _, _, rfl, rfl, (s4 _ _ hD2), hD4, le_line (by rw [List.length_map, List.length_map, List.length_map, List.length_map]; omega), fun p np => ?_⟩
      refine ⟨"", p, cs.map cellLn ++ ts.map tieLn, rfl, rfl, .inl (SqL.of ?_), ?_, ?_⟩
      · rw [upd_same, List.map_append]
      · have e1 : ("" : Str).length = 0 := by decide +kernel
        have h := sum_le (l := (cs.map cellLn ++ ts.map tieLn).map (·.length)) (m := 4000) fun n hn => by
          obtain ⟨z, hz, rfl⟩ := List.mem_map.mp hn
          rcases List.mem_append.mp hz with hz | hz
          · obtain ⟨c, hc, rfl⟩ := List.mem_map.mp hz
            exact cell_len (okc.nm c hc).1.2 (okc.nm c hc).2.2
          · obtain ⟨t, ht, rfl⟩ := List.mem_map.mp hz
            obtain ⟨a, b, c⟩ := okt.nm t ht
            exact tie_len a.2 (name_ok okc b).2 (name_ok okc c).2
        rw [List.length_map, List.length_append, List.length_map, List.length_map] at h
        rw [e1]
        omega
      · exact q _ (s2.trans (s4.trans (same_new np)))
end
end Bh

set_option Elab.async false
set_option linter.all false
set_option maxRecDepth 100000
set_option maxHeartbeats 1000000
namespace Bh
open PySem PySem.Spec PyProof.Rows L2
section
variable {P : Program} {w : World} {K : PySem.W.Frag} {mg : Str → Option Value} {base : Heap}
theorem like_step (T : Top K mg) (n : Nat) (G_l_like : FnOk P w K mg base CX0 n T.a_l_like T.fd_l_like ["_law_found", "_law_due"] (spLk K n)) : FnOk P w K mg base CX0 (n + 1) T.a_l_like T.fd_l_like ["_law_found", "_law_due"] (spLk K (n + 1)) := by
  refine T.d_l_like.F.ok sc_l_like (fun vs H Q E h => ?_) (fun cdv A outer s H vs Q E hr h => ?_)
  · obtain ⟨x, y, d, rfl, _⟩ := h
    rfl
  obtain ⟨x, y, d, rfl, hx, hy, hs, q⟩ := h
  refine ⟨_, (pss_cons (ps_if (pt_cmpR op_isN (pv 1) pe_non (nomark _)) (pss_one (ps_ret (pe_cmpR op_isN (pv 0) pe_non (nomark _)))) pss_nil)
    (pss_cons (ps_if (pt_val (pe_callB (call_isi_K (K := K) (by rfl)) (by rfl) T.b_isinstance (by decide +kernel) (pa_cons (pv 1) (pa_cons (pe_tyN "dict" (by rfl) T.b_dict (by decide +kernel)) pa_nil)))) (pss_cons ps_never
      (pss_one ps_never)) pss_nil)
    (pss_cons (ps_if (pt_val (pe_callB (call_isiT_K (K := K) (by rfl)) (by rfl) T.b_isinstance (by decide +kernel) (pa_cons (pv 1) (pa_cons (pe_tup (pa_cons (pe_tyN "list" (by rfl) T.b_list (by decide +kernel)) (pa_cons (pe_tyN "tuple" (by rfl) T.b_tuple (by decide +kernel)) pa_nil))) pa_nil)))) (pss_cons (ps_if (PW.pt (pw_or (pt_cmpR op_ne (pe_callB (call_isi_K (K := K) (by rfl)) (by rfl) T.b_isinstance (by decide +kernel) (pa_cons (pv 0) (pa_cons (pe_tyN "list" (by rfl) T.b_list (by decide +kernel)) pa_nil))) (pe_callB (call_isi_K (K := K) (by rfl)) (by rfl) T.b_isinstance (by decide +kernel) (pa_cons (pv 1) (pa_cons (pe_tyN "list" (by rfl) T.b_list (by decide +kernel)) pa_nil))) (nomark _)) (pw_or1 (pt_cmpR op_ne (pe_callB (call_isi_K (K := K) (by rfl)) (by rfl) T.b_isinstance (by decide +kernel) (pa_cons (pv 0) (pa_cons (pe_tyN "tuple" (by rfl) T.b_tuple (by decide +kernel)) pa_nil))) (pe_callB (call_isi_K (K := K) (by rfl)) (by rfl) T.b_isinstance (by decide +kernel) (pa_cons (pv 1) (pa_cons (pe_tyN "tuple" (by rfl) T.b_tuple (by decide +kernel)) pa_nil))) (nomark _))))) (pss_one (ps_ret pe_bl)) pss_nil)
      (pss_one (ps_ret (pe_and (pe_cmpR op_eq (pe_callB (call_len_seq_K (K := K) (by rfl)) (by rfl) T.b_len PySem.boot_len (pa_cons (pv 0) pa_nil)) (pe_callB (call_len_seq_K (K := K) (by rfl)) (by rfl) T.b_len PySem.boot_len (pa_cons (pv 1) pa_nil)) (nomark _)) (pe_one (pe_callB (cr_all_K (K := K) (by rfl) rfl) (by rfl) T.b_all (by decide +kernel) (pa_cons (pe_lc (own := [("_law_one", 3), ("_law_other", 4)]) rfl sc_l_like.nd (pi_zipA_K (K := K) (by rfl) (by rfl) T.b_zip (pa_cons (pv 0) (pa_cons (pv 1) pa_nil))) (blkOk_by (own := [("_law_one", 3), ("_law_other", 4)]) (N := ["_law_found", "_law_due", "_law_key", "_law_one", "_law_other"]) (sc := defScope s_l_like) (by decide +kernel)) (fun _ _ _ _ _ => by exact (pg_tup_K (K := K) (by rfl) (n := 2) (by rfl) (pgs_cons (pg_name (i := 3) sc_l_like.nd rfl (Or.inl rfl)) (pgs_cons (pg_name (i := 4) sc_l_like.nd rfl (Or.inl rfl)) pgs_nil)))) (fun _ _ _ _ _ => by exact pts_nil) (fun _ _ _ _ _ => by exact (pe_call G_l_like hr (by rfl) T.d_l_like.g T.d_l_like.kp T.d_l_like.b .nil pass0 (pa_cons (pv 3) (pa_cons (pv 4) pa_nil))))) pa_nil))))))) pss_nil)
    (pss_cons (ps_if (PW.pt (pw_or (pt_cmpR op_ne (pe_callB (call_isi_K (K := K) (by rfl)) (by rfl) T.b_isinstance (by decide +kernel) (pa_cons (pv 0) (pa_cons (pe_tyN "bool" (by rfl) T.b_bool (by decide +kernel)) pa_nil))) (pe_callB (call_isi_K (K := K) (by rfl)) (by rfl) T.b_isinstance (by decide +kernel) (pa_cons (pv 1) (pa_cons (pe_tyN "bool" (by rfl) T.b_bool (by decide +kernel)) pa_nil))) (nomark _)) (pw_or1 (pt_cmpR op_ne (pe_callB (call_isi_K (K := K) (by rfl)) (by rfl) T.b_isinstance (by decide +kernel) (pa_cons (pv 0) (pa_cons (pe_tyN "int" (by rfl) T.b_int (by decide +kernel)) pa_nil))) (pe_callB (call_isi_K (K := K) (by rfl)) (by rfl) T.b_isinstance (by decide +kernel) (pa_cons (pv 1) (pa_cons (pe_tyN "int" (by rfl) T.b_int (by decide +kernel)) pa_nil))) (nomark _))))) (pss_one (ps_ret pe_bl)) pss_nil)
    (pss_one (ps_ret (pe_and (pe_cmpR op_eq (pe_callB (call_isi_K (K := K) (by rfl)) (by rfl) T.b_isinstance (by decide +kernel) (pa_cons (pv 0) (pa_cons (pe_tyN "str" (by rfl) T.b_str (by decide +kernel)) pa_nil))) (pe_callB (call_isi_K (K := K) (by rfl)) (by rfl) T.b_isinstance (by decide +kernel) (pa_cons (pv 1) (pa_cons (pe_tyN "str" (by rfl) T.b_str (by decide +kernel)) pa_nil))) (nomark _)) (pe_one (pe_cmpR op_eq (pv 0) (pv 1) (nomark _)))))))))), ?_⟩
  cases hx with
  | non =>
    cases hy
    refine ⟨_, rfl, rfl, _, rfl, iteY rfl ⟨_, rfl, rfl, ?_⟩⟩
    exact q _ (Same.refl _)
  | bl b =>
    cases hy
    refine ⟨_, rfl, rfl, _, rfl, iteN (by intro z; cases z) ?_⟩
    refine ⟨_, rfl, _, _, _, _, false, rfl, .ty _, .base (.bl b), kit_ty (by decide +kernel), _, rfl, iteF ?_⟩
    refine ⟨_, rfl, (by show 2 ≤ sizeLine; decide), fun p np => ⟨_, p, _, _, _, false, rfl, upd_same, .cons (.ty _) (.cons (.ty _) .nil), .base (.bl b), kitAny_cons (kit_ty (b := "list") (r := false) (by decide +kernel)) (fun _ => kitAny_cons (kit_ty (r := false) (by decide +kernel)) (fun _ => kitAny_nil) (fun z => nomatch z)) (fun z => nomatch z), _, rfl, iteF ?_⟩⟩
    refine ⟨_, rfl, _, _, _, _, true, rfl, .ty _, .base (.bl b), kit_ty (by decide +kernel), _, rfl, _, _, _, _, true, rfl, .ty _, .base (.bl b), kit_ty (by decide +kernel), rfl, _, rfl, iteNS rfl ?_⟩
    refine ⟨_, rfl, _, _, _, _, true, rfl, .ty _, .base (.bl b), kit_ty (by decide +kernel), _, rfl, _, _, _, _, true, rfl, .ty _, .base (.bl b), kit_ty (by decide +kernel), rfl, _, rfl, iteNS rfl ?_⟩
    refine ⟨_, rfl, _, _, _, _, false, rfl, .ty _, .base (.bl b), kit_ty (by decide +kernel), _, rfl, _, _, _, _, false, rfl, .ty _, .base (.bl b), kit_ty (by decide +kernel), rfl, _, rfl, iteY rfl ⟨_, rfl, _, rfl, rfl, q_eq (q _ (same_new np))⟩⟩
  | int i =>
    cases hy
    refine ⟨_, rfl, rfl, _, rfl, iteN (by intro z; cases z) ?_⟩
    refine ⟨_, rfl, _, _, _, _, false, rfl, .ty _, .base (.int i), kit_ty (by decide +kernel), _, rfl, iteF ?_⟩
    refine ⟨_, rfl, (by show 2 ≤ sizeLine; decide), fun p np => ⟨_, p, _, _, _, false, rfl, upd_same, .cons (.ty _) (.cons (.ty _) .nil), .base (.int i), kitAny_cons (kit_ty (b := "list") (r := false) (by decide +kernel)) (fun _ => kitAny_cons (kit_ty (r := false) (by decide +kernel)) (fun _ => kitAny_nil) (fun z => nomatch z)) (fun z => nomatch z), _, rfl, iteF ?_⟩⟩
    refine ⟨_, rfl, _, _, _, _, false, rfl, .ty _, .base (.int i), kit_ty (by decide +kernel), _, rfl, _, _, _, _, false, rfl, .ty _, .base (.int i), kit_ty (by decide +kernel), rfl, _, rfl, iteNS rfl ?_⟩
    refine ⟨_, rfl, _, _, _, _, true, rfl, .ty _, .base (.int i), kit_ty (by decide +kernel), _, rfl, _, _, _, _, true, rfl, .ty _, .base (.int i), kit_ty (by decide +kernel), rfl, _, rfl, iteNS rfl ?_⟩
    refine ⟨_, rfl, _, _, _, _, false, rfl, .ty _, .base (.int i), kit_ty (by decide +kernel), _, rfl, _, _, _, _, false, rfl, .ty _, .base (.int i), kit_ty (by decide +kernel), rfl, _, rfl, iteY rfl ⟨_, rfl, _, rfl, rfl, q_eq (q _ (same_new np))⟩⟩
  | str z =>
    cases hy
    refine ⟨_, rfl, rfl, _, rfl, iteN (by intro z; cases z) ?_⟩
    refine ⟨_, rfl, _, _, _, _, false, rfl, .ty _, .base (.str z), kit_ty (by decide +kernel), _, rfl, iteF ?_⟩
    refine ⟨_, rfl, (by show 2 ≤ sizeLine; decide), fun p np => ⟨_, p, _, _, _, false, rfl, upd_same, .cons (.ty _) (.cons (.ty _) .nil), .base (.str z), kitAny_cons (kit_ty (b := "list") (r := false) (by decide +kernel)) (fun _ => kitAny_cons (kit_ty (r := false) (by decide +kernel)) (fun _ => kitAny_nil) (fun z => nomatch z)) (fun z => nomatch z), _, rfl, iteF ?_⟩⟩
    refine ⟨_, rfl, _, _, _, _, false, rfl, .ty _, .base (.str z), kit_ty (by decide +kernel), _, rfl, _, _, _, _, false, rfl, .ty _, .base (.str z), kit_ty (by decide +kernel), rfl, _, rfl, iteNS rfl ?_⟩
    refine ⟨_, rfl, _, _, _, _, false, rfl, .ty _, .base (.str z), kit_ty (by decide +kernel), _, rfl, _, _, _, _, false, rfl, .ty _, .base (.str z), kit_ty (by decide +kernel), rfl, _, rfl, iteNS rfl ?_⟩
    refine ⟨_, rfl, _, _, _, _, true, rfl, .ty _, .base (.str z), kit_ty (by decide +kernel), _, rfl, _, _, _, _, true, rfl, .ty _, .base (.str z), kit_ty (by decide +kernel), rfl, _, rfl, iteY rfl ⟨_, rfl, _, rfl, rfl, q_eq (q _ (same_new np))⟩⟩
  | @lst a xs ds h1 h2 =>
    cases hy with
    | @lst b ys _ k1 k2 =>
    cases hs with
    | @lst m _ hl hall =>
    have lxy : xs.length = ys.length := (DpAll.length h2).trans (DpAll.length k2).symm
    refine ⟨_, rfl, rfl, _, rfl, iteN (by intro z; cases z) ?_⟩
    refine ⟨_, rfl, _, _, _, _, false, rfl, .ty _, tyL k1, kit_ty (by decide +kernel), _, rfl, iteF ?_⟩
    refine ⟨_, rfl, (by show 2 ≤ sizeLine; decide), fun p np => ⟨_, p, _, _, _, true, rfl, upd_same, .cons (.ty _) (.cons (.ty _) .nil), tyL ((same_new np).seq k1), kitAny_cons (kit_ty (b := "list") (r := true) (by decide +kernel)) (fun z => nomatch z) (fun _ => rfl), _, rfl, iteT ?_⟩⟩
    have e1 : Same H (upd H p (.tup [.ty "list", .ty "tuple"])) := same_new np
    have h1' := e1.seq h1
    have k1' := e1.seq k1
    refine ⟨_, rfl, _, _, _, _, true, rfl, .ty _, tyL h1', kit_ty (by decide +kernel), _, rfl, _, _, _, _, true, rfl, .ty _, tyL k1', kit_ty (by decide +kernel), rfl, _, rfl, iteNS rfl ?_⟩
    refine ⟨_, rfl, _, _, _, _, false, rfl, .ty _, tyL h1', kit_ty (by decide +kernel), _, rfl, _, _, _, _, false, rfl, .ty _, tyL k1', kit_ty (by decide +kernel), rfl, _, rfl, iteNS rfl ?_⟩
    refine ⟨_, rfl, a, xs, rfl, .inl h1', _, rfl, b, ys, rfl, .inl k1', rfl, _, rfl, iteY (by rw [lxy]) ?_⟩
    refine ⟨_, rfl, _, rfl, a, b, xs, ys, rfl, .inl ⟨h1', k1', fun D nD => ?_⟩⟩
    refine lc_it (walk_zip (n := xs.length) (by omega)) (fun i H' => Same (upd H p (.tup [.ty "list", .ty "tuple"])) H' ∧ H' D = some (.lst ((List.replicate i true).map V.bl))) ⟨same_new nD, upd_same⟩ (fun i H' _ p => ⟨p.1.seq h1', p.1.seq k1'⟩) ?_ ?_
    · rintro i v H' H'' hi ⟨s1, hD⟩ ⟨Tp, x', y', rfl, nT, rfl, ex, ey⟩
      refine ⟨Tp, [x', y'], rfl, .inl (.inl upd_same), rfl, x', [y'], rfl, y', [], rfl, rfl, rfl, ?_⟩
      obtain ⟨d', hm, hx', hy'⟩ := dpa_at h2 k2 ex ey
      have s2 := e1.trans (s1.trans (same_new (o := .tup [x', y']) nT))
      refine ⟨_, rfl, _, rfl, x', y', d', rfl, Dp.mono s2 hx', Dp.mono s2 hy', hall _ hm, fun H4 s4 => ?_⟩
      have lz : xs.length = ds.length := DpAll.length h2
      refine ⟨_, s4 _ _ ((upd_ne (ne_of_none hD nT)).trans hD), by rw [List.length_map, List.length_replicate]; exact lt_line (by omega), fun b' o e' => ?_, ?_⟩
      · have nb : b' ≠ D := ne_of_none e' nD
        rw [upd_ne nb]
        exact s4 _ _ (same_new nT _ _ (s1 _ _ e'))
      · rw [upd_same, List.replicate_succ', List.map_append]
        rfl
    · rintro H' ⟨s1, hD⟩
      refine ⟨D, List.replicate xs.length true, rfl, SqL.of hD, ?_⟩
      rw [bls_true]
      exact q _ (e1.trans s1)
  | @tup a xs ds h1 h2 =>
    cases hy with
    | @tup b ys _ k1 k2 =>
    cases hs with
    | @tup m _ hl hall =>
    have lxy : xs.length = ys.length := (DpAll.length h2).trans (DpAll.length k2).symm
    refine ⟨_, rfl, rfl, _, rfl, iteN (by intro z; cases z) ?_⟩
    refine ⟨_, rfl, _, _, _, _, false, rfl, .ty _, tyT k1, kit_ty (by decide +kernel), _, rfl, iteF ?_⟩
    refine ⟨_, rfl, (by show 2 ≤ sizeLine; decide), fun p np => ⟨_, p, _, _, _, true, rfl, upd_same, .cons (.ty _) (.cons (.ty _) .nil), tyT (Same.tup (same_new np) k1), kitAny_cons (kit_ty (b := "list") (r := false) (by decide +kernel)) (fun _ => kitAny_cons (kit_ty (r := true) (by decide +kernel)) (fun z => nomatch z) (fun _ => rfl)) (fun z => nomatch z), _, rfl, iteT ?_⟩⟩
    have e1 : Same H (upd H p (.tup [.ty "list", .ty "tuple"])) := same_new np
    have h1' := Same.tup e1 h1
    have k1' := Same.tup e1 k1
    refine ⟨_, rfl, _, _, _, _, false, rfl, .ty _, tyT h1', kit_ty (by decide +kernel), _, rfl, _, _, _, _, false, rfl, .ty _, tyT k1', kit_ty (by decide +kernel), rfl, _, rfl, iteNS rfl ?_⟩
    refine ⟨_, rfl, _, _, _, _, true, rfl, .ty _, tyT h1', kit_ty (by decide +kernel), _, rfl, _, _, _, _, true, rfl, .ty _, tyT k1', kit_ty (by decide +kernel), rfl, _, rfl, iteNS rfl ?_⟩
    refine ⟨_, rfl, a, xs, rfl, .inr h1', _, rfl, b, ys, rfl, .inr k1', rfl, _, rfl, iteY (by rw [lxy]) ?_⟩
    refine ⟨_, rfl, _, rfl, a, b, xs, ys, rfl, .inr ⟨h1', k1', fun D nD => ?_⟩⟩
    refine lc_it (walk_zipT (n := xs.length) (by omega)) (fun i H' => Same (upd H p (.tup [.ty "list", .ty "tuple"])) H' ∧ H' D = some (.lst ((List.replicate i true).map V.bl))) ⟨same_new nD, upd_same⟩ (fun i H' _ p => ⟨Same.tup p.1 h1', Same.tup p.1 k1'⟩) ?_ ?_
    · rintro i v H' H'' hi ⟨s1, hD⟩ ⟨Tp, x', y', rfl, nT, rfl, ex, ey⟩
      refine ⟨Tp, [x', y'], rfl, .inl (.inl upd_same), rfl, x', [y'], rfl, y', [], rfl, rfl, rfl, ?_⟩
      obtain ⟨d', hm, hx', hy'⟩ := dpa_at h2 k2 ex ey
      have s2 := e1.trans (s1.trans (same_new (o := .tup [x', y']) nT))
      refine ⟨_, rfl, _, rfl, x', y', d', rfl, Dp.mono s2 hx', Dp.mono s2 hy', hall _ hm, fun H4 s4 => ?_⟩
      have lz : xs.length = ds.length := DpAll.length h2
      refine ⟨_, s4 _ _ ((upd_ne (ne_of_none hD nT)).trans hD), by rw [List.length_map, List.length_replicate]; exact lt_line (by omega), fun b' o e' => ?_, ?_⟩
      · have nb : b' ≠ D := ne_of_none e' nD
        rw [upd_ne nb]
        exact s4 _ _ (same_new nT _ _ (s1 _ _ e'))
      · rw [upd_same, List.replicate_succ', List.map_append]
        rfl
    · rintro H' ⟨s1, hD⟩
      refine ⟨D, List.replicate xs.length true, rfl, SqL.of hD, ?_⟩
      rw [bls_true]
      exact q _ (e1.trans s1)
theorem ok_like (T : Top K mg) : ∀ n : Nat, FnOk P w K mg base CX0 n T.a_l_like T.fd_l_like ["_law_found", "_law_due"] (spLk K n)
  | 0 => ⟨fun _ _ _ _ h => h.elim, fun _ _ _ _ _ _ _ _ _ _ _ _ _ h => h.elim⟩
  | n + 1 => like_step T n (ok_like T n)
end
end Bh

set_option Elab.async false
set_option linter.all false
set_option maxRecDepth 100000
set_option maxHeartbeats 1000000
namespace Bh
open PySem PySem.Spec PyProof.Rows L2
section
variable {P : Program} {w : World} {K : PySem.W.Frag} {mg : Str → Option Value} {base : Heap}
theorem ok_case (T : Top K mg) : FnOk P w K mg base CX0 3 T.a_l_case T.fd_l_case ["_law_bag_here", "_law_fields_here"] (spCase K) := by
  have G_l_draw := ok_draw (P := P) (w := w) (base := base) T
  have G_l_any := ok_any (P := P) (w := w) (base := base) T
  refine T.d_l_case.F.ok sc_l_case (fun vs H Q E h => ?_) (fun cdv A outer s H vs Q E hr h => ?_)
  · obtain ⟨b, l, a, G, xs, fs, rfl, _⟩ := h
    rfl
  obtain ⟨b, l, a, G, xs, fs, rfl, hS, hF, ok, wd, q⟩ := h
  refine ⟨_, (pss_cons (ps_par (i := 2) (j := 3) (by rfl) sc_l_case.nd rfl rfl (by decide) rfl rfl (pa_cons (pe_lst pa_nil) (pa_cons (pe_lst pa_nil) pa_nil)) (by rfl))
    (pss_cons (ps_for PassesOwn.never rfl (pi_range1 rfl T.b_range (pa_cons (pe_call G_l_draw (hr.mono (by decide)) (by rfl) T.d_l_draw.g T.d_l_draw.kp T.d_l_draw.b .nil pass0 (pa_cons (pv 0) (pa_cons pe_int pa_nil))) pa_nil)) (pg_name (i := 4) sc_l_case.nd rfl (Or.inl rfl))
      (pss_cons (ps_asg (pe_call G_l_any (hr.mono (by decide)) (by rfl) T.d_l_any.g T.d_l_any.kp T.d_l_any.b .nil pass0 (pa_cons (pv 0) (pa_cons (pv 1) pa_nil))) (pg_tup_K (K := K) (by rfl) (n := 2) (by rfl) (pgs_cons (pg_name (i := 5) sc_l_case.nd rfl (Or.inl rfl)) (pgs_cons (pg_name (i := 6) sc_l_case.nd rfl (Or.inl rfl)) pgs_nil))))
      (pss_one (ps_expr (pe_bm_K (K := K) (by rfl) PySem.F.plainAttrs_list PySem.F.slot_list_append PySem.F.type_list_append mt_append (pv 2) (pa_cons (pe_tup (pa_cons (pv 5) (pa_cons (pe_call G_l_any (hr.mono (by decide)) (by rfl) T.d_l_any.g T.d_l_any.kp T.d_l_any.b .nil pass0 (pa_cons (pv 0) (pa_cons (pe_lst (pa_cons pe_str (pa_cons pe_str (pa_cons pe_str (pa_cons pe_str pa_nil))))) pa_nil))) (pa_cons (pe_call G_l_any (hr.mono (by decide)) (by rfl) T.d_l_any.g T.d_l_any.kp T.d_l_any.b .nil pass0 (pa_cons (pv 0) (pa_cons (pv 6) pa_nil))) pa_nil)))) pa_nil))))))
    (pss_cons (ps_for PassesOwn.never rfl (pi_range1 rfl T.b_range (pa_cons (pe_call G_l_draw (hr.mono (by decide)) (by rfl) T.d_l_draw.g T.d_l_draw.kp T.d_l_draw.b .nil pass0 (pa_cons (pv 0) (pa_cons pe_int pa_nil))) pa_nil)) (pg_name (i := 4) sc_l_case.nd rfl (Or.inl rfl))
      (pss_cons (ps_asg (pe_call G_l_any (hr.mono (by decide)) (by rfl) T.d_l_any.g T.d_l_any.kp T.d_l_any.b .nil pass0 (pa_cons (pv 0) (pa_cons (pv 1) pa_nil))) (pg_tup_K (K := K) (by rfl) (n := 2) (by rfl) (pgs_cons (pg_name (i := 5) sc_l_case.nd rfl (Or.inl rfl)) (pgs_cons (pg_name (i := 6) sc_l_case.nd rfl (Or.inl rfl)) pgs_nil))))
      (pss_one (ps_expr (pe_bm_K (K := K) (by rfl) PySem.F.plainAttrs_list PySem.F.slot_list_append PySem.F.type_list_append mt_append (pv 3) (pa_cons (pe_tup (pa_cons (pv 5) (pa_cons (pe_call G_l_any (hr.mono (by decide)) (by rfl) T.d_l_any.g T.d_l_any.kp T.d_l_any.b .nil pass0 (pa_cons (pv 0) (pa_cons (pe_op op_cat (pe_lst (pa_cons pe_str pa_nil)) (pe_callTy (call_list_of_K (K := K) (by rfl)) (by rfl) T.b_list (by decide +kernel) (pa_cons (pv 6) pa_nil))) pa_nil))) pa_nil))) pa_nil))))))
    (pss_one (ps_ret (pe_tup (pa_cons (pe_callTy (call_tuple_of_P (K := K) (by rfl)) (by rfl) T.b_tuple (by decide +kernel) (pa_cons (pv 2) pa_nil)) (pa_cons (pe_ifExp (pt_cmpR op_eq (pe_call G_l_draw (hr.mono (by decide)) (by rfl) T.d_l_draw.g T.d_l_draw.kp T.d_l_draw.b .nil pass0 (pa_cons (pv 0) (pa_cons pe_int pa_nil))) pe_int (nomark _)) pe_non (pe_callTy (call_tuple_of_P (K := K) (by rfl)) (by rfl) T.b_tuple (by decide +kernel) (pa_cons (pv 3) pa_nil))) pa_nil)))))))), ?_⟩
  have lxs := fds_len hF
  have xne : xs ≠ [] := fun z => by
    have := ok.ne
    rw [← lxs, z] at this
    cases this
  have xle : xs.length ≤ 100000 := by
    have := ok.le
    omega
  refine ⟨Nat.zero_le _, fun pt npt => ?_⟩
  have w1 := wd.new (o := .lst []) npt
  have gpt := wd.free npt
  refine ⟨Nat.zero_le _, fun ps nps => ?_⟩
  have w2 := w1.new (o := .lst []) nps
  have gps1 := w1.free nps
  have pts : pt ≠ ps := ne_of_none upd_same gps1
  have gps : G ps = none := by
    rw [upd_ne pts.symm] at gps1
    exact gps1
  have sG : ∀ {G' : Hp}, Same G G' → Same G (hid ps (hid pt G')) := fun e => hid_of (hid_of e gpt) gps
  refine ⟨_, _, rfl, ?_⟩
  refine ⟨_, rfl, b, l, _, 3, rfl, by decide, by decide, w2, fun r3 H3 r30 r31 w3 => ?_⟩
  refine ⟨_, rfl, by omega, by omega, ?_⟩
  refine for_it walk_range (fun i σ H' => ∃ x4 x5 x6 G' txs ts, σ = [some (.ref b), some (.ref a), some (.ref pt), some (.ref ps), x4, x5, x6] ∧ Same G (hid ps (hid pt G')) ∧ Wd b l G' H' ∧ G' pt = some (.lst txs) ∧ G' ps = some (.lst []) ∧
      DpAll K (hid ps (hid pt G')) txs (ts.map dT) ∧ ts.length = i ∧ ∀ t ∈ ts, FitT fs t ∧ t.2.1 ∈ signs)
    ⟨none, none, none, _, [], [], rfl, sG ((same_new gpt).trans (same_new gps1)), w3, (upd_ne pts).trans upd_same, upd_same, .nil, rfl, (fun t ht => by cases ht)⟩ (fun _ _ _ _ _ => True.intro) ?_ ?_
  · rintro i v σ H' H'' hi ⟨x4, x5, x6, G', txs, ts, rfl, sg, w4, hpt, hps, hD, lt, ht⟩ ⟨rfl, rfl⟩
    have sg' : Same G G' := sg.trans (hid_le.trans hid_le)
    refine ⟨_, rfl, _, rfl, b, l, a, G', xs, rfl, .inl (sg'.seq hS), xne, xle, w4, fun x H5 hx w5 => ?_⟩
    obtain ⟨f, hf, hfd⟩ := fds_mem hF hx
    obtain ⟨ta, oa, rfl, k1, k2⟩ := hfd
    have hfo := ok.os f hf
    have fit : ∀ o, o ∈ f.2 → f.1 ∈ fs.map (·.1) ∧ o ∈ optsOf fs f.1 := fun o ho => ⟨List.mem_map.mpr ⟨f, hf, rfl⟩, by rw [opts_of ok.nd hf]; exact ho⟩
    refine ⟨ta, _, rfl, Same.tup (sg'.trans w5.sm) k1, rfl, _, _, rfl, _, _, rfl, rfl, ?_⟩
    refine ⟨_, rfl, .inl ⟨rfl, _, SqL.of (w5.sm _ _ hpt)⟩, _, rfl, _, rfl, (by show 4 ≤ sizeLine; decide), fun p6 n6 => ?_⟩
    have w6 := w5.new (o := .lst (signs.map V.str)) n6
    have s6 := w5.sameG (o := .lst (signs.map V.str)) n6
    refine ⟨b, l, p6, _, signs.map V.str, rfl, .inl (SqL.of upd_same), (by simp [signs]), by decide, w6, fun y H7 hy w7 => ?_⟩
    obtain ⟨sg1, hsg, rfl⟩ := List.mem_map.mp hy
    have one : f.2 ≠ [] := fun z => by
      have := hfo.2.1
      rw [z] at this
      cases this
    have six : f.2.length ≤ 6 := hfo.2.2.1
    refine ⟨_, rfl, _, rfl, b, l, oa, _, f.2.map V.str, rfl, .inr (Same.tup (sg'.trans s6) k2.sqT), (by simpa using one), by rw [List.length_map]; omega, w7, fun y8 H8 hy8 w8 => ?_⟩
    obtain ⟨op, hop, rfl⟩ := List.mem_map.mp hy8
    refine ⟨(by show 3 ≤ sizeLine; decide), fun t nt => ?_⟩
    have w9 := w8.new (o := .tup [.str f.1, .str sg1, .str op]) nt
    have s9 := s6.trans (w8.sameG (o := .tup [.str f.1, .str sg1, .str op]) nt)
    have hpt9 := s9 _ _ hpt
    have hps9 := s9 _ _ hps
    have ltx : txs.length = i := by rw [DpAll.length hD, List.length_map, lt]
    refine ⟨pt, txs, _, rfl, rfl, w9.sm _ _ hpt9, lt_line (by omega), ?_⟩
    have ntp : t ≠ pt := fun z => by
      have k := s6 _ _ hpt
      rw [← z, w8.free nt] at k
      cases k
    have nts : t ≠ ps := fun z => by
      have k := s6 _ _ hps
      rw [← z, w8.free nt] at k
      cases k
    have sh : Same (hid ps (hid pt G')) (hid ps (hid pt (upd (upd (upd G' p6 (.lst (signs.map V.str))) t (.tup [.str f.1, .str sg1, .str op])) pt (.lst (txs ++ [.ref t]))))) := by
      rw [hid_upd]
      exact hid_same (hid_same s9)
    refine ⟨_, _, _, _, txs ++ [.ref t], ts ++ [(f.1, sg1, op)], rfl, sg.trans sh, w9.mut hpt9, upd_same, ?_, ?_, ?_, ?_⟩
    · rw [upd_ne pts.symm]
      exact hps9
    · rw [List.map_append]
      refine dpa_snoc (DpAll.mono sh hD) ?_
      refine .tup (xs := [.str f.1, .str sg1, .str op]) (.inl (.inl ?_)) (.cons (.str _) (.cons (.str _) (.cons (.str _) .nil)))
      rw [hid_ne nts, hid_ne ntp, upd_ne ntp, upd_same]
    · rw [List.length_append, lt]
      rfl
    · intro t' ht'
      rcases List.mem_append.mp ht' with h' | h'
      · exact ht t' h'
      · cases List.mem_singleton.mp h'
        exact ⟨fit op hop, hsg⟩
  · rintro σ H' ⟨x4, x5, x6, G', txs, ts, rfl, sg, w4, hpt, hps, hD, lt, ht⟩
    refine ⟨_, rfl, b, l, G', 3, rfl, by decide, by decide, w4, fun r5 H5 r50 r51 w5 => ?_⟩
    refine ⟨_, rfl, by omega, by omega, ?_⟩
    refine for_it walk_range (fun i σ H' => ∃ x4 x5 x6 G' sxs ss, σ = [some (.ref b), some (.ref a), some (.ref pt), some (.ref ps), x4, x5, x6] ∧ Same G (hid ps (hid pt G')) ∧ Wd b l G' H' ∧ G' pt = some (.lst txs) ∧ G' ps = some (.lst sxs) ∧
        DpAll K (hid ps (hid pt G')) txs (ts.map dT) ∧ DpAll K (hid ps (hid pt G')) sxs (ss.map dS) ∧ ss.length = i ∧ ∀ s ∈ ss, FitS fs s)
      ⟨x4, x5, x6, G', [], [], rfl, sg, w5, hpt, hps, hD, .nil, rfl, (fun t ht => by cases ht)⟩ (fun _ _ _ _ _ => True.intro) ?_ ?_
    · rintro i v σ H' H'' hi ⟨x4, x5, x6, G', sxs, ss, rfl, sg, w4, hpt, hps, hD, hE, ls, hs⟩ ⟨rfl, rfl⟩
      have sg' : Same G G' := sg.trans (hid_le.trans hid_le)
      refine ⟨_, rfl, _, rfl, b, l, a, G', xs, rfl, .inl (sg'.seq hS), xne, xle, w4, fun x H5 hx w5 => ?_⟩
      obtain ⟨f, hf, hfd⟩ := fds_mem hF hx
      obtain ⟨ta, oa, rfl, k1, k2⟩ := hfd
      have hfo := ok.os f hf
      have fit : ∀ o, o ∈ f.2 → f.1 ∈ fs.map (·.1) ∧ o ∈ optsOf fs f.1 := fun o ho => ⟨List.mem_map.mpr ⟨f, hf, rfl⟩, by rw [opts_of ok.nd hf]; exact ho⟩
      refine ⟨ta, _, rfl, Same.tup (sg'.trans w5.sm) k1, rfl, _, _, rfl, _, _, rfl, rfl, ?_⟩
      refine ⟨_, rfl, .inl ⟨rfl, _, SqL.of (w5.sm _ _ hps)⟩, _, rfl, _, rfl, (by show 1 ≤ sizeLine; decide), fun p6 n6 => ?_⟩
      have w6 := w5.new (o := .lst [.str "+"]) n6
      have s6 := w5.sameG (o := .lst [.str "+"]) n6
      refine ⟨_, rfl, oa, _, rfl, .inr (Same.tup (sg'.trans (s6.trans w6.sm)) k2.sqT), fun l7 n7 => ?_⟩
      have w7 := w6.new (o := .lst (f.2.map V.str)) n7
      have s7 := s6.trans (w6.sameG (o := .lst (f.2.map V.str)) n7)
      have six : f.2.length ≤ 6 := hfo.2.2.1
      refine ⟨p6, l7, [.str "+"], f.2.map V.str, rfl, rfl, (upd_ne (ne_of_none upd_same n7)).trans upd_same, upd_same, le_line (by rw [List.length_map]; show 1 + _ ≤ _; omega), fun c8 n8 => ?_⟩
      have w8 := w7.new (o := .lst ([.str "+"] ++ f.2.map V.str)) n8
      have s8 := s7.trans (w7.sameG (o := .lst ([.str "+"] ++ f.2.map V.str)) n8)
      refine ⟨b, l, c8, _, [.str "+"] ++ f.2.map V.str, rfl, .inl (SqL.of upd_same), (by simp), by rw [List.length_append, List.length_map]; show 1 + _ ≤ _; omega, w8, fun y H9 hy w9 => ?_⟩
      have hy' : ∃ o : Str, y = .str o ∧ (o ≠ "+" → o ∈ f.2) := by
        rcases List.mem_append.mp hy with h' | h'
        · exact ⟨"+", List.mem_singleton.mp h', fun z => absurd rfl z⟩
        · obtain ⟨o, ho, rfl⟩ := List.mem_map.mp h'
          exact ⟨o, rfl, fun _ => ho⟩
      obtain ⟨op, rfl, hop⟩ := hy'
      refine ⟨(by show 2 ≤ sizeLine; decide), fun t nt => ?_⟩
      have w10 := w9.new (o := .tup [.str f.1, .str op]) nt
      have s10 := s8.trans (w9.sameG (o := .tup [.str f.1, .str op]) nt)
      have hpt9 := s10 _ _ hpt
      have hps9 := s10 _ _ hps
      have ltx : sxs.length = i := by rw [DpAll.length hE, List.length_map, ls]
      refine ⟨ps, sxs, _, rfl, rfl, w10.sm _ _ hps9, lt_line (by omega), ?_⟩
      have ntp : t ≠ pt := fun z => by
        have k := s8 _ _ hpt
        rw [← z, w9.free nt] at k
        cases k
      have nts : t ≠ ps := fun z => by
        have k := s8 _ _ hps
        rw [← z, w9.free nt] at k
        cases k
      have sh : Same (hid ps (hid pt G')) (hid ps (hid pt (upd (upd (upd (upd (upd G' p6 (.lst [.str "+"])) l7 (.lst (f.2.map V.str))) c8 (.lst ([.str "+"] ++ f.2.map V.str))) t (.tup [.str f.1, .str op])) ps (.lst (sxs ++ [.ref t]))))) := by
        rw [hid_comm, hid_comm (p := ps) (q := pt), hid_upd]
        exact hid_same (hid_same s10)
      refine ⟨_, _, _, _, sxs ++ [.ref t], ss ++ [(f.1, op)], rfl, sg.trans sh, w10.mut hps9, ?_, upd_same, DpAll.mono sh hD, ?_, ?_, ?_⟩
      · rw [upd_ne pts]
        exact hpt9
      · rw [List.map_append]
        refine dpa_snoc (DpAll.mono sh hE) ?_
        refine .tup (xs := [.str f.1, .str op]) (.inl (.inl ?_)) (.cons (.str _) (.cons (.str _) .nil))
        rw [hid_ne nts, hid_ne ntp, upd_ne nts, upd_same]
      · rw [List.length_append, ls]
        rfl
      · intro s' hs'
        rcases List.mem_append.mp hs' with h' | h'
        · exact hs s' h'
        · cases List.mem_singleton.mp h'
          exact ⟨List.mem_map.mpr ⟨f, hf, rfl⟩, fun z => (fit op (hop z)).2⟩
    · rintro σ H' ⟨x4, x5, x6, G', sxs, ss, rfl, sg, w4, hpt, hps, hD, hE, ls, hs⟩
      have sg' : Same G G' := sg.trans (hid_le.trans hid_le)
      have hD' := DpAll.mono (hid_le.trans hid_le) hD
      have hE' := DpAll.mono (hid_le.trans hid_le) hE
      refine ⟨_, rfl, pt, txs, rfl, .inl ⟨SqL.of (w4.sm _ _ hpt), fun q1 o1 n1 d1 => ?_⟩⟩
      have w5 := w4.new (o := .frz o1 (.tup txs)) n1
      have s5 := w4.sameG (o := .frz o1 (.tup txs)) n1
      have tD : Dp K (upd G' q1 (.frz o1 (.tup txs))) (.ref q1) (.tuple (ts.map dT)) := .tup (SqP.new d1).sqT (DpAll.mono s5 hD')
      refine ⟨_, rfl, b, l, _, 5, rfl, by decide, by decide, w5, fun r6 H6 r60 r61 w6 => ⟨rfl, _, rfl, ite3 (fun e => ?_) (fun e => ?_)⟩⟩
      · refine ⟨(by show 2 ≤ sizeLine; decide), fun y ny => ?_⟩
        have w7 := w6.new (o := .tup [.ref q1, .non]) ny
        have s7 := w6.sameG (o := .tup [.ref q1, .non]) ny
        refine q _ _ _ (ts, none) (sg'.trans (s5.trans s7)) w7 (.tup (SqT.of upd_same) (.cons (Dp.mono s7 tD) (.cons .non .nil))) ⟨fun t h' => (ht t h').1, fun ss h' => (by cases h'), (by show ts.length ≤ 1000; omega), fun ss h' => (by cases h')⟩ (by show ts.length ≤ 2; omega) (fun ss h' => by cases h') fun t h' => (ht t h').2
      · refine ⟨_, rfl, ps, sxs, rfl, .inl ⟨SqL.of (w6.sm _ _ (s5 _ _ hps)), fun q2 o2 n2 d2 => ?_⟩⟩
        have w7 := w6.new (o := .frz o2 (.tup sxs)) n2
        have s7 := w6.sameG (o := .frz o2 (.tup sxs)) n2
        refine ⟨(by show 2 ≤ sizeLine; decide), fun y ny => ?_⟩
        have w8 := w7.new (o := .tup [.ref q1, .ref q2]) ny
        have s8 := w7.sameG (o := .tup [.ref q1, .ref q2]) ny
        refine q _ _ _ (ts, some ss) (sg'.trans (s5.trans (s7.trans s8))) w8 (.tup (SqT.of upd_same) (.cons (Dp.mono (s7.trans s8) tD) (.cons (Dp.mono s8 (.tup (SqP.new d2).sqT (DpAll.mono (s5.trans s7) hE'))) .nil))) ⟨fun t h' => (ht t h').1, fun ss' h' => (by cases h'; exact hs), (by show ts.length ≤ 1000; omega), fun ss' h' => (by cases h'; omega)⟩ (by show ts.length ≤ 2; omega) (fun ss' h' => by cases h'; omega) fun t h' => (ht t h').2
end
end Bh

set_option Elab.async false
set_option linter.all false
set_option maxRecDepth 100000
set_option maxHeartbeats 1000000
namespace Bh
open PySem PySem.Spec PyProof.Rows L2
section
variable {P : Program} {w : World} {K : PySem.W.Frag} {mg : Str → Option Value} {base : Heap}
theorem ok_program (T : Top K mg) : FnOk P w K mg base CX0 4 T.a_l_program T.fd_l_program ["_law_bag_here", "_law_fields_here", "_law_most"] (spProg K) := by
  have G_l_draw := ok_draw (P := P) (w := w) (base := base) T
  have G_l_case := ok_case (P := P) (w := w) (base := base) T
  refine T.d_l_program.F.ok sc_l_program (fun vs H Q E h => ?_) (fun cdv A outer s H vs Q E hr h => ?_)
  · obtain ⟨b, l, a, G, n, xs, fs, rfl, _⟩ := h
    rfl
  obtain ⟨b, l, a, G, n, xs, fs, rfl, hS, hF, ok, n0, n8, wd, q⟩ := h
  refine ⟨_, (pss_one (ps_ret (pe_callTy (call_tuple_of_P (K := K) (by rfl)) (by rfl) T.b_tuple (by decide +kernel) (pa_cons (pe_lc (own := [("_law_k", 3)]) rfl sc_l_program.nd (pi_range1 rfl T.b_range (pa_cons (pe_op op_add pe_int (pe_call G_l_draw (hr.mono (by decide)) (by rfl) T.d_l_draw.g T.d_l_draw.kp T.d_l_draw.b .nil pass0 (pa_cons (pv 0) (pa_cons (pv 2) pa_nil)))) pa_nil)) (blkOk_by (own := [("_law_k", 3)]) (N := ["_law_bag_here", "_law_fields_here", "_law_most", "_law_k"]) (sc := defScope s_l_program) (by decide +kernel)) (fun _ _ _ _ _ => by exact (pg_name (i := 3) sc_l_program.nd rfl (Or.inl rfl))) (fun _ _ _ _ _ => by exact pts_nil) (fun _ _ _ _ _ => by exact (pe_call G_l_case (hr.mono (by decide)) (by rfl) T.d_l_case.g T.d_l_case.kp T.d_l_case.b .nil pass0 (pa_cons (pv 0) (pa_cons (pv 1) pa_nil))))) pa_nil)))), ?_⟩
  refine ⟨_, rfl, _, rfl, b, l, G, n, rfl, n0, by omega, wd, fun r H1 r0 r1 w1 => ?_⟩
  refine ⟨_, _, rfl, rfl, _, rfl, by omega, by omega, fun D nD => ?_⟩
  have gD := w1.free nD
  refine lc_it walk_range (fun i H' => ∃ G' ys p, Same G G' ∧ Wd b l G' H' ∧ G' D = some (.lst ys) ∧ DpAll K G' ys (p.map dC) ∧ p.length = i ∧ ∀ c ∈ p, FitC fs c ∧ c.1.length ≤ 2 ∧ (∀ ss, c.2 = some ss → ss.length ≤ 2) ∧ ∀ t ∈ c.1, t.2.1 ∈ signs)
    ⟨_, [], [], w1.sameG nD, w1.new nD, upd_same, .nil, rfl, (fun c hc => by cases hc)⟩ (fun _ _ _ _ => True.intro) ?_ ?_
  · rintro i v H' H'' hi ⟨G', ys, p, sg, w2, hD, hp, lp, hc⟩ ⟨rfl, rfl⟩
    refine ⟨rfl, ?_⟩
    refine ⟨_, rfl, _, rfl, b, l, a, G', xs, fs, rfl, sg.seq hS, fds_mono sg hF, ok, w2, fun G3 H3 y c s3 w3 hy fc c2 c3 c4 => ?_⟩
    have hD3 := s3 _ _ hD
    refine ⟨ys, w3.sm _ _ hD3, lt_line (by rw [DpAll.length hp, List.length_map]; omega), ?_⟩
    have im : Imm G3 (upd G3 D (.lst (ys ++ [y]))) := imm_upd hD3
    refine ⟨_, ys ++ [y], p ++ [c], same_mut (sg.trans s3) gD, w3.mut hD3, upd_same, ?_, ?_, ?_⟩
    · rw [List.map_append]
      exact dpa_snoc (DpAll.imm im (noLs_map noL_dC p) (DpAll.mono s3 hp)) (Dp.imm im (noL_dC c) hy)
    · rw [List.length_append, lp]
      rfl
    · intro c' h'
      rcases List.mem_append.mp h' with h' | h'
      · exact hc c' h'
      · cases List.mem_singleton.mp h'
        exact ⟨fc, c2, c3, c4⟩
  · rintro H' ⟨G', ys, p, sg, w2, hD, hp, lp, hc⟩
    refine ⟨D, ys, rfl, .inl ⟨SqL.of (w2.sm _ _ hD), fun t o nt ho => ?_⟩⟩
    have w3 := w2.new (o := .frz o (.tup ys)) nt
    have s3 := w2.sameG (o := .frz o (.tup ys)) nt
    exact q _ _ _ p (sg.trans s3) w3 (.tup (SqP.new ho).sqT (DpAll.mono s3 hp)) hc (by omega) (by omega)
end
end Bh

set_option Elab.async false
set_option linter.all false
set_option maxRecDepth 100000
set_option maxHeartbeats 1000000
namespace Bh
open PySem PySem.Spec PyProof.Rows L2
theorem paired_perm {α β : Type} {R : α → β → Prop} {xs ys : List α} (p : ys.Perm xs) : ∀ {fs : List β}, Paired R xs fs → ∃ gs, gs.Perm fs ∧ Paired R ys gs := by
  induction p with
  | nil => intro fs h; cases h; exact ⟨[], .nil, .nil⟩
  | cons x _ ih =>
    intro fs h
    cases h with
    | cons h t =>
      obtain ⟨gs, g1, g2⟩ := ih t
      exact ⟨_ :: gs, g1.cons _, .cons h g2⟩
  | swap x y l =>
    intro fs h
    cases h with
    | cons h t =>
      cases t with
      | cons h2 t => exact ⟨_ :: _ :: _, .swap _ _ _, .cons h2 (.cons h t)⟩
  | trans _ _ ih1 ih2 =>
    intro fs h
    obtain ⟨gs, g1, g2⟩ := ih2 h
    obtain ⟨hs, h1, h2⟩ := ih1 g2
    exact ⟨hs, h1.trans g1, h2⟩
theorem paired_take {α β : Type} {R : α → β → Prop} : ∀ {xs : List α} {fs : List β} (n : Nat), Paired R xs fs → Paired R (xs.take n) (fs.take n)
  | _, _, 0, _ => by rw [List.take_zero, List.take_zero]; exact .nil
  | _, _, n + 1, .nil => .nil
  | _, _, n + 1, .cons h t => .cons h (paired_take n t)
theorem fit_snoc {fs : List Fld} {v : List Str} {i : Nat} {f : Fld} {o : Str} (h : FitV (fs.take i) v) (hf : fs[i]? = some f) (ho : o ∈ f.2) : FitV (fs.take (i + 1)) (v ++ [o]) := by
  have e : fs.take (i + 1) = fs.take i ++ [f] := by rw [List.take_add_one, hf]; rfl
  obtain ⟨l1, l2⟩ := h
  rw [e]
  refine ⟨by rw [List.length_append, List.length_append, l1]; rfl, fun j g p hg hp => ?_⟩
  by_cases hj : j < (fs.take i).length
  · rw [List.getElem?_append_left hj] at hg
    rw [List.getElem?_append_left (by omega)] at hp
    exact l2 j g p hg hp
  · rw [List.getElem?_append_right (by omega)] at hg
    rw [List.getElem?_append_right (by omega), l1] at hp
    have z : j - (fs.take i).length = 0 := by
      have := (List.getElem?_eq_some_iff.mp hg).1
      simp only [List.length_singleton] at this
      omega
    rw [z] at hg hp
    cases hg
    cases hp
    exact ho
theorem noL_dKey (k : Str × Str) : noL (dKey k) = true := rfl
def spValue5 (K : PySem.W.Frag) : Sp := fun vs H Q _ => ∃ (b l a : Addr) (G : Hp) (xs : List V) (fs : List Fld), vs = [.ref b, .ref a] ∧ SqL K G a xs ∧ Paired (FdAt K G) xs fs ∧ FsOk fs ∧ Wd b l G H ∧
  ∀ (G' H' : Hp) (y : V) (v : List Str), Same G G' → Wd b l G' H' → Dp K G' y (dV v) → FitV fs v → Q y H'
def spKeys5 (K : PySem.W.Frag) : Sp := fun vs H Q _ => ∃ (b l a : Addr) (G : Hp) (xs : List V) (fs : List Fld), vs = [.ref b, .ref a] ∧ SqL K G a xs ∧ Paired (FdAt K G) xs fs ∧ FsOk fs ∧ Wd b l G H ∧
  ∀ (G' H' : Hp) (y : V) (ks : List (Str × Str)), Same G G' → Wd b l G' H' → Dp K G' y (.tuple (ks.map dKey)) → OkKeys fs ks → Q y H'
def spKinds5 (K : PySem.W.Frag) : Sp := fun vs H Q _ => ∃ (b l a : Addr) (G : Hp) (xs : List V) (fs : List Fld) (most : Int), vs = [.ref b, .ref a, .int most] ∧ 1 ≤ most ∧ most ≤ 4 ∧ SqL K G a xs ∧ Paired (FdAt K G) xs fs ∧ FsOk fs ∧ Wd b l G H ∧
  ∀ (G' H' : Hp) (p : Addr) (ys : List V) (ks : List Knd), Same G G' → Wd b l G' H' → G' p = some (.lst ys) → DpAll K G' ys (ks.map dKnd) → 1 ≤ ks.length → ks.length ≤ 3 → (ks.map (·.name)).Nodup → (∀ k ∈ ks, OkKnd fs k) → Q (.ref p) H'
section
variable {P : Program} {w : World} {K : PySem.W.Frag} {mg : Str → Option Value} {base : Heap}
theorem ok_value5 (T : Top K mg) : FnOk P w K mg base CX0 3 T.a_l_value T.fd_l_value ["_law_bag_here", "_law_fields_here"] (spValue5 K) := by
  have G_l_any := ok_any (P := P) (w := w) (base := base) T
  refine T.d_l_value.F.ok sc_l_value (fun vs H Q E h => ?_) (fun cdv A outer s H vs Q E hr h => ?_)
  · obtain ⟨b, l, a, G, xs, fs, rfl, _⟩ := h
    rfl
  obtain ⟨b, l, a, G, xs, fs, rfl, hS, hF, ok, wd, q⟩ := h
  refine ⟨_, (pss_one (ps_ret (pe_callTy (call_tuple_of_P (K := K) (by rfl)) (by rfl) T.b_tuple (by decide +kernel) (pa_cons (pe_lc (own := [("_law_name", 2), ("_law_options_here", 3)]) rfl sc_l_value.nd (pi_list_K (K := K) (by rfl) (pv 1)) (blkOk_by (own := [("_law_name", 2), ("_law_options_here", 3)]) (N := ["_law_bag_here", "_law_fields_here", "_law_name", "_law_options_here"]) (sc := defScope s_l_value) (by decide +kernel)) (fun _ _ _ _ _ => by exact (pg_tup_K (K := K) (by rfl) (n := 2) (by rfl) (pgs_cons (pg_name (i := 2) sc_l_value.nd rfl (Or.inl rfl)) (pgs_cons (pg_name (i := 3) sc_l_value.nd rfl (Or.inl rfl)) pgs_nil)))) (fun _ _ _ _ _ => by exact pts_nil) (fun _ _ _ _ _ => by exact (pe_call G_l_any (hr.mono (by decide)) (by rfl) T.d_l_any.g T.d_l_any.kp T.d_l_any.b .nil pass0 (pa_cons (pv 0) (pa_cons (pv 3) pa_nil))))) pa_nil)))), ?_⟩
  have lxs := fds_len hF
  have le3 := ok.le
  refine ⟨_, rfl, a, rfl, ⟨_, wd.sm.seq hS⟩, fun D nD => ?_⟩
  have gD := wd.free nD
  refine lc_it walk_list (fun i H' => ∃ (G' : Hp) (v : List Str), Same G G' ∧ Wd b l G' H' ∧ G' D = some (.lst (v.map V.str)) ∧ v.length = i ∧ FitV (fs.take i) v)
    ⟨_, [], wd.sameG nD, wd.new nD, upd_same, rfl, rfl, fun i f o e => by simp at e⟩ (fun i H' _ ⟨G', _, sg, w1, _⟩ => (sg.trans w1.sm).seq hS) ?_ ?_
  · rintro i x H' H'' hi ⟨G', v, sg, w1, hD, lv, fv⟩ ⟨rfl, ex⟩
    have li : i < fs.length := by omega
    have hf : fs[i]? = some fs[i] := List.getElem?_eq_getElem li
    obtain ⟨x', ex', hfd⟩ := fds_get hF hf
    rw [ex] at ex'
    cases ex'
    have hos := ok.os _ (List.getElem_mem li)
    obtain ⟨t, o, rfl, k1, k2⟩ := hfd.mono sg
    refine ⟨t, _, rfl, Same.tup w1.sm k1, rfl, _, _, rfl, _, _, rfl, rfl, rfl, ?_⟩
    refine ⟨_, rfl, _, rfl, b, l, o, G', fs[i].2.map V.str, rfl, .inr k2.sqT, (fun z => ?_), ?_, w1, fun y H5 hy w5 => ?_⟩
    · have z1 := congrArg List.length z
      rw [List.length_map] at z1
      have := hos.2.1
      rw [z1] at this
      cases this
    · rw [List.length_map]
      omega
    · obtain ⟨op, hop, rfl⟩ := List.mem_map.mp hy
      refine ⟨v.map V.str, w5.sm _ _ hD, lt_line (by rw [List.length_map]; omega), _, v ++ [op], same_mut sg gD, w5.mut hD, ?_, ?_, fit_snoc fv hf hop⟩
      · rw [upd_same, List.map_append]
        rfl
      · rw [List.length_append, lv]
        rfl
  · rintro H' ⟨G', v, sg, w1, hD, lv, fv⟩
    rw [lxs, List.take_length] at fv
    refine ⟨D, v.map V.str, rfl, .inl ⟨SqL.of (w1.sm _ _ hD), fun t o nt ho => ?_⟩⟩
    have w3 := w1.new (o := .frz o (.tup (v.map V.str))) nt
    have s3 := w1.sameG (o := .frz o (.tup (v.map V.str))) nt
    exact q _ _ _ v (sg.trans s3) w3 (dV_dp (SqP.new ho).sqT) fv
theorem ok_keys5 (T : Top K mg) : FnOk P w K mg base CX0 3 T.a_l_keys T.fd_l_keys ["_law_bag_here", "_law_fields_here"] (spKeys5 K) := by
  have G_l_draw := ok_draw (P := P) (w := w) (base := base) T
  have G_l_any := ok_any (P := P) (w := w) (base := base) T
  have G_l_mixed := ok_mixed (P := P) (w := w) (base := base) T
  refine T.d_l_keys.F.ok sc_l_keys (fun vs H Q E h => ?_) (fun cdv A outer s H vs Q E hr h => ?_)
  · obtain ⟨b, l, a, G, xs, fs, rfl, _⟩ := h
    rfl
  obtain ⟨b, l, a, G, xs, fs, rfl, hS, hF, ok, wd, q⟩ := h
  refine ⟨_, (pss_cons (ps_set (i := 2) sc_l_keys.nd rfl (Or.inl rfl) (pe_slice (sl_list_K (K := K) (by rfl)) (pe_call G_l_mixed (hr.mono (by decide)) (by rfl) T.d_l_mixed.g T.d_l_mixed.kp T.d_l_mixed.b .nil pass0 (pa_cons (pv 0) (pa_cons (pv 1) pa_nil))) po_none (po_some (pe_call G_l_draw (hr.mono (by decide)) (by rfl) T.d_l_draw.g T.d_l_draw.kp T.d_l_draw.b .nil pass0 (pa_cons (pv 0) (pa_cons (pe_op op_add (pe_callB (call_len_seq_K (K := K) (by rfl)) (by rfl) T.b_len PySem.boot_len (pa_cons (pv 1) pa_nil)) pe_int) pa_nil))))))
    (pss_one (ps_ret (pe_callTy (call_tuple_of_P (K := K) (by rfl)) (by rfl) T.b_tuple (by decide +kernel) (pa_cons (pe_lc (own := [("_law_name", 3), ("_law_options_here", 4)]) rfl sc_l_keys.nd (pi_list_K (K := K) (by rfl) (pv 2)) (blkOk_by (own := [("_law_name", 3), ("_law_options_here", 4)]) (N := ["_law_bag_here", "_law_fields_here", "_law_chosen", "_law_name", "_law_options_here"]) (sc := defScope s_l_keys) (by decide +kernel)) (fun _ _ _ _ _ => by exact (pg_tup_K (K := K) (by rfl) (n := 2) (by rfl) (pgs_cons (pg_name (i := 3) sc_l_keys.nd rfl (Or.inl rfl)) (pgs_cons (pg_name (i := 4) sc_l_keys.nd rfl (Or.inl rfl)) pgs_nil)))) (fun _ _ _ _ _ => by exact pts_nil) (fun _ _ _ _ _ => by exact (pe_tup (pa_cons (pv 3) (pa_cons (pe_call G_l_any (hr.mono (by decide)) (by rfl) T.d_l_any.g T.d_l_any.kp T.d_l_any.b .nil pass0 (pa_cons (pv 0) (pa_cons (pe_lst (pa_cons pe_str (pa_cons pe_str pa_nil))) pa_nil))) pa_nil))))) pa_nil))))), ?_⟩
  have lxs := fds_len hF
  have le3 := ok.le
  refine ⟨_, rfl, _, rfl, b, l, a, G, xs, rfl, hS, by omega, wd, fun G1 H1 p ys s1 w1 hp pm => ?_⟩
  obtain ⟨gs, pg, hG⟩ := paired_perm pm hF
  have lg : gs.length = fs.length := pg.length_eq
  have lys : ys.length = xs.length := pm.length_eq
  refine ⟨_, rfl, _, rfl, a, xs, rfl, .inl ((s1.trans w1.sm).seq hS), _, _, rfl, rfl, b, l, G1, _, rfl, by omega, by omega, w1, fun r H2 r0 r1 w2 => ?_⟩
  refine ⟨_, rfl, p, ys, rfl, SqL.of (w2.sm _ _ hp), fun c nc => ?_⟩
  rw [cutV_take _ (by omega)]
  have w3 := w2.new (o := .lst (ys.take r.toNat)) nc
  have s3 := s1.trans (w2.sameG (o := .lst (ys.take r.toNat)) nc)
  have hP : Paired (FdAt K G) (ys.take r.toNat) (gs.take r.toNat) := paired_take _ hG
  generalize eU : ys.take r.toNat = us at w3 s3 hP
  generalize eV : gs.take r.toNat = vs at hP
  have lus := fds_len hP
  have lvs : vs.length ≤ fs.length := by rw [← eV, List.length_take]; omega
  have sub : ∀ f ∈ vs, f ∈ fs := fun f hf => pg.mem_iff.mp (List.mem_of_mem_take (eV ▸ hf))
  have nd : (vs.map (·.1)).Nodup := by
    rw [← eV, List.map_take]
    exact ((pg.map (·.1)).nodup_iff.mpr ok.nd).sublist (List.take_sublist _ _)
  have hc := upd_same (H := G1) (a := c) (o := .lst us)
  generalize eG : upd G1 c (.lst us) = G3 at w3 s3 hc
  generalize upd H2 c (.lst us) = H3 at w3
  refine ⟨_, rfl, c, rfl, ⟨_, SqL.of (w3.sm _ _ hc)⟩, fun D nD => ?_⟩
  have gD := w3.free nD
  refine lc_it walk_list (fun i H' => ∃ (G' : Hp) (ks : List (Str × Str)) (zs : List V), Same G3 G' ∧ Wd b l G' H' ∧ G' D = some (.lst zs) ∧ DpAll K G' zs (ks.map dKey) ∧ ks.map (·.1) = (vs.take i).map (·.1) ∧ ∀ k ∈ ks, k.2 = "+" ∨ k.2 = "-")
    ⟨_, [], [], w3.sameG nD, w3.new nD, upd_same, .nil, rfl, (fun k hk => by cases hk)⟩ (fun i H' _ ⟨G', _, _, sg, w4, _⟩ => SqL.of (w4.sm _ _ (sg _ _ hc))) ?_ ?_
  · rintro i x H' H'' hi ⟨G', ks, zs, sg, w4, hD, hK, ek, hk⟩ ⟨rfl, ex⟩
    have li : i < vs.length := by omega
    have hf : vs[i]? = some vs[i] := List.getElem?_eq_getElem li
    obtain ⟨x', ex', hfd⟩ := fds_get hP hf
    rw [ex] at ex'
    cases ex'
    obtain ⟨t, o, rfl, k1, k2⟩ := hfd.mono (s3.trans sg)
    have lk : ks.length = i := by
      have z := congrArg List.length ek
      rw [List.length_map, List.length_map, List.length_take] at z
      omega
    refine ⟨t, _, rfl, Same.tup w4.sm k1, rfl, _, _, rfl, _, _, rfl, rfl, rfl, ?_⟩
    refine ⟨_, rfl, _, rfl, (by show 2 ≤ sizeLine; decide), fun p6 n6 => ?_⟩
    have w6 := w4.new (o := .lst [.str "+", .str "-"]) n6
    have s6 := w4.sameG (o := .lst [.str "+", .str "-"]) n6
    refine ⟨b, l, p6, _, [.str "+", .str "-"], rfl, .inl (SqL.of upd_same), (fun z => by cases z), by decide, w6, fun y H7 hy w7 => ?_⟩
    obtain ⟨sg1, hsg, rfl⟩ : ∃ z : Str, (z = "+" ∨ z = "-") ∧ y = .str z := by
      rcases List.mem_cons.mp hy with e | e
      · exact ⟨_, .inl rfl, e⟩
      · exact ⟨_, .inr rfl, List.mem_singleton.mp e⟩
    refine ⟨(by show 2 ≤ sizeLine; decide), fun t8 n8 => ?_⟩
    have w8 := w7.new (o := .tup [.str vs[i].1, .str sg1]) n8
    have s8 := s6.trans (w7.sameG (o := .tup [.str vs[i].1, .str sg1]) n8)
    have hD8 := s8 _ _ hD
    refine ⟨zs, w8.sm _ _ hD8, lt_line (by rw [DpAll.length hK, List.length_map]; omega), ?_⟩
    have im : Imm (upd (upd G' p6 (.lst [.str "+", .str "-"])) t8 (.tup [.str vs[i].1, .str sg1])) (upd (upd (upd G' p6 (.lst [.str "+", .str "-"])) t8 (.tup [.str vs[i].1, .str sg1])) D (.lst (zs ++ [.ref t8]))) := imm_upd hD8
    refine ⟨_, ks ++ [(vs[i].1, sg1)], zs ++ [.ref t8], same_mut (sg.trans s8) gD, w8.mut hD8, upd_same, ?_, ?_, ?_⟩
    · rw [List.map_append]
      refine dpa_snoc (DpAll.imm im (noLs_map noL_dKey ks) (DpAll.mono s8 hK)) (Dp.imm im (noL_dKey _) (.tup (xs := [.str vs[i].1, .str sg1]) (.inl (.inl upd_same)) (.cons (.str _) (.cons (.str _) .nil))))
    · rw [List.map_append, ek, List.take_add_one, hf, List.map_append]
      rfl
    · intro k h'
      rcases List.mem_append.mp h' with h' | h'
      · exact hk k h'
      · cases List.mem_singleton.mp h'
        exact hsg
  · rintro H' ⟨G', ks, zs, sg, w4, hD, hK, ek, hk⟩
    rw [lus, List.take_length] at ek
    have lk : ks.length = vs.length := by
      have z := congrArg List.length ek
      rw [List.length_map, List.length_map] at z
      exact z
    refine ⟨D, zs, rfl, .inl ⟨SqL.of (w4.sm _ _ hD), fun t o nt ho => ?_⟩⟩
    have w5 := w4.new (o := .frz o (.tup zs)) nt
    have s5 := w4.sameG (o := .frz o (.tup zs)) nt
    refine q _ _ _ ks (s3.trans (sg.trans s5)) w5 (.tup (SqP.new ho).sqT (DpAll.mono s5 hK)) ⟨by omega, by rw [ek]; exact nd, fun k h' => ⟨?_, hk k h'⟩⟩
    have z : k.1 ∈ vs.map (·.1) := ek ▸ List.mem_map.mpr ⟨k, h', rfl⟩
    obtain ⟨f, hf, e⟩ := List.mem_map.mp z
    exact List.mem_map.mpr ⟨f, sub f hf, e⟩
end
end Bh

set_option Elab.async false
set_option linter.all false
set_option maxRecDepth 100000
set_option maxHeartbeats 1000000
namespace Bh
open PySem PySem.Spec PyProof.Rows L2
theorem min3_lo {m : Int} (h : 1 ≤ m) : 0 < (if 3 < m then 3 else m) := by split <;> omega
theorem min3_hi {m : Int} (h : m ≤ 4) : (if 3 < m then 3 else m) < 1073741824 := by split <;> omega
theorem min3_lt {m r : Int} (h : r < (if 3 < m then 3 else m)) : r < 3 := by split at h <;> omega
theorem meet3 {t1 t2 : TE} {σ : L2.St} {H : Hp} {k : VK} {b : Bool} (R : V → Hp → Prop) (h : ∀ k' : VK, (∀ y H', R y H' → k' y H') → if b = true then t1 σ H k' else t2 σ H k') (hk : ∀ y H', R y H' → k y H') : if b = true then t1 σ H k else t2 σ H k := h k hk
theorem noL_dH : ∀ o : Option (List Str), noL (dH o) = true
  | none => rfl
  | some v => noL_dV v
theorem noL_dOP : ∀ o : Option (List Cas), noL (dOP o) = true
  | none => rfl
  | some p => noLs_map noL_dC p
theorem noL_dKnd (k : Knd) : noL (dKnd k) = true := by
  show (true && (noLs (k.keys.map dKey) && (noL (dOP k.taking) && (noL (dH k.birth) && true)))) = true
  rw [noLs_map noL_dKey, noL_dOP, noL_dH]
  rfl
section
variable {P : Program} {w : World} {K : PySem.W.Frag} {mg : Str → Option Value} {base : Heap}
theorem ok_kinds5 (T : Top K mg) : FnOk P w K mg base CX0 5 T.a_l_kinds T.fd_l_kinds ["_law_bag_here", "_law_fields_here", "_law_most"] (spKinds5 K) := by
  have G_l_draw := ok_draw (P := P) (w := w) (base := base) T
  have G_l_words := ok_words (P := P) (w := w) (base := base) T
  have G_l_program := ok_program (P := P) (w := w) (base := base) T
  have G_l_value := ok_value5 (P := P) (w := w) (base := base) T
  have G_l_keys := ok_keys5 (P := P) (w := w) (base := base) T
  refine T.d_l_kinds.F.ok sc_l_kinds (fun vs H Q E h => ?_) (fun cdv A outer s H vs Q E hr h => ?_)
  · obtain ⟨b, l, a, G, xs, fs, most, rfl, _⟩ := h
    rfl
  obtain ⟨b, l, a, G, xs, fs, most, rfl, ms0, ms1, hS, hF, ok, wd, q⟩ := h
  refine ⟨_, (pss_cons (ps_par (i := 3) (j := 4) (by rfl) sc_l_kinds.nd rfl rfl (by decide) rfl rfl (pa_cons (pe_call G_l_words (hr.mono (by decide)) (by rfl) T.d_l_words.g T.d_l_words.kp T.d_l_words.b .nil pass0 (pa_cons (pv 0) (pa_cons pe_int pa_nil))) (pa_cons (pe_lst pa_nil) pa_nil)) (by rfl))
    (pss_cons (ps_for PassesOwn.never rfl (pi_range1 rfl T.b_range (pa_cons (pe_op op_add pe_int (pe_call G_l_draw (hr.mono (by decide)) (by rfl) T.d_l_draw.g T.d_l_draw.kp T.d_l_draw.b .nil pass0 (pa_cons (pv 0) (pa_cons (pe_callB (call_min2 rfl) (by rfl) T.b_min (by decide +kernel) (pa_cons (pv 2) (pa_cons pe_int pa_nil))) pa_nil)))) pa_nil)) (pg_name (i := 5) sc_l_kinds.nd rfl (Or.inl rfl))
      (pss_cons (ps_set (i := 6) sc_l_kinds.nd rfl (Or.inl rfl) (pe_ifExp (pt_cmpR op_eq (pe_call G_l_draw (hr.mono (by decide)) (by rfl) T.d_l_draw.g T.d_l_draw.kp T.d_l_draw.b .nil pass0 (pa_cons (pv 0) (pa_cons pe_int pa_nil))) pe_int (nomark _)) (pe_call G_l_program (hr.mono (by decide)) (by rfl) T.d_l_program.g T.d_l_program.kp T.d_l_program.b .nil pass0 (pa_cons (pv 0) (pa_cons (pv 1) (pa_cons pe_int pa_nil)))) pe_non))
      (pss_cons (ps_set (i := 7) sc_l_kinds.nd rfl (Or.inl rfl) (pe_ifExp (pt_cmpR op_eq (pe_call G_l_draw (hr.mono (by decide)) (by rfl) T.d_l_draw.g T.d_l_draw.kp T.d_l_draw.b .nil pass0 (pa_cons (pv 0) (pa_cons pe_int pa_nil))) pe_int (nomark _)) (pe_call G_l_value (hr.mono (by decide)) (by rfl) T.d_l_value.g T.d_l_value.kp T.d_l_value.b .nil pass0 (pa_cons (pv 0) (pa_cons (pv 1) pa_nil))) pe_non))
      (pss_one (ps_expr (pe_bm_K (K := K) (by rfl) PySem.F.plainAttrs_list PySem.F.slot_list_append PySem.F.type_list_append mt_append (pv 4) (pa_cons (pe_tup (pa_cons (pe_ix (ix_list_K (K := K) (by rfl)) (pv 3) (pv 5) (fun _ _ => rfl)) (pa_cons (pe_call G_l_keys (hr.mono (by decide)) (by rfl) T.d_l_keys.g T.d_l_keys.kp T.d_l_keys.b .nil pass0 (pa_cons (pv 0) (pa_cons (pv 1) pa_nil))) (pa_cons (pv 6) (pa_cons (pv 7) pa_nil))))) pa_nil)))))))
    (pss_one (ps_ret (pv 4))))), ?_⟩
  refine ⟨_, rfl, b, l, G, 3, rfl, by decide, by decide, wd, fun G1 H1 p ws s1 w1 h1 lw ndw nmw => ?_⟩
  refine ⟨Nat.zero_le _, fun pf nf => ?_⟩
  have g1f : G1 pf = none := w1.free nf
  have gf : G pf = none := s1.free g1f
  have w2 := w1.new (o := .lst []) nf
  have s2 := s1.trans (w1.sameG (o := .lst []) nf)
  have hpf : p ≠ pf := ne_of_none h1 g1f
  refine ⟨_, _, rfl, ?_⟩
  refine ⟨_, rfl, _, rfl, _, _, rfl, b, l, _, _, rfl, min3_lo ms0, min3_hi ms1, w2, fun r H4 r0 r1 w4 => ?_⟩
  have r3 := min3_lt r1
  refine ⟨_, _, rfl, rfl, _, rfl, by omega, by omega, ?_⟩
  have h1' : (upd G1 pf (.lst [])) p = some (.lst (ws.map V.str)) := (upd_ne hpf).trans h1
  refine for_it walk_range (fun i σ H' => ∃ x5 x6 x7 G' ys ks, σ = [some (.ref b), some (.ref a), some (.int most), some (.ref p), some (.ref pf), x5, x6, x7] ∧ Same G G' ∧ Wd b l G' H' ∧ G' pf = some (.lst ys) ∧ DpAll K G' ys (ks.map dKnd) ∧
      G' p = some (.lst (ws.map V.str)) ∧ ks.map (·.name) = ws.take i ∧ ∀ k ∈ ks, OkKnd fs k)
    ⟨none, none, none, _, [], [], rfl, s2, w4, upd_same, .nil, h1', rfl, (fun k hk => by cases hk)⟩ (fun _ _ _ _ _ => True.intro) ?_ ?_
  · rintro i v σ H' H'' hi ⟨x5, x6, x7, G', ys, ks, rfl, sg, w5, hx, hK, hw, ek, hk⟩ ⟨rfl, rfl⟩
    have sg' := sg
    have i3 : i < 3 := by omega
    refine ⟨_, rfl, b, l, _, 3, rfl, by decide, by decide, w5, fun r5 H5 r50 r51 w6 => ⟨rfl, _, rfl, ?_⟩⟩
    refine meet3 (fun y H6 => ∃ (G6 : Hp) (o : Option (List Cas)), Same G' G6 ∧ Wd b l G6 H6 ∧ Dp K G6 y (dOP o) ∧ ∀ p, o = some p → OkPrg fs p) (fun k' hk' => ?_) fun y6 H6 ⟨G6, o6, s6, w7, d6, t6⟩ => ?_
    · refine ite3 (fun e => ?_) (fun e => ?_)
      · refine ⟨_, rfl, _, rfl, b, l, a, G', 2, xs, fs, rfl, sg'.seq hS, fds_mono sg' hF, ok, by decide, by decide, w6, fun G7 H7 y7 pg s7 w7 d7 hc l1 l8 => ?_⟩
        exact hk' _ _ ⟨G7, some pg, s7, w7, d7, fun p e => by cases e; exact ⟨l1, l8, fun c h => ⟨(hc c h).1, by have := (hc c h).2.1; omega, fun ss e => by have := (hc c h).2.2.1 ss e; omega, (hc c h).2.2.2⟩⟩⟩
      · exact hk' _ _ ⟨G', none, Same.refl _, w6, .non, fun p e => by cases e⟩
    refine ⟨_, rfl, b, l, _, 2, rfl, by decide, by decide, w7, fun r7 H7 r70 r71 w8 => ⟨rfl, _, rfl, ?_⟩⟩
    refine meet3 (fun y H6 => ∃ (G8 : Hp) (o : Option (List Str)), Same G6 G8 ∧ Wd b l G8 H6 ∧ Dp K G8 y (dH o) ∧ ∀ v, o = some v → FitV fs v) (fun k' hk' => ?_) fun y8 H8 ⟨G8, o8, s8, w9, d8, t8⟩ => ?_
    · refine ite3 (fun e => ?_) (fun e => ?_)
      · have sg6 := sg.trans s6
        refine ⟨_, rfl, _, rfl, b, l, a, G6, xs, fs, rfl, sg6.seq hS, fds_mono sg6 hF, ok, w8, fun G7 H7 y7 v s7 w7 d7 hv => ?_⟩
        exact hk' _ _ ⟨G7, some v, s7, w7, d7, fun u e => by cases e; exact hv⟩
      · exact hk' _ _ ⟨G6, none, Same.refl _, w8, .non, fun p e => by cases e⟩
    have s68 := s6.trans s8
    have sg8 := sg.trans s68
    have hwi : ws[i]? = some ws[i] := List.getElem?_eq_getElem (by rw [lw]; exact i3)
    refine ⟨_, rfl, .inl ⟨rfl, _, SqL.of (w9.sm _ _ (s68 _ _ hx))⟩, _, rfl, _, rfl, p, _, _, .str ws[i], rfl, rfl, SqL.of (w9.sm _ _ (s68 _ _ hw)), at_nn (by omega) (by rw [show ((0 : Int) + (i : Int)).toNat = i by omega, List.getElem?_map, hwi]; rfl), ?_⟩
    refine ⟨_, rfl, _, rfl, b, l, a, G8, xs, fs, rfl, sg8.seq hS, fds_mono sg8 hF, ok, w9, fun G9 H9 y9 k9 s9 w10 d9 ok9 => ?_⟩
    refine ⟨_, rfl, _, rfl, (by show 4 ≤ sizeLine; decide), fun t nt => ?_⟩
    have w11 := w10.new (o := .tup [.str ws[i], y9, y6, y8]) nt
    have s11 := w10.sameG (o := .tup [.str ws[i], y9, y6, y8]) nt
    have sA := s68.trans (s9.trans s11)
    have hxA := sA _ _ hx
    have lks : ks.length = i := by
      have z := congrArg List.length ek
      rw [List.length_map, List.length_take, lw] at z
      omega
    refine ⟨pf, ys, _, rfl, rfl, w11.sm _ _ hxA, lt_line (by rw [DpAll.length hK, List.length_map]; omega), ?_⟩
    have im : Imm (upd G9 t (.tup [.str ws[i], y9, y6, y8])) (upd (upd G9 t (.tup [.str ws[i], y9, y6, y8])) pf (.lst (ys ++ [.ref t]))) := imm_upd hxA
    refine ⟨_, _, _, _, ys ++ [.ref t], ks ++ [⟨ws[i], k9, o6, o8⟩], rfl, same_mut (sg.trans sA) gf, w11.mut hxA, upd_same, ?_, ?_, ?_, ?_⟩
    · rw [List.map_append]
      refine dpa_snoc (DpAll.imm im (noLs_map noL_dKnd ks) (DpAll.mono sA hK)) (Dp.imm im (noL_dKnd _) ?_)
      exact .tup (SqT.of upd_same) (.cons (.str _) (.cons (Dp.mono s11 d9) (.cons (Dp.mono (s8.trans (s9.trans s11)) d6) (.cons (Dp.mono (s9.trans s11) d8) .nil))))
    · rw [upd_ne hpf]
      exact sA _ _ hw
    · rw [List.map_append, ek, List.take_add_one, hwi]
      rfl
    · intro k h'
      rcases List.mem_append.mp h' with h' | h'
      · exact hk k h'
      · cases List.mem_singleton.mp h'
        exact ⟨nmw _ (List.mem_of_getElem? hwi), ok9, t6, t8⟩
  · rintro σ H' ⟨x5, x6, x7, G', ys, ks, rfl, sg, w5, hx, hK, hw, ek, hk⟩
    have lk : ks.length = (1 + r).toNat := by
      have z := congrArg List.length ek
      rw [List.length_map, List.length_take, lw] at z
      omega
    refine ⟨_, rfl, q G' H' pf ys ks sg w5 hx hK (by omega) (by omega) ?_ hk⟩
    rw [ek]
    exact ndw.sublist (List.take_sublist _ _)
end
end Bh

set_option Elab.async false
set_option linter.all false
set_option maxRecDepth 100000
set_option maxHeartbeats 1000000
namespace Bh
open PySem PySem.Spec PyProof.Rows L2
theorem noL_dTie (t : Tie) : noL (dTie t) = true := by
  show (true && (noLs (t.2.map dC) && true)) = true
  rw [noLs_map noL_dC]
  rfl
def spBook5 (K : PySem.W.Frag) : Sp := fun vs H Q _ => ∃ (b l : Addr) (G : Hp) (most : Int), vs = [.ref b, .int 4, .int most] ∧ 1 ≤ most ∧ most ≤ 4 ∧ Wd b l G H ∧
  ∀ (G' H' : Hp) (t p1 p2 p3 : Addr) (y1 y2 y3 : List V) (fs : List Fld) (ts : List Tie) (ks : List Knd), Same G G' → Wd b l G' H' → G' t = some (.tup [.ref p1, .ref p2, .ref p3]) → G' p1 = some (.lst y1) → G' p2 = some (.lst y2) → G' p3 = some (.lst y3) →
    Paired (FdAt K G') y1 fs → DpAll K G' y2 (ts.map dTie) → DpAll K G' y3 (ks.map dKnd) → FsOk fs → 1 ≤ ts.length → ts.length ≤ 4 → (∀ t ∈ ts, IsNm t.1) → 1 ≤ ks.length → ks.length ≤ 3 → (∀ k ∈ ks, IsNm k.name) → Q (.ref t) H'
section
variable {P : Program} {w : World} {K : PySem.W.Frag} {mg : Str → Option Value} {base : Heap}
theorem ok_book5 (T : Top K mg) : FnOk P w K mg base CX0 6 T.a_l_book T.fd_l_book ["_law_bag_here", "_law_room", "_law_most"] (spBook5 K) := by
  have G_l_draw := ok_draw (P := P) (w := w) (base := base) T
  have G_l_words := ok_words (P := P) (w := w) (base := base) T
  have G_l_fields := ok_fields (P := P) (w := w) (base := base) T
  have G_l_program := ok_program (P := P) (w := w) (base := base) T
  have G_l_kinds := ok_kinds5 (P := P) (w := w) (base := base) T
  refine T.d_l_book.F.ok sc_l_book (fun vs H Q E h => ?_) (fun cdv A outer s H vs Q E hr h => ?_)
  · obtain ⟨b, l, G, most, rfl, _⟩ := h
    rfl
  obtain ⟨b, l, G, most, rfl, ms0, ms1, wd, q⟩ := h
  refine ⟨_, (pss_cons (ps_set (i := 3) sc_l_book.nd rfl (Or.inr rfl) (pe_call G_l_fields (hr.mono (by decide)) (by rfl) T.d_l_fields.g T.d_l_fields.kp T.d_l_fields.b .nil pass0 (pa_cons (pv 0) (pa_cons (pv 1) pa_nil))))
    (pss_cons (ps_set (i := 4) sc_l_book.nd rfl (Or.inr rfl) (pe_call G_l_words (hr.mono (by decide)) (by rfl) T.d_l_words.g T.d_l_words.kp T.d_l_words.b .nil pass0 (pa_cons (pv 0) (pa_cons pe_int pa_nil))))
    (pss_cons (ps_setLc (i := 5) (own := [("_law_k", 6)]) rfl sc_l_book.nd rfl rfl (sw_true rfl rfl rfl (by decide +kernel)) (pi_range1 rfl T.b_range (pa_cons (pe_op op_add pe_int (pe_call G_l_draw (hr.mono (by decide)) (by rfl) T.d_l_draw.g T.d_l_draw.kp T.d_l_draw.b .nil pass0 (pa_cons (pv 0) (pa_cons (pv 2) pa_nil)))) pa_nil)) (blkOk_by (own := [("_law_k", 6)]) (N := ["_law_bag_here", "_law_room", "_law_most", "_law_fields_here", "_law_names", "_law_ties_z", "_law_k"]) (sc := defScope s_l_book) (by decide +kernel)) (fun _ _ _ _ _ => by exact (pg_name (i := 6) sc_l_book.nd rfl (Or.inl rfl))) (fun _ _ _ _ _ => by exact pts_nil) (fun _ _ _ _ _ => by exact (pe_tup (pa_cons (pe_ix (ix_list_K (K := K) (by rfl)) (pv 4) (pv 6) (fun _ _ => rfl)) (pa_cons (pe_call G_l_program (hr.mono (by decide)) (by rfl) T.d_l_program.g T.d_l_program.kp T.d_l_program.b .nil pass0 (pa_cons (pv 0) (pa_cons (pv 3) (pa_cons pe_int pa_nil)))) pa_nil)))))
    (pss_one (ps_ret (pe_tup (pa_cons (pv 3) (pa_cons (pv 5) (pa_cons (pe_call G_l_kinds (hr.mono (by decide)) (by rfl) T.d_l_kinds.g T.d_l_kinds.kp T.d_l_kinds.b .nil pass0 (pa_cons (pv 0) (pa_cons (pv 3) (pa_cons (pv 2) pa_nil)))) pa_nil))))))))), ?_⟩
  refine ⟨_, rfl, _, rfl, b, l, G, rfl, wd, fun G1 H1 p1 y1 fs s1 w1 h1 hF ok5 => ?_⟩
  refine ⟨_, rfl, b, l, G1, 4, rfl, by decide, by decide, w1, fun G2 H2 p ws s2 w2 h2 lw ndw nmw => ?_⟩
  refine ⟨_, rfl, _, rfl, b, l, G2, most, rfl, by omega, by omega, w2, fun r H3 r0 r1 w3 => ?_⟩
  refine ⟨_, _, rfl, rfl, _, rfl, by omega, by omega, fun D nD => ?_⟩
  have gD := w3.free nD
  refine lc_it walk_range (fun i H' => ∃ (G' : Hp) (ts : List Tie) (zs : List V), Same G2 G' ∧ Wd b l G' H' ∧ G' D = some (.lst zs) ∧ DpAll K G' zs (ts.map dTie) ∧ ts.map (·.1) = ws.take i ∧ ∀ t ∈ ts, IsNm t.1)
    ⟨_, [], [], w3.sameG nD, w3.new nD, upd_same, .nil, rfl, (fun k hk => by cases hk)⟩ (fun _ _ _ _ => True.intro) ?_ ?_
  · rintro i v H' H'' hi ⟨G', ts, zs, sg, w4, hD, hK, ek, hk⟩ ⟨rfl, rfl⟩
    refine ⟨rfl, ?_⟩
    have i3 : i < 4 := by omega
    have hwi : ws[i]? = some ws[i] := List.getElem?_eq_getElem (by rw [lw]; exact i3)
    have lts : ts.length = i := by
      have z := congrArg List.length ek
      rw [List.length_map, List.length_take, lw] at z
      omega
    refine ⟨_, rfl, _, rfl, p, _, _, .str ws[i], rfl, rfl, SqL.of (w4.sm _ _ (sg _ _ h2)), at_nn (by omega) (by rw [show ((0 : Int) + (i : Int)).toNat = i by omega, List.getElem?_map, hwi]; rfl), ?_⟩
    have sG := s2.trans sg
    refine ⟨_, rfl, _, rfl, b, l, p1, G', 3, y1, fs, rfl, SqL.of (sG _ _ h1), fds_mono sG hF, ok5, by decide, by decide, w4, fun G5 H5 y pg s5 w5 d5 hc l1 l8 => ?_⟩
    refine ⟨(by show 2 ≤ sizeLine; decide), fun t nt => ?_⟩
    have w6 := w5.new (o := .tup [.str ws[i], y]) nt
    have s6 := w5.sameG (o := .tup [.str ws[i], y]) nt
    have sA := s5.trans s6
    have hDA := sA _ _ hD
    refine ⟨zs, w6.sm _ _ hDA, lt_line (by rw [DpAll.length hK, List.length_map]; omega), ?_⟩
    have im : Imm (upd G5 t (.tup [.str ws[i], y])) (upd (upd G5 t (.tup [.str ws[i], y])) D (.lst (zs ++ [.ref t]))) := imm_upd hDA
    refine ⟨_, ts ++ [(ws[i], pg)], zs ++ [.ref t], same_mut (sg.trans sA) gD, w6.mut hDA, upd_same, ?_, ?_, ?_⟩
    · rw [List.map_append]
      refine dpa_snoc (DpAll.imm im (noLs_map noL_dTie ts) (DpAll.mono sA hK)) (Dp.imm im (noL_dTie _) ?_)
      exact .tup (SqT.of upd_same) (.cons (.str _) (.cons (Dp.mono s6 d5) .nil))
    · rw [List.map_append, ek, List.take_add_one, hwi]
      rfl
    · intro k h'
      rcases List.mem_append.mp h' with h' | h'
      · exact hk k h'
      · cases List.mem_singleton.mp h'
        exact nmw _ (List.mem_of_getElem? hwi)
  · rintro H' ⟨G', ts, zs, sg, w4, hD, hK, ek, hk⟩
    have sG := s2.trans sg
    have lts : ts.length = (1 + r).toNat := by
      have z := congrArg List.length ek
      rw [List.length_map, List.length_take, lw] at z
      omega
    refine ⟨_, rfl, _, rfl, _, rfl, _, rfl, _, rfl, b, l, p1, G', y1, fs, most, rfl, ms0, ms1, SqL.of (sG _ _ h1), fds_mono sG hF, ok5, w4, fun G5 H5 p3 y3 ks s5 w5 h3 d3 k1 k2 knd kok => ?_⟩
    refine ⟨(by show 3 ≤ sizeLine; decide), fun t nt => ?_⟩
    have w6 := w5.new (o := .tup [.ref p1, .ref D, .ref p3]) nt
    have s6 := w5.sameG (o := .tup [.ref p1, .ref D, .ref p3]) nt
    have s56 := s5.trans s6
    refine q _ _ t p1 D p3 y1 zs y3 fs ts ks (s1.trans (sG.trans s56)) w6 upd_same (s56 _ _ (sG _ _ h1)) (s56 _ _ hD) (s6 _ _ h3) (fds_mono (sG.trans s56) hF) (DpAll.mono s56 hK) (DpAll.mono s6 d3) ok5 (by omega) (by omega) hk k1 k2 (fun k h => (kok k h).nm)
end
end Bh

set_option Elab.async false
set_option linter.all false
set_option maxRecDepth 100000
set_option maxHeartbeats 2000000
namespace Bh
open PySem PySem.Spec PyProof.Rows L2
/-! ### a list comprehension whose item knows the def's own state at the block's beginning -/
section
variable {X : Cx}
/-- what one turn is to do (the parts of tLc, under names) -/
def StepW (J : It) (g : TG) (tt : TT) (te : TE) (ws : L2.St) (vs : List Nat) (D : Addr) (i : Nat) (Nx : Hp → Prop) (h0 : Hp) : Prop :=
  ∀ x h1, J.yld i h0 x h1 → g x ws h1 fun σ2 h2 => wipe σ2 vs = ws ∧ tt σ2 h2 fun b h3 =>
    if b = true then te σ2 h3 fun y h4 => ∃ acc, h4 D = some (.lst acc) ∧ acc.length < sizeLine ∧ Nx (upd h4 D (.lst (acc ++ [y]))) else Nx h3
theorem pe_lcx {elt tg iter : Expr} {ifs : List Expr} {scope : Scope} {own : List (Str × Nat)} {pos : Pos} {wi : TI} {g : TG} {tt : TT} {te : L2.St → TE} (calm : X.calm = true) (nd : X.N.Nodup) (hi : PI X tg iter wi) (blk : BlkOk X.N X.env.scope scope own)
    (hg : ∀ s H C cl fp, PG (X.blk s H scope (compEnvC scope cl C X.env) fp) tg g) (ht : ∀ s H C cl fp, PTs (X.blk s H scope (compEnvC scope cl C X.env) fp) ifs tt)
    (he : ∀ σ s H C cl fp, (∃ pins, Inv X pins σ H s ∧ ∀ b ∈ fp, FpOk X pins H b) → PE (X.blk s H scope (compEnvC scope cl C X.env) fp) elt (te σ)) (hs : ∀ x, foldedSetIterable iter X.env x = pure x := by intro _; rfl) :
    PE X (.ListComp elt [⟨tg, iter, ifs, 0⟩] scope pos) (fun σ H Q => tLc wi g tt (te σ) (own.map (·.2)) σ H Q) := by
  constructor
  intro pins s σ H Q I h
  rw [eval_ListComp]
  have caught : ∀ y ∈ scope.names, y.2 = .free → ∃ c, X.env.cells.lookup y.1 = some c := fun y hy e => (blk.free y hy e).elim (fun k => I.ok.has _ (.inl k)) fun k => I.ok.has _ (.inr k)
  apply wpAny_comprehension_free (use := none) rfl hs (closure_ok caught) blk.kind (fun y hy e => (blk.uniq y hy).trans (congrArg some e))
  refine thn (hi.run pins s σ H _ I h) fun w1 t1 k1 => thn k1 fun w2 t2 k2 => ?_
  obtain ⟨it, fp, tn, J, Ha, rfl, Ia, T, sta, fa, q⟩ := k2
  refine wpAny_newObj_type (newEnv_comp ?_) (Nat.zero_le _)
  -- the list to be, at D
  obtain ⟨D, hD⟩ : ∃ D, D = t2.heap.objs.size := ⟨_, rfl⟩
  have freeD : Ha D = none := Ia.hok.fresh (Nat.le_of_eq hD.symm)
  obtain ⟨W, ⟨m0, w0⟩, turn⟩ := q D freeD
  rw [← hD]
  obtain ⟨t3, h3⟩ : ∃ t3 : Shared, t3 = { t2 with heap := t2.heap.push { cls := .type "list", data := .seq ([] : List Value).toArray } } := ⟨_, rfl⟩
  obtain ⟨Hb, hb⟩ : ∃ Hb, Hb = upd Ha D (.lst []) := ⟨_, rfl⟩
  have keep3 : ∀ b o, t2.heap.get? b = some o → t3.heap.get? b = some o := fun b o e => by subst h3; exact Heap.get?_push_of_some _ e
  have Ib : Inv X pins σ Hb t3 := by
    subst h3 hb
    exact Ia.laid (t' := t2.toks) (fun b o e => Heap.get?_push_of_some _ e) (Nat.le_of_eq hD.symm) ⟨Nat.zero_le _, [], 0, .nil, by rw [hD]; exact Heap.get?_push_size _ rfl⟩
  have low : ∀ b ∈ fp, b < t2.heap.objs.size := fun b m => (T.obj _ _ sta b m).elim fun o e => Heap.lt_size e.1
  have size3 : t3.heap.objs.size = t2.heap.objs.size + 1 := by subst h3; exact Heap.size_push _ _
  have fb : ∀ b ∈ fp, FpOk X pins Hb b ∧ b < t3.heap.objs.size := fun b m => by
    have l := low b m
    refine ⟨⟨?_, (fa b m).2⟩, Nat.lt_of_lt_of_le l (by rw [size3]; exact Nat.le_succ _)⟩
    subst hb
    rw [upd_ne (by rw [hD]; exact Nat.ne_of_lt l)]
    exact (fa b m).1
  have Ic := block_start Ib blk nd fb
  have nofp : ∀ b ∈ fp, Hb b = none := fun b m => (fb b m).1.1
  rw [show ({ t2 with heap := t2.heap.push { cls := .type "list", data := .seq ([] : List Value).toArray } } : Shared) = t3 from h3.symm]
  obtain ⟨cells, hcells⟩ : ∃ l, l = cellsFrom (t3.heap.objs.size + 1) scope.names (cloFrom X.env.cells scope.names []) := ⟨_, rfl⟩
  rw [← hcells] at Ic ⊢
  have runG := hg t3 Hb t3.heap.objs.size cells fp
  have runT := ht t3 Hb t3.heap.objs.size cells fp
  have runE := he σ t3 Hb t3.heap.objs.size cells fp ⟨pins, Ib, fun b m => (fb b m).1⟩
  obtain ⟨ce, hce⟩ : ∃ ce, ce = compEnvC scope cells t3.heap.objs.size X.env := ⟨_, rfl⟩
  have ceL : ce.locals = t3.heap.objs.size := by subst hce; rfl
  show codeAny _ _ (.compStart (.ListComp elt [⟨tg, iter, ifs, 0⟩] scope pos) 0 (.ref it) (.ref D) (compEnvC scope cells t3.heap.objs.size X.env)) (compPost (model X.prog X.w) X.A X.xe none (EP X pins σ Q) (.ref D) t3.heap.objs.size) { t3 with heap := pushCells (t3.heap.push { cls := .type "dict", data := .dict #[] }) scope.names }
  rw [← hce] at Ic runG runT runE ⊢
  rw [← hb] at w0
  obtain ⟨t4, h4⟩ : ∃ t4 : Shared, t4 = { t3 with heap := pushCells (t3.heap.push { cls := .type "dict", data := .dict #[] }) scope.names } := ⟨_, rfl⟩
  rw [← h4] at Ic ⊢
  have st3 : tn 0 t3.heap := T.keep _ _ _ sta fun b _ o e => keep3 b o e
  have st4 : tn 0 t4.heap := T.keep _ _ _ st3 fun b _ o e => by subst h4; exact pushCells_keeps _ _ _ _ (Heap.get?_push_of_some _ e)
  have own' : ∀ {σ' : L2.St} {H' : Hp} {s' : Shared}, Inv (X.blk t3 Hb scope ce fp) [] σ' H' s' → (∀ b ∈ fp, H' b = none) → ∀ b ∈ fp, FpOk (X.blk t3 Hb scope ce fp) [] H' b := fun J' n b m =>
    ⟨n b m, (J'.ok.exf b m).1, J'.ok.exfs b m, .inl m, fun x c e => (J'.ok.exf b m).2 x c e, fun p hp => by cases (show p ∈ ([] : List (Addr × Obj)) from hp)⟩
  have loop : codeAny (model X.prog X.w) X.A (.compLoop (.ListComp elt [⟨tg, iter, ifs, 0⟩] scope pos) 0 (.ref it) (.ref D) ce) (compPost (model X.prog X.w) X.A X.xe none (EP X pins σ Q) (.ref D) t3.heap.objs.size) t4 := by
    apply compLoop_any (fun n s' => ∃ i H', Inv (X.blk t3 Hb scope ce fp) [] (wipe σ (own.map (·.2))) H' s' ∧ tn i s'.heap ∧ (∀ b ∈ fp, H' b = none) ∧ W i n H') ?_ m0 ⟨0, Hb, Ic, st4, nofp, w0⟩
    intro n s5 ⟨i, H5, I5, st5, n5, w5⟩
    rcases turn i n H5 w5 with ⟨stop, fin⟩ | ⟨go, Nx, more, step⟩
    · refine thnF (T.done (X.blk t3 Hb scope ce fp) rfl rfl rfl calm i [] s5 _ H5 (fun _ _ => False) I5 (own' I5 n5) st5 stop) fun r s6 k6 => ?_
      obtain ⟨rfl, I6⟩ := k6
      have back : Inv X pins σ H5 s6 := Ib.call' (ch := fp) I6.os I6.base I6.hok I6.bare fun b m => ⟨(fb b m).1.2.2.2.1, (fb b m).1.2.1, (fb b m).1.2.2.2.2.1, (fb b m).1.2.2.2.2.2⟩
      have gone : H5 t3.heap.objs.size = none := ceL ▸ (show H5 ce.locals = none from I6.free)
      obtain ⟨m, ns, _⟩ := I6.loc
      have ns : s6.heap.Ns t3.heap.objs.size m := ceL ▸ (show s6.heap.Ns ce.locals m from ns)
      obtain ⟨f0, f1, f2, f3, f4, f5⟩ := Ib.fpOk (H' := H5) (Nat.le_refl _) gone
      exact ⟨m, ns, fun h'' sb => ⟨.ref D, H5, back.turned (t' := s6.toks) (fun b o hb e => (sb.2 b hb).trans e) f0 f1 f3 f4 f5, rfl, fin⟩⟩
    · refine thnF (T.item (X.blk t3 Hb scope ce fp) rfl rfl rfl calm i [] s5 _ H5 (fun _ _ => False) I5 (own' I5 n5) st5 go) fun r s6 k6 => ?_
      obtain ⟨u, rfl, k6⟩ := k6
      refine thnF k6 fun _ s7 k7 => ?_
      obtain ⟨x, H7, I7, r7, y7, st7, n7⟩ := k7
      have held := T.obj _ _ st7
      have turnEnd : ∀ {σ8 : L2.St} {H' : Hp} {s' : Shared}, wipe σ8 (own.map (·.2)) = wipe σ (own.map (·.2)) → Inv (X.blk t3 Hb scope ce fp) ([] ++ pinsAt fp s7.heap) σ8 H' s' → Nx H' →
          ∃ m, m < n ∧ ∃ i H', Inv (X.blk t3 Hb scope ce fp) [] (wipe σ (own.map (·.2))) H' s' ∧ tn i s'.heap ∧ (∀ b ∈ fp, H' b = none) ∧ W i m H' := by
        intro σ8 H' s' e8 J' nx
        obtain ⟨m', lt, w'⟩ := more H' nx
        have still : ∀ b ∈ fp, ∀ o, s7.heap.get? b = some o → s'.heap.get? b = some o ∧ H' b = none := fun b hb o e => by
          obtain ⟨z1, z2, _⟩ := J'.pin (b, o) (List.mem_append_right _ (List.mem_append_right _ (mem_pinsAt hb e)))
          exact ⟨z1, z2⟩
        have J2 : Inv (X.blk t3 Hb scope ce fp) [] σ8 H' s' := J'.unpinned (pins := [])
        refine ⟨m', lt, i + 1, H', J2.weak (by rw [← e8, wipe_length]) (fun j v e => (wipe_some (vs := own.map (·.2)) (by rw [e8]; exact e)).1), T.keep _ _ _ st7 fun b hb o e => (still b hb o e).1, fun b hb => ?_, w'⟩
        obtain ⟨o, e, _⟩ := held b hb
        exact (still b hb o e).2
      refine thnF (runG.run _ s7 _ H7 x u _ (I7.pinned (own' I7 n7) held) r7 (step x H7 y7)) fun _ s8 k8 => ?_
      obtain ⟨σ8, H8, I8, e8, q8⟩ := k8
      refine thnF (runT.run _ s8 σ8 H8 _ I8 q8) fun b s9 k9 => ?_
      obtain ⟨H9, I9, q9⟩ := k9
      by_cases kept : b = true
      · rw [if_pos kept] at q9 ⊢
        refine thnF (runE.run _ s9 σ8 H9 _ I9 q9) fun z s10 k10 => ?_
        obtain ⟨y, H10, I10, r10, acc, at10, few, nx⟩ := k10
        exact app_ok (X := X.blk t3 Hb scope ce fp) I10 at10 few r10 fun s11 I11 => turnEnd e8 I11 nx
      · rw [if_neg kept] at q9 ⊢
        exact turnEnd e8 I9 q9
  exact codeAny_compStart_list loop (T.self _ 0 _ _ _ st4 loop)
end
end Bh

set_option Elab.async false
set_option linter.all false
set_option maxRecDepth 100000
set_option maxHeartbeats 2000000
namespace Bh
open PySem PySem.Spec PyProof.Rows L2 LamX NdefX
/-! ### lambdas that are kept as values (with one default or none), and called later by a def they are handed to -/
/-- the words of a lambda -/
structure LW where
  params : Arguments
  body : Expr
  scope : Scope
/-- at f: a lambda of these words, its cells, its defaults, its code object at c -/
def LmO (q : Str) (L : LW) (cl : List (Str × Addr)) (dV : Value) (c f : Addr) : HO := .ext fun h => ∃ doc pm ctv : Value, h.get? f = some (PySem.W.kdv_obj "<lambda>" q L.params (.expr L.body) L.scope cl dV doc pm c ctv)
theorem lmO_ok {P : Program} {w : World} {H : Hp} {h : Heap} {q : Str} {L : LW} {cl : List (Str × Addr)} {dV doc pm ctv : Value} {c f : Addr} (e : h.get? f = some (PySem.W.kdv_obj "<lambda>" q L.params (.expr L.body) L.scope cl dV doc pm c ctv)) : ObjOk P w H h f (LmO q L cl dV c f) :=
  ⟨⟨doc, pm, ctv, e⟩, ⟨_, e⟩, fun _ _ ⟨d, p, t, e⟩ st => ⟨d, p, t, st _ e⟩⟩
theorem lmO_at {P : Program} {w : World} {H : Hp} {h : Heap} {q : Str} {L : LW} {cl : List (Str × Addr)} {dV : Value} {c f : Addr} (ok : HOk P w H h) (e : H f = some (LmO q L cl dV c f)) : ∃ doc pm ctv : Value, h.get? f = some (PySem.W.kdv_obj "<lambda>" q L.params (.expr L.body) L.scope cl dV doc pm c ctv) := (ok f _ e).1
theorem lmO_ne {q : Str} {L : LW} {cl : List (Str × Addr)} {dV : Value} {c f : Addr} (ps : Array Value) : LmO q L cl dV c f ≠ .tbl ps := fun z => by
  unfold LmO at z
  cases z
/-- the value v is such a lambda; d: its default -/
def IsLm (cs : List (Str × Addr)) (q : Str) (L : LW) (d : Option Int) (H : Hp) (v : V) : Prop := ∃ (f c : Addr) (dV : Value), v = .ref f ∧ H f = some (LmO q L (cloFrom cs L.scope.names []) dV c f) ∧ H c = some (CodeO c q) ∧
  ((d = none ∧ dV = .none) ∨ ∃ (n : Int) (t : Addr), d = some n ∧ dV = .ref t ∧ H t = some (.tup [.int n]))
theorem IsLm.ext {cs : List (Str × Addr)} {q : Str} {L : LW} {d : Option Int} {H H' : Hp} {v : V} (h : IsLm cs q L d H v) (e : ExtN H H') : IsLm cs q L d H' v := by
  obtain ⟨f, c, dV, e1, e2, e3, e4⟩ := h
  refine ⟨f, c, dV, e1, e _ _ e2 lmO_ne, e _ _ e3 codeO_ne, ?_⟩
  rcases e4 with z | ⟨n, t, z1, z2, z3⟩
  · exact .inl z
  · exact .inr ⟨n, t, z1, z2, e _ _ z3 (fun _ z => nomatch z)⟩
section
variable {X : Cx} {pins : List (Addr × Obj)} {σ : L2.St} {H : Hp} {s : Shared}
/-- the last part of the making: the code object is new or found in the table, the function is new -/
theorem lm_tail {T : List (Addr × Str)} {c P : Addr} {L : LW} {pos : Pos} {dV : Value} {E : Value → Shared → Prop} {Q : Value → Shared → Prop} (I : Inv X pins σ H s) (TB : TabB X.base X.mg c P) (hcode : X.env.code = .ref c)
    (hm : (P, X.env.qual ++ "<lambda>") ∈ T) (hu : ∀ p ∈ T, p.1 = P → p.2 = X.env.qual ++ "<lambda>") (hT : Tabs T H) (hfree : ∀ y ∈ L.scope.names, y.2 = .free → ∃ c, X.env.cells.lookup y.1 = some c)
    (h : ∀ (f c' : Addr) (H1 : Hp) (s' : Shared), Inv X pins σ (upd H1 f (LmO (X.env.qual ++ "<lambda>") L (cloFrom X.env.cells L.scope.names []) dV c' f)) s' → ExtN H H1 → Tabs T H1 → H1 f = none → H1 c' = some (CodeO c' (X.env.qual ++ "<lambda>")) → Q (.ref f) s') :
    wpAny (model X.prog X.w) X.A (makeTail "<lambda>" (X.env.qual ++ "<lambda>") L.params (.expr L.body) L.scope X.env dV .none none pos pos.line) Q E s := by
  obtain ⟨ps, hP, ht, ha⟩ := hT _ hm
  have bP : s.heap.BuiltinsAt X.mg P := TB.bm.keeps I.bk
  have hP' : s.heap.get? P = some { cls := .none, data := .fields ps } := I.hok P _ hP
  cases hc : codeAmong pos ps.toList with
  | none =>
    refine PySem.W.kdv_makeTail (mg := X.mg) (c := c) (P := P) (ps := ps) (closure_ok hfree) I.ok.glob (I.mod.glob.keeps I.bk) hcode (TB.code.keeps I.bk) hP' ht hc TB.gP bP fun c' ctv doc h' tk hx hge hlt hrec htb => ?_
    obtain ⟨c2, oc, vs, t, e2, hoc, hd, hv⟩ := hrec
    cases e2
    have nC : H c' = none := I.hok.fresh hge
    have I1 := inv_table (t' := tk) (more := #[rawInt pos.line, rawInt pos.col, .ref c']) (h' := h') I hP hx htb hge ⟨oc, vs, t, hoc, hd, hv⟩
    have hE : ExtN H (upd (upd H P (.tbl (ps ++ #[rawInt pos.line, rawInt pos.col, .ref c']))) c' (CodeO c' (X.env.qual ++ "<lambda>"))) := fun b o e n => by
      have b1 : b ≠ c' := ne_of_none e nC
      have b2 : b ≠ P := fun z => by
        rw [z, hP] at e
        exact n ps (Option.some.inj e).symm
      rw [upd_ne b1, upd_ne b2]
      exact e
    have eL : (ps ++ #[rawInt pos.line, rawInt pos.col, .ref c']).toList = ps.toList ++ [rawInt pos.line, rawInt pos.col, .ref c'] := by simp
    have fr : upd (upd H P (.tbl (ps ++ #[rawInt pos.line, rawInt pos.col, .ref c']))) c' (CodeO c' (X.env.qual ++ "<lambda>")) h'.objs.size = none := I1.hok.fresh (Nat.le_refl _)
    refine h h'.objs.size c' _ _ (I1.laid (t' := tk) (h' := h'.push (PySem.W.kdv_obj "<lambda>" (X.env.qual ++ "<lambda>") L.params (.expr L.body) L.scope (cloFrom X.env.cells L.scope.names []) dV doc ((X.mg "__name__").getD .none) c' ctv)) (fun b o e => Heap.get?_push_of_some _ e) (Nat.le_refl _) (lmO_ok (Heap.get?_push_size _ rfl))) hE (fun p hp => ?_) fr upd_same
    by_cases hb : p.1 = P
    · rw [hu p hp hb, hb]
      refine ⟨_, (upd_ne (ne_of_none hP nC)).trans upd_same, eL ▸ PySem.TriplesOk_snoc _ _ _ _ ht, fun p' cv hcv => ?_⟩
      rw [eL] at hcv
      rcases among_app _ ht hcv with z | z
      · obtain ⟨c0, e1, e2⟩ := ha p' cv z
        exact ⟨c0, e1, hE _ _ e2 codeO_ne⟩
      · exact ⟨c', z, upd_same⟩
    · obtain ⟨ps', a1, a2, a3⟩ := hT p hp
      refine ⟨ps', (upd_ne (ne_of_none a1 nC)).trans ((upd_ne hb).trans a1), a2, fun p' cv hcv => ?_⟩
      obtain ⟨c0, e1, e2⟩ := a3 p' cv hcv
      exact ⟨c0, e1, hE _ _ e2 codeO_ne⟩
  | some cv =>
    obtain ⟨c', rfl, hco⟩ := ha pos cv hc
    refine PySem.W.kdv_makeTailHit (mg := X.mg) (c := c) (P := P) (ps := ps) (closure_ok hfree) I.ok.glob (I.mod.glob.keeps I.bk) hcode (TB.code.keeps I.bk) hP' ht hc bP fun ctv doc h' tk hx hsz => ?_
    have I1 : Inv X pins σ H { s with heap := h', toks := tk } := I.kept hx
    refine h h'.objs.size c' H _ (I1.laid (t' := tk) (h' := h'.push _) (fun b o e => Heap.get?_push_of_some _ e) (Nat.le_refl _) (lmO_ok (Heap.get?_push_size _ rfl))) (ExtN.refl H) hT (I.hok.fresh hsz) hco
/-- the reading of a lambda as a value -/
def tStl (T : List (Addr × Str)) (cs : List (Str × Addr)) (q : Str) (L : LW) (d : Option Int) : TE := fun _ H Q => Tabs T H ∧ ∀ (H2 : Hp) (v : V), ExtN H H2 → Tabs T H2 → IsLm cs q L d H2 v → Q v H2
theorem extn_new {H H1 : Hp} {f : Addr} {o : HO} (e : ExtN H H1) (n : H1 f = none) : ExtN H (upd H1 f o) := fun b u h z => by
  rw [upd_ne (ne_of_none (e b u h z) n)]
  exact e b u h z
theorem tabs_new {T : List (Addr × Str)} {H1 : Hp} {f : Addr} {o : HO} (t : Tabs T H1) (n : H1 f = none) : Tabs T (upd H1 f o) := t.ext fun b u h => (upd_ne (ne_of_none h n)).trans h
theorem pe_stl0 {T : List (Addr × Str)} {c P : Addr} {params : Arguments} {body : Expr} {scope : Scope} {pos : Pos} (TB : TabB X.base X.mg c P) (hcode : X.env.code = .ref c)
    (hm : (P, X.env.qual ++ "<lambda>") ∈ T) (hu : ∀ p ∈ T, p.1 = P → p.2 = X.env.qual ++ "<lambda>") (hdef : defaultsOf params X.env = ([], [])) (hfree : ∀ y ∈ scope.names, y.2 = .free → X.env.scope.names.lookup y.1 = some .cell ∨ X.env.scope.names.lookup y.1 = some .free) :
    PE X (.Lambda params body scope pos) (tStl T X.env.cells (X.env.qual ++ "<lambda>") ⟨params, body, scope⟩ none) := by
  refine ⟨fun pins s σ H Q I h => PySem.W.kla_eval hdef ?_⟩
  rw [makeFunction_eq]
  simp only [List.zip_nil_right, List.filterMap_nil, List.isEmpty_nil, if_true, pure_bind]
  refine lm_tail (L := ⟨params, body, scope⟩) I TB hcode hm hu h.1 (fun y hy e => (hfree y hy e).elim (fun z => I.ok.has _ (.inl z)) fun z => I.ok.has _ (.inr z)) fun f c' H1 s' J e1 t1 n1 k1 => ?_
  exact ⟨.ref f, _, J, rfl, h.2 _ _ (extn_new e1 n1) (tabs_new t1 n1) ⟨f, c', .none, rfl, upd_same, (upd_ne (ne_of_none k1 n1)).trans k1, .inl ⟨rfl, rfl⟩⟩⟩
theorem pe_stl1 {T : List (Addr × Str)} {c P : Addr} {params : Arguments} {body : Expr} {scope : Scope} {pos p1 : Pos} {n : Int} {j : Nat} (TB : TabB X.base X.mg c P) (hcode : X.env.code = .ref c)
    (hm : (P, X.env.qual ++ "<lambda>") ∈ T) (hu : ∀ p ∈ T, p.1 = P → p.2 = X.env.qual ++ "<lambda>") (hd : params.defaults = [.Constant (.int n) j p1]) (hk : params.kw_defaults = []) (hfree : ∀ y ∈ scope.names, y.2 = .free → X.env.scope.names.lookup y.1 = some .cell ∨ X.env.scope.names.lookup y.1 = some .free) :
    PE X (.Lambda params body scope pos) (tStl T X.env.cells (X.env.qual ++ "<lambda>") ⟨params, body, scope⟩ (some n)) := by
  refine ⟨fun pins s σ H Q I h => PySem.W.kdv_lam (by rw [hd]; rfl) hk ?_⟩
  rw [hd]
  refine PySem.W.kdv_all1 (thn ((pe_int (X := X)).run pins s σ H (fun v H1 => v = .int n ∧ H1 = H) I ⟨rfl, rfl⟩) fun u s1 ⟨v, H1, I1, r1, ev, eH⟩ => PySem.W.kdv_all0 ?_)
  subst ev eH
  rw [makeFunction_eq]
  simp only [List.zip_nil_right, List.filterMap_nil, List.isEmpty_nil, List.isEmpty_cons, Bool.false_eq_true, if_false, if_true, pure_bind]
  refine wpAny_bind (wpAny_newTextTuple ?_)
  have I2 := I1.laid (t' := s1.toks) (o := .tup [.int n]) (h' := s1.heap.push { cls := .type "tuple", data := .seq [u].toArray }) (fun b o e => Heap.get?_push_of_some _ e) (Nat.le_refl _) ⟨by show 1 ≤ sizeLine; decide, [u], .cons r1 .nil, IsTup.new s1.heap _⟩
  have nT : H1 s1.heap.objs.size = none := I1.hok.fresh (Nat.le_refl _)
  have e0 : ExtN H1 (upd H1 s1.heap.objs.size (.tup [.int n])) := extn_new (ExtN.refl _) nT
  refine lm_tail (L := ⟨params, body, scope⟩) I2 TB hcode hm hu (tabs_new h.1 nT) (fun y hy e => (hfree y hy e).elim (fun z => I.ok.has _ (.inl z)) fun z => I.ok.has _ (.inr z)) fun f c' H2 s' J e1 t1 n1 k1 => ?_
  have kT := e1 _ _ upd_same (fun _ z => nomatch z)
  exact ⟨.ref f, _, J, rfl, h.2 _ _ (extn_new (e0.trans e1) n1) (tabs_new t1 n1) ⟨f, c', _, rfl, upd_same, (upd_ne (ne_of_none k1 n1)).trans k1, .inr ⟨n, _, rfl, rfl, (upd_ne (ne_of_none kT n1)).trans kT⟩⟩⟩
end
end Bh

set_option Elab.async false
set_option linter.all false
set_option maxRecDepth 100000
set_option maxHeartbeats 2000000
namespace Bh
open PySem PySem.Spec PyProof.Rows L2 LamX NdefX
/-! ### such a lambda called -/
/-- its words, as those of a nested def -/
abbrev lwF (q : Str) (L : LW) (cl : List (Str × Addr)) (c : Addr) : NF := ⟨"<lambda>", q, L.params, [], L.scope, cl, c⟩
section
variable {CX : CXT} {P : Program} {w : World} {K : PySem.W.Frag} {mg : Str → Option Value} {base : Heap} {N ps fr : List Str} {f c' : Addr} {k : Nat} {q : Str} {L : LW} {cl : List (Str × Addr)}
theorem lw_run {A : Around} {outer : List Env} {s : Shared} {H : Hp} {us : List Value} {vs : List V} {ws : List (Option V)} {Q : VK} {E : XK} {dV doc pm ctv : Value} {tb : TE} (S : NScope N ps fr L.scope)
    (hb : BindsTo s (PySem.W.kdv_fn "<lambda>" q L.params (.expr L.body) L.scope cl dV doc pm (.ref c') ctv) ⟨[], []⟩ (ps.zip us)) (hr : Room (k + 1) A) (e0 : Env0 P w K mg base A outer s H) (lim : s.heap.NoLimit)
    (of : s.heap.get? f = some (PySem.W.kdv_obj "<lambda>" q L.params (.expr L.body) L.scope cl dV doc pm c' ctv)) (hc : s.heap.CodeRec (.ref c') q) (C : CellsAt cl fr ws s.heap H) (r : Vals vs us) (hl : vs.length = ps.length)
    (hbody : Room k (A.deeper (envF (lwF q L cl c') f s.heap.objs.size)) → PE (ncx CX P w K mg base N (lwF q L cl c') f A outer s H E) L.body tb) (h : tb (startF N vs ws) H Q) :
    codeAny (model P w) A (.call (.ref f) ⟨[], []⟩) (CR CX outer P w H s Q E) s := by
  refine PySem.W.kla_callFunE hr.depth of rfl S.co S.gen rfl hc (hb _ _ _ _ ?_)
  refine wpAny_newFunctionEnv S.nocell (fun ⟨n, _⟩ hy => S.par n (List.of_mem_zip hy).1) (fun h₁ hns hsb => ⟨lim.fresh _ hsb, ?_⟩) S.kind
  show codeAny _ _ (.expr L.body (envF (lwF q L cl c') f s.heap.objs.size)) _ _
  have old : ∀ b o, s.heap.get? b = some o → h₁.get? b = some o := fun b o e => hsb.extBut b o (Nat.ne_of_lt (Heap.lt_size e)) (Heap.get?_push_of_some _ e)
  have I : Inv (ncx CX P w K mg base N (lwF q L cl c') f A outer s H E) [] (startF N vs ws) H { s with heap := h₁, toks := s.toks + (ps.zip us).length } := inv_startN (F := lwF q L cl c') S hr.hd e0 hl r C hns old
  refine PySem.W.kla_codeExpr (wpAny_mono ((hbody (hr.deeper _)).run [] _ (startF N vs ws) H Q I h) (fun v s' hq => ?_) fun _ _ hq => hq)
  obtain ⟨w', H', J, rv, q'⟩ := hq
  exact ⟨w', H', J.os, J.bare, J.base, J.hok, rv, q'⟩
end
/-- one of the lambdas that a def (its names XN, its scope sc) keeps: its words and what its body makes -/
structure LK (P : Program) (w : World) (K : PySem.W.Frag) (mg : Str → Option Value) (base : Heap) (XN : List Str) (sc : Scope) (k : Nat) where
  L : LW
  d : Option Int
  N : List Str
  ps : List Str
  fr : List Str
  vs : List V
  js : List Nat
  tb : XK → TE
  S : NScope N ps fr L.scope
  b0 : d = none → ps = [] ∧ vs = [] ∧ ∀ (q : Str) (cl : List (Str × Addr)) (doc pm cd ct : Value), bindArgs (PySem.W.kdv_fn "<lambda>" q L.params (.expr L.body) L.scope cl .none doc pm cd ct) ⟨[], []⟩ = pure []
  b1 : ∀ n : Int, d = some n → ∃ p, ps = [p] ∧ vs = [.int n] ∧ ∀ (q : Str) (cl : List (Str × Addr)) (t : Addr) (doc pm cd ct : Value), ∃ kk : Option (Array Value) → Sem (List (Str × Value)),
    bindArgs (PySem.W.kdv_fn "<lambda>" q L.params (.expr L.body) L.scope cl (.ref t) doc pm cd ct) ⟨[], []⟩ = seqItems? (.ref t) >>= kk ∧ ∀ u : Value, kk (some #[u]) = pure [(p, u)]
  free : ∀ y ∈ L.scope.names, y.2 = .free → sc.names.lookup y.1 = some .cell ∨ sc.names.lookup y.1 = some .free
  frs : ∀ y ∈ fr, (y, NameKind.free) ∈ L.scope.names
  at_ : js.map (fun j => XN[j]?) = fr.map some
  body : ∀ (A : Around) (outer : List Env) (s : Shared) (H : Hp) (E : XK) (F : NF) (f : Addr), F.scope = L.scope → Room k (A.deeper (envF F f s.heap.objs.size)) → PE (ncx (L2.CX P w) P w K mg base N F f A outer s H E) L.body (tb E)
theorem CellsAt.unx {cl : List (Str × Addr)} {fr : List Str} {ws : List (Option V)} {st ex : List Addr} {H HZ : Hp} {h h1 : Heap} (C : CellsAt cl fr ws h H) (un : Un st ex H HZ h h1) (no : ∀ y c, cl.lookup y = some c → c ∉ ex) : CellsAt cl fr ws h1 HZ := by
  have kp : ∀ y c, cl.lookup y = some c → ∀ v, h.IsCell c v → h1.IsCell c v := fun y c e v ⟨o, ho, hd⟩ => by
    obtain ⟨sl, q⟩ := un.any ho (C.all y c e).1 (no y c e)
    exact ⟨_, q, hd⟩
  refine ⟨C.len, fun y c e => ?_, C.inj, fun i y e => ?_⟩
  · obtain ⟨n, v, z⟩ := C.all y c e
    exact ⟨by obtain ⟨o, ho, _⟩ := z; exact un.free c o ho n (no y c e), v, kp y c e v z⟩
  · obtain ⟨c, hc, hv⟩ := C.has i y e
    refine ⟨c, hc, fun v ev => ?_⟩
    obtain ⟨u, r, z⟩ := hv v ev
    exact ⟨u, r, kp y c hc _ z⟩
section
variable {P : Program} {w : World} {K : PySem.W.Frag} {mg : Str → Option Value} {base : Heap} {XN : List Str} {sc : Scope} {k : Nat}
/-- x(), in the def that got the lambda: entered at s with the cells as they are told there -/
theorem lk_act {cs : List (Str × Addr)} {q : Str} {A0 : Around} {st : List Env} {s : Shared} {H : Hp} {Eg : XK} {CXg : CXT} {Ng : List Str} {qg : Str} {sg : Scope} {g f : Addr} {cdg : Value} {i : Nat} {a : Str} {pn : List (Addr × Obj)} {xe : Value → Shared → Prop} {W : WX} {E : XK} {ws : List (Option V)} {p1 p2 : Pos}
    (κ : LK P w K mg base XN sc k) (C : CellsAt (cloFrom cs κ.L.scope.names []) κ.fr ws s.heap H)
    (tk : Takes ((cxOf CXg P w K mg base Ng qg sg g cdg A0 st s H Eg).tr pn xe) W) (hW : ∀ cls d σ' H', E cls d H' → W cls d σ' H') (hr : Room (k + 1) (A0.deeper (envOfC qg sg s.heap.objs.size g cdg)))
    (hN : Ng[i]? = some a) (hv : Vis sg a) (hd : (a == ("__debug__" : Str)) = false := by decide) (hcd : (a == ("__classdict__" : Str)) = false := by decide) :
    PE ((cxOf CXg P w K mg base Ng qg sg g cdg A0 st s H Eg).tr pn xe) (.Call (.Name a p1) [] [] p2)
      (fun σZ HZ Q => σZ[i]? = some (some (.ref f)) ∧ IsLm cs q κ.L κ.d HZ (.ref f) ∧ κ.tb E (startF κ.N κ.vs ws) HZ Q) := by
  refine ⟨fun pinsZ sZ σZ HZ Q IZ h => ?_⟩
  obtain ⟨hs, hl, ht⟩ := h
  refine wpAny_Call_Name_kw (thn ((pe_var (pos := p1) (i := i) hN hv hd hcd).run pinsZ sZ σZ HZ (fun v H1 => v = .ref f ∧ H1 = HZ) IZ ⟨.ref f, hs, rfl, rfl⟩) fun u s1 ⟨v, H1, I1, r1, ev, eH⟩ => ?_)
  subst ev eH
  obtain rfl : u = Value.ref f := r1
  obtain ⟨f', c', dV, e1, e2, e3, e4⟩ := hl
  cases e1
  obtain ⟨doc, pm, ctv, of⟩ := lmO_at I1.hok e2
  refine PySem.W.callWith_F0 ⟨_, _, _, _, of⟩ ?_
  have un : Un (frs st) [] H H1 s.heap s1.heap := I1.base
  obtain ⟨⟨oc, vs, t, hoc, hdc, hvc⟩, _, _⟩ := I1.hok c' _ e3
  have C1 := CellsAt.un C un
  have run : ∀ us, κ.vs.length = κ.ps.length → Vals κ.vs us → BindsTo s1 (PySem.W.kdv_fn "<lambda>" q κ.L.params (.expr κ.L.body) κ.L.scope (cloFrom cs κ.L.scope.names []) dV doc pm (.ref c') ctv) ⟨[], []⟩ (κ.ps.zip us) →
      codeAny (model P w) (A0.deeper (envOfC qg sg s.heap.objs.size g cdg)) (.call (.ref f) ⟨[], []⟩) (CR (L2.CX P w) (envOfC qg sg s.heap.objs.size g cdg :: st) P w H1 s1 Q E) s1 := fun us hl r hb =>
    lw_run κ.S hb hr I1.env0 I1.nolimit of ⟨c', oc, vs, t, rfl, hoc, hdc, hvc⟩ C1 r hl (fun hr2 => κ.body _ _ _ _ _ _ _ rfl hr2) ht
  have rc : codeAny (model P w) (A0.deeper (envOfC qg sg s.heap.objs.size g cdg)) (.call (.ref f) ⟨[], []⟩) (CR (L2.CX P w) (envOfC qg sg s.heap.objs.size g cdg :: st) P w H1 s1 Q E) s1 := by
    rcases e4 with ⟨z1, z2⟩ | ⟨n, t, z1, z2, z3⟩
    · obtain ⟨y1, y2, y3⟩ := κ.b0 z1
      subst z2
      refine run [] (by rw [y1, y2]; rfl) (by rw [y2]; exact .nil) ?_
      rw [y1]
      exact .of_eq (y3 _ _ _ _ _ _)
    · obtain ⟨p, y1, y2, y3⟩ := κ.b1 n z1
      subst z2
      obtain ⟨kk, y4, y5⟩ := y3 q (cloFrom cs κ.L.scope.names []) t doc pm (.ref c') ctv
      obtain ⟨_, its, rv, o, ho, _, m, hs⟩ := I1.hok t _ z3
      obtain ⟨u, rfl, ru⟩ := vals1 rv
      refine run [u] (by rw [y1, y2]; rfl) (by rw [y2]; exact .cons ru .nil) ?_
      rw [y1]
      exact .of_defaults rfl ho hs y4 (y5 u)
  have hx : Passes (L2.CX P w) ((cxOf CXg P w K mg base Ng qg sg g cdg A0 st s H Eg).tr pn xe) E := passes_call tk hW
  refine wpAny_call (codeAny_mono rc fun r s' hq => ?_)
  cases r with
  | error e => exact hx pinsZ σZ H1 s1 e s' I1 hq
  | ok fl =>
    cases fl with
    | ret u => exact I1.after hq
    | next => exact False.elim hq
    | brk => exact False.elim hq
    | cont => exact False.elim hq
/-- a def that calls what it got: what it makes (TT) of the lambda's reading -/
def GivesL (P : Program) (w : World) (K : PySem.W.Frag) (mg : Str → Option Value) (base : Heap) (Ng : List Str) (x : Str) (sg : Scope) (g : Addr) (cdg : Value) (bg : List Stmt) (a : Str) (k : Nat) (TT : (XK → Hp → VK → Prop) → Hp → VK → Prop) : Prop :=
  ∀ (A0 : Around) (st : List Env) (f : Addr) (s : Shared) (H : Hp) (Q : VK) (tl : XK → Hp → VK → Prop), Room (k + 1) (A0.deeper (envOfC x sg s.heap.objs.size g cdg)) →
    (∀ (W : WX) (pn : List (Addr × Obj)) (xe : Value → Shared → Prop) (E : XK) (p1 p2 : Pos), Takes ((cxOf C8.CX0 P w K mg base Ng x sg g cdg A0 st s H C8.E0).tr pn xe) W → (∀ cls d σ' H', E cls d H' → W cls d σ' H') →
      PE ((cxOf C8.CX0 P w K mg base Ng x sg g cdg A0 st s H C8.E0).tr pn xe) (.Call (.Name a p1) [] [] p2) (fun σZ HZ Q => σZ[0]? = some (some (.ref f)) ∧ tl E HZ Q)) → TT tl H Q →
    ∃ t, PSs (cxOf C8.CX0 P w K mg base Ng x sg g cdg A0 st s H C8.E0).nox bg t ∧ t { nx := fun _ H' => Q .non H', rt := Q } (L2.start Ng [.ref f]) H
end
/-- g(x), x one of the kept lambdas, in a comprehension's block of the def that keeps them; σ: that def's slots -/
def tTryL {P : Program} {w : World} {K : PySem.W.Frag} {mg : Str → Option Value} {base : Heap} {XN : List Str} {sc : Scope} {k : Nat} (cs : List (Str × Addr)) (q : Str) (ks : List (LK P w K mg base XN sc k)) (i : Nat) (TT : (XK → Hp → VK → Prop) → Hp → VK → Prop) (σ : L2.St) : TE :=
  fun σ' H Q => ∃ (κ : LK P w K mg base XN sc k) (f : Addr), κ ∈ ks ∧ σ'[i]? = some (some (.ref f)) ∧ TT (fun E H' Q' => IsLm cs q κ.L κ.d H' (.ref f) ∧ κ.tb E (startF κ.N κ.vs (κ.js.map (slotAt σ))) H' Q') H Q
theorem pe_tryL {X : Cx} {s0 : Shared} {H0 : Hp} {σ : L2.St} {scope : Scope} {ce : Env} {fp : List Addr} {x a y : Str} {g : Addr} {i k : Nat} {pg : Arguments} {bg : List Stmt} {sg : Scope} {dV kV doc pm cdv ct oc : Value} {an od : Option Addr} {osl : Array (Option Value)} {Ng : List Str} {p p1 pos : Pos}
    {TT : (XK → Hp → VK → Prop) → Hp → VK → Prop} {ks : List (LK X.prog X.w X.K X.mg X.base X.N X.env.scope k)} (hI : ∃ pins, Inv X pins σ H0 s0 ∧ ∀ b ∈ fp, FpOk X pins H0 b)
    (hg : Gl (X.blk s0 H0 scope ce fp) x) (hm : X.mg x = some (.ref g)) (hk : PySem.W.keepIn X.K (.ref g) = true)
    (lk : X.K.lookup g = some ⟨oc, od, .func (PySem.W.fnOf x x pg bg sg dV kV doc pm an cdv ct), osl⟩) (hcg : PySem.W.codeIn X.K cdv x = true) (hb : L2.Binds X.K (PySem.W.fnOf x x pg bg sg dV kV doc pm an cdv ct) [a] []) (Sg : FnScope Ng [a] sg) (hNg : Ng[0]? = some a) (hva : Vis sg a)
    (hG : GivesL X.prog X.w X.K X.mg X.base Ng x sg g cdv bg a k TT) (hr : Room (k + 2) X.A) (hy : X.N[i]? = some y) (hvy : Vis ce.scope y)
    (hdb : (x == ("__debug__" : Str)) = false := by decide) (hd : (a == ("__debug__" : Str)) = false := by decide) (hcd : (a == ("__classdict__" : Str)) = false := by decide) (hdy : (y == ("__debug__" : Str)) = false := by decide) (hcy : (y == ("__classdict__" : Str)) = false := by decide) :
    PE (X.blk s0 H0 scope ce fp) (.Call (.Name x p) [.Name y p1] [] pos) (tTryL X.env.cells (X.env.qual ++ "<lambda>") ks i TT σ) := by
  refine ⟨fun pins s σ' H Q I h => ?_⟩
  obtain ⟨κ, f, hκ, hf, hT⟩ := h
  refine wpAny_Call_Name_kw (ld_glob I hg hm ?_ hdb)
  refine PySem.W.callWith_K (h₀ := X.base) I.ok.mod.kin hk ?_ (by rfl) (by rfl)
  show wpAny _ _ (spliced ((false, eval (.Name y p1) ce) :: backTo pos (starEach [] ce))) _ _ s
  refine Calls.spliced_cons (thn ((pe_var (X := X.blk s0 H0 scope ce fp) (pos := p1) (i := i) hy hvy hdy hcy).run pins s σ' H (fun v H1 => v = .ref f ∧ H1 = H) I ⟨.ref f, hf, rfl, rfl⟩) fun u s1 ⟨v, H1, I1, r1, ev, eH⟩ => ?_)
  subst ev eH
  obtain rfl : u = Value.ref f := r1
  refine Calls.spliced_nil ⟨I1.kIn, ?_⟩
  obtain ⟨pins0, I0, fo⟩ := hI
  have C0 := cells_of I0 (Caps.made (fr := κ.fr) (js := κ.js) I0.ok κ.free κ.frs κ.at_)
  have caught : ∀ y ∈ κ.L.scope.names, y.2 = .free → ∃ c, X.env.cells.lookup y.1 = some c := fun y hy e => (κ.free y hy e).elim (fun z => I0.ok.has _ (.inl z)) fun z => I0.ok.has _ (.inr z)
  have C1 : CellsAt (cloFrom X.env.cells κ.L.scope.names []) κ.fr (κ.js.map (slotAt σ)) s1.heap H1 := CellsAt.unx C0 (st := frs X.stack) (ex := fp) I1.base fun z c e m => (fo c m).2.2.2.2.1 z c (clo_cm caught e) rfl
  have rc : codeAny (model X.prog X.w) X.A (.call (.ref g) ⟨[.ref f], []⟩) (CR C8.CX0 X.stack X.prog X.w H1 s1 Q C8.E0) s1 := by
    refine run_ofS (N := Ng) (ps := [a]) (us := [.ref f]) (vs := [.ref f]) lk hcg Sg hr I1.env0 (hb s1 [.ref f] I1.kIn rfl) (.cons rfl .nil) rfl fun hr' => ?_
    obtain ⟨t', ht', hq'⟩ := hG X.A X.stack f s1 H1 Q _ hr' (fun W pn xe E p1 p2 tk hW => lk_act (i := 0) κ C1 tk hW hr' hNg hva hd hcd) hT
    exact ⟨t', ht'.nox, hq'⟩
  refine wpAny_call (codeAny_mono rc fun r s2 hq => ?_)
  cases r with
  | error e => exact (show False from hq).elim
  | ok fl =>
    cases fl with
    | ret u => exact I1.after hq
    | next => exact False.elim hq
    | brk => exact False.elim hq
    | cont => exact False.elim hq
/-- [g(y) for y in iter], the items such lambdas -/
theorem pe_lcTry {X : Cx} {scope : Scope} {own : List (Str × Nat)} {iter : Expr} {wi : TI} {gt : TG} {x a y : Str} {g : Addr} {i k : Nat} {pg : Arguments} {bg : List Stmt} {sg : Scope} {dV kV doc pm cdv ct oc : Value} {an od : Option Addr} {osl : Array (Option Value)} {Ng : List Str} {p p1 p2 pos pos1 : Pos}
    {TT : (XK → Hp → VK → Prop) → Hp → VK → Prop} (ks : List (LK X.prog X.w X.K X.mg X.base X.N X.env.scope k)) (calm : X.calm = true) (nd : X.N.Nodup) (hi : PI X (.Name y p2) iter wi) (blk : BlkOk X.N X.env.scope scope own)
    (hgt : ∀ s H C cl fp, PG (X.blk s H scope (compEnvC scope cl C X.env) fp) (.Name y p2) gt) (hg : ∀ s H C cl fp, Gl (X.blk s H scope (compEnvC scope cl C X.env) fp) x) (hm : X.mg x = some (.ref g)) (hk : PySem.W.keepIn X.K (.ref g) = true)
    (lk : X.K.lookup g = some ⟨oc, od, .func (PySem.W.fnOf x x pg bg sg dV kV doc pm an cdv ct), osl⟩) (hcg : PySem.W.codeIn X.K cdv x = true) (hb : L2.Binds X.K (PySem.W.fnOf x x pg bg sg dV kV doc pm an cdv ct) [a] []) (Sg : FnScope Ng [a] sg) (hNg : Ng[0]? = some a) (hva : Vis sg a)
    (hG : GivesL X.prog X.w X.K X.mg X.base Ng x sg g cdv bg a k TT) (hr : Room (k + 2) X.A) (hy : X.N[i]? = some y) (hvy : ∀ cl C, Vis (compEnvC scope cl C X.env).scope y)
    (hdb : (x == ("__debug__" : Str)) = false := by decide) (hd : (a == ("__debug__" : Str)) = false := by decide) (hcd : (a == ("__classdict__" : Str)) = false := by decide) (hdy : (y == ("__debug__" : Str)) = false := by decide) (hcy : (y == ("__classdict__" : Str)) = false := by decide) (hs : ∀ x, foldedSetIterable iter X.env x = pure x := by intro _; rfl) :
    PE X (.ListComp (.Call (.Name x p) [.Name y p1] [] pos1) [⟨.Name y p2, iter, [], 0⟩] scope pos) (fun σ H Q => tLc wi gt tYes (tTryL X.env.cells (X.env.qual ++ "<lambda>") ks i TT σ) (own.map (·.2)) σ H Q) :=
  pe_lcx calm nd hi blk hgt (fun _ _ _ _ _ => pts_nil) (fun σ s H C cl fp hI => pe_tryL (scope := scope) hI (hg s H C cl fp) hm hk lk hcg hb Sg hNg hva hG hr hy (hvy cl C) hdb hd hcd hdy hcy) hs
end Bh

set_option Elab.async false
set_option linter.all false
set_option maxRecDepth 100000
set_option maxHeartbeats 1000000
namespace Bh
open PySem PySem.Spec PyProof.Rows L2
abbrev exPairs : List (Str × Str) := [("InvalidNetwork", "line")]
section
variable {P : Program} {w : World} {K : PySem.W.Frag} {mg : Str → Option Value} {base : Heap}
theorem ok_given (T : Top K mg) : FnU P w K mg base 1 T.a_l_given T.fd_l_given ["_law_e"] (spGivenE K T.cBE T.cMS exPairs) := by
  refine fun_u T.d_l_given.F sc_l_given (fun vs H Q E h => ?_) (fun cdv A outer s H vs Q E h => ?_)
  · obtain ⟨a, C, dd, nm, f, v, rfl, _⟩ := h
    rfl
  obtain ⟨a, C, dd, nm, f, v, rfl, ea, ed, er, hp, q⟩ := h
  refine ⟨_, (pss_cons (ps_if (pt_cmpR (op_in_seq_K (K := K) (by rfl)) (pe_xz (pv 0)) (pe_tup (pa_cons pe_str (pa_cons pe_str (pa_cons pe_str pa_nil)))) (by rfl)) (pss_one (ps_ret (pe_xz (pv 0)))) pss_nil)
    (pss_cons (ps_if (pt_cmpR (op_in_seq_K (K := K) (by rfl)) (pe_xz (pv 0)) (pe_tup (pa_cons pe_str (pa_cons pe_str (pa_cons pe_str pa_nil)))) (by rfl)) (pss_one (ps_ret (pe_xz (pv 0)))) pss_nil)
    (pss_cons (ps_if (pt_cmpR (op_in_seq_K (K := K) (by rfl)) (pe_xz (pv 0)) (pe_tup (pa_cons pe_str (pa_cons pe_str (pa_cons pe_str (pa_cons pe_str (pa_cons pe_str pa_nil)))))) (by rfl)) (pss_one (ps_ret (pe_xz (pv 0)))) pss_nil)
    (pss_cons (ps_if (pt_cmpR (op_in_seq_K (K := K) (by rfl)) (pe_xz (pv 0)) (pe_tup (pa_cons pe_str (pa_cons pe_str pa_nil))) (by rfl)) (pss_one (ps_ret (pe_xz (pv 0)))) pss_nil)
    (pss_cons (ps_if (pt_cmpR (op_in_seq_K (K := K) (by rfl)) (pe_xz (pv 0)) (pe_tup (pa_cons pe_str (pa_cons pe_str pa_nil))) (by rfl)) (pss_one (ps_ret (pe_xz (pv 0)))) pss_nil)
    (pss_cons (ps_if (pt_cmpR op_eq (pe_xz (pv 0)) pe_str (nomark _)) (pss_one (ps_ret (pe_xz (pv 0)))) pss_nil)
    (pss_cons (ps_if (pt_cmpR op_eq (pe_xz (pv 0)) pe_str (nomark _)) (pss_one (ps_ret (pe_xz (pv 0)))) pss_nil)
    (pss_one (ps_ret (pe_ifExp (pt_cmpR (op_in_seq_K (K := K) (by rfl)) (pe_xz (pv 0)) (pe_tup (pa_cons pe_str (pa_cons pe_str (pa_cons pe_str pa_nil)))) (by rfl)) pe_non (pe_xz (pv 0)))))))))))), ?_⟩
  simp only [List.mem_cons, List.not_mem_nil, or_false, Prod.mk.injEq] at hp
  obtain ⟨rfl, rfl⟩ := hp
  refine ⟨_, rfl, a, C, dd, _, _, rfl, (Same.refl _) _ _ ea, er.x, er.n1, (Same.refl _) _ _ ed, rfl, (by show 3 ≤ sizeLine; decide), fun t1 n1 => ?_⟩
  have s1 := (Same.refl _).trans (same_new (o := .tup [.str "InvalidField", .str "InvalidTie", .str "InvalidKind"]) n1)
  refine ⟨t1, _, rfl, .inr (SqT.of upd_same), rfl, rfl, _, rfl, iteB (fun z => absurd z (by decide +kernel)) (fun _ => ?_)⟩
  refine ⟨_, rfl, a, C, dd, _, _, rfl, s1 _ _ ea, er.x, er.n1, s1 _ _ ed, rfl, (by show 3 ≤ sizeLine; decide), fun t2 n2 => ?_⟩
  have s2 := s1.trans (same_new (o := .tup [.str "InvalidRulebook", .str "InvalidNetwork", .str "InvalidPage"]) n2)
  refine ⟨t2, _, rfl, .inr (SqT.of upd_same), rfl, rfl, _, rfl, iteB (fun _ => ?_) (fun z => absurd z (by decide +kernel))⟩
  exact ⟨_, rfl, a, C, dd, _, v, rfl, s2 _ _ ea, er.x, er.n2, s2 _ _ ed, rfl, q _ s2⟩
theorem try_gives (T : Top K mg) {k : Nat} (cdv : Value) : GivesL P w K mg base ["_law_ask", "_law_found", "_law_e"] "_law_try" (defScope s_l_try) T.a_l_try cdv (defBody s_l_try) "_law_ask" k (TTryE K T.cBE T.cMS exPairs) := by
  intro A0 st f s H Q tl hr act h
  have G := ok_given (P := P) (w := w) (base := base) T
  obtain ⟨Ech, Q0, h1, h2, h3⟩ := h
  have hrm : ∀ (env : Env) (v : Option Value), env = envOfC "_law_try" (defScope s_l_try) s.heap.objs.size T.a_l_try cdv → L2H.RoomH 1 ((A0.deeper env).mark v) := fun env v e => by
    subst e
    have r := L2H.roomH_of hr
    exact ⟨by have := r.dp; show (A0.deeper (envOfC "_law_try" (defScope s_l_try) s.heap.objs.size T.a_l_try cdv)).depth + 3 * 1 + 5 < _; omega, by have := r.un; show (A0.deeper (envOfC "_law_try" (defScope s_l_try) s.heap.objs.size T.a_l_try cdv)).units + 16 * 1 + 200 < _; omega⟩
  refine ⟨_, pss_cons (ps_try_two (X := (cxOf C8.CX0 P w K mg base ["_law_ask", "_law_found", "_law_e"] "_law_try" (defScope s_l_try) T.a_l_try cdv A0 st s H C8.E0).nox) (i := 2) (tb := fun W D σ H => ∃ (Ec : XK) (Q1 : VK), (∀ cls d σ' H', Ec cls d H' → W cls d σ' H') ∧ σ[0]? = some (some (.ref f)) ∧ tl Ec H Q1 ∧
      ∀ v H2, Q1 v H2 → ∀ p, H2 p = none → D.nx (σ.set 1 (some (.ref p))) (upd H2 p (.tup [.str "value", v])))
      rfl rfl sc_l_try.nd rfl rfl (by rfl) T.gBE (by rfl) T.gMS (by decide) (by decide) (fun W pn xe tk _ => ⟨fun pins s' σ H' D I h' => ?_⟩)
      (fun a pn => pss_one (ps_set (i := 1) sc_l_try.nd rfl (Or.inl rfl) (by exact (pe_tup (X := ((cxOf C8.CX0 P w K mg base ["_law_ask", "_law_found", "_law_e"] "_law_try" (defScope s_l_try) T.a_l_try cdv A0 st s H C8.E0).nox).suite a pn) (pa_cons (pe_xz_K (X := ((cxOf C8.CX0 P w K mg base ["_law_ask", "_law_found", "_law_e"] "_law_try" (defScope s_l_try) T.a_l_try cdv A0 st s H C8.E0).nox).suite a pn) (K := K) rfl (pv 2)) (pa_cons (pe_callU (X := ((cxOf C8.CX0 P w K mg base ["_law_ask", "_law_found", "_law_e"] "_law_try" (defScope s_l_try) T.a_l_try cdv A0 st s H C8.E0).nox).suite a pn) G (hrm _ _ rfl) (by rfl) T.d_l_given.g T.d_l_given.kp T.d_l_given.b (pa_cons (pv 2) pa_nil)) pa_nil)))))))
    (pss_one (ps_ret (pv 1))), ?_⟩
  · obtain ⟨Ec, Q1, hW, k1, k3, k4⟩ := h'
    exact (pss_one (ps_set (i := 1) sc_l_try.nd rfl (Or.inl rfl) (pe_tup (pa_cons pe_str (pa_cons (pe_weak (act W pn xe Ec _ _ tk hW)) pa_nil))))).run pins s' σ H' D I
      ⟨Q1, ⟨k1, k3⟩, fun v H2 z => ⟨(by show 2 ≤ sizeLine; decide), fun p np => k4 v H2 z p np⟩⟩
  · refine ⟨Ech, Q0, fun cls d σ' H' he => ?_, rfl, h1, fun v H2 z p np => ⟨_, rfl, h3 v H2 z p np⟩⟩
    obtain ⟨C, dd, nm, f', v, rfl, rfl, ed, er, hp, k⟩ := h2 cls d H' he
    refine ⟨er.ex, fun a na hl => ?_⟩
    have nda : dd ≠ a := ne_of_none ed na
    match σ', hl with
    | [x, y, z], _ =>
      refine ⟨_, rfl, a, C, dd, _, _, rfl, upd_same, er.x, er.n1, (upd_ne nda).trans ed, rfl, _, rfl, a, C, dd, nm, f', v, rfl, upd_same, (upd_ne nda).trans ed, er, hp, fun H3 s3 => ⟨(by show 2 ≤ sizeLine; decide), fun p np => ?_⟩⟩
      exact ⟨_, rfl, k _ p ((same_new na).trans (s3.trans (same_new np))) upd_same⟩
/-- the same, the lambda made in the call -/
theorem try_givesT {X : Cx} (k : Nat) (T : Top K mg) (hK : X.K = K) (hm : X.mg = mg) (hr : Room (k + 2) X.A) (cdv : Value) (q : Str) :
    LamX.GivesTo X ["_law_ask", "_law_found", "_law_e"] "_law_try" (defScope s_l_try) T.a_l_try cdv (defBody s_l_try) "_law_ask" q (TTryE K T.cBE T.cMS exPairs) := by
  subst hK hm
  intro f c' s H Q tl act hc h
  obtain ⟨Ech, Q0, h1, h2, h3⟩ := h
  exact try_gives (P := X.prog) (w := X.w) (base := X.base) T (k := k) cdv X.A X.stack f s H Q (fun E H' Q' => H' c' = some (LamX.CodeO c' q) ∧ tl E H' Q') (hr.deeper _) (fun W pn xe E p1 p2 tk hW => act W pn xe E p1 p2 tk hW) ⟨Ech, Q0, ⟨hc, h1⟩, h2, h3⟩
end
end Bh

set_option Elab.async false
set_option linter.all false
set_option maxRecDepth 100000
set_option maxHeartbeats 1000000
set_option autoImplicit false
namespace Bh
open PySem PySem.Spec PyProof.Rows L2
/-- the data of a network: its cells with their kinds, its ties -/
def dNet (cs : List Cl) (ts : List Ti) : PyData := .tuple [.list (cs.map dCell), .list (ts.map dTi)]
theorem dnet_at {K : PySem.W.Frag} {H : Hp} {v : V} {cs : List Cl} {ts : List Ti} (h : Dp K H v (dNet cs ts)) : ∃ (a p1 p2 : Addr) (xs ys : List V), v = .ref a ∧ SqT K H a [.ref p1, .ref p2] ∧ SqL K H p1 xs ∧ DpAll K H xs (cs.map dCell) ∧ SqL K H p2 ys ∧ DpAll K H ys (ts.map dTi) := by
  obtain ⟨a, zs, rfl, h1, h2⟩ := dp_tup h
  cases h2 with
  | cons e1 r =>
    cases r with
    | cons e2 r =>
      cases r
      cases e1 with
      | lst a1 b1 =>
        cases e2 with
        | lst a2 b2 => exact ⟨a, _, _, _, _, rfl, h1, a1, b1, a2, b2⟩
def spWeb (K : PySem.W.Frag) (C : Addr) : Sp := fun vs H Q _ => ∃ (v : V) (cs : List Cl) (ts : List Ti), vs = [v] ∧ Dp K H v (dNet cs ts) ∧ CsOk cs ∧ TsOk cs ts ∧ NetNew H C cs ts Q
def spNetOf (K : PySem.W.Frag) (C : Addr) : Sp := fun vs H Q _ => ∃ (x dc dt : Addr) (cs : List Cl) (ts : List Ti), vs = [.ref x] ∧ NetA H C x dc dt cs ts ∧ CsOk cs ∧ ∀ (H' : Hp) (v : V), Same H H' → Dp K H' v (dNet cs ts) → Q v H'
section
variable {P : Program} {w : World} {K : PySem.W.Frag} {mg : Str → Option Value} {base : Heap} {R : NtC K mg}
theorem ok_web (T : Top K mg) (M : NtM K mg R) : FnOk P w K mg base CX0 8 T.a_l_web T.fd_l_web ["_law_net_here"] (spWeb K R.C) := by
  have G_Network := ok_mnetinit (P := P) (w := w) (base := base) T M
  refine T.d_l_web.F.ok sc_l_web (fun vs H Q E h => ?_) (fun cdv A outer s H vs Q E hr h => ?_)
  · obtain ⟨v, cs, ts, rfl, _⟩ := h
    rfl
  obtain ⟨v, cs, ts, rfl, hv, okc, okt, q⟩ := h
  obtain ⟨a, p1, p2, xs, ys, rfl, h1, h2, h3, h4, h5⟩ := dnet_at hv
  refine ⟨_, (pss_one (ps_ret (pe_makeK0 M.mkr G_Network (hr.mono (by decide)) (by rfl) R.g (kb_cells_ties M) pass0 (pk_cons (pe_ix (ix_tup_K (K := K) (by rfl)) (pv 0) pe_int (fun _ _ => rfl)) (pk_cons (pe_ix (ix_tup_K (K := K) (by rfl)) (pv 0) pe_int (fun _ _ => rfl)) pk_nil))))), ?_⟩
  refine ⟨_, rfl, a, _, (0 : Int), .ref p1, rfl, rfl, h1, rfl, _, rfl, a, _, (1 : Int), .ref p2, rfl, rfl, h1, rfl, rfl, rfl, fun y dy ny nd ne => ?_⟩
  exact net_made ny nd ne ⟨p1, _, rfl, .inl h2, h3⟩ ⟨p2, _, rfl, .inl h4, h5⟩ okc okt fun H3 ec et s3 nec net na3 => q H3 y ec et ny nec net s3 na3
theorem ok_netof (T : Top K mg) (M : NtM K mg R) : FnOk P w K mg base CX0 5 T.a_l_net_of T.fd_l_net_of ["_law_web_here"] (spNetOf K R.C) := by
  have G_m_cells := ok_mcells (P := P) (w := w) (base := base) T M
  have G_m_ties := ok_mties (P := P) (w := w) (base := base) T M
  have G_m_getitem := ok_mgetitem (P := P) (w := w) (base := base) T M
  refine T.d_l_net_of.F.ok sc_l_net_of (fun vs H Q E h => ?_) (fun cdv A outer s H vs Q E hr h => ?_)
  · obtain ⟨x, dc, dt, cs, ts, rfl, _⟩ := h
    rfl
  obtain ⟨x, dc, dt, cs, ts, rfl, na, okc, q⟩ := h
  obtain ⟨dx, h0, h1, h2⟩ := id na
  refine ⟨_, (pss_one (ps_ret (pe_tup (pa_cons (pe_lc (own := [("_law_cell", 1)]) rfl sc_l_net_of.nd (pi_list_K (K := K) (by rfl) (pe_meth0 (pv 0) R.cl M.cells.M G_m_cells (hr.mono (by decide)) M.cells.b .nil pass0)) (blkOk_by (own := [("_law_cell", 1)]) (N := ["_law_web_here", "_law_cell"]) (sc := defScope s_l_net_of) (by decide +kernel)) (fun _ _ _ _ _ => by exact (pg_name (i := 1) sc_l_net_of.nd rfl (Or.inl rfl))) (fun _ _ _ _ _ => by exact pts_nil) (fun _ _ _ _ _ => by exact (pe_tup (pa_cons (pv 1) (pa_cons (ix_ins G_m_getitem M.getitem.M.at_ M.getitem.M.fn M.gi M.getitem.b pass0 (hr.mono (by decide)) (pv 0) (pv 1) (fun _ _ => by with_unfolding_all rfl)) pa_nil))))) (pa_cons (pe_meth0 (pv 0) R.cl M.ties.M G_m_ties (hr.mono (by decide)) M.ties.b .nil pass0) pa_nil))))), ?_⟩
  refine tup_step (cons_step ?_)
  refine ⟨_, rfl, x, dx, _, rfl, h0, rfl, x, dc, dt, cs, ts, rfl, na, fun pl npl => ⟨pl, rfl, ⟨_, SqL.of upd_same⟩, fun D nD => ?_⟩⟩
  have s1 : Same H (upd H pl (.lst (cs.map fun c => .str c.1))) := same_new npl
  refine lc_it walk_list (fun i H' => ∃ zs, Same (upd H pl (.lst (cs.map fun c => .str c.1))) H' ∧ H' D = some (.lst zs) ∧ zs.length ≤ i ∧ DpAll K H' zs ((cs.take i).map dCell)) ⟨[], same_new nD, upd_same, Nat.le_refl _, .nil⟩ (fun i H' _ ⟨_, s, _⟩ => SqL.of (s _ _ upd_same)) ?_ ?_
  · rintro i z H' H'' hi ⟨zs, s3, hD, lz, dz⟩ ⟨rfl, ez⟩
    rw [List.getElem?_map] at ez
    obtain ⟨d, hd, rfl⟩ := Option.map_eq_some_iff.mp ez
    have na3 := na.mono (s1.trans s3)
    obtain ⟨dy3, b0, b1, b2⟩ := id na3
    have lf : zs.length < sizeLine := lt_line (by
      have := okc.few
      rw [List.length_map] at hi
      omega)
    refine ⟨rfl, _, rfl, _, rfl, _, rfl, x, dy3, _, rfl, b0, x, dc, dt, cs, ts, d.1, d.2, rfl, na3, kind_nodup okc.nd (List.mem_of_getElem? hd), (by show 2 ≤ sizeLine; decide), fun tp ntp => ?_⟩
    have sT : Same H'' (upd H'' tp (.tup [.str d.1, .str d.2])) := same_new ntp
    have hD2 := sT _ _ hD
    refine ⟨zs, hD2, lf, zs ++ [.ref tp], same_mut (s3.trans sT) nD, upd_same, by rw [List.length_append]; exact Nat.add_le_add_right lz 1, ?_⟩
    rw [take_next hd, List.map_append]
    exact DpAll.append (DpAll.imm (imm_upd hD2) (noLs_map (fun _ => rfl) _) (DpAll.mono sT dz)) (.cons (.tup ((imm_upd hD2).tup (SqT.of upd_same)) (strs_dp [d.1, d.2])) .nil)
  · rintro H' ⟨zs, s3, hD, lz, dz⟩
    rw [List.length_map, List.take_length] at dz
    have na3 := na.mono (s1.trans s3)
    obtain ⟨dy3, b0, b1, b2⟩ := id na3
    refine cons_step ?_
    refine ⟨_, rfl, x, dy3, _, rfl, b0, rfl, x, dc, dt, cs, ts, rfl, na3, fun pt H4 ys npt s4 hpt tys => ⟨(by show 2 ≤ sizeLine; decide), fun t nt => ?_⟩⟩
    have sT : Same H4 (upd H4 t (.tup [.ref D, .ref pt])) := same_new nt
    refine q _ _ (s1.trans (s3.trans (s4.trans sT))) (.tup (SqT.of upd_same) (.cons (.lst (SqL.of (sT _ _ (s4 _ _ hD))) (DpAll.mono (s4.trans sT) dz)) (.cons (.lst (SqL.of (sT _ _ hpt)) (DpAll.mono sT (tia_dp tys))) .nil)))
theorem strs_perm : ∀ {ys : List V} {ns : List Str}, ys.Perm (ns.map V.str) → ∃ zs : List Str, zs.Perm ns ∧ ys = zs.map V.str := fun {ys ns} pm => by
  have all : ∀ y ∈ ys, ∃ z, y = V.str z := fun y hy => by
    obtain ⟨z, _, e⟩ := List.mem_map.mp (pm.mem_iff.mp hy)
    exact ⟨z, e.symm⟩
  have ex : ∀ l : List V, (∀ y ∈ l, ∃ z, y = V.str z) → ∃ zs : List Str, l = zs.map V.str := fun l => by
    induction l with
    | nil => exact fun _ => ⟨[], rfl⟩
    | cons a l ih =>
      intro h
      obtain ⟨z, rfl⟩ := h a List.mem_cons_self
      obtain ⟨zs, rfl⟩ := ih fun y hy => h y (List.mem_cons_of_mem _ hy)
      exact ⟨z :: zs, rfl⟩
  obtain ⟨zs, rfl⟩ := ex ys all
  refine ⟨zs, ?_, rfl⟩
  have pm2 := pm.map fun v => match v with
    | .str z => z
    | _ => ("" : Str)
  rw [List.map_map, List.map_map] at pm2
  have id1 : ∀ l : List Str, l.map ((fun v : V => match v with
    | .str z => z
    | _ => ("" : Str)) ∘ V.str) = l := fun l => by
    induction l with
    | nil => rfl
    | cons a l ih => rw [List.map_cons, ih]; rfl
  rw [id1, id1] at pm2
  exact pm2
/-- a drawn web: new lists -/
def WebAt (K : PySem.W.Frag) (H : Hp) (v : V) (cs : List Cl) (ts : List Ti) : Prop := ∃ (a p1 p2 : Addr) (xs ys : List V), v = .ref a ∧ H a = some (.tup [.ref p1, .ref p2]) ∧ H p1 = some (.lst xs) ∧ DpAll K H xs (cs.map dCell) ∧ H p2 = some (.lst ys) ∧ DpAll K H ys (ts.map dTi)
theorem WebAt.mono {K : PySem.W.Frag} {H H' : Hp} {v : V} {cs : List Cl} {ts : List Ti} (s : Same H H') (h : WebAt K H v cs ts) : WebAt K H' v cs ts := by
  obtain ⟨a, p1, p2, xs, ys, rfl, h0, h1, d1, h2, d2⟩ := h
  exact ⟨a, p1, p2, xs, ys, rfl, s _ _ h0, s _ _ h1, DpAll.mono s d1, s _ _ h2, DpAll.mono s d2⟩
theorem WebAt.dp {K : PySem.W.Frag} {H : Hp} {v : V} {cs : List Cl} {ts : List Ti} (h : WebAt K H v cs ts) : Dp K H v (dNet cs ts) := by
  obtain ⟨a, p1, p2, xs, ys, rfl, h0, h1, d1, h2, d2⟩ := h
  exact .tup (SqT.of h0) (.cons (.lst (SqL.of h1) d1) (.cons (.lst (SqL.of h2) d2) .nil))
end
end Bh

set_option Elab.async false
set_option linter.all false
set_option maxRecDepth 100000
set_option maxHeartbeats 1000000
set_option autoImplicit false
namespace Bh
open PySem PySem.Spec PyProof.Rows L2
def NoNl (s : Str) : Prop := 10 ∉ TL.tl s
theorem NoNl.app {a b : Str} (h : NoNl a) (k : NoNl b) : NoNl (a ++ b) := fun m => by
  rw [TL.tl_append] at m
  rcases List.mem_append.mp m with z | z
  · exact h z
  · exact k z
theorem NoNl.join {y : Str} (hy : NoNl y) : ∀ {ps : List Str}, (∀ p ∈ ps, NoNl p) → NoNl (Txt.join y ps)
  | [], _ => by
    rw [TL.join_eq]
    exact fun m => nomatch m
  | [p], h => by
    rw [TL.join_eq]
    exact h p List.mem_cons_self
  | p :: q :: r, h => by
    have e : Txt.join y (p :: q :: r) = p ++ y ++ Txt.join y (q :: r) := by
      rw [TL.join_eq, TL.join_eq]
      rfl
    rw [e]
    exact ((h p List.mem_cons_self).app hy).app (NoNl.join hy fun z hz => h z (List.mem_cons_of_mem _ hz))
theorem nm_nl {n : Str} (h : wordB n letters = true) : NoNl n := word_free (word_letD h) (by decide +kernel)
def textL (ls : List Str) : Str := Txt.join "" (ls.map fun l => l ++ "\n")
theorem text_join : ∀ ls : List Str, textL ls = Txt.join "\n" (ls ++ [Str.empty])
  | [] => by
    unfold textL
    rw [TL.join_eq, TL.join_eq]
    rfl
  | l :: ls => by
    have e1 : Txt.join "\n" ((l :: ls) ++ [Str.empty]) = l ++ "\n" ++ Txt.join "\n" (ls ++ [Str.empty]) := by
      cases ls with
      | nil => rw [TL.join_eq, TL.join_eq]; rfl
      | cons a r => rw [TL.join_eq, TL.join_eq]; rfl
    have e2 : textL (l :: ls) = l ++ "\n" ++ textL ls := by
      unfold textL
      cases ls with
      | nil =>
        rw [TL.join_eq, TL.join_eq]
        exact TL.ext_tl (by rw [TL.tl_append]; show _ = _ ++ ([] : List Nat); rw [List.append_nil]; rfl)
      | cons a r =>
        rw [TL.join_eq, TL.join_eq]
        show (l ++ "\n") ++ ("" : Str) ++ _ = _
        exact TL.ext_tl (by rw [TL.tl_append, TL.tl_append, TL.tl_append, show TL.tl (("" : Str)) = [] from by decide +kernel, List.append_nil, TL.tl_append, TL.tl_append])
    rw [e1, e2, text_join ls]
theorem text_split {ls : List Str} (h : ∀ l ∈ ls, NoNl l) : Txt.split (textL ls) "\n" = ls ++ [Str.empty] := by
  rw [text_join]
  refine TL.split_join (y := "\n") (s := 10) (S := []) (by decide +kernel) (by decide +kernel) (by simp) fun p hp => ?_
  rcases List.mem_append.mp hp with hp | hp
  · exact h p hp
  · rw [List.mem_singleton.mp hp]
    exact fun m => nomatch m
def linesO (t : Str) : List Str := (Txt.split t "\n").dropLast
def restO (t : Str) : Str := (Txt.split t "\n").getLastD Str.empty
theorem split_parts (t : Str) : Txt.split t "\n" = linesO t ++ [restO t] := by
  unfold linesO restO
  have ne := split_ne t "\n"
  rw [List.getLastD_eq_getLast?, List.getLast?_eq_some_getLast ne]
  exact (List.dropLast_concat_getLast ne).symm
theorem join_nl (x : Str) : Txt.join "\n" (Txt.split x "\n") = x := by rw [TL.join_eq, StrLaws.join_split]
theorem text_of {t : Str} (h : restO t = Str.empty) : textL (linesO t) = t := by
  rw [text_join, ← h, ← split_parts, join_nl]
theorem lines_text {ls : List Str} (h : ∀ l ∈ ls, NoNl l) : linesO (textL ls) = ls ∧ restO (textL ls) = Str.empty := by
  unfold linesO restO
  rw [text_split h]
  exact ⟨List.dropLast_concat, by rw [List.getLastD_eq_getLast?, List.getLast?_concat]; rfl⟩
theorem str_nil {s : Str} (h : TL.tl s = []) (r : Str) : s ++ r = r := TL.ext_tl (by rw [TL.tl_append, h, List.nil_append])
theorem str_nil_r {s : Str} (h : TL.tl s = []) (r : Str) : r ++ s = r := TL.ext_tl (by rw [TL.tl_append, h, List.append_nil])
theorem textL_nil : TL.tl (textL []) = [] := by decide +kernel
theorem textL_cons (l : Str) (ls : List Str) : textL (l :: ls) = l ++ "\n" ++ textL ls := by
  unfold textL
  cases ls with
  | nil =>
    rw [str_nil_r (by decide +kernel), TL.join_eq]
    rfl
  | cons a r =>
    rw [TL.join_eq, TL.join_eq]
    show (l ++ "\n") ++ ("" : Str) ++ _ = _
    rw [str_nil_r (s := ("" : Str)) (by decide +kernel)]
theorem textL_join (r : Str) : ∀ (ls : List Str), textL ls ++ r = Txt.join "\n" (ls ++ [r])
  | [] => by
    rw [str_nil textL_nil, TL.join_eq]
    rfl
  | l :: ls => by
    have e1 : Txt.join "\n" ((l :: ls) ++ [r]) = l ++ "\n" ++ Txt.join "\n" (ls ++ [r]) := by
      cases ls with
      | nil => rw [TL.join_eq, TL.join_eq]; rfl
      | cons a r => rw [TL.join_eq, TL.join_eq]; rfl
    rw [textL_cons, app_assoc, textL_join r ls, e1]
theorem split_rest {ls : List Str} {r : Str} (h : ∀ l ∈ ls, NoNl l) (k : NoNl r) : Txt.split (textL ls ++ r) "\n" = ls ++ [r] := by
  rw [textL_join]
  exact TL.split_join (y := "\n") (s := 10) (S := []) (by decide +kernel) (by decide +kernel) (by simp) (fun l hl => by
    rcases List.mem_append.mp hl with z | z
    · exact h l z
    · rw [List.mem_singleton.mp z]; exact k)
theorem lines_rest {ls : List Str} {r : Str} (h : ∀ l ∈ ls, NoNl l) (k : NoNl r) : linesO (textL ls ++ r) = ls ∧ restO (textL ls ++ r) = r := by
  unfold linesO restO
  rw [split_rest h k]
  exact ⟨List.dropLast_concat, by rw [List.getLastD_eq_getLast?, List.getLast?_concat]; rfl⟩
theorem textL_snoc (l : Str) : ∀ ls : List Str, textL (ls ++ [l]) = textL ls ++ l ++ "\n"
  | [] => by
    show textL [l] = _
    rw [textL_cons, str_nil_r textL_nil, str_nil textL_nil]
  | m :: ls => by
    show textL (m :: (ls ++ [l])) = _
    rw [textL_cons, textL_cons, textL_snoc l ls, app_assoc, app_assoc, app_assoc, app_assoc, app_assoc]
theorem textL_len {m : Nat} {ls : List Str} (h : ∀ l ∈ ls, l.length ≤ m) : (textL ls).length ≤ ls.length * (m + 1) := by
  have z := join_len "" (m := m + 1) (ls.map fun l => l ++ ("\n" : Str)) fun p hp => by
    obtain ⟨l, hl, rfl⟩ := List.mem_map.mp hp
    rw [len_app]
    have := h l hl
    show _ + 1 ≤ _
    omega
  rw [List.length_map] at z
  exact z
theorem cut_back (a b : Str) {n : Nat} (one : b.length = n) (p : 0 < n) : cutS (a ++ b) none (some (-(n : Int))) = a := by
  have l1 : (a ++ b).length = a.length + n := by rw [len_app, one]
  refine TL.ext_tl ?_
  show (((((a ++ b).cps.toList.drop (HT.sIx (a ++ b).length 0 none)).take (HT.sIx (a ++ b).length (a ++ b).length (some (-(n : Int))) - HT.sIx (a ++ b).length 0 none)).toArray).toList) = a.cps.toList
  have s1 : HT.sIx (a ++ b).length (a ++ b).length (some (-(n : Int))) = a.length := by
    show (if (-(n : Int)) < 0 then ((-(n : Int)) + ((a ++ b).length : Int)).toNat else min (-(n : Int)).toNat (a ++ b).length) = _
    rw [if_pos (by omega), l1]
    omega
  have tl : (a ++ b).cps.toList = a.cps.toList ++ b.cps.toList := TL.tl_append a b
  have la : a.cps.toList.length = a.length := Array.length_toList
  rw [HT.sIx_none, s1, List.drop_zero, Nat.sub_zero, tl, ← la, List.take_left]
theorem cut_last (a b : Str) (one : b.length = 1) : cutS (a ++ b) none (some (-1)) = a := cut_back a b one (by decide)
end Bh

set_option Elab.async false
set_option linter.all false
set_option maxRecDepth 100000
set_option maxHeartbeats 1000000
set_option autoImplicit false
namespace Bh
open PySem PySem.Spec PyProof.Rows L2
/-- a network's cells and ties -/
abbrev Nt := List Cl × List Ti
def cellS (D : Nt) (w n k : Str) : Option Nt := if w = "cell" ∧ D.2 = [] ∧ wordB n letters = true ∧ n ∉ D.1.map (·.1) ∧ kindB k = true then some (D.1 ++ [(n, k)], D.2) else none
def tieS (D : Nt) (w t a b : Str) : Option Nt := if w = "tie" ∧ wordB t letters = true ∧ a ∈ D.1.map (·.1) ∧ b ∈ D.1.map (·.1) ∧ (t, a, b) ∉ D.2 then some (D.1, D.2 ++ [(t, a, b)]) else none
/-- what a line makes of a network -/
def stN (D : Nt) (l : Str) : Option Nt := match Txt.split l " " with
  | [w, n, k] => cellS D w n k
  | [w, t, a, b] => tieS D w t a b
  | _ => none
def cellW (c : Cl) : List Str := ["cell", c.1, c.2]
def tieW (t : Ti) : List Str := ["tie", t.1, t.2.1, t.2.2]
def cellL (c : Cl) : Str := Txt.join " " (cellW c)
def tieL (t : Ti) : Str := Txt.join " " (tieW t)
def netLs (D : Nt) : List Str := D.1.map cellL ++ D.2.map tieL
/-- what each network of a text is -/
structure GoodN (D : Nt) : Prop where
  cnd : (D.1.map (·.1)).Nodup
  cnm : ∀ c ∈ D.1, wordB c.1 letters = true ∧ kindB c.2 = true
  tnd : D.2.Nodup
  tnm : ∀ t ∈ D.2, wordB t.1 letters = true ∧ t.2.1 ∈ D.1.map (·.1) ∧ t.2.2 ∈ D.1.map (·.1)
theorem good0 : GoodN ([], []) := ⟨.nil, (fun c h => by cases h), .nil, (fun c h => by cases h)⟩
theorem join_sp (x : Str) : Txt.join " " (Txt.split x " ") = x := by rw [TL.join_eq, StrLaws.join_split]
theorem stN_some {D E : Nt} {l : Str} (h : stN D l = some E) : netLs E = netLs D ++ [l] ∧ (GoodN D → GoodN E) := by
  unfold stN at h
  split at h
  · rename_i w n k e
    unfold cellS at h
    split at h
    · rename_i c
      obtain ⟨rfl, c2, c3, c4, c5⟩ := c
      cases h
      have el : l = cellL (n, k) := by
        rw [← join_sp l, e]
        rfl
      refine ⟨?_, fun g => ⟨?_, ?_, g.tnd, fun t ht => ?_⟩⟩
      · unfold netLs
        dsimp only
        rw [c2, List.map_nil, List.append_nil, List.append_nil, List.map_append, el]
        rfl
      · rw [List.map_append]
        exact List.nodup_append.mpr ⟨g.cnd, List.nodup_cons.mpr ⟨(fun z => by cases z), .nil⟩, fun a ha b hb => by
          cases List.mem_singleton.mp hb
          exact fun z => c4 ((show a = n from z) ▸ ha)⟩
      · intro c hc
        rcases List.mem_append.mp hc with z | z
        · exact g.cnm c z
        · cases List.mem_singleton.mp z
          exact ⟨c3, c5⟩
      · dsimp only at ht
        rw [c2] at ht
        cases ht
    · cases h
  · rename_i w t a b e
    unfold tieS at h
    split at h
    · rename_i c
      obtain ⟨rfl, c2, c3, c4, c5⟩ := c
      cases h
      have el : l = tieL (t, a, b) := by
        rw [← join_sp l, e]
        rfl
      refine ⟨?_, fun g => ⟨g.cnd, g.cnm, ?_, fun t ht => ?_⟩⟩
      · unfold netLs
        dsimp only
        rw [List.map_append, el, List.append_assoc]
        rfl
      · exact List.nodup_append.mpr ⟨g.tnd, List.nodup_cons.mpr ⟨(fun z => by cases z), .nil⟩, fun a ha b hb => by
          cases List.mem_singleton.mp hb
          exact fun z => c5 (z ▸ ha)⟩
      · rcases List.mem_append.mp ht with z | z
        · exact g.tnm t z
        · cases List.mem_singleton.mp z
          exact ⟨c2, c3, c4⟩
    · cases h
  · cases h
/-! ### signs of lines -/
theorem kind_free {k : Str} {c : Nat} (h : kindB k = true) (hc : c ∉ TL.tl lettersD) (h46 : c ≠ 46) : c ∉ TL.tl k := by
  unfold kindB at h
  split at h
  · rename_i e
    obtain ⟨p, hp, ep⟩ := List.any_eq_true.mp e
    have es := suffix_spec ep
    have l2 : p.length = 2 := by
      have : ∀ p ∈ ends3, p.length = 2 := by decide +kernel
      exact this p hp
    rw [es] at h ⊢
    rw [show ((-2 : Int)) = -((2 : Nat) : Int) from rfl, cut_back _ _ l2 (by decide)] at h
    rw [TL.tl_append]
    intro m
    rcases List.mem_append.mp m with z | z
    · exact word_free (word_letD h) hc z
    · have : ∀ p ∈ ends3, ∀ c ∈ TL.tl p, c = 46 ∨ c ∈ TL.tl lettersD := by decide +kernel
      rcases this p hp c z with y | y
      · exact h46 y
      · exact hc y
  · exact word_free (word_letD h) hc
theorem kind_len {k : Str} (h : kindB k = true) : k.length ≤ 10 := by
  unfold kindB at h
  split at h
  · rename_i e
    obtain ⟨p, hp, ep⟩ := List.any_eq_true.mp e
    have es := suffix_spec ep
    have l2 : p.length = 2 := by
      have : ∀ p ∈ ends3, p.length = 2 := by decide +kernel
      exact this p hp
    rw [es] at h ⊢
    rw [show ((-2 : Int)) = -((2 : Nat) : Int) from rfl, cut_back _ _ l2 (by decide)] at h
    have := (word_len h).2
    rw [len_app]
    omega
  · have := (word_len h).2
    omega
theorem cell_split {c : Cl} (h : wordB c.1 letters = true ∧ kindB c.2 = true) : Txt.split (cellL c) " " = cellW c := by
  unfold cellL cellW
  exact TL.split_join (y := " ") (s := 32) (S := []) (by decide +kernel) (by decide +kernel) (by simp) fun p hp => by
    simp only [List.mem_cons, List.not_mem_nil, or_false] at hp
    rcases hp with rfl | rfl | rfl
    · decide +kernel
    · exact word_free (word_letD h.1) (by decide +kernel)
    · exact kind_free h.2 (by decide +kernel) (by decide)
theorem tie_split {t : Ti} (h1 : wordB t.1 letters = true) (h2 : wordB t.2.1 letters = true) (h3 : wordB t.2.2 letters = true) : Txt.split (tieL t) " " = tieW t := by
  unfold tieL tieW
  exact TL.split_join (y := " ") (s := 32) (S := []) (by decide +kernel) (by decide +kernel) (by simp) fun p hp => by
    simp only [List.mem_cons, List.not_mem_nil, or_false] at hp
    rcases hp with rfl | rfl | rfl | rfl
    · decide +kernel
    · exact word_free (word_letD h1) (by decide +kernel)
    · exact word_free (word_letD h2) (by decide +kernel)
    · exact word_free (word_letD h3) (by decide +kernel)
theorem cell_nl {c : Cl} (h : wordB c.1 letters = true ∧ kindB c.2 = true) : NoNl (cellL c) := by
  unfold cellL cellW
  refine NoNl.join (by show 10 ∉ TL.tl " "; decide +kernel) fun p hp => ?_
  simp only [List.mem_cons, List.not_mem_nil, or_false] at hp
  rcases hp with rfl | rfl | rfl
  · show 10 ∉ TL.tl "cell"
    decide +kernel
  · exact word_free (word_letD h.1) (by decide +kernel)
  · exact kind_free h.2 (by decide +kernel) (by decide)
theorem tie_nl {t : Ti} (h1 : wordB t.1 letters = true) (h2 : wordB t.2.1 letters = true) (h3 : wordB t.2.2 letters = true) : NoNl (tieL t) := by
  unfold tieL tieW
  refine NoNl.join (by show 10 ∉ TL.tl " "; decide +kernel) fun p hp => ?_
  simp only [List.mem_cons, List.not_mem_nil, or_false] at hp
  rcases hp with rfl | rfl | rfl | rfl
  · show 10 ∉ TL.tl "tie"
    decide +kernel
  · exact word_free (word_letD h1) (by decide +kernel)
  · exact word_free (word_letD h2) (by decide +kernel)
  · exact word_free (word_letD h3) (by decide +kernel)
theorem GoodN.ends {D : Nt} (g : GoodN D) {t : Ti} (ht : t ∈ D.2) : wordB t.1 letters = true ∧ wordB t.2.1 letters = true ∧ wordB t.2.2 letters = true := by
  obtain ⟨h1, h2, h3⟩ := g.tnm t ht
  obtain ⟨c, hc, e⟩ := List.mem_map.mp h2
  obtain ⟨d, hd, e2⟩ := List.mem_map.mp h3
  exact ⟨h1, e ▸ (g.cnm c hc).1, e2 ▸ (g.cnm d hd).1⟩
theorem net_line {D : Nt} (g : GoodN D) : ∀ l ∈ netLs D, NoNl l ∧ l.length ≤ 60 := fun l hl => by
  rcases List.mem_append.mp hl with z | z
  · obtain ⟨c, hc, rfl⟩ := List.mem_map.mp z
    refine ⟨cell_nl (g.cnm c hc), Nat.le_trans (join_len " " (m := 10) _ fun p hp => ?_) (by show 3 * (10 + 1) ≤ 60; decide)⟩
    have h := g.cnm c hc
    unfold cellW at hp
    simp only [List.mem_cons, List.not_mem_nil, or_false] at hp
    rcases hp with rfl | rfl | rfl
    · decide +kernel
    · have := (word_len h.1).2
      omega
    · exact kind_len h.2
  · obtain ⟨t, ht, rfl⟩ := List.mem_map.mp z
    obtain ⟨h1, h2, h3⟩ := g.ends ht
    refine ⟨tie_nl h1 h2 h3, Nat.le_trans (join_len " " (m := 10) _ fun p hp => ?_) (by show 4 * (10 + 1) ≤ 60; decide)⟩
    unfold tieW at hp
    simp only [List.mem_cons, List.not_mem_nil, or_false] at hp
    rcases hp with rfl | rfl | rfl | rfl
    · decide +kernel
    · have := (word_len h1).2
      omega
    · have := (word_len h2).2
      omega
    · have := (word_len h3).2
      omega
/-- a line that stands there already is not taken -/
theorem twice_none {D : Nt} (g : GoodN D) {l : Str} (hl : l ∈ netLs D) : stN D l = none := by
  rcases List.mem_append.mp hl with z | z
  · obtain ⟨c, hc, rfl⟩ := List.mem_map.mp z
    unfold stN
    rw [cell_split (g.cnm c hc)]
    show cellS D _ _ _ = none
    exact if_neg fun h => h.2.2.2.1 (List.mem_map.mpr ⟨c, hc, rfl⟩)
  · obtain ⟨t, ht, rfl⟩ := List.mem_map.mp z
    obtain ⟨h1, h2, h3⟩ := g.ends ht
    unfold stN
    rw [tie_split h1 h2 h3]
    show tieS D _ _ _ _ = none
    exact if_neg fun h => h.2.2.2.2 ht
/-! ### how many lines are taken, and the network behind them -/
def took : Nt → List Str → Nat × Nt
  | D, [] => (0, D)
  | D, l :: ls => match stN D l with
    | none => (0, D)
    | some E => ((took E ls).1 + 1, (took E ls).2)
theorem took_le : ∀ (D : Nt) (ls : List Str), (took D ls).1 ≤ ls.length
  | _, [] => Nat.le_refl _
  | D, l :: ls => by
    unfold took
    split
    · exact Nat.zero_le _
    · exact Nat.succ_le_succ (took_le _ ls)
theorem took_lines : ∀ (D : Nt) (ls : List Str), netLs (took D ls).2 = netLs D ++ ls.take (took D ls).1 ∧ (GoodN D → GoodN (took D ls).2)
  | D, [] => ⟨by show netLs D = netLs D ++ []; rw [List.append_nil], id⟩
  | D, l :: ls => by
    unfold took
    split
    · exact ⟨by show netLs D = netLs D ++ []; rw [List.append_nil], id⟩
    · rename_i E e
      obtain ⟨h1, h2⟩ := took_lines E ls
      obtain ⟨k1, k2⟩ := stN_some e
      refine ⟨?_, fun g => h2 (k2 g)⟩
      dsimp only
      rw [h1, k1, List.take_succ_cons, List.append_assoc]
      rfl
theorem took_app {D E : Nt} : ∀ {ls : List Str}, took D ls = (ls.length, E) → ∀ rs, took D (ls ++ rs) = (ls.length + (took E rs).1, (took E rs).2) := by
  intro ls
  induction ls generalizing D with
  | nil =>
    intro h rs
    have h : (0, D) = ((0 : Nat), E) := h
    cases h
    rw [List.nil_append, List.length_nil, Nat.zero_add]
  | cons l ls ih =>
    intro h rs
    unfold took at h
    show took D (l :: (ls ++ rs)) = _
    conv => lhs; unfold took
    cases k : stN D l with
    | none =>
      rw [k] at h
      have h : ((0 : Nat), D) = (ls.length + 1, E) := h
      injection h with h _
      omega
    | some F =>
      rw [k] at h
      have h : ((took F ls).1 + 1, (took F ls).2) = (ls.length + 1, E) := h
      injection h with h1 h2
      have z : took F ls = (ls.length, E) := by rw [← h2]; exact Prod.ext (by show (took F ls).1 = _; omega) rfl
      dsimp only
      rw [ih z rs, List.length_cons]
      refine Prod.ext ?_ rfl
      show _ + 1 = _
      dsimp only
      omega
theorem took_take {D : Nt} : ∀ {ls : List Str} {i : Nat}, i ≤ (took D ls).1 → (took D (ls.take i)).1 = i := by
  intro ls
  induction ls generalizing D with
  | nil =>
    intro i h
    have : i = 0 := by have : i ≤ 0 := h; omega
    subst this
    rfl
  | cons l ls ih =>
    intro i h
    cases i with
    | zero => rfl
    | succ i =>
      rw [List.take_succ_cons]
      unfold took at h ⊢
      split at h
      · exact absurd h (by omega)
      · rename_i E e
        dsimp only at h ⊢
        rw [ih (by omega)]
theorem took_next {D : Nt} : ∀ {ls : List Str} {i : Nat} {l : Str}, i ≤ (took D ls).1 → ls[i]? = some l →
    (i < (took D ls).1 → stN (took D (ls.take i)).2 l = some (took D (ls.take (i + 1))).2) ∧ (¬ i < (took D ls).1 → stN (took D (ls.take i)).2 l = none) := by
  intro ls
  induction ls generalizing D with
  | nil => intro i l _ h; cases h
  | cons m ls ih =>
    intro i l h e
    cases i with
    | zero =>
      cases e
      refine ⟨fun h => ?_, fun h => ?_⟩
      · unfold took at h
        split at h
        · exact absurd h (by omega)
        · rename_i E e
          show stN D m = some (took D [m]).2
          unfold took
          rw [e]
          rfl
      · unfold took at h
        split at h
        · rename_i e
          exact e
        · exact absurd (Nat.succ_pos _) h
    | succ i =>
      rw [List.getElem?_cons_succ] at e
      rw [List.take_succ_cons, List.take_succ_cons]
      cases k : stN D m with
      | none =>
        unfold took at h
        rw [k] at h
        exact absurd h (by show ¬ i + 1 ≤ 0; omega)
      | some E =>
        have t : ∀ xs, took D (m :: xs) = ((took E xs).1 + 1, (took E xs).2) := fun xs => by
          conv => lhs; unfold took
          rw [k]
        rw [t] at h ⊢
        rw [t, t]
        dsimp only at h ⊢
        have z := ih (D := E) (i := i) (l := l) (by omega) e
        exact ⟨fun y => z.1 (by omega), fun y => z.2 (by omega)⟩
theorem took_some {D E : Nt} {l : Str} {ls : List Str} (h : stN D l = some E) : took D (l :: ls) = ((took E ls).1 + 1, (took E ls).2) := by
  conv => lhs; unfold took
  rw [h]
/-- a network's own lines are taken -/
theorem cells_took : ∀ (cs2 cs1 : List Cl), GoodN (cs1 ++ cs2, []) → took (cs1, []) (cs2.map cellL) = (cs2.length, (cs1 ++ cs2, []))
  | [], cs1, _ => by rw [List.append_nil]; rfl
  | c :: cs2, cs1, g => by
    have hc := g.cnm c (by simp)
    have nin : c.1 ∉ cs1.map (·.1) := fun m => by
      have z := g.cnd
      rw [List.map_append, List.map_cons] at z
      exact (List.nodup_append.mp z).2.2 _ m _ List.mem_cons_self rfl
    have e : stN (cs1, []) (cellL c) = some (cs1 ++ [c], []) := by
      unfold stN
      rw [cell_split hc]
      exact if_pos ⟨rfl, rfl, hc.1, nin, hc.2⟩
    have g2 : GoodN ((cs1 ++ [c]) ++ cs2, []) := by rw [List.append_assoc]; exact g
    rw [List.map_cons, took_some e, cells_took cs2 (cs1 ++ [c]) g2, List.append_assoc]
    rfl
theorem ties_took (cs : List Cl) : ∀ (ts2 ts1 : List Ti), GoodN (cs, ts1 ++ ts2) → took (cs, ts1) (ts2.map tieL) = (ts2.length, (cs, ts1 ++ ts2))
  | [], ts1, _ => by rw [List.append_nil]; rfl
  | t :: ts2, ts1, g => by
    obtain ⟨h1, h2, h3⟩ := g.tnm t (by simp)
    obtain ⟨k1, k2, k3⟩ := g.ends (t := t) (by simp)
    have nin : t ∉ ts1 := fun m => (List.nodup_append.mp g.tnd).2.2 _ m _ List.mem_cons_self rfl
    have e : stN (cs, ts1) (tieL t) = some (cs, ts1 ++ [t]) := by
      unfold stN
      rw [tie_split k1 k2 k3]
      exact if_pos ⟨rfl, h1, h2, h3, nin⟩
    have g2 : GoodN (cs, (ts1 ++ [t]) ++ ts2) := by rw [List.append_assoc]; exact g
    rw [List.map_cons, took_some e, ties_took cs ts2 (ts1 ++ [t]) g2, List.append_assoc]
    rfl
theorem net_took {D : Nt} (g : GoodN D) : took ([], []) (netLs D) = ((netLs D).length, D) := by
  obtain ⟨cs, ts⟩ := D
  have gc : GoodN ([] ++ cs, []) := ⟨g.cnd, g.cnm, .nil, fun t h => by cases h⟩
  have c := cells_took cs [] gc
  rw [List.nil_append] at c
  have t := ties_took cs ts [] g
  rw [List.nil_append] at t
  unfold netLs
  have c : took ([], []) (cs.map cellL) = ((cs.map cellL).length, (cs, [])) := by rw [c, List.length_map]
  rw [took_app c, t, List.length_append, List.length_map, List.length_map]
/-! ### texts read -/
def readN (t : Str) : Nt := (took ([], []) (linesO t)).2
def readE (t : Str) : Option Nat :=
  if (took ([], []) (linesO t)).1 < (linesO t).length then some (took ([], []) (linesO t)).1
  else if restO t ≠ Str.empty then some (linesO t).length
  else none
theorem read_good (t : Str) : GoodN (readN t) := (took_lines _ _).2 good0
theorem read_ok {t : Str} (h : readE t = none) : textL (netLs (readN t)) = t := by
  unfold readE at h
  split at h
  · cases h
  rename_i c1
  split at h
  · cases h
  rename_i c2
  have c3 : restO t = Str.empty := Classical.byContradiction c2
  have le := took_le ([], []) (linesO t)
  have e := (took_lines ([], []) (linesO t)).1
  unfold readN
  rw [e, show (took ([], []) (linesO t)).1 = (linesO t).length by omega, List.take_length]
  show textL ([] ++ linesO t) = t
  rw [List.nil_append]
  exact text_of c3
theorem read_net {D : Nt} (g : GoodN D) : readE (textL (netLs D)) = none ∧ readN (textL (netLs D)) = D := by
  obtain ⟨e1, e2⟩ := lines_text fun l hl => (net_line g l hl).1
  have tk := net_took g
  unfold readE readN
  rw [e1, e2, tk]
  exact ⟨by rw [if_neg (Nat.lt_irrefl _), if_neg (fun z => z rfl)], rfl⟩
/-- the network behind the first lines -/
theorem net_at {D : Nt} (g : GoodN D) {n : Nat} (hn : n ≤ (netLs D).length) : ∃ F, GoodN F ∧ netLs F = (netLs D).take n ∧ took ([], []) ((netLs D).take n) = (((netLs D).take n).length, F) := by
  have tk := net_took g
  have t1 : (took ([], []) ((netLs D).take n)).1 = n := took_take (by rw [tk]; exact hn)
  have l := took_lines ([], []) ((netLs D).take n)
  refine ⟨_, l.2 good0, ?_, Prod.ext ?_ rfl⟩
  · rw [l.1, t1, List.take_take, Nat.min_self]
    rfl
  · rw [t1, List.length_take]
    omega
theorem stop_read {D : Nt} (g : GoodN D) {n : Nat} (hn : n ≤ (netLs D).length) {o : Str} {rs : List Str} (no : NoNl o) (nr : ∀ l ∈ rs, NoNl l) (st : ∀ F, GoodN F → netLs F = (netLs D).take n → stN F o = none) : readE (textL ((netLs D).take n ++ o :: rs)) = some n := by
  obtain ⟨F, gF, eF, tk⟩ := net_at g hn
  obtain ⟨e1, _⟩ := lines_text (ls := (netLs D).take n ++ o :: rs) fun l hl => by
    rcases List.mem_append.mp hl with z | z
    · exact (net_line g l (List.mem_of_mem_take z)).1
    rcases List.mem_cons.mp z with rfl | z
    · exact no
    · exact nr l z
  have ta := took_app tk (o :: rs)
  have t0 : took F (o :: rs) = (0, F) := by
    unfold took
    rw [st F gF eF]
  rw [t0] at ta
  have ln : ((netLs D).take n).length = n := by rw [List.length_take]; omega
  unfold readE
  rw [e1, ta]
  dsimp only
  rw [ln, if_pos (by rw [List.length_append, ln, List.length_cons]; omega)]
  rfl
/-! ### lines that no network takes -/
def oddN : List Str := ["", " ", "cell", "cell q", "cell Q k", "cell q K", "cell q k.3", "cell q k k", "cell  q k", "cell q k ", "tie", "tie t", "tie t Q Q", "tie T Q Q", "tie t Q", "tie t Q Q Q", " tie t Q Q", "network", "Cell q k",
  "cell q k.", "cell q .0", "cells q k", "cell qqqqqqqqq k", "tie t q  q"]
def deadN (l : Str) : Bool := match Txt.split l " " with
  | [w, n, k] => !decide (w = "cell") || !wordB n letters || !kindB k
  | [w, t, a, b] => !decide (w = "tie") || !wordB t letters || !wordB a letters || !wordB b letters
  | _ => true
theorem oddN_dead : ∀ l ∈ oddN, deadN l = true ∧ 10 ∉ TL.tl l ∧ l.length ≤ 60 := by decide +kernel
theorem dead_none {D : Nt} {l : Str} (g : GoodN D) (h : deadN l = true) : stN D l = none := by
  unfold deadN at h
  unfold stN
  split at h
  · rename_i w n k e
    refine if_neg fun c => ?_
    rw [decide_eq_true c.1, c.2.2.1, c.2.2.2.2] at h
    cases h
  · rename_i w t a b e
    refine if_neg fun c => ?_
    obtain ⟨x, hx, ex⟩ := List.mem_map.mp c.2.2.1
    obtain ⟨y, hy, ey⟩ := List.mem_map.mp c.2.2.2.1
    rw [decide_eq_true c.1, c.2.1, ← ex, ← ey, (g.cnm x hx).1, (g.cnm y hy).1] at h
    cases h
  · rfl
theorem odd_read {D : Nt} (g : GoodN D) {n : Nat} (hn : n ≤ (netLs D).length) {o : Str} (ho : o ∈ oddN) : readE (textL ((netLs D).take n ++ o :: (netLs D).drop n)) = some n :=
  stop_read g hn (oddN_dead o ho).2.1 (fun l hl => (net_line g l (List.mem_of_mem_drop hl)).1) fun F gF _ => dead_none gF (oddN_dead o ho).1
/-- a line doubled -/
theorem double_read {D : Nt} (g : GoodN D) {s : Nat} (hs : s < (netLs D).length) : readE (textL ((netLs D).take (s + 1) ++ (netLs D).drop s)) = some (s + 1) := by
  have e := List.drop_eq_getElem_cons hs
  rw [e]
  refine stop_read g (by omega) (net_line g _ (List.getElem_mem hs)).1 (fun l hl => (net_line g l (List.mem_of_mem_drop hl)).1) fun F gF eF => ?_
  refine twice_none gF ?_
  rw [eF, List.take_add_one, List.getElem?_eq_getElem hs]
  exact List.mem_append_right _ (by simp)
theorem ne_line {D : Nt} (g : GoodN D) {l : Str} (h : l ∈ netLs D) : l ≠ Str.empty := fun z => by
  have t := twice_none g h
  have one : ∀ ws : List Str, ws ≠ [] → ∀ w, Txt.join " " (w :: ws) ≠ Str.empty := fun ws ne w e => by
    cases ws with
    | nil => exact ne rfl
    | cons a r =>
      have e2 : Txt.join " " (w :: a :: r) = w ++ " " ++ Txt.join " " (a :: r) := by rw [TL.join_eq, TL.join_eq]; rfl
      rw [e2] at e
      have := congrArg Str.length e
      rw [len_app, len_app] at this
      have l1 : (" " : Str).length = 1 := by decide +kernel
      have l0 : (Str.empty : Str).length = 0 := by decide +kernel
      omega
  rcases List.mem_append.mp h with y | y
  · obtain ⟨c, _, e⟩ := List.mem_map.mp y
    exact one [c.1, c.2] (by simp) "cell" (e.trans z)
  · obtain ⟨c, _, e⟩ := List.mem_map.mp y
    exact one [c.1, c.2.1, c.2.2] (by simp) "tie" (e.trans z)
theorem cut_read {D : Nt} (g : GoodN D) (ne : netLs D ≠ []) : readE (cutS (textL (netLs D)) none (some (-1))) = some ((netLs D).length - 1) := by
  obtain ⟨init, l, e⟩ : ∃ (r : List Str) (a : Str), netLs D = r ++ [a] := ⟨_, _, (List.dropLast_concat_getLast ne).symm⟩
  have nl := net_line g
  have nel := ne_line (l := l) g (by rw [e]; simp)
  have li : ((netLs D).take init.length) = init := by rw [e, List.take_left]
  obtain ⟨F, gF, eF, tk⟩ := net_at g (n := init.length) (by rw [e, List.length_append]; omega)
  rw [li] at tk
  rw [e, textL_snoc, cut_last _ _ (by decide +kernel)]
  obtain ⟨e1, e2⟩ := lines_rest (ls := init) (r := l) (fun m hm => (nl m (by rw [e]; simp [hm])).1) (nl l (by rw [e]; simp)).1
  unfold readE
  rw [e1, e2, tk, if_neg (Nat.lt_irrefl _), if_pos nel, List.length_append]
  rfl
/-! ### the class's own text -/
theorem text_is (D : Nt) : textN D.1 D.2 = textL (netLs D) := by
  unfold textN textL netLs
  rw [List.map_append, List.map_map, List.map_map]
  have e1 : (D.1.map cellLn) = D.1.map ((fun l : Str => l ++ ("\n" : Str)) ∘ cellL) := List.map_congr_left fun c _ => by
    show cellLn c = cellL c ++ "\n"
    unfold cellLn cellL cellW
    rw [TL.join_eq]
    refine TL.ext_tl ?_
    show TL.tl (Str.empty ++ "cell " ++ c.1 ++ " " ++ c.2 ++ "\n") = TL.tl ("cell" ++ " " ++ (c.1 ++ " " ++ c.2) ++ "\n")
    simp only [TL.tl_append, List.append_assoc]
    rw [show TL.tl Str.empty = [] by decide +kernel, show TL.tl ("cell " : Str) = TL.tl ("cell" : Str) ++ TL.tl (" " : Str) by decide +kernel]
    simp only [List.append_assoc, List.nil_append]
  have e2 : (D.2.map tieLn) = D.2.map ((fun l : Str => l ++ ("\n" : Str)) ∘ tieL) := List.map_congr_left fun t _ => by
    show tieLn t = tieL t ++ "\n"
    unfold tieLn tieL tieW
    rw [TL.join_eq]
    refine TL.ext_tl ?_
    show TL.tl (Str.empty ++ "tie " ++ t.1 ++ " " ++ t.2.1 ++ " " ++ t.2.2 ++ "\n") = TL.tl ("tie" ++ " " ++ (t.1 ++ " " ++ (t.2.1 ++ " " ++ t.2.2)) ++ "\n")
    simp only [TL.tl_append, List.append_assoc]
    rw [show TL.tl Str.empty = [] by decide +kernel, show TL.tl ("tie " : Str) = TL.tl ("tie" : Str) ++ TL.tl (" " : Str) by decide +kernel]
    simp only [List.append_assoc, List.nil_append]
  rw [e1, e2]
end Bh

set_option Elab.async false
set_option linter.all false
set_option maxRecDepth 100000
set_option maxHeartbeats 1000000
set_option autoImplicit false
namespace Bh
open PySem PySem.Spec PyProof.Rows L2
/-! ### the checks of shapes, told over any data -/
mutual
def okD : PyData → Bool
  | .str w => decide (w.length ≤ 100000)
  | .tuple ds => okDs ds
  | .list ds => okDs ds
  | _ => true
def okDs : List PyData → Bool
  | [] => true
  | d :: ds => okD d && okDs ds
end
theorem okDs_mem : ∀ {ds : List PyData} {d : PyData}, okDs ds = true → d ∈ ds → okD d = true
  | [], _, _, h => by cases h
  | e :: es, d, h, m => by
    have h : (okD e && okDs es) = true := h
    rw [Bool.and_eq_true] at h
    rcases List.mem_cons.mp m with z | z
    · rw [z]
      exact h.1
    · exact okDs_mem h.2 z
theorem okDs_map {α : Type} {f : α → PyData} : ∀ {l : List α}, (∀ x ∈ l, okD (f x) = true) → okDs (l.map f) = true
  | [], _ => rfl
  | x :: l, h => by
    show (okD (f x) && okDs (l.map f)) = true
    rw [h x (List.mem_cons_self ..), okDs_map fun y hy => h y (List.mem_cons_of_mem _ hy)]
    rfl
theorem okDs_of : ∀ {l : List PyData}, (∀ x ∈ l, okD x = true) → okDs l = true
  | [], _ => rfl
  | x :: l, h => by
    show (okD x && okDs l) = true
    rw [h x (List.mem_cons_self ..), okDs_of fun y hy => h y (List.mem_cons_of_mem _ hy)]
    rfl
theorem okD_str {w : Str} (h : w.length ≤ 100000) : okD (.str w) = true := decide_eq_true h
theorem okD_str_le {w : Str} (h : okD (.str w) = true) : w.length ≤ 100000 := of_decide_eq_true h
/-- one of these texts -/
def membD (zs : List Str) (d : PyData) : Bool := match d with
  | .str z => decide (z ∈ zs)
  | _ => false
theorem membD_str {zs : List Str} {d : PyData} (h : membD zs d = true) : ∃ z, d = .str z ∧ z ∈ zs := by
  cases d with
  | str z => exact ⟨z, rfl, of_decide_eq_true h⟩
  | _ => cases h
def nmD (zs : Str) (d : PyData) : Bool := match d with
  | .str w => wordB w zs
  | _ => false
theorem nmD_str {zs : Str} {d : PyData} (h : nmD zs d = true) : ∃ z, d = .str z ∧ wordB z zs = true := by
  cases d with
  | str z => exact ⟨z, rfl, h⟩
  | _ => cases h
def tupI (l m : Int) (d : PyData) : Bool := match d with
  | .tuple ds => decide (l ≤ (ds.length : Int)) && decide ((ds.length : Int) ≤ m)
  | _ => false
theorem tupI_of {l m : Int} {d : PyData} (h : tupI l m d = true) : ∃ ds, d = .tuple ds ∧ l ≤ (ds.length : Int) ∧ (ds.length : Int) ≤ m := by
  cases d with
  | tuple ds =>
    have h : (decide (l ≤ (ds.length : Int)) && decide ((ds.length : Int) ≤ m)) = true := h
    rw [Bool.and_eq_true, decide_eq_true_iff, decide_eq_true_iff] at h
    exact ⟨ds, rfl, h.1, h.2⟩
  | _ => cases h
theorem tup_two {d : PyData} (h : tupI 2 2 d = true) : ∃ x y, d = .tuple [x, y] := by
  obtain ⟨ds, rfl, h1, h2⟩ := tupI_of h
  match ds, h1, h2 with
  | [x, y], _, _ => exact ⟨x, y, rfl⟩
  | [], h1, _ => exact absurd h1 (by simp)
  | [_], h1, _ => exact absurd h1 (by simp)
  | _ :: _ :: _ :: r, _, h2 => simp at h2; omega
theorem tup_three {d : PyData} (h : tupI 3 3 d = true) : ∃ x y z, d = .tuple [x, y, z] := by
  obtain ⟨ds, rfl, h1, h2⟩ := tupI_of h
  match ds, h1, h2 with
  | [x, y, z], _, _ => exact ⟨x, y, z, rfl⟩
  | [], h1, _ => exact absurd h1 (by simp)
  | [_], h1, _ => exact absurd h1 (by simp)
  | [_, _], h1, _ => exact absurd h1 (by simp)
  | _ :: _ :: _ :: _ :: r, _, h2 => simp at h2; omega
theorem tup_four {d : PyData} (h : tupI 4 4 d = true) : ∃ x y z u, d = .tuple [x, y, z, u] := by
  obtain ⟨ds, rfl, h1, h2⟩ := tupI_of h
  match ds, h1, h2 with
  | [x, y, z, u], _, _ => exact ⟨x, y, z, u, rfl⟩
  | [], h1, _ => exact absurd h1 (by simp)
  | [_], h1, _ => exact absurd h1 (by simp)
  | [_, _], h1, _ => exact absurd h1 (by simp)
  | [_, _, _], h1, _ => exact absurd h1 (by simp)
  | _ :: _ :: _ :: _ :: _ :: r, _, h2 => simp at h2; omega
/-- the options of the field of this name, none where there is none -/
def optsD (fs : List Fld) (d : PyData) : List Str := match fs.find? (fun f => PyData.eqv (.str f.1) d) with
  | some f => f.2
  | none => []
def testD (fs : List Fld) (d : PyData) : Bool := match d with
  | .tuple [f, s, o] => membD signs s && membD (optsD fs f) o
  | _ => false
def stepD (fs : List Fld) (d : PyData) : Bool := match d with
  | .tuple [f, o] => membD ("+" :: optsD fs f) o && membD (fs.map (·.1)) f
  | _ => false
def stepsD (fs : List Fld) (d : PyData) : Bool := match d with
  | .none => true
  | .tuple zs => decide (zs.length ≤ 6) && zs.all (stepD fs)
  | _ => false
def testsD (fs : List Fld) (d : PyData) : Bool := match d with
  | .tuple zs => decide (zs.length ≤ 6) && zs.all (testD fs)
  | _ => false
def caseD (fs : List Fld) (d : PyData) : Bool := match d with
  | .tuple [t, s] => testsD fs t && stepsD fs s
  | _ => false
def progD (fs : List Fld) (d : PyData) : Bool := match d with
  | .tuple cs => tupI 1 8 (.tuple cs) && cs.all (caseD fs)
  | _ => false
def valI (fs : List Fld) (os : List PyData) (i : Nat) : Bool := match fs[i]?, os[i]? with
  | some f, some o => membD f.2 o
  | _, _ => true
def valD (fs : List Fld) (d : PyData) : Bool := match d with
  | .tuple os => decide (os.length = fs.length) && ((List.range fs.length).map (valI fs os)).all id
  | _ => false
def nonD (d : PyData) : Bool := match d with
  | .none => true
  | _ => false
def holdD (fs : List Fld) (d : PyData) : Bool := nonD d || valD fs d
def keyD (fs : List Fld) (d : PyData) : Bool := match d with
  | .tuple [f, s] => membD (fs.map (·.1)) f && membD ["+", "-"] s
  | _ => false
def keysD (fs : List Fld) (d : PyData) : Bool := match d with
  | .tuple ks => decide (ks.length ≤ fs.length) && ks.all (keyD fs) && decide ((ks.map hdN).Nodup)
  | _ => false
def strOf (d : PyData) : Str := match d with
  | .str z => z
  | _ => ""
def strsOf (d : PyData) : List Str := match d with
  | .tuple os => os.map strOf
  | _ => []
def nameFitD (ns : List Str) (m : Nat) (d : PyData) : Bool := decide (ns.length < m) && nmD letters d && !membD ns d
def optsAreD (d : PyData) : Bool := match d with
  | .tuple os => tupI 2 6 (.tuple os) && os.all (nmD lettersD) && decide ((os.map strOf).Nodup)
  | _ => false
def fieldD (fs : List Fld) (d : PyData) : Bool := match d with
  | .tuple [n, o] => nameFitD (fs.map (·.1)) 3 n && optsAreD o && decide ((vals (fs ++ [(strOf n, strsOf o)])).length ≤ 24)
  | _ => false
def tieD (fs : List Fld) (ns : List Str) (d : PyData) : Bool := match d with
  | .tuple [n, p] => nameFitD ns 4 n && progD fs p
  | _ => false
def kindD (fs : List Fld) (ns : List Str) (d : PyData) : Bool := match d with
  | .tuple [n, ks, tk, b] => nameFitD ns 3 n && keysD fs ks && (nonD tk || progD fs tk) && holdD fs b
  | _ => false
/-! ### x in a list or tuple of texts, x any data -/
def rInS (K : PySem.W.Frag) : R2 := fun x y H Q => ∃ (d : PyData) (p : Addr) (zs : List Str), Dp K H x d ∧ y = .ref p ∧ (SqL K H p (zs.map V.str) ∨ SqT K H p (zs.map V.str)) ∧ Q (.bl (membD zs d)) H
end Bh
namespace Bh
open PySem PySem.Spec PyProof.Rows L2
theorem nb1 {b : Bool} (h : (!b) = true) : b = false := by cases b <;> first | rfl | cases h
theorem nb0 {b : Bool} (h : (!b) = false) : b = true := by cases b <;> first | rfl | cases h
theorem two_no {d x y : PyData} (h : tupI 2 2 d = false) : d ≠ .tuple [x, y] := fun e => by subst e; exact Bool.noConfusion h
theorem three_no {d x y z : PyData} (h : tupI 3 3 d = false) : d ≠ .tuple [x, y, z] := fun e => by subst e; exact Bool.noConfusion h
theorem four_no {d x y z u : PyData} (h : tupI 4 4 d = false) : d ≠ .tuple [x, y, z, u] := fun e => by subst e; exact Bool.noConfusion h
section
variable {fs : List Fld} {ns : List Str} {d : PyData}
theorem testD_no (h : tupI 3 3 d = false) : testD fs d = false := by
  unfold testD
  split
  · exact absurd rfl (three_no h)
  · rfl
theorem stepD_no (h : tupI 2 2 d = false) : stepD fs d = false := by
  unfold stepD
  split
  · exact absurd rfl (two_no h)
  · rfl
theorem caseD_no (h : tupI 2 2 d = false) : caseD fs d = false := by
  unfold caseD
  split
  · exact absurd rfl (two_no h)
  · rfl
theorem keyD_no (h : tupI 2 2 d = false) : keyD fs d = false := by
  unfold keyD
  split
  · exact absurd rfl (two_no h)
  · rfl
theorem tieD_no (h : tupI 2 2 d = false) : tieD fs ns d = false := by
  unfold tieD
  split
  · exact absurd rfl (two_no h)
  · rfl
theorem fieldD_no (h : tupI 2 2 d = false) : fieldD fs d = false := by
  unfold fieldD
  split
  · exact absurd rfl (two_no h)
  · rfl
theorem kindD_no (h : tupI 4 4 d = false) : kindD fs ns d = false := by
  unfold kindD
  split
  · exact absurd rfl (four_no h)
  · rfl
theorem progD_no (h : tupI 1 8 d = false) : progD fs d = false := by
  unfold progD
  split
  · rw [h]
    rfl
  · rfl
theorem optsAreD_no (h : tupI 2 6 d = false) : optsAreD d = false := by
  unfold optsAreD
  split
  · rw [h]
    rfl
  · rfl
theorem testsD_no (h : tupI 0 6 d = false) : testsD fs d = false := by
  unfold testsD
  split
  · unfold tupI at h
    dsimp only at h
    rw [Bool.and_eq_false_iff, decide_eq_false_iff_not, decide_eq_false_iff_not] at h
    rw [decide_eq_false (by omega)]
    rfl
  · rfl
theorem stepsD_no (n : d ≠ .none) (h : tupI 0 6 d = false) : stepsD fs d = false := by
  unfold stepsD
  split
  · exact absurd rfl n
  · unfold tupI at h
    dsimp only at h
    rw [Bool.and_eq_false_iff, decide_eq_false_iff_not, decide_eq_false_iff_not] at h
    rw [decide_eq_false (by omega)]
    rfl
  · rfl
theorem valD_no (h : tupI fs.length fs.length d = false) : valD fs d = false := by
  unfold valD
  split
  · unfold tupI at h
    dsimp only at h
    rw [Bool.and_eq_false_iff, decide_eq_false_iff_not, decide_eq_false_iff_not] at h
    rw [decide_eq_false (by omega)]
    rfl
  · rfl
theorem keysD_no (h : tupI 0 fs.length d = false) : keysD fs d = false := by
  unfold keysD
  split
  · unfold tupI at h
    dsimp only at h
    rw [Bool.and_eq_false_iff, decide_eq_false_iff_not, decide_eq_false_iff_not] at h
    rw [decide_eq_false (by omega)]
    rfl
  · rfl
end
/-- the items' answers, by place -/
def getB (p : PyData → Bool) (ds : List PyData) (i : Nat) : Bool := match ds[i]? with
  | some d => p d
  | none => true
theorem getB_at {p : PyData → Bool} {ds : List PyData} {i : Nat} {d : PyData} (h : ds[i]? = some d) : getB p ds i = p d := by
  unfold getB
  rw [h]
theorem all_getB (p : PyData → Bool) (ds : List PyData) : ((List.range ds.length).map (getB p ds)).all id = ds.all p := by
  rw [Bool.eq_iff_iff, List.all_eq_true, List.all_eq_true]
  constructor
  · intro h d hd
    obtain ⟨i, hi⟩ := List.mem_iff_getElem?.mp hd
    have := h (getB p ds i) (List.mem_map.mpr ⟨i, List.mem_range.mpr (List.getElem?_eq_some_iff.mp hi).1, rfl⟩)
    rw [getB_at hi] at this
    exact this
  · intro h b hb
    obtain ⟨i, hi, rfl⟩ := List.mem_map.mp hb
    have li := List.mem_range.mp hi
    rw [getB_at (List.getElem?_eq_getElem li)]
    exact h _ (List.getElem_mem li)
theorem optsD_at {fs : List Fld} {d : PyData} {i : Nat} {f : Fld} (h : fs[i]? = some f) (e : PyData.eqv (.str f.1) d = true) (no : ∀ (j : Nat) (g : Fld), j < i → fs[j]? = some g → PyData.eqv (.str g.1) d = false) : optsD fs d = f.2 := by
  have : fs.find? (fun f => PyData.eqv (.str f.1) d) = some f := by
    rw [List.find?_eq_some_iff_getElem]
    obtain ⟨li, hf⟩ := List.getElem?_eq_some_iff.mp h
    refine ⟨e, i, li, hf, fun j hj => ?_⟩
    rw [no j _ hj (List.getElem?_eq_getElem (by omega))]
    rfl
  unfold optsD
  rw [this]
theorem optsD_none {fs : List Fld} {d : PyData} (no : ∀ (j : Nat) (g : Fld), fs[j]? = some g → PyData.eqv (.str g.1) d = false) : optsD fs d = [] := by
  have : fs.find? (fun f => PyData.eqv (.str f.1) d) = none := by
    rw [List.find?_eq_none]
    intro f hf
    obtain ⟨i, hi⟩ := List.mem_iff_getElem?.mp hf
    rw [no i f hi]
    decide
  unfold optsD
  rw [this]
/-- a comprehension of truth values -/
theorem lc_bools {J : It} {n : Nat} {G : Hp → Prop} {xs : List V} (b : Nat → Bool) (wk : Walk J n G (YAt xs)) {H : Hp} {D : Addr} {g : TG} {te : TE} {vs : List Nat} {σ : L2.St} {Qd : Hp → Prop} (nD : H D = none) (hn : n ≤ 100000) (hG : ∀ H', Same H H' → G H')
    (hs : ∀ (i : Nat) (x : V) (H' : Hp) (R : V → Hp → Prop) (R' : Hp → Prop), xs[i]? = some x → Same H H' → (∀ H4, Same H' H4 → R (.bl (b i)) H4) → g x (wipe σ vs) H' fun σ2 H2 => wipe σ2 vs = wipe σ vs ∧ tYes σ2 H2 fun b H3 => if b = true then te σ2 H3 R else R' H3)
    (hd : ∀ H', Same H H' → H' D = some (.lst (((List.range n).map b).map V.bl)) → Qd H') :
    ∃ W : Nat → Nat → Hp → Prop, (∃ m, W 0 m (upd H D (.lst []))) ∧ ∀ i m H, W i m H →
      (J.stop i H ∧ Qd H) ∨ (J.go i H ∧ ∃ Nx : Hp → Prop, (∀ H', Nx H' → ∃ m', m' < m ∧ W (i + 1) m' H') ∧ ∀ x H', J.yld i H x H' → g x (wipe σ vs) H' fun σ2 H2 => wipe σ2 vs = wipe σ vs ∧ tYes σ2 H2 fun b H3 =>
        if b = true then te σ2 H3 fun y H4 => ∃ acc, H4 D = some (.lst acc) ∧ acc.length < sizeLine ∧ Nx (upd H4 D (.lst (acc ++ [y]))) else Nx H3) := by
  refine lc_it wk (fun i H' => Same H H' ∧ H' D = some (.lst (((List.range i).map b).map V.bl))) ⟨same_new nD, upd_same⟩ (fun i H' _ p => hG H' p.1) ?_ ?_
  · rintro i x H' H'' hi ⟨s1, hDl⟩ ⟨rfl, ey⟩
    refine hs i x H'' _ _ ey s1 fun H4 s4 => ⟨_, s4 _ _ hDl, ?_, same_mut (s1.trans s4) nD, ?_⟩
    · rw [List.length_map, List.length_map, List.length_range]
      exact lt_line (by omega)
    · rw [upd_same, List.range_succ, List.map_append, List.map_append]
      rfl
  · rintro H' ⟨s1, hDl⟩
    exact hd H' s1 hDl
end Bh
namespace Bh
open PySem PySem.Spec PyProof.Rows L2
def inSU (d : PyData) : Value → Bool
  | .str z _ => PyData.eqv (.str z) d
  | _ => false
theorem eqv_memb (zs : List Str) (d : PyData) : (zs.any fun z => PyData.eqv (.str z) d) = membD zs d := by
  cases d with
  | str w =>
    rw [Bool.eq_iff_iff, List.any_eq_true]
    show _ ↔ decide (w ∈ zs) = true
    rw [decide_eq_true_iff]
    constructor
    · rintro ⟨y, hy, e⟩
      rw [eqv_strs, decide_eq_true_iff] at e
      rw [← e]
      exact hy
    · intro h
      exact ⟨w, h, by rw [eqv_strs]; exact decide_eq_true rfl⟩
  | _ =>
    show _ = false
    rw [List.any_eq_false]
    intro y _
    simp [PyData.eqv]
theorem any_inS {d : PyData} : ∀ {zs : List Str} {us : List Value}, Vals (zs.map V.str) us → us.any (inSU d) = zs.any fun z => PyData.eqv (.str z) d
  | [], _, .nil => rfl
  | z :: zs, _, .cons r t => by
    rw [List.any_cons, List.any_cons, any_inS t]
    obtain ⟨tk, rfl⟩ := r
    rfl
section
variable {X : Cx} {K : PySem.W.Frag}
theorem op_inS (hK : X.K = K) (hu : X.A.units + 64 < cLine) : OpR X (compareOp .In) (rInS K) := by
  subst hK
  intro pins s σ H x y v u Q I rx ry h
  obtain ⟨d, p, zs, hd, rfl, hq, q⟩ := h
  cases ry
  obtain ⟨as, r1⟩ := Dp.reads I d x v hd rx
  have key : ∀ {its : List Value}, Vals (zs.map V.str) its → ∀ w ∈ its.toArray, SeqAt.EqAt X.A.in1 s w v (inSU d w) := fun {its} r w hw => by
    obtain ⟨z, hz, rz⟩ := vals_mem r w (by simpa using hw)
    obtain ⟨z, _, rfl⟩ := List.mem_map.mp hz
    obtain ⟨bs, r2⟩ := Dp.reads I (.str z) (.str z) w (.str z) rz
    have e : inSU d w = PyData.eqv (.str z) d := by
      obtain ⟨tk, rfl⟩ := rz
      rfl
    rw [e]
    exact SeqAt.eqAt_plain _ _ _ _ _ _ _ _ r2 r1 rfl (Dp.plain hd) (by
      have : min (PyData.str z).depth d.depth = 0 := Nat.le_zero.mp (Nat.min_le_left _ _)
      rw [this]
      show X.A.units + 1 + 0 < cLine
      omega)
  rcases hq with hq | hq
  · obtain ⟨its, r, pl, hz⟩ := I.list hq
    refine SeqAt.in_listAt (inSU d) pl.isList (key r) ⟨.bl _, H, I, rfl, ?_⟩
    rw [show its.toArray.any (inSU d) = its.any (inSU d) by simp, any_inS r, eqv_memb]
    exact q
  · obtain ⟨its, r, pl, hz⟩ := I.tuple hq
    refine SeqAt.in_tupleAt (inSU d) pl (key r) ⟨.bl _, H, I, rfl, ?_⟩
    rw [show its.toArray.any (inSU d) = its.any (inSU d) by simp, any_inS r, eqv_memb]
    exact q
end
end Bh
namespace Bh
open PySem PySem.Spec PyProof.Rows L2
/-- a comprehension of truth values, told one by one -/
theorem lc_boolsP {J : It} {n : Nat} {G : Hp → Prop} {xs ys : Nat → Option V} (wk : Walk J n G (YPair xs ys)) {H : Hp} {D : Addr} {g : TG} {te : TE} {vs : List Nat} {σ : L2.St} {Qd : Hp → Prop} {b : Nat → Bool} (nD : H D = none) (hn : n ≤ 100000) (hG : ∀ H', Same H H' → G H')
    (hs : ∀ (i : Nat) (x y : V) (T : Addr) (H' : Hp) (R : V → Hp → Prop) (R' : Hp → Prop), xs i = some x → ys i = some y → Same H H' → H' T = none → (∀ H4, Same (upd H' T (.tup [x, y])) H4 → R (.bl (b i)) H4) →
      g (.ref T) (wipe σ vs) (upd H' T (.tup [x, y])) fun σ2 H2 => wipe σ2 vs = wipe σ vs ∧ tYes σ2 H2 fun b H3 => if b = true then te σ2 H3 R else R' H3)
    (hd : ∀ H', Same H H' → H' D = some (.lst (((List.range n).map b).map V.bl)) → Qd H') :
    ∃ W : Nat → Nat → Hp → Prop, (∃ m, W 0 m (upd H D (.lst []))) ∧ ∀ i m H, W i m H →
      (J.stop i H ∧ Qd H) ∨ (J.go i H ∧ ∃ Nx : Hp → Prop, (∀ H', Nx H' → ∃ m', m' < m ∧ W (i + 1) m' H') ∧ ∀ x H', J.yld i H x H' → g x (wipe σ vs) H' fun σ2 H2 => wipe σ2 vs = wipe σ vs ∧ tYes σ2 H2 fun b H3 =>
        if b = true then te σ2 H3 fun y H4 => ∃ acc, H4 D = some (.lst acc) ∧ acc.length < sizeLine ∧ Nx (upd H4 D (.lst (acc ++ [y]))) else Nx H3) := by
  refine lc_it wk (fun i H' => Same H H' ∧ H' D = some (.lst (((List.range i).map b).map V.bl))) ⟨same_new nD, upd_same⟩ (fun i H' _ p => hG H' p.1) ?_ ?_
  · rintro i z H' H'' hi ⟨s1, hDl⟩ ⟨T, x, y, rfl, nT, rfl, ex, ey⟩
    have sT : Same H' (upd H' T (.tup [x, y])) := same_new nT
    refine hs i x y T H' _ _ ex ey s1 nT fun H4 s4 => ⟨_, s4 _ _ (sT _ _ hDl), ?_, same_mut (s1.trans (sT.trans s4)) nD, ?_⟩
    · rw [List.length_map, List.length_map, List.length_range]
      exact lt_line (by omega)
    · rw [upd_same, List.range_succ, List.map_append, List.map_append]
      rfl
  · rintro H' ⟨s1, hDl⟩
    exact hd H' s1 hDl
end Bh

set_option Elab.async false
set_option linter.all false
set_option maxRecDepth 100000
set_option maxHeartbeats 1000000
set_option autoImplicit false
namespace Bh
open PySem PySem.Spec PyProof.Rows L2
theorem bt0 {b : Bool} (h : (b != true) = false) : b = true := by cases b; cases h; rfl
theorem bn0 {b : Bool} (h : (b != false) = false) : b = false := by cases b; rfl; cases h
/-- what is raised, of one of these classes -/
def ErF (H : Hp) (E : XK) (Cs : List Addr) : Prop := ∀ C ∈ Cs, ∀ (dd : Addr) (H2 : Hp), Same H H2 → E (.ref C) (some dd) H2
theorem ErF.mono {H H' : Hp} {E : XK} {Cs : List Addr} (s : Same H H') (h : ErF H E Cs) : ErF H' E Cs := fun C m dd H2 s2 => h C m dd H2 (s.trans s2)
def four {K : PySem.W.Frag} {mg : Str → Option Value} (T : Top K mg) : List Addr := [T.r_InvalidName.c, T.r_DuplicateCell.c, T.r_UnknownCell.c, T.r_DuplicateTie.c]
theorem four_any {K : PySem.W.Frag} {mg : Str → Option Value} (T : Top K mg) : ∀ C ∈ four T, PySem.W.exmAny K (.ref C) [.ref T.r_InvalidName.c, .ref T.r_DuplicateCell.c, .ref T.r_UnknownCell.c, .ref T.r_DuplicateTie.c] = some true := fun C h => by
  unfold four at h
  simp only [List.mem_cons, List.not_mem_nil, or_false] at h
  rcases h with rfl | rfl | rfl | rfl
  · exact T.f_InvalidName
  · exact T.f_DuplicateCell
  · exact T.f_UnknownCell
  · exact T.f_DuplicateTie
def ValC (cs : List Cl) (n k : Str) : Prop := wordB n letters = true ∧ n ∉ cs.map (·.1) ∧ kindB k = true
def ValT (cs : List Cl) (ts : List Ti) (t1 t2 t3 : Str) : Prop := wordB t1 letters = true ∧ t2 ∈ cs.map (·.1) ∧ t3 ∈ cs.map (·.1) ∧ (t1, t2, t3) ∉ ts
def spChkCellT (Cs : List Addr) : Sp := fun vs H Q E => ∃ (d : Addr) (cs : List Cl) (n k : Str), vs = [.ref d, .str n, .str k] ∧ H d = some (.dK (cs.map eC)) ∧ n.length ≤ 60000 ∧ k.length ≤ 60000 ∧ (¬ ValC cs n k → ErF H E Cs) ∧
  (ValC cs n k → ∀ H', Same H H' → Q .non H')
def spChkTieT (Cs : List Addr) : Sp := fun vs H Q E => ∃ (d e : Addr) (cs : List Cl) (ts : List Ti) (t1 t2 t3 : Str), vs = [.ref d, .ref e, .str t1, .str t2, .str t3] ∧ H d = some (.dK (cs.map eC)) ∧ H e = some (.dT (ts.map eT)) ∧ t1.length ≤ 60000 ∧ (¬ ValT cs ts t1 t2 t3 → ErF H E Cs) ∧
  (ValT cs ts t1 t2 t3 → ∀ H', Same H H' → Q .non H')
section
variable {P : Program} {w : World} {K : PySem.W.Frag} {mg : Str → Option Value} {base : Heap} {R : NtC K mg}
theorem ok_chkcellT (T : Top K mg) : FnOk P w K mg base (L2.CX P w) 5 T.a_check_cell T.fd_check_cell ["kinds", "name", "kind"] (spChkCellT (four T)) := by
  have G_is_name := ok_name (P := P) (w := w) (base := base) T
  have G_is_kind := ok_iskind (P := P) (w := w) (base := base) T
  have G_in_InvalidName := in_InvalidName (P := P) (w := w) (base := base) T 1
  have G_in_DuplicateCell := in_DuplicateCell (P := P) (w := w) (base := base) T 1
  refine T.d_check_cell.F.okX sc_check_cell (fun vs H Q E h => ?_) (fun cdv A outer s H vs Q E hr h => ?_)
  · obtain ⟨d, cs, n, k, rfl, _⟩ := h
    rfl
  obtain ⟨d, cs, n, k, rfl, hd, ln, lk, er, q⟩ := h
  have m1 : T.r_InvalidName.c ∈ four T := by simp [four]
  have m2 : T.r_DuplicateCell.c ∈ four T := by simp [four]
  refine ⟨_, (pss_cons (ps_if (pt_not (pt_val (pe_call G_is_name (hr.mono (by decide)) (by rfl) T.d_is_name.g T.d_is_name.kp T.d_is_name.b .nil pass0 (pa_cons (pv 1) pa_nil)))) (pss_one (ps_raise rfl (takes_of rfl rfl rfl rfl) (pmk_mkG T.r_InvalidName.e T.r_InvalidName.i T.r_InvalidName.t G_in_InvalidName (hr.mono (by decide)) T.r_InvalidName.b (by rfl) T.r_InvalidName.g (pa_cons (pv 1) pa_nil)))) pss_nil)
    (pss_cons (ps_if (pt_cmpR (op_inD (by exact (u1 hr))) (pv 1) (pv 0) (by rfl)) (pss_one (ps_raise rfl (takes_of rfl rfl rfl rfl) (pmk_mkG T.r_DuplicateCell.e T.r_DuplicateCell.i T.r_DuplicateCell.t G_in_DuplicateCell (hr.mono (by decide)) T.r_DuplicateCell.b (by rfl) T.r_DuplicateCell.g (pa_cons (pv 1) pa_nil)))) pss_nil)
    (pss_one (ps_if (pt_not (pt_val (pe_call G_is_kind (hr.mono (by decide)) (by rfl) T.d_is_kind.g T.d_is_kind.kp T.d_is_kind.b .nil pass0 (pa_cons (pv 2) pa_nil)))) (pss_one (ps_raise rfl (takes_of rfl rfl rfl rfl) (pmk_mkG T.r_InvalidName.e T.r_InvalidName.i T.r_InvalidName.t G_in_InvalidName (hr.mono (by decide)) T.r_InvalidName.b (by rfl) T.r_InvalidName.g (pa_cons (pv 2) pa_nil)))) pss_nil)))), ?_⟩
  refine ⟨_, rfl, n, rfl, by omega, fun H1 s1 => ⟨_, rfl, iteB (fun c1 => ?_) (fun c1 => ?_)⟩⟩
  · exact ⟨_, rfl, (by show 1 ≤ 1000; decide), fun a na => ie_raise (.str _) .str na fun dd r H2 nd s2 ed hr => er (fun z => by rw [z.1] at c1; cases c1) _ m1 dd H2 (s1.trans s2)⟩
  refine ⟨_, rfl, _, rfl, inCells (s1 _ _ hd) ⟨_, rfl, iteB (fun c2 => ?_) (fun c2 => ?_)⟩⟩
  · exact ⟨_, rfl, (by show 1 ≤ 1000; decide), fun a na => ie_raise (.str _) .str na fun dd r H2 nd s2 ed hr => er (fun z => by rw [decide_eq_false z.2.1] at c2; cases c2) _ m2 dd H2 (s1.trans s2)⟩
  refine ⟨_, rfl, k, rfl, by omega, fun H2 s2 => ⟨_, rfl, iteB (fun c3 => ?_) (fun c3 => ?_)⟩⟩
  · exact ⟨_, rfl, (by show 1 ≤ 1000; decide), fun a na => ie_raise (.str _) .str na fun dd r H3 nd s3 ed hr => er (fun z => by rw [z.2.2] at c3; cases c3) _ m1 dd H3 ((s1.trans s2).trans s3)⟩
  · exact q ⟨nb0 c1, of_decide_eq_false (bn0 c2), nb0 c3⟩ _ (s1.trans s2)
theorem ok_chktieT (T : Top K mg) : FnOk P w K mg base (L2.CX P w) 6 T.a_check_tie T.fd_check_tie ["kinds", "ties", "tie", "source", "target"] (spChkTieT (four T)) := by
  have G_is_name := ok_name (P := P) (w := w) (base := base) T
  have G_in_InvalidName := in_InvalidName (P := P) (w := w) (base := base) T 1
  have G_in_UnknownCell := in_UnknownCell (P := P) (w := w) (base := base) T 1
  have G_in_DuplicateTie := in_DuplicateTie (P := P) (w := w) (base := base) T 2
  refine T.d_check_tie.F.okX sc_check_tie (fun vs H Q E h => ?_) (fun cdv A outer s H vs Q E hr h => ?_)
  · obtain ⟨d, e, cs, ts, t1, t2, t3, rfl, _⟩ := h
    rfl
  obtain ⟨d, e, cs, ts, t1, t2, t3, rfl, hd, he, l1, er, q⟩ := h
  have m1 : T.r_InvalidName.c ∈ four T := by simp [four]
  have m2 : T.r_UnknownCell.c ∈ four T := by simp [four]
  have m3 : T.r_DuplicateTie.c ∈ four T := by simp [four]
  refine ⟨_, (pss_cons (ps_if (pt_not (pt_val (pe_call G_is_name (hr.mono (by decide)) (by rfl) T.d_is_name.g T.d_is_name.kp T.d_is_name.b .nil pass0 (pa_cons (pv 2) pa_nil)))) (pss_one (ps_raise rfl (takes_of rfl rfl rfl rfl) (pmk_mkG T.r_InvalidName.e T.r_InvalidName.i T.r_InvalidName.t G_in_InvalidName (hr.mono (by decide)) T.r_InvalidName.b (by rfl) T.r_InvalidName.g (pa_cons (pv 2) pa_nil)))) pss_nil)
    (pss_cons (ps_for (passes_of rfl) rfl (pi_tup_K (K := K) (by rfl) (pe_tup (pa_cons (pv 3) (pa_cons (pv 4) pa_nil)))) (pg_name (i := 5) sc_check_tie.nd rfl (Or.inl rfl))
      (pss_one (ps_if (PW.pt (pw_or (pt_not (pt_val (pe_callB (call_isi_K (K := K) (by rfl)) (by rfl) T.b_isinstance (by decide +kernel) (pa_cons (pv 5) (pa_cons (pe_tyN "str" (by rfl) T.b_str (by decide +kernel)) pa_nil))))) (pw_or1 (pt_cmpR (op_notInD (by exact (u1 hr))) (pv 5) (pv 0) (by rfl))))) (pss_one (ps_raise rfl (takes_of rfl rfl rfl rfl) (pmk_mkG T.r_UnknownCell.e T.r_UnknownCell.i T.r_UnknownCell.t G_in_UnknownCell (hr.mono (by decide)) T.r_UnknownCell.b (by rfl) T.r_UnknownCell.g (pa_cons (pv 5) pa_nil)))) pss_nil)))
    (pss_one (ps_if (pt_cmpR (op_inD (by exact (u1 hr))) (pe_tup (pa_cons (pv 2) (pa_cons (pv 3) (pa_cons (pv 4) pa_nil)))) (pv 1) (by rfl)) (pss_one (ps_raise rfl (takes_of rfl rfl rfl rfl) (pmk_mkG T.r_DuplicateTie.e T.r_DuplicateTie.i T.r_DuplicateTie.t G_in_DuplicateTie (hr.mono (by decide)) T.r_DuplicateTie.b (by rfl) T.r_DuplicateTie.g (pa_cons (pe_tup (pa_cons (pv 2) (pa_cons (pv 3) (pa_cons (pv 4) pa_nil)))) pa_nil)))) pss_nil)))), ?_⟩
  refine ⟨_, rfl, t1, rfl, by omega, fun H1 s1 => ⟨_, rfl, iteB (fun c1 => ?_) (fun c1 => ?_)⟩⟩
  · exact ⟨_, rfl, (by show 1 ≤ 1000; decide), fun a na => ie_raise (.str _) .str na fun dd r H2 nd s2 ed hr => er (fun z => by rw [z.1] at c1; cases c1) _ m1 dd H2 (s1.trans s2)⟩
  refine ⟨_, rfl, _, rfl, (by show 2 ≤ sizeLine; decide), fun p np => ?_⟩
  have s2 := s1.trans (same_new (o := .tup [.str t2, .str t3]) np)
  refine ⟨p, rfl, ⟨[.str t2, .str t3], .inl (.inl upd_same)⟩, ?_⟩
  refine for_it walk_tup (fun i σ H' => ∃ v, σ = [some (.ref d), some (.ref e), some (.str t1), some (.str t2), some (.str t3), v] ∧ H' = upd H1 p (.tup [.str t2, .str t3]) ∧ ∀ z ∈ ([t2, t3] : List Str).take i, z ∈ cs.map (·.1)) ⟨none, rfl, rfl, (fun z hz => by cases hz)⟩ (fun i σ H' _ ⟨_, _, e, _⟩ => by rw [e]; exact .inl (.inl upd_same)) ?_ ?_
  · rintro i x σ H' H'' hi ⟨v, rfl, rfl, hz⟩ ⟨rfl, ex⟩
    obtain ⟨z, rfl, ez⟩ : ∃ z, x = V.str z ∧ ([t2, t3] : List Str)[i]? = some z := by
      match i, ex with
      | 0, ex => exact ⟨t2, (Option.some.inj ex).symm, rfl⟩
      | 1, ex => exact ⟨t3, (Option.some.inj ex).symm, rfl⟩
    refine ⟨_, rfl, _, _, _, _, true, rfl, .ty _, .base (.str z), kit_ty (by decide +kernel), _, rfl, ?_⟩
    refine ⟨_, rfl, _, rfl, inCells (s2 _ _ hd) ⟨_, rfl, iteB (fun c2 => ?_) (fun c2 => ?_)⟩⟩
    · exact ⟨_, rfl, (by show 1 ≤ 1000; decide), fun a na => ie_raise (.str _) .str na fun dd r H2 nd s3 ed hr => er (fun y => by
        have : z ∈ cs.map (·.1) := by
          match i, ez with
          | 0, ez => cases ez; exact y.2.1
          | 1, ez => cases ez; exact y.2.2.1
        rw [decide_eq_true this] at c2
        cases c2) _ m2 dd H2 (s2.trans s3)⟩
    · refine ⟨_, rfl, rfl, fun y hy => ?_⟩
      rw [List.take_add_one, ez] at hy
      rcases List.mem_append.mp hy with k | k
      · exact hz y k
      · cases List.mem_singleton.mp k
        exact of_decide_eq_true (bt0 c2)
  · rintro σ H' ⟨v, rfl, rfl, hz⟩
    refine ⟨_, rfl, _, rfl, _, rfl, (by show 3 ≤ sizeLine; decide), fun p3 np3 => ⟨_, rfl, inTies (t := (t1, t2, t3)) ((s2.trans (same_new np3)) _ _ he) upd_same ⟨_, rfl, iteB (fun c3 => ?_) (fun c3 => ?_)⟩⟩⟩
    · have s3 := s2.trans (same_new (o := .tup [.str t1, .str t2, .str t3]) np3)
      refine ⟨_, rfl, _, rfl, _, rfl, (by show 3 ≤ sizeLine; decide), fun p4 np4 => ⟨(by show 1 ≤ 1000; decide), fun a na => ?_⟩⟩
      have s4 := s3.trans (same_new (o := .tup [.str t1, .str t2, .str t3]) np4)
      exact ie_raise (d := .tuple [.str t1, .str t2, .str t3]) (.tup (SqT.of upd_same) (.cons (.str _) (.cons (.str _) (.cons (.str _) .nil)))) (.tup (by show 3 ≤ 100000; decide) (fun d hd => by
        simp only [List.mem_cons, List.not_mem_nil, or_false] at hd
        rcases hd with rfl | rfl | rfl <;> exact .str)) na fun dd r H2 nd s5 ed hr => er (fun z => by rw [decide_eq_false z.2.2.2] at c3; cases c3) _ m3 dd H2 (s4.trans s5)
    · exact q ⟨nb0 c1, hz t2 (by simp), hz t3 (by simp), of_decide_eq_false (bn0 c3)⟩ _ (s2.trans (same_new np3))
end
end Bh

set_option Elab.async false
set_option linter.all false
set_option maxRecDepth 100000
set_option maxHeartbeats 1000000
set_option autoImplicit false
namespace Bh
open PySem PySem.Spec PyProof.Rows L2
def spAddCellT (C : Addr) (Cs : List Addr) : Sp := fun vs H Q E => ∃ (x dc dt : Addr) (cs : List Cl) (ts : List Ti) (n k : Str), vs = [.ref x, .str n, .str k] ∧ NetA H C x dc dt cs ts ∧ n.length ≤ 60000 ∧ k.length ≤ 60000 ∧ cs.length < 1000 ∧ (¬ ValC cs n k → ErF H E Cs) ∧
  (ValC cs n k → ∀ H', Same (h3 x dc dt H) H' → NetA H' C x dc dt (cs ++ [(n, k)]) ts → Q .non H')
def spAddTieT (C : Addr) (Cs : List Addr) : Sp := fun vs H Q E => ∃ (x dc dt : Addr) (cs : List Cl) (ts : List Ti) (t1 t2 t3 : Str), vs = [.ref x, .str t1, .str t2, .str t3] ∧ NetA H C x dc dt cs ts ∧ t1.length ≤ 60000 ∧ ts.length < 1000 ∧ (¬ ValT cs ts t1 t2 t3 → ErF H E Cs) ∧
  (ValT cs ts t1 t2 t3 → ∀ H', Same (h3 x dc dt H) H' → NetA H' C x dc dt cs (ts ++ [(t1, t2, t3)]) → Q .non H')
section
variable {P : Program} {w : World} {K : PySem.W.Frag} {mg : Str → Option Value} {base : Heap} {R : NtC K mg}
theorem ok_maddcellT (T : Top K mg) (M : NtM K mg R) : FnOk P w K mg base (L2.CX P w) 7 M.add_cell.f M.add_cell.fd ["self", "name", "kind"] (spAddCellT R.C (four T)) := by
  have G_check_cell := ok_chkcellT (P := P) (w := w) (base := base) T
  refine M.add_cell.F.okX sc_Network_add_cell (fun vs H Q E h => ?_) (fun cdv A outer s H vs Q E hr h => ?_)
  · obtain ⟨x, dc, dt, cs, ts, n, k, rfl, _⟩ := h
    rfl
  obtain ⟨x, dc, dt, cs, ts, n, k, rfl, na, ln, lk, few, er, q⟩ := h
  obtain ⟨dx, h0, h1, h2⟩ := id na
  refine ⟨_, (pss_cons (ps_expr (pe_call G_check_cell (hr.mono (by decide)) (by rfl) T.d_check_cell.g T.d_check_cell.kp T.d_check_cell.b .nil (passes_call (takes_of rfl rfl rfl rfl) (fun _ _ _ _ z => z)) (pa_cons (pe_fld (pv 0) (by rfl)) (pa_cons (pv 1) (pa_cons (pv 2) pa_nil)))))
    (pss_one (ps_dput (u1 hr) (pe_fld (pv 0) (by rfl)) (pv 1) (pv 2) rfl))), ?_⟩
  refine ⟨_, rfl, x, R.C, dx, _, .ref dc, rfl, h0, R.cl, R.n1, rfl, _, rfl, _, rfl, dc, cs, n, k, rfl, h1, ln, lk, er, fun vc H1 s1 => ?_⟩
  refine ⟨_, rfl, _, rfl, x, R.C, dx, _, .ref dc, rfl, s1 _ _ h0, R.cl, R.n1, rfl, _, rfl, dc, _, rfl, DPut.k (k := .inr n) (s1 _ _ h1) (by rw [List.length_map]; exact lt_line (by omega)), ?_⟩
  rw [put_cell vc.2.1]
  exact q vc _ (h3_upd (fun a o e => s1 _ _ (h3_le _ _ e)) (.inr (.inl rfl))) (na.mono s1).putC
theorem ok_maddtieT (T : Top K mg) (M : NtM K mg R) : FnOk P w K mg base (L2.CX P w) 7 M.add_tie.f M.add_tie.fd ["self", "tie", "source", "target"] (spAddTieT R.C (four T)) := by
  have G_check_tie := ok_chktieT (P := P) (w := w) (base := base) T
  refine M.add_tie.F.okX sc_Network_add_tie (fun vs H Q E h => ?_) (fun cdv A outer s H vs Q E hr h => ?_)
  · obtain ⟨x, dc, dt, cs, ts, t1, t2, t3, rfl, _⟩ := h
    rfl
  obtain ⟨x, dc, dt, cs, ts, t1, t2, t3, rfl, na, l1, few, er, q⟩ := h
  obtain ⟨dx, h0, h1, h2⟩ := id na
  refine ⟨_, (pss_cons (ps_expr (pe_call G_check_tie (hr.mono (by decide)) (by rfl) T.d_check_tie.g T.d_check_tie.kp T.d_check_tie.b .nil (passes_call (takes_of rfl rfl rfl rfl) (fun _ _ _ _ z => z)) (pa_cons (pe_fld (pv 0) (by rfl)) (pa_cons (pe_fld (pv 0) (by rfl)) (pa_cons (pv 1) (pa_cons (pv 2) (pa_cons (pv 3) pa_nil)))))))
    (pss_one (ps_dput (u1 hr) (pe_fld (pv 0) (by rfl)) (pe_tup (pa_cons (pv 1) (pa_cons (pv 2) (pa_cons (pv 3) pa_nil)))) pe_bl rfl))), ?_⟩
  refine ⟨_, rfl, x, R.C, dx, _, .ref dc, rfl, h0, R.cl, R.n1, rfl, _, rfl, x, R.C, dx, _, .ref dt, rfl, h0, R.cl, R.n2, rfl, _, rfl, _, rfl, _, rfl, dc, dt, cs, ts, t1, t2, t3, rfl, h1, h2, l1, er, fun vc H1 s1 => ?_⟩
  refine ⟨_, rfl, x, R.C, dx, _, .ref dt, rfl, s1 _ _ h0, R.cl, R.n2, rfl, _, rfl, _, rfl, _, rfl, (by show 3 ≤ sizeLine; decide), fun p np => ?_⟩
  have s2 := s1.trans (same_new (o := .tup [.str t1, .str t2, .str t3]) np)
  refine ⟨dt, _, rfl, DPut.t (k := kT (t1, t2, t3)) (s2 _ _ h2) upd_same (by rw [List.length_map]; exact lt_line (by omega)), ?_⟩
  rw [put_tie vc.2.2.2]
  exact q vc _ (h3_upd (fun a o e => s2 _ _ (h3_le _ _ e)) (.inr (.inr (.inl rfl)))) (na.mono s2).putT
end
end Bh

set_option Elab.async false
set_option linter.all false
set_option maxRecDepth 100000
set_option maxHeartbeats 2000000
namespace Bh
open PySem PySem.Spec PyProof.Rows L2
/-! ### try .. except A as n: all that the body raises is of A -/
def wOneC (K : PySem.W.Frag) (C1 : Value) (i n : Nat) (ts : TS) (D : Ends) : WX := fun cls d σ H => PySem.W.exmOne K cls C1 = some true ∧ ∀ a, H a = none → σ.length = n →
  ts { nx := fun σ' H' => D.nx (σ'.set i none) H', rt := D.rt, bk := fun σ' H' => D.bk (σ'.set i none) H', ct := fun σ' H' => D.ct (σ'.set i none) H' } (σ.set i (some (.ref a))) (upd H a (exz a cls d))
section
variable {X : Cx} {x1 n : Str} {C1 : Addr} {i : Nat} {body suite : List Stmt} {b₀ : Stmt} {p1 pos pos' : Pos} {tb : WX → TS} {ts : TS}
theorem ps_try_oneC (hs : X.stack = X.env :: X.outer) (hf : X.env.frame = some X.env.locals) (hN : X.N.Nodup) (hi : X.N[i]? = some n) (hln : X.env.kindOf n = some .local)
    (g1 : Gl X x1) (m1 : X.mg x1 = some (.ref C1)) (d1 : (x1 == ("__debug__" : Str)) = false)
    (hb : ∀ (W : WX) (pn : List (Addr × Obj)) (xe : Value → Shared → Prop), Takes (X.tr pn xe) W → PassesOwn (model X.prog X.w) X.A X.env xe → PSs (X.tr pn xe) body (tb W))
    (hsu : ∀ (a : Addr) (pn : List (Addr × Obj)), PSs (X.suite a pn) (b₀ :: suite) ts) :
    PS X (.Try body [.ExceptHandler (some (.Name x1 p1)) (some n) (b₀ :: suite) pos'] [] [] pos) (fun D σ H => tb (wOneC X.K (.ref C1) i X.N.length ts D) D σ H) := by
  refine ⟨fun pins s σ H D I h => wpAny_Try_except ?_⟩
  have ok := I.ok
  have tops : X.A.frames = some (X.env :: X.outer) := ok.frames.trans (congrArg some hs)
  refine wpAny_mono ((hb (wOneC X.K (.ref C1) i X.N.length ts D) (X.pn ++ pins) _ (fun u s1 air => ?caught) PassesOwn.looking).run [] s σ H D (I.toTry _) h) (fun f s1 e => ?ends) (fun _ _ e => e)
  case ends =>
    match f, e with
    | .next, ⟨σ1, H1, J, q⟩ => exact wpAny_execs_nil ⟨σ1, H1, J.ofTry ok, q⟩
    | .brk, ⟨σ1, H1, J, q⟩ => exact ⟨σ1, H1, J.ofTry ok, q⟩
    | .cont, ⟨σ1, H1, J, q⟩ => exact ⟨σ1, H1, J.ofTry ok, q⟩
    | .ret u, ⟨v, σ1, H1, J, r, q⟩ => exact ⟨v, σ1, H1, J.ofTry ok, r, q⟩
  case caught =>
    obtain ⟨a, B, s0, pins0, σ0, H0, cls, d, rfl, J0, nb, up, sky, na, os, ag, hm, go⟩ := air
    have J : Inv X pins σ0 H0 s0 := J0.ofTry ok
    rw [show (X.tr (X.pn ++ pins) _).stack = X.env :: X.outer from hs] at sky
    refine Sky.land Zc.steady tops hf sky fun h3 fl3 up3 => ?_
    obtain ⟨o3, v3, e3, z3, f3⟩ := fl3.there
    have noframe : a ∉ frs X.stack := by
      rw [hs]
      intro hm'
      obtain ⟨_, o', e', hd⟩ := fl3.2.2.1.mem hm'
      rw [e3] at e'
      cases e'
      exact hd _ f3
    have a0 : s0.heap.get? a = none := by
      cases q : s0.heap.get? a with
      | none => rfl
      | some o =>
        have z := nb a o q noframe
        rw [fl3.2.1] at z
        cases z
    have J3 := Inv.seen (s1 := { s1 with heap := h3 }) J nb fl3.1 (up.trans up3) os ag a0 na e3 z3 f3
    have S3 := Inv.inSuite J3 a
    have own : PySem.W.Looks (model X.prog X.w) h3 (typeOf (.ref a)) cls := fun A Q E s k q => wpAny_typeOf_ref (k _ _ e3) (by rw [z3.1]; exact q)
    have hit := PySem.W.exm_one (M := model X.prog X.w) J3.kIn own hm
    refine wpAny_handleBy_cons (codeAny_handlers_test (ld_glob S3 g1 m1 (hit.here ?_) d1)) (fun q => by cases q)
    refine codeAny_handlers_suite_as ?_
    refine HandSPX.lands_againZ fl3 fun h5 fl5 up5 => ?_
    obtain ⟨o5, v5, e5, z5, f5⟩ := fl5.there
    have J5 := Inv.seen (s1 := { s1 with heap := h5 }) J nb fl5.1 ((up.trans up3).trans up5) os ag a0 na e5 z5 f5
    refine store_ok (X := X.suite a (X.pn ++ pins)) (v := .ref a) (Inv.inSuite J5 a) hN hi (.inl hln) rfl (fun s6 S6 => ?_) (.inr hln)
    refine wpAny_mono ((hsu a (X.pn ++ pins)).run [] s6 _ _ _ S6 (go a na J.len)) (fun f s7 e => ?_) (fun _ _ y => False.elim y)
    have leave : ∀ {σ7 : L2.St} {H7 : Hp} {R : Shared → Prop}, Inv (X.suite a (X.pn ++ pins)) [] σ7 H7 s7 → (∀ s8, Inv X pins (σ7.set i none) H7 s8 → R s8) →
        wpAny (model X.prog X.w) X.A (do bindName X.env n .none; unbindBehindTheSuite X.env n pos') (fun _ s8 => R s8) X.xe s7 := fun S7 r => gone_ok (Inv.offSuite S7 ok) hN hi hln r
    match f, e with
    | .next, ⟨σ7, H7, S7, q⟩ => exact leave S7 fun s8 J8 => ⟨_, _, J8, q⟩
    | .brk, ⟨σ7, H7, S7, q⟩ => exact leave S7 fun s8 J8 => ⟨_, _, J8, q⟩
    | .cont, ⟨σ7, H7, S7, q⟩ => exact leave S7 fun s8 J8 => ⟨_, _, J8, q⟩
    | .ret u, ⟨v, σ7, H7, S7, r, q⟩ => exact leave S7 fun s8 J8 => ⟨_, _, _, J8, r, q⟩
end
/-! ### name |= e in a try: what it raises is known with the names as they stand -/
section
variable {X : Cx} {C f : Addr} {fd : FuncData} {k : Nat} {sp : Sp} {ps : List Str}
theorem own_call_at {EX : XK} (F : FnOk X.prog X.w X.K X.mg X.base (L2.CX X.prog X.w) k f fd ps sp) (hb : Binds X.K fd ps []) {A : Around} (hr : Room k A) (fr : A.frames = X.A.frames) {pins : List (Addr × Obj)} {s : Shared} {σ : L2.St} {H : Hp} {vs : List V} {us : List Value} {Q : VK}
    (I : Inv X pins σ H s) (out : ∀ e s2, L2.CX X.prog X.w X.stack H s EX e s2 → X.xe e s2) (r : Vals vs us) (h : sp vs H Q EX) : wpAny (model X.prog X.w) A (call (.ref f) us) (EP X pins σ Q) X.xe s := by
  have en := I.env0
  have around : Env0 X.prog X.w X.K X.mg X.base A X.stack s H := ⟨by rw [fr]; exact en.frames, en.mod, en.bs, en.bsz, en.funs, en.frf, en.hok, en.bare⟩
  have many := F.len _ _ _ _ h
  have bound := hb s us I.kIn (by rw [List.append_nil, ← r.length]; exact many)
  rw [List.append_nil] at bound
  refine wpAny_call (codeAny_mono (F.run A X.stack s H ⟨us, []⟩ us vs Q EX hr around bound r h) fun res s2 z => ?_)
  match res, z with
  | .error e, z => exact out e s2 z
  | .ok (.ret w), z => exact I.after z
def tOrTry (i : Nat) (C : Addr) (sp : Sp) (W : WX) (te : TE) : TS := fun D σ H => ∃ v, σ[i]? = some (some v) ∧ te σ H fun y H1 => rOrIns C sp (fun cls d H' => W cls d σ H') v y H1 fun z H2 => D.nx (σ.set i (some z)) H2
theorem ps_orTry {W : WX} {i : Nat} {x : Str} {e : Expr} {te : TE} {pos pos' : Pos} (hN : X.N.Nodup) (hi : X.N[i]? = some x) (hx : X.env.scope.names.lookup x = some .local) (he : PE X e te) (tk : Takes X W)
    (F : FnOk X.prog X.w X.K X.mg X.base (L2.CX X.prog X.w) k f fd ps sp) (hs : PySem.W.findIn X.K (.ref C) (PySem.dunderI "or") = some (some (.ref f))) (hf : PySem.W.isFn X.K (.ref f) = true) (sf : PySem.W.selfFirst X.K C = true) (hb : Binds X.K fd ps []) (hr : Room k X.A) :
    PS X (.AugAssign (.Name x pos') .BitOr e pos) (tOrTry i C sp W te) := by
  refine ⟨fun pins s σ H D I h => ?_⟩
  obtain ⟨v, ev, h⟩ := h
  obtain ⟨m, hn, hl⟩ := I.loc
  obtain ⟨u, ru, l⟩ := hl i x v hi ev (.inl hx)
  refine wpAny_AugAssign_Name ?_
  have main : wpAny (model X.prog X.w) X.A (eval e X.env) (fun b s2 => wpAny (model X.prog X.w) X.A (inplaceOp .BitOr u b) (fun r s3 => wpAny (model X.prog X.w) X.A (storeName X.env x r) (fun _ => SP X pins D .next) X.xe s3) X.xe s2) X.xe s := by
    refine thn (he.run pins s σ H _ I h) fun b s1 ⟨y, H1, I1, r1, q1⟩ => ?_
    obtain ⟨a, dx, fs, c, dy, gs, ea, ha, ec, hc, hsp⟩ := q1
    subst ea ec
    cases ru
    cases r1
    obtain ⟨mA, J, _⟩ := ins_get I1.hok ha
    obtain ⟨od, J, _⟩ := J.look
    obtain ⟨m1, hF⟩ := I1.fr
    have body := own_call_at F hb hr rfl I1 (fun e' s2 z => tk e' s2 (XE.of_call I1 (fun _ _ _ k => k) z)) (vs := [.ref a, .ref c]) (us := [.ref a, .ref c]) (.cons rfl (.cons rfl .nil)) hsp
    refine PySem.W.ksp_inplace (op := .BitOr) hF I1.ok.mod.kin J sf hs hf (wpAny_mono body (fun w' s2 z => ?_) fun _ _ z => z)
    obtain ⟨vr, H2, I2, rv, ⟨r, er⟩, q2⟩ := z
    subst er
    cases rv
    exact store_ok (v := V.ref r) I2 hN hi (.inl hx) rfl (fun s3 I3 => ⟨_, H2, I3, q2⟩) (.inr hx)
  rcases l with ⟨hk, hm⟩ | ⟨hk, _⟩
  · exact wpAny_loadName_local I.ok.kind hk hn hm main
  · exfalso
    rcases hk with hk | hk
    · have z : X.env.scope.names.lookup x = some .cell := hk
      rw [hx] at z; cases z
    · have z : X.env.scope.names.lookup x = some .free := hk
      rw [hx] at z; cases z
end
end Bh

set_option Elab.async false
set_option linter.all false
set_option maxRecDepth 100000
set_option maxHeartbeats 1000000
namespace Bh
open PySem PySem.Spec PyProof.Rows L2
/-- what a clause of four classes, without a name, wishes of an exception of the body -/
def wFour (K : PySem.W.Frag) (C1 C2 C3 C4 : Value) (n : Nat) (ts : TS) (D : Ends) : WX := fun cls d σ H => PySem.W.exmAny K cls [C1, C2, C3, C4] = some true ∧ ∀ a, H a = none → σ.length = n → ts D σ (upd H a (exz a cls d))
section
variable {X : Cx} {x1 x2 x3 x4 : Str} {C1 C2 C3 C4 : Addr} {body suite : List Stmt} {b₀ : Stmt} {p1 p2 p3 p4 tpos pos pos' : Pos} {tb : WX → TS} {ts : TS} {kk : Nat}
theorem ps_try_four (hs : X.stack = X.env :: X.outer) (hf : X.env.frame = some X.env.locals)
    (g1 : Gl X x1) (m1 : X.mg x1 = some (.ref C1)) (g2 : Gl X x2) (m2 : X.mg x2 = some (.ref C2)) (g3 : Gl X x3) (m3 : X.mg x3 = some (.ref C3)) (g4 : Gl X x4) (m4 : X.mg x4 = some (.ref C4))
    (d1 : (x1 == ("__debug__" : Str)) = false) (d2 : (x2 == ("__debug__" : Str)) = false) (d3 : (x3 == ("__debug__" : Str)) = false) (d4 : (x4 == ("__debug__" : Str)) = false)
    (hb : ∀ (W : WX) (pn : List (Addr × Obj)) (xe : Value → Shared → Prop), Takes (X.tr pn xe) W → PassesOwn (model X.prog X.w) X.A X.env xe → PSs (X.tr pn xe) body (tb W))
    (hsu : ∀ (a : Addr) (pn : List (Addr × Obj)), PSs (X.suite a pn) (b₀ :: suite) ts)
    (two : starEach [.Name x1 p1, .Name x2 p2, .Name x3 p3, .Name x4 p4] X.env = [(false, eval (.Name x1 p1) X.env), (false, eval (.Name x2 p2) X.env), (false, eval (.Name x3 p3) X.env), (false, eval (.Name x4 p4) X.env)] := by rfl) :
    PS X (.Try body [.ExceptHandler (some (.Tuple [.Name x1 p1, .Name x2 p2, .Name x3 p3, .Name x4 p4] kk tpos)) none (b₀ :: suite) pos'] [] [] pos) (fun D σ H => tb (wFour X.K (.ref C1) (.ref C2) (.ref C3) (.ref C4) X.N.length ts D) D σ H) := by
  refine ⟨fun pins s σ H D I h => wpAny_Try_except ?_⟩
  have ok := I.ok
  have tops : X.A.frames = some (X.env :: X.outer) := ok.frames.trans (congrArg some hs)
  refine wpAny_mono ((hb (wFour X.K (.ref C1) (.ref C2) (.ref C3) (.ref C4) X.N.length ts D) (X.pn ++ pins) _ (fun u s1 air => ?caught) PassesOwn.looking).run [] s σ H D (I.toTry _) h) (fun f s1 e => ?ends) (fun _ _ e => e)
  case ends =>
    match f, e with
    | .next, ⟨σ1, H1, J, q⟩ => exact wpAny_execs_nil ⟨σ1, H1, J.ofTry ok, q⟩
    | .brk, ⟨σ1, H1, J, q⟩ => exact ⟨σ1, H1, J.ofTry ok, q⟩
    | .cont, ⟨σ1, H1, J, q⟩ => exact ⟨σ1, H1, J.ofTry ok, q⟩
    | .ret u, ⟨v, σ1, H1, J, r, q⟩ => exact ⟨v, σ1, H1, J.ofTry ok, r, q⟩
  case caught =>
    obtain ⟨a, B, s0, pins0, σ0, H0, cls, d, rfl, J0, nb, up, sky, na, os, ag, hm, go⟩ := air
    have J : Inv X pins σ0 H0 s0 := J0.ofTry ok
    rw [show (X.tr (X.pn ++ pins) _).stack = X.env :: X.outer from hs] at sky
    refine Sky.land Zc.steady tops hf sky fun h3 fl3 up3 => ?_
    obtain ⟨o3, v3, e3, z3, f3⟩ := fl3.there
    have noframe : a ∉ frs X.stack := by
      rw [hs]
      intro hm'
      obtain ⟨_, o', e', hd⟩ := fl3.2.2.1.mem hm'
      rw [e3] at e'
      cases e'
      exact hd _ f3
    have a0 : s0.heap.get? a = none := by
      cases q : s0.heap.get? a with
      | none => rfl
      | some o =>
        have z := nb a o q noframe
        rw [fl3.2.1] at z
        cases z
    have J3 := Inv.seen (s1 := { s1 with heap := h3 }) J nb fl3.1 (up.trans up3) os ag a0 na e3 z3 f3
    have S3 := Inv.inSuite J3 a
    refine wpAny_handleBy_cons (codeAny_handlers_test (wpAny_Tuple_spliced ?_)) (fun q => by cases q)
    rw [two]
    show wpAny _ _ (spliced [(false, eval (.Name x1 p1) X.env), (false, eval (.Name x2 p2) X.env), (false, eval (.Name x3 p3) X.env), (false, eval (.Name x4 p4) X.env)]) _ _ _
    refine Calls.spliced_cons (ld_glob S3 g1 m1 ?_ d1)
    refine Calls.spliced_cons (ld_glob S3 g2 m2 ?_ d2)
    refine Calls.spliced_cons (ld_glob S3 g3 m3 ?_ d3)
    refine Calls.spliced_cons (ld_glob S3 g4 m4 ?_ d4)
    refine Calls.spliced_nil ⟨(by show 4 ≤ sizeLine; decide), ?_⟩
    have more : ∀ b o, h3.get? b = some o → (h3.push { cls := .type "tuple", data := .seq [Value.ref C1, Value.ref C2, Value.ref C3, Value.ref C4].toArray }).get? b = some o := fun b o q => Heap.get?_push_of_some _ q
    have at_ : (h3.push { cls := .type "tuple", data := .seq [Value.ref C1, Value.ref C2, Value.ref C3, Value.ref C4].toArray }).get? h3.objs.size = some { cls := .type "tuple", data := .seq [Value.ref C1, Value.ref C2, Value.ref C3, Value.ref C4].toArray } := Heap.get?_push_size _ rfl
    have own : PySem.W.Looks (model X.prog X.w) (h3.push { cls := .type "tuple", data := .seq [Value.ref C1, Value.ref C2, Value.ref C3, Value.ref C4].toArray }) (typeOf (.ref a)) cls := fun A Q E s k q => wpAny_typeOf_ref (k _ _ (more _ _ e3)) (by rw [z3.1]; exact q)
    have hit := PySem.W.exm_tup4 (M := model X.prog X.w) (J3.kIn.keeps more) own at_ hm
    refine hit.here ?_
    refine codeAny_handlers_suite ?_
    have fl4 := flying_more more fl3
    refine HandSPX.lands_againZ fl4 fun h5 fl5 up5 => ?_
    obtain ⟨o5, v5, e5, z5, f5⟩ := fl5.there
    have J5 := Inv.seen (s1 := { s1 with heap := h5 }) J nb fl5.1 ((up.trans up3).trans ((Heap.UpToSlots.of_keeps more).trans up5)) os ag a0 na e5 z5 f5
    refine wpAny_mono ((hsu a (X.pn ++ pins)).run [] _ _ _ _ (Inv.inSuite J5 a) (go a na J.len)) (fun f s7 e => ?_) (fun _ _ y => False.elim y)
    match f, e with
    | .next, ⟨σ7, H7, S7, q⟩ => exact ⟨_, _, Inv.offSuite S7 ok, q⟩
    | .brk, ⟨σ7, H7, S7, q⟩ => exact ⟨_, _, Inv.offSuite S7 ok, q⟩
    | .cont, ⟨σ7, H7, S7, q⟩ => exact ⟨_, _, Inv.offSuite S7 ok, q⟩
    | .ret u, ⟨v, σ7, H7, S7, r, q⟩ => exact ⟨v, _, _, Inv.offSuite S7 ok, r, q⟩
end
/-! ### a method called within a try: what it raises is caught at the slots -/
def tMethT (C : Addr) (m : Str) (sp : Sp) (E : L2.St → XK) (ta : TE) (t : TA) : TE := fun σ H Q => ta σ H fun x H1 => ∃ a dx fs, x = .ref a ∧ H1 a = some (.ins C dx fs) ∧ fs.lookup m = none ∧ t σ H1 fun vs H2 => sp (x :: vs) H2 Q (E σ)
section
variable {X : Cx} {CX : CXT} {k : Nat} {C f : Addr} {fd : FuncData} {ps : List Str} {sp : Sp} {E : L2.St → XK} {o e : Expr} {es : List Expr} {m : Str} {pos apos : Pos} {ta : TE} {t : TA} {pl : Sem Bool}
theorem pe_methT (he : PE X o ta) (c : Cls X.K C) (hm : Meth X.K C m f) (kp : PySem.W.keepIn X.K (.ref f) = true) (F : FnOk X.prog X.w X.K X.mg X.base CX k f fd ps sp) (hr : Room k X.A) (b : L2.Binds X.K fd ps []) (hx : ∀ σ, PassesAt CX X σ (E σ)) (ha : PA X (e :: es) t)
    (hst : starEach (e :: es) X.env = (false, eval e X.env) :: starEach es X.env := by rfl) (hpl : (backTo pos (starEach es X.env)).any (·.1) = false := by rfl)
    (ht : eval (.Call (.Attribute o m apos) (e :: es) [] pos) X.env = (do
      let ov ← eval o X.env
      standAt apos.atName
      let (f, first) ← holding [ov] (getMethod ov m pl)
      callWith pos f first (backTo pos (starEach (e :: es) X.env)) (backToKw pos (keywordEach [] X.env))) := by rfl) :
    PE X (.Call (.Attribute o m apos) (e :: es) [] pos) (tMethT C m sp E ta t) := by
  refine ⟨fun pins s σ H Q I h => ?_⟩
  refine PySem.W.methodCall_KW (pl := pl) (thn (he.run pins s σ H _ I h) fun u s1 ⟨x, H1, I1, rx, a, dx, fs, ex, hx1, lk, q⟩ => ?_) ht
  subst ex
  obtain rfl : u = Value.ref a := rx
  refine getmeth_ok I1 hx1 c hm lk ?_
  refine PySem.W.callWith_KW (kws := []) I1.kIn kp rfl ?_ (by
    show (((backTo pos (starEach (e :: es) X.env)).any fun x => x.1) || false) = false
    rw [hst]
    exact (Bool.or_false _).trans hpl) hst
  refine thn (ha.run pos _ s1 σ H1 _ I1 q) fun us s3 ⟨vs, H2, I3, rv, q2⟩ => ?_
  refine wpAny_pure ⟨I3.kIn, ?_⟩
  exact run_fnS (us := .ref a :: us) (vs := .ref a :: vs) F hr b (hx σ) I3 (.cons rfl rv) q2
end
end Bh

set_option Elab.async false
set_option linter.all false
set_option maxRecDepth 100000
set_option maxHeartbeats 1000000
set_option autoImplicit false
namespace Bh
open PySem PySem.Spec PyProof.Rows L2
def spTake (C : Addr) : Sp := fun vs H Q _ => ∃ (x dc dt : Addr) (cs : List Cl) (ts : List Ti) (l : Str), vs = [.ref x, .str l] ∧ NetA H C x dc dt cs ts ∧ l.length ≤ 60000 ∧ cs.length < 1000 ∧ ts.length < 1000 ∧
  ∀ H', Same (h3 x dc dt H) H' → NetA H' C x dc dt ((stN (cs, ts) l).getD (cs, ts)).1 ((stN (cs, ts) l).getD (cs, ts)).2 → Q (.bl (stN (cs, ts) l).isSome) H'
theorem if_two {c1 c2 : TT} {b1 b2 : Bool} {t u : TS} {D : Ends} {σ : L2.St} {H : Hp} (h1 : ∀ Q : Bool → Hp → Prop, Q b1 H → c1 σ H Q) (h2 : b1 = true → ∀ Q : Bool → Hp → Prop, Q b2 H → c2 σ H Q)
    (y : b1 = true → b2 = true → t D σ H) (n : ¬ (b1 = true ∧ b2 = true) → u D σ H) : tIfS (tAnd c1 c2) t u D σ H := by
  refine h1 _ ?_
  cases b1 with
  | false => exact n (by simp)
  | true =>
    refine h2 rfl _ ?_
    cases b2 with
    | false => exact n (by simp)
    | true => exact y rfl rfl
theorem if_three {c1 c2 c3 : TT} {b1 b2 b3 : Bool} {t u : TS} {D : Ends} {σ : L2.St} {H : Hp} (h1 : ∀ Q : Bool → Hp → Prop, Q b1 H → c1 σ H Q) (h2 : b1 = true → ∀ Q : Bool → Hp → Prop, Q b2 H → c2 σ H Q) (h3 : b1 = true → b2 = true → ∀ Q : Bool → Hp → Prop, Q b3 H → c3 σ H Q)
    (y : b1 = true → b2 = true → b3 = true → t D σ H) (n : ¬ (b1 = true ∧ b2 = true ∧ b3 = true) → u D σ H) : tIfS (tAnd c1 (tAnd c2 c3)) t u D σ H := by
  refine h1 _ ?_
  cases b1 with
  | false => exact n (by simp)
  | true =>
    refine h2 rfl _ ?_
    cases b2 with
    | false => exact n (by simp)
    | true =>
      refine h3 rfl rfl _ ?_
      cases b3 with
      | false => exact n (by simp)
      | true => exact y rfl rfl rfl
theorem w_ix {K : PySem.W.Frag} {σ : L2.St} {H : Hp} {Q : VK} {p : Addr} {ws : List Str} {w : Str} {i : Nat} {k : Int} (e : σ[2]? = some (some (.ref p))) (hp : H p = some (.lst (ws.map V.str))) (hk : k = (i : Int)) (hw : ws[i]? = some w) (q : Q (.str w) H) : tOp (rIxL K) (tVar 2) (tC (.int k)) σ H Q := by
  subst hk
  exact ⟨_, e, p, _, (i : Int), .str w, rfl, rfl, SqL.of hp, at_nn (by omega) (by rw [Int.toNat_natCast, List.getElem?_map, hw]; rfl), q⟩
section
variable {P : Program} {w : World} {K : PySem.W.Frag} {mg : Str → Option Value} {base : Heap} {R : NtC K mg}
theorem ok_mtake (T : Top K mg) (M : NtM K mg R) : FnOk P w K mg base CX0 9 M.take.f M.take.fd ["self", "line"] (spTake R.C) := by
  have G_m_add_cell := ok_maddcellT (P := P) (w := w) (base := base) T M
  have G_m_add_tie := ok_maddtieT (P := P) (w := w) (base := base) T M
  refine M.take.F.ok sc_Network_take (fun vs H Q E h => ?_) (fun cdv A outer s H vs Q E hr h => ?_)
  · obtain ⟨x, dc, dt, cs, ts, l, rfl, _⟩ := h
    rfl
  obtain ⟨x, dc, dt, cs, ts, l, rfl, na, ll, few1, few2, q⟩ := h
  refine ⟨_, (pss_cons (ps_set (i := 2) sc_Network_take.nd rfl (Or.inl rfl) (pe_split (pv 1) pe_str))
    (pss_cons (ps_try_four (X := (cxOf C8.CX0 P w K mg base ["self", "line", "words"] "Network.take" (defScope s_Network_take) M.take.f cdv A outer s H E).nox) (tb := fun W => _) (ts := tRet (tC (.bl false))) rfl rfl (by rfl) T.r_InvalidName.g (by rfl) T.r_DuplicateCell.g (by rfl) T.r_UnknownCell.g (by rfl) T.r_DuplicateTie.g (by decide) (by decide) (by decide) (by decide) (fun W pn xe tk _ => by exact (pss_cons (ps_if (PW.pt (pw_and (pt_cmpR op_eq (pe_ix (ix_list_K (K := K) (by rfl)) (pv 2) pe_int (fun _ _ => rfl)) pe_str (nomark _)) (pw_and (pt_cmpR op_eq (pe_callB (call_len_seq_K (K := K) (by rfl)) (by rfl) T.b_len PySem.boot_len (pa_cons (pv 2) pa_nil)) pe_int (nomark _)) (pw_and1 (pt_cmpR op_eq (pe_callB call_len_dT (by rfl) T.b_len PySem.boot_len (pa_cons (pe_fld_K (K := K) (by rfl) (pv 0) (by rfl)) pa_nil)) pe_int (nomark _)))))) (pss_cons (ps_expr (pe_methT (pv 0) R.cl M.add_cell.M M.add_cell.F.kp G_m_add_cell (hr.mono (by decide)) M.add_cell.b (fun σ => passAt tk σ) (pa_cons (pe_ix (ix_list_K (K := K) (by rfl)) (pv 2) pe_int (fun _ _ => rfl)) (pa_cons (pe_ix (ix_list_K (K := K) (by rfl)) (pv 2) pe_int (fun _ _ => rfl)) pa_nil))))
      (pss_one (ps_ret pe_bl))) pss_nil)
    (pss_one (ps_if (PW.pt (pw_and (pt_cmpR op_eq (pe_ix (ix_list_K (K := K) (by rfl)) (pv 2) pe_int (fun _ _ => rfl)) pe_str (nomark _)) (pw_and1 (pt_cmpR op_eq (pe_callB (call_len_seq_K (K := K) (by rfl)) (by rfl) T.b_len PySem.boot_len (pa_cons (pv 2) pa_nil)) pe_int (nomark _))))) (pss_cons (ps_expr (pe_methT (pv 0) R.cl M.add_tie.M M.add_tie.F.kp G_m_add_tie (hr.mono (by decide)) M.add_tie.b (fun σ => passAt tk σ) (pa_cons (pe_ix (ix_list_K (K := K) (by rfl)) (pv 2) pe_int (fun _ _ => rfl)) (pa_cons (pe_ix (ix_list_K (K := K) (by rfl)) (pv 2) pe_int (fun _ _ => rfl)) (pa_cons (pe_ix (ix_list_K (K := K) (by rfl)) (pv 2) pe_int (fun _ _ => rfl)) pa_nil)))))
      (pss_one (ps_ret pe_bl))) pss_nil)))) (fun a pn => by exact pss_one (ps_ret pe_bl)))
    (pss_one (ps_ret pe_bl)))), ?_⟩
  refine ⟨_, rfl, ⟨_, rfl⟩, l, " ", rfl, rfl, (by decide +kernel), le_line (by omega), ?_⟩
  intro p np
  rw [show L2.start ["self", "line", "words"] [.ref x, .str l] = [some (.ref x), some (.str l), none] from rfl]
  have s1 := same_new (o := .lst ((Txt.split l " ").map V.str)) np
  have hp : upd H p (.lst ((Txt.split l " ").map V.str)) p = some (.lst ((Txt.split l " ").map V.str)) := upd_same
  have na1 := na.mono s1
  have lw : ∀ z ∈ Txt.split l " ", z.length ≤ 60000 := fun z hz => Nat.le_trans (split_part hz) ll
  have ne := split_ne l " "
  generalize upd H p (.lst ((Txt.split l " ").map V.str)) = H1 at s1 hp na1 ⊢
  have lift : ∀ {H' : Hp}, Same H1 H' → Same (h3 x dc dt H) H' := fun s a o e => s _ _ (s1 _ _ (h3_le _ _ e))
  have no : ∀ H', Same H1 H' → stN (cs, ts) l = none → Q (.bl false) H' := fun H' s e => by
    have z := q H' (lift s)
    rw [e] at z
    exact z (na1.mono s)
  obtain ⟨dx, h0, h1, h2⟩ := id na1
  refine gn_step ?_
  dsimp only [List.set]
  unfold stN at q no
  generalize Txt.split l " " = ws at *
  obtain ⟨w0, rest, rfl⟩ : ∃ a r, ws = a :: r := by
    cases ws with
    | nil => exact absurd rfl ne
    | cons a r => exact ⟨a, r, rfl⟩
  have lenT : ∀ n : Int, ∀ Q : Bool → Hp → Prop, Q (decide (V.int (((w0 :: rest).map V.str).length : Int) = V.int n)) H1 → tTest (tOp rEq (tCB (rLenS K) (tCons (tVar 2) tNil)) (tC (.int n))) [some (.ref x), some (.str l), some (.ref p)] H1 Q := fun n Q k => ⟨_, rfl, p, _, rfl, .inl (SqL.of hp), rfl, _, rfl, k⟩
  refine if_three (b1 := decide (V.str w0 = V.str "cell")) (b2 := decide (V.int (((w0 :: rest).map V.str).length : Int) = V.int 3)) (b3 := decide (V.int ((ts.map eT).length : Int) = V.int 0)) (fun Q k => w_ix (i := 0) rfl hp rfl rfl ⟨rfl, _, rfl, k⟩) (fun _ => lenT 3) (fun _ _ Q k => ⟨_, rfl, x, R.C, dx, _, .ref dt, rfl, h0, R.cl, R.n2, rfl, dt, _, rfl, h2, rfl, _, rfl, k⟩) (fun b1 b2 b3 => ?_) (fun b => ?_)
  · have e1 : w0 = "cell" := by have := of_decide_eq_true b1; injection this
    have e2 : rest.length = 2 := by
      have := of_decide_eq_true b2
      injection this with this
      rw [List.length_map, List.length_cons] at this
      omega
    have e3 : ts = [] := by
      have := of_decide_eq_true b3
      injection this with this
      rw [List.length_map] at this
      exact List.length_eq_zero_iff.mp (by omega)
    match rest, e2 with
    | [n, k], _ =>
      subst e1 e3
      refine ⟨_, rfl, x, dx, _, rfl, h0, rfl, _, rfl, p, _, (1 : Int), .str n, rfl, rfl, SqL.of hp, at_nn (by decide) rfl, _, rfl, p, _, (2 : Int), .str k, rfl, rfl, SqL.of hp, at_nn (by decide) rfl, x, dc, dt, cs, [], n, k, rfl, na1, lw n (by simp), lw k (by simp), few1, fun nv C m dd H2 s2 => ⟨four_any T C m, fun a nA _ => ?_⟩, fun v H2 s2 na2 => ?_⟩
      · refine no _ (s2.trans (same_new nA)) (if_neg fun z => nv ⟨z.2.2.1, z.2.2.2.1, z.2.2.2.2⟩)
      · have z := q H2 (fun a o e => s2 _ _ (by
          unfold h3 at e ⊢
          split at e
          · cases e
          · rename_i nh
            rw [if_neg nh]
            exact s1 _ _ e))
        have e : cellS (cs, []) "cell" n k = some (cs ++ [(n, k)], []) := if_pos ⟨rfl, rfl, v.1, v.2.1, v.2.2⟩
        dsimp only at z
        rw [e] at z
        exact z na2
  unfold tNext
  dsimp only
  refine if_two (b1 := decide (V.str w0 = V.str "tie")) (b2 := decide (V.int (((w0 :: rest).map V.str).length : Int) = V.int 4)) (fun Q k => w_ix (i := 0) rfl hp rfl rfl ⟨rfl, _, rfl, k⟩) (fun _ => lenT 4) (fun b1 b2 => ?_) (fun b' => ?_)
  · have e1 : w0 = "tie" := by have := of_decide_eq_true b1; injection this
    have e2 : rest.length = 3 := by
      have := of_decide_eq_true b2
      injection this with this
      rw [List.length_map, List.length_cons] at this
      omega
    match rest, e2 with
    | [t1, t2, t3], _ =>
      subst e1
      refine ⟨_, rfl, x, dx, _, rfl, h0, rfl, _, rfl, p, _, (1 : Int), .str t1, rfl, rfl, SqL.of hp, at_nn (by decide) rfl, _, rfl, p, _, (2 : Int), .str t2, rfl, rfl, SqL.of hp, at_nn (by decide) rfl, _, rfl, p, _, (3 : Int), .str t3, rfl, rfl, SqL.of hp, at_nn (by decide) rfl, x, dc, dt, cs, ts, t1, t2, t3, rfl, na1, lw t1 (by simp), few2, fun nv C m dd H2 s2 => ⟨four_any T C m, fun a nA _ => ?_⟩, fun v H2 s2 na2 => ?_⟩
      · refine no _ (s2.trans (same_new nA)) (if_neg fun z => nv ⟨z.2.1, z.2.2.1, z.2.2.2.1, z.2.2.2.2⟩)
      · have z := q H2 (fun a o e => s2 _ _ (by
          unfold h3 at e ⊢
          split at e
          · cases e
          · rename_i nh
            rw [if_neg nh]
            exact s1 _ _ e))
        have e : tieS (cs, ts) "tie" t1 t2 t3 = some (cs, ts ++ [(t1, t2, t3)]) := if_pos ⟨rfl, v.1, v.2.1, v.2.2.1, v.2.2.2⟩
        dsimp only at z
        rw [e] at z
        exact z na2
  · refine no H1 (Same.refl _) ?_
    have str_of : ∀ {a b : Str}, a = b → decide (V.str a = V.str b) = true := fun h => decide_eq_true (by rw [h])
    split
    · rename_i e
      injection e with e1 e2
      subst e1 e2
      refine if_neg fun z => b ⟨str_of z.1, rfl, ?_⟩
      have z := z.2.1
      dsimp only at z
      subst z
      rfl
    · rename_i e
      injection e with e1 e2
      subst e1 e2
      exact if_neg fun z => b' ⟨str_of z.1, rfl⟩
    · rfl
end
end Bh

set_option Elab.async false
set_option linter.all false
set_option maxRecDepth 100000
set_option maxHeartbeats 1000000
set_option autoImplicit false
namespace Bh
open PySem PySem.Spec PyProof.Rows L2
theorem str_no {K : PySem.W.Frag} {d : PyData} (n : tyN d ≠ "str") : PySem.W.kitOne K (.type (tyN d)) (.type "str") = some false := by
  cases d with
  | none => exact (show PySem.W.kitOne K (.type "NoneType") (.type "str") = some false from kit_ty (by decide +kernel))
  | bool _ => exact (show PySem.W.kitOne K (.type "bool") (.type "str") = some false from kit_ty (by decide +kernel))
  | int _ => exact (show PySem.W.kitOne K (.type "int") (.type "str") = some false from kit_ty (by decide +kernel))
  | tuple _ => exact (show PySem.W.kitOne K (.type "tuple") (.type "str") = some false from kit_ty (by decide +kernel))
  | list _ => exact (show PySem.W.kitOne K (.type "list") (.type "str") = some false from kit_ty (by decide +kernel))
  | str _ => exact absurd rfl n
  | dict _ => exact (show PySem.W.kitOne K (.type "dict") (.type "str") = some false from kit_ty (by decide +kernel))
/-- what a text makes, or what is raised -/
def ErR (H : Hp) (E : XK) (C : Addr) (i : Nat) : Prop := ∀ (dd : Addr) (H2 : Hp), Same H H2 → H2 dd = some (.xd [("code", .str "InvalidNetwork"), ("line", .int (i : Nat))]) → E (.ref C) (some dd) H2
theorem ErR.mono {H H' : Hp} {E : XK} {C : Addr} {i : Nat} (s : Same H H') (h : ErR H E C i) : ErR H' E C i := fun dd H2 s2 e => h dd H2 (s.trans s2) e
def spReadN (K : PySem.W.Frag) (C cI : Addr) : Sp := fun vs H Q E =>
  (∃ (v : V) (d : PyData), vs = [.ref C, v] ∧ Dp K H v d ∧ tyN d ≠ "str" ∧ ErR H E cI 0) ∨
   ∃ t : Str, vs = [.ref C, .str t] ∧ t.length ≤ 900 ∧ (∀ i, readE t = some i → ErR H E cI i) ∧
     (readE t = none → ∀ (H' : Hp) (x dc dt : Addr), Same H H' → H x = none → H dc = none → H dt = none → NetA H' C x dc dt (readN t).1 (readN t).2 → Q (.ref x) H')
theorem took_few (ls : List Str) : (took ([], []) ls).2.1.length ≤ ls.length ∧ (took ([], []) ls).2.2.length ≤ ls.length := by
  have h := congrArg List.length (took_lines ([], []) ls).1
  unfold netLs at h
  rw [List.length_append, List.length_map, List.length_map, List.length_append, List.length_take] at h
  have : (([] : List Cl).map cellL ++ ([] : List Ti).map tieL).length = 0 := rfl
  dsimp only at h
  omega
section
variable {P : Program} {w : World} {K : PySem.W.Frag} {mg : Str → Option Value} {base : Heap} {R : NtC K mg}
theorem ok_readN (T : Top K mg) (M : NtM K mg R) : FnOk P w K mg base (L2.CX P w) 11 M.fR M.fdR ["cls", "text"] (spReadN K R.C T.r_InvalidNetwork.c) := by
  have G_Network := ok_mnetinit (P := P) (w := w) (base := base) T M
  have G_m_take := ok_mtake (P := P) (w := w) (base := base) T M
  have G_in_InvalidNetwork := in_InvalidNetwork (P := P) (w := w) (base := base) T 1
  obtain ⟨dN, rN, bN⟩ := kb_none M
  refine M.FR.okX sc_Network_read (fun vs H Q E h => ?_) (fun cdv A outer s H vs Q E hr h => ?_)
  · rcases h with ⟨v, d, rfl, _⟩ | ⟨t, rfl, _⟩ <;> rfl
  have rs : ∀ (i : Nat) (H1 : Hp) (a : Addr), H1 a = none → ErR H1 E T.r_InvalidNetwork.c i →
      spIe K T.r_InvalidNetwork.c "InvalidNetwork" "line" 1 (V.ref a :: ([V.int (i : Nat)] ++ [])) (upd H1 a (exo a T.r_InvalidNetwork.c none)) (fun v H2 => v = .non ∧ ∃ (d : Addr) (fs : List (Str × V)), H2 a = some (exo a T.r_InvalidNetwork.c (some d)) ∧ H2 d = some (exd d fs) ∧ H1 d = none ∧ E (.ref T.r_InvalidNetwork.c) (some d) (upd (del H2 a) d (.xd fs))) (fun _ _ _ => False) := fun i H1 a na k =>
    ie_raise (.int _) .int na fun dd r H2 nd s2 ed hr => k dd H2 s2 (by cases hr; exact ed)
  refine ⟨_, (pss_cons (ps_if (pt_not (pt_val (pe_callB (call_isi_K (K := K) (by rfl)) (by rfl) T.b_isinstance (by decide +kernel) (pa_cons (pv 1) (pa_cons (pe_tyN "str" (by rfl) T.b_str (by decide +kernel)) pa_nil))))) (pss_one (ps_raise rfl (takes_of rfl rfl rfl rfl) (pmk_mkG T.r_InvalidNetwork.e T.r_InvalidNetwork.i T.r_InvalidNetwork.t G_in_InvalidNetwork (hr.mono (by decide)) T.r_InvalidNetwork.b (by rfl) T.r_InvalidNetwork.g (pa_cons pe_int pa_nil)))) pss_nil)
    (pss_cons (ps_asg (pe_split (pv 1) pe_str) (pg_star0K (K := K) (by rfl) (by rfl) (pgs_cons (pg_name (i := 2) sc_Network_read.nd rfl (Or.inl rfl)) (pgs_cons (pg_name (i := 3) sc_Network_read.nd rfl (Or.inl rfl)) pgs_nil))))
    (pss_cons (ps_set (i := 4) sc_Network_read.nd rfl (Or.inl rfl) (pe_makeV0 M.mkr G_Network (hr.mono (by decide)) (pv 0) bN rN pass0))
    (pss_cons (ps_for (passes_of rfl) rfl (pi_enum (by rfl) T.b_enumerate (pa_cons (pv 2) pa_nil)) (pg_tup_K (K := K) (by rfl) (n := 2) (by rfl) (pgs_cons (pg_name (i := 5) sc_Network_read.nd rfl (Or.inl rfl)) (pgs_cons (pg_name (i := 6) sc_Network_read.nd rfl (Or.inl rfl)) pgs_nil)))
      (pss_one (ps_if (pt_not (pt_val (pe_meth (pv 4) R.cl M.take.M G_m_take (hr.mono (by decide)) M.take.b .nil pass0 (pa_cons (pv 6) pa_nil)))) (pss_one (ps_raise rfl (takes_of rfl rfl rfl rfl) (pmk_mkG T.r_InvalidNetwork.e T.r_InvalidNetwork.i T.r_InvalidNetwork.t G_in_InvalidNetwork (hr.mono (by decide)) T.r_InvalidNetwork.b (by rfl) T.r_InvalidNetwork.g (pa_cons (pv 5) pa_nil)))) pss_nil)))
    (pss_cons (ps_if (pt_cmpR op_ne (pv 3) pe_str (nomark _)) (pss_one (ps_raise rfl (takes_of rfl rfl rfl rfl) (pmk_mkG T.r_InvalidNetwork.e T.r_InvalidNetwork.i T.r_InvalidNetwork.t G_in_InvalidNetwork (hr.mono (by decide)) T.r_InvalidNetwork.b (by rfl) T.r_InvalidNetwork.g (pa_cons (pe_callB (call_len_seq_K (K := K) (by rfl)) (by rfl) T.b_len PySem.boot_len (pa_cons (pv 2) pa_nil)) pa_nil)))) pss_nil)
    (pss_one (ps_ret (pv 4)))))))), ?_⟩
  rcases h with ⟨v, d, rfl, hv, nt, er⟩ | ⟨t, rfl, lt, er, q⟩
  · refine ⟨_, rfl, _, _, _, _, false, rfl, .ty _, tyD hv, str_no nt, _, rfl, iteT ?_⟩
    exact ⟨(by show 1 ≤ 1000; decide), fun a na => rs 0 H a na er⟩
  rw [show L2.start ["cls", "text", "lines", "rest", "network", "number", "line"] [.ref R.C, .str t] = [some (.ref R.C), some (.str t), none, none, none, none, none] from rfl]
  refine ⟨_, rfl, _, _, _, _, true, rfl, .ty _, .base (.str _), kit_ty (by decide +kernel), _, rfl, iteF ?_⟩
  refine ⟨_, rfl, ⟨_, rfl⟩, t, "\n", rfl, rfl, (by decide +kernel), le_line (by omega), ?_⟩
  have lsl : (Txt.split t "\n").length ≤ t.length + 1 := by
    have := split_weight t "\n" (by decide +kernel)
    omega
  have lsp : ∀ l ∈ Txt.split t "\n", l.length ≤ t.length := fun l hl => split_part hl
  have er0 : (took ([], []) (linesO t)).1 < (linesO t).length → ErR H E T.r_InvalidNetwork.c (took ([], []) (linesO t)).1 := fun z => er _ (if_pos z)
  have er1 : ¬ (took ([], []) (linesO t)).1 < (linesO t).length → restO t ≠ Str.empty → ErR H E T.r_InvalidNetwork.c (linesO t).length := fun z z2 => er _ ((if_neg z).trans (if_pos z2))
  have q0 : ¬ (took ([], []) (linesO t)).1 < (linesO t).length → ¬ restO t ≠ Str.empty → readE t = none := fun z z2 => (if_neg z).trans (if_neg z2)
  rw [split_parts t] at lsl lsp ⊢
  have rD : readN t = (took ([], []) (linesO t)).2 := rfl
  generalize linesO t = ls at *
  generalize restO t = rest at *
  rw [List.length_append] at lsl
  have lsl : ls.length ≤ t.length := by have : ls.length + 1 ≤ t.length + 1 := lsl; omega
  intro p np
  have s1 : Same H (upd H p (.lst ((ls ++ [rest]).map V.str))) := same_new np
  refine ⟨p, ls.map V.str, .str rest, rfl, SqL.of (by rw [upd_same, List.map_append]; rfl), fun L nL => ?_⟩
  have s2 : Same _ (upd (upd H p (.lst ((ls ++ [rest]).map V.str))) L (.lst (ls.map V.str))) := same_new nL
  have s12 := s1.trans s2
  have hL : upd (upd H p (.lst ((ls ++ [rest]).map V.str))) L (.lst (ls.map V.str)) L = some (.lst (ls.map V.str)) := upd_same
  generalize upd (upd H p (.lst ((ls ++ [rest]).map V.str))) L (.lst (ls.map V.str)) = H2 at s12 hL ⊢
  refine ⟨_, _, rfl, _, _, rfl, rfl, ?_⟩
  dsimp only [List.set]
  refine ⟨_, rfl, rfl, fun x dx nx nd ne => ?_⟩
  refine net_made (cs := []) (ts := []) nx nd ne ⟨M.z1, [], rfl, .inr (M.e1 _), .nil⟩ ⟨M.z2, [], rfl, .inr (M.e2 _), .nil⟩ ⟨.nil, (fun c h => by cases h), Nat.zero_le _⟩ ⟨.nil, (fun c h => by cases h), Nat.zero_le _⟩ (fun H3 dc dt s3 n1 n2 na3 => ?_)
  refine gn_step ?_
  dsimp only [List.set]
  have hL3 := s3 _ _ hL
  refine ⟨_, rfl, L, _, rfl, SqL.of hL3, ?_⟩
  refine for_it (walk_enum (K := K) (a := L) (xs := ls.map V.str)) (fun i σ H' => ∃ y5 y6, σ = [some (.ref R.C), some (.str t), some (.ref L), some (.str rest), some (.ref x), y5, y6] ∧ Same H2 H' ∧ NetA H' R.C x dc dt (took ([], []) (ls.take i)).2.1 (took ([], []) (ls.take i)).2.2 ∧ i ≤ (took ([], []) ls).1) ⟨none, none, rfl, s3, na3, Nat.zero_le _⟩ (fun i σ H' _ ⟨_, _, _, s, _⟩ => SqL.of (s _ _ hL)) ?_ ?_
  · rintro i y σ H' H'' hi ⟨y5, y6, rfl, s5, na5, ti⟩ ⟨T', u, v, rfl, nT, rfl, eu, ev⟩
    cases eu
    dsimp only at ev
    rw [List.getElem?_map] at ev
    cases el : ls[i]? with
    | none => rw [el] at ev; cases ev
    | some l =>
    rw [el] at ev
    cases ev
    have nxl := took_next ti el
    have s6 : Same H' (upd H' T' (.tup [.int ↑i, .str l])) := same_new nT
    have na6 := na5.mono s6
    have li : i < ls.length := (List.getElem?_eq_some_iff.mp el).1
    have tf := took_few (ls.take i)
    rw [List.length_take] at tf
    obtain ⟨dx6, h06, _, _⟩ := id na6
    have ll : l.length ≤ 60000 := by
      have := lsp l (List.mem_append_left _ (List.mem_of_getElem? el))
      omega
    refine ⟨T', _, rfl, SqT.of upd_same, rfl, _, _, rfl, _, _, rfl, rfl, ?_⟩
    dsimp only [List.set]
    refine ⟨_, rfl, x, dx6, _, rfl, h06, rfl, _, rfl, x, dc, dt, _, _, l, rfl, na6, ll, (by omega), (by omega), fun H7 s7 na7 => ⟨_, rfl, ?_⟩⟩
    have s57 : Same H2 H7 := fun a o e => by
      refine s7 _ _ ?_
      unfold h3
      rw [if_neg (fun z => by
        rcases z with z | z | z
        · rw [z, nx] at e; cases e
        · rw [z, n1] at e; cases e
        · rw [z, n2] at e; cases e)]
      exact s6 _ _ (s5 _ _ e)
    by_cases c : i < (took ([], []) ls).1
    · have e := nxl.1 c
      rw [e] at na7 ⊢
      exact iteF ⟨_, _, rfl, s57, na7, c⟩
    · have e := nxl.2 c
      rw [e]
      have ei : (took ([], []) ls).1 = i := by omega
      refine iteT ⟨_, rfl, (by show 1 ≤ 1000; decide), fun a na => rs i H7 a na ?_⟩
      rw [← ei]
      exact (er0 (by omega)).mono (s12.trans s57)
  · rintro σ H4 ⟨y5, y6, rfl, s5, na5, ti⟩
    rw [List.length_map] at ti
    rw [List.length_map, List.take_length] at na5
    have nlt : ¬ (took ([], []) ls).1 < ls.length := by omega
    have hL4 := s5 _ _ hL
    refine ⟨_, rfl, rfl, _, rfl, iteB (fun k => ?_) (fun k => ?_)⟩
    · refine ⟨_, rfl, L, _, rfl, .inl (SqL.of hL4), (by show 1 ≤ 1000; decide), fun a na => ?_⟩
      rw [List.length_map]
      exact rs ls.length H4 a na ((er1 nlt fun z => by rw [z] at k; exact absurd k (by decide +kernel)).mono (s12.trans s5))
    · have re : rest = Str.empty := by
        have z := of_decide_eq_true (nb0 k)
        injection z
      have s := s12.trans s5
      exact ⟨_, rfl, q (q0 nlt fun z => z re) H4 x dc dt s (s12.free nx) (s12.free n1) (s12.free n2) (by rw [rD]; exact na5)⟩
end
end Bh

set_option Elab.async false
set_option linter.all false
set_option maxRecDepth 100000
set_option autoImplicit false
namespace Bh
open PySem PySem.Spec PyProof.Rows L2
/-! ### displays of data -/
/-- worlds in which new things may be made: what is known (G) of the heap (H) -/
structure Wo (W : Hp → Hp → Prop) : Prop where
  sm : ∀ {G H : Hp}, W G H → Same G H
  new : ∀ {G H : Hp} {p : Addr} {o : HO}, W G H → H p = none → W (upd G p o) (upd H p o)
theorem wo_eq : Wo (fun G H => G = H) := ⟨fun e => by rw [e]; exact Same.refl _, fun e _ => by rw [e]⟩
theorem wo_wd (b l : Addr) : Wo (Wd b l) := ⟨fun w => w.sm, fun w n => w.new n⟩
/-- a reading that gives this data -/
def AccW (K : PySem.W.Frag) (W : Hp → Hp → Prop) (t : TE) (σ : L2.St) (G : Hp) (d : PyData) : Prop :=
  ∀ (G' H' : Hp) (Q : VK), Same G G' → W G' H' → (∀ (v : V) (G2 H2 : Hp), Same G' G2 → W G2 H2 → Dp K G2 v d → Q v H2) → t σ H' Q
theorem AccW.mono {K : PySem.W.Frag} {W : Hp → Hp → Prop} {t : TE} {σ : L2.St} {G G1 : Hp} {d : PyData} (h : AccW K W t σ G d) (s : Same G G1) : AccW K W t σ G1 d := fun G' H' Q s' => h G' H' Q (s.trans s')
theorem acc_var {K : PySem.W.Frag} {W : Hp → Hp → Prop} {σ : L2.St} {G : Hp} {d : PyData} {i : Nat} {v : V} (e : σ[i]? = some (some v)) (h : Dp K G v d) : AccW K W (tVar i) σ G d := fun G' H' Q s w k => ⟨v, e, k v G' H' (Same.refl _) w (Dp.mono s h)⟩
def tD (K : PySem.W.Frag) (as : List (Nat × TE)) (D : (Nat → PyData) → PyData) : TE := fun σ H Q => ∃ (W : Hp → Hp → Prop) (_ : Wo W) (ρ : Nat → PyData) (G : Hp), W G H ∧ (∀ p ∈ as, AccW K W p.2 σ G (ρ p.1)) ∧ ∀ (v : V) (G' H' : Hp), Same G G' → W G' H' → Dp K G' v (D ρ) → Q v H'
def tDs (K : PySem.W.Frag) (as : List (Nat × TE)) (Ds : (Nat → PyData) → List PyData) : TA := fun σ H Q => ∃ (W : Hp → Hp → Prop) (_ : Wo W) (ρ : Nat → PyData) (G : Hp), W G H ∧ (∀ p ∈ as, AccW K W p.2 σ G (ρ p.1)) ∧ ∀ (vs : List V) (G' H' : Hp), Same G G' → W G' H' → DpAll K G' vs (Ds ρ) → Q vs H'
theorem pd_imp {X : Cx} {e : Expr} {t t' : TE} (h : PE X e t) (w : ∀ σ H Q, t' σ H Q → t σ H Q) : PE X e t' := ⟨fun pins s σ H Q I z => h.run pins s σ H Q I (w _ _ _ z)⟩
theorem pda_imp {X : Cx} {es : List Expr} {t t' : TA} (h : PA X es t) (w : ∀ σ H Q, t' σ H Q → t σ H Q) : PA X es t' := ⟨fun pos pins s σ H Q I z => h.run pos pins s σ H Q I (w _ _ _ z)⟩
section
variable {X : Cx} {K : PySem.W.Frag}
theorem pd_str {z : Str} {j : Nat} {pos : Pos} : PE X (.Constant (.str z) j pos) (tD K [] fun _ => .str z) :=
  pd_imp pe_str fun σ H Q ⟨W, hW, ρ, G, w, _, q⟩ => q _ G H (Same.refl _) w (.str z)
theorem pd_int {i : Int} {j : Nat} {pos : Pos} : PE X (.Constant (.int i) j pos) (tD K [] fun _ => .int i) :=
  pd_imp pe_int fun σ H Q ⟨W, hW, ρ, G, w, _, q⟩ => q _ G H (Same.refl _) w (.int i)
theorem pd_non {j : Nat} {pos : Pos} : PE X (.Constant .none j pos) (tD K [] fun _ => .none) :=
  pd_imp pe_non fun σ H Q ⟨W, hW, ρ, G, w, _, q⟩ => q _ G H (Same.refl _) w .non
theorem pd_bl {b : Bool} {j : Nat} {pos : Pos} : PE X (.Constant (.bool b) j pos) (tD K [] fun _ => .bool b) :=
  pd_imp pe_bl fun σ H Q ⟨W, hW, ρ, G, w, _, q⟩ => q _ G H (Same.refl _) w (.bl b)
theorem pd_acc {e : Expr} {t : TE} (n : Nat) (h : PE X e t) : PE X e (tD K [(n, t)] fun ρ => ρ n) :=
  pd_imp h fun σ H Q ⟨W, hW, ρ, G, w, acc, q⟩ => acc (n, t) (List.mem_singleton.mpr rfl) G H Q (Same.refl _) w fun v G2 H2 s w2 d => q v G2 H2 s w2 d
theorem pds_nil : PA X [] (tDs K [] fun _ => []) :=
  pda_imp pa_nil fun σ H Q ⟨W, hW, ρ, G, w, _, q⟩ => q [] G H (Same.refl _) w .nil
theorem pds_cons {e : Expr} {es : List Expr} {as bs : List (Nat × TE)} {D : (Nat → PyData) → PyData} {Ds : (Nat → PyData) → List PyData} (h1 : PE X e (tD K as D)) (h2 : PA X es (tDs K bs Ds))
    (hs : starEach (e :: es) X.env = (false, eval e X.env) :: starEach es X.env := by rfl) : PA X (e :: es) (tDs K (as ++ bs) fun ρ => D ρ :: Ds ρ) := by
  refine pda_imp (pa_cons h1 h2 hs) fun σ H Q ⟨W, hW, ρ, G, w, acc, q⟩ => ?_
  refine ⟨W, hW, ρ, G, w, fun p hp => acc p (List.mem_append_left _ hp), fun v G1 H1 s1 w1 d1 => ?_⟩
  exact ⟨W, hW, ρ, G1, w1, fun p hp => (acc p (List.mem_append_right _ hp)).mono s1, fun vs G2 H2 s2 w2 d2 => q _ G2 H2 (s1.trans s2) w2 (.cons (Dp.mono s2 d1) d2)⟩
theorem dall_len {H : Hp} {vs : List V} {ds : List PyData} (h : DpAll K H vs ds) (l : ds.length ≤ 100000) : vs.length ≤ sizeLine := by
  rw [DpAll.length h]
  exact le_line l
theorem pd_tup {es : List Expr} {k : Nat} {pos : Pos} {as : List (Nat × TE)} {Ds : (Nat → PyData) → List PyData} (h : PA X es (tDs K as Ds)) (l : ∀ ρ, (Ds ρ).length ≤ 100000 := by exact fun _ => Nat.le_of_ble_eq_true rfl) : PE X (.Tuple es k pos) (tD K as fun ρ => .tuple (Ds ρ)) :=
  pd_imp (pe_tup h) fun σ H Q ⟨W, hW, ρ, G, w, acc, q⟩ => ⟨W, hW, ρ, G, w, acc, fun vs G1 H1 s1 w1 d1 => ⟨dall_len d1 (l ρ), fun p np => by
    have gp := (hW.sm w1).free np
    have sn : Same G1 (upd G1 p (.tup vs)) := same_new gp
    exact q _ _ _ (s1.trans sn) (hW.new w1 np) (.tup (SqT.of upd_same) (DpAll.mono sn d1))⟩⟩
theorem pd_lst {es : List Expr} {pos : Pos} {as : List (Nat × TE)} {Ds : (Nat → PyData) → List PyData} (h : PA X es (tDs K as Ds)) (l : ∀ ρ, (Ds ρ).length ≤ 100000 := by exact fun _ => Nat.le_of_ble_eq_true rfl) : PE X (.List es pos) (tD K as fun ρ => .list (Ds ρ)) :=
  pd_imp (pe_lst h) fun σ H Q ⟨W, hW, ρ, G, w, acc, q⟩ => ⟨W, hW, ρ, G, w, acc, fun vs G1 H1 s1 w1 d1 => ⟨dall_len d1 (l ρ), fun p np => by
    have gp := (hW.sm w1).free np
    have sn : Same G1 (upd G1 p (.lst vs)) := same_new gp
    exact q _ _ _ (s1.trans sn) (hW.new w1 np) (.lst (SqL.of upd_same) (DpAll.mono sn d1))⟩⟩
theorem dpa_app {H : Hp} : ∀ {vs us : List V} {ds es : List PyData}, DpAll K H vs ds → DpAll K H us es → DpAll K H (vs ++ us) (ds ++ es)
  | _, _, _, _, .nil, h => h
  | _, _, _, _, .cons a t, h => .cons a (dpa_app t h)
theorem dpa_rep {H : Hp} {vs : List V} {ds : List PyData} (h : DpAll K H vs ds) : ∀ n : Nat, DpAll K H (List.replicate n vs).flatten (List.replicate n ds).flatten
  | 0 => .nil
  | n + 1 => by
    rw [List.replicate_succ, List.replicate_succ, List.flatten_cons, List.flatten_cons]
    exact dpa_app h (dpa_rep h n)
/-- (e, ..) * n -/
theorem pd_rep (hK : X.K = K) {es : List Expr} {k j : Nat} {p1 p2 p3 : Pos} {n : Int} {as : List (Nat × TE)} {Ds : (Nat → PyData) → List PyData} (h : PA X es (tDs K as Ds)) (hn : 2 ≤ n ∧ n ≤ 1000 := by decide) (l1 : ∀ ρ, 1 ≤ (Ds ρ).length := by exact fun _ => Nat.le_of_ble_eq_true rfl) (l2 : ∀ ρ, (Ds ρ).length ≤ 1000 := by exact fun _ => Nat.le_of_ble_eq_true rfl) :
    PE X (.BinOp (.Tuple es k p1) .Mult (.Constant (.int n) j p2) p3) (tD K as fun ρ => .tuple (List.replicate n.toNat (Ds ρ)).flatten) :=
  pd_imp (pe_op (op_repT_K hK) (pe_tup h) pe_int) fun σ H Q ⟨W, hW, ρ, G, w, acc, q⟩ => ⟨W, hW, ρ, G, w, acc, fun vs G1 H1 s1 w1 d1 => ⟨dall_len d1 (Nat.le_trans (l2 ρ) (by decide)), fun p np => by
    have gp := (hW.sm w1).free np
    have sn : Same G1 (upd G1 p (.tup vs)) := same_new gp
    have lv := DpAll.length d1
    have l1 := l1 ρ
    have l2 := l2 ρ
    refine ⟨p, n, vs, rfl, rfl, SqT.of upd_same, fun z => ?_, hn.1, hn.2, by omega, fun p2 np2 => ?_⟩
    · rw [z] at lv
      have lv : 0 = (Ds ρ).length := lv
      omega
    have w2 := hW.new (o := .tup vs) w1 np
    have gp2 := (hW.sm w2).free np2
    have sn2 : Same (upd G1 p (.tup vs)) (upd (upd G1 p (.tup vs)) p2 (.tup (List.replicate n.toNat vs).flatten)) := same_new gp2
    exact q _ _ _ (s1.trans (sn.trans sn2)) (hW.new w2 np2) (.tup (SqT.of upd_same) (DpAll.mono (sn.trans sn2) (dpa_rep d1 _)))⟩⟩
end
/-- x + [..], x a list of data -/
theorem dcat_step {K : PySem.W.Frag} {W : Hp → Hp → Prop} {as : List (Nat × TE)} {Ds : (Nat → PyData) → List PyData} {σ : L2.St} {G H : Hp} {Q : VK} {i : Nat} {l : Addr} {xs : List V} {ds : List PyData} (ρ : Nat → PyData) (hW : Wo W) (w : W G H) (hi : σ[i]? = some (some (.ref l))) (hl : G l = some (.lst xs)) (hd : DpAll K G xs ds)
    (acc : ∀ p ∈ as, AccW K W p.2 σ G (ρ p.1)) (n1 : ds.length ≤ 1000) (n2 : (Ds ρ).length ≤ 1000)
    (q : ∀ (p : Addr) (zs : List V) (G' H' : Hp), Same G G' → W G' H' → G p = none → G' p = some (.lst zs) → DpAll K G' zs (ds ++ Ds ρ) → Q (.ref p) H') : tOp rCat (tVar i) (tLst (tDs K as Ds)) σ H Q := by
  refine ⟨_, hi, W, hW, ρ, G, w, acc, fun vs G1 H1 s1 w1 d1 => ⟨dall_len d1 (Nat.le_trans n2 (by decide)), fun p np => ?_⟩⟩
  have gp := (hW.sm w1).free np
  have sn : Same G1 (upd G1 p (.lst vs)) := same_new gp
  have w2 := hW.new (o := .lst vs) w1 np
  have lx := DpAll.length hd
  have lv := DpAll.length d1
  refine ⟨l, p, xs, vs, rfl, rfl, hW.sm w2 _ _ (sn _ _ (s1 _ _ hl)), upd_same, le_line (by omega), fun p2 np2 => ?_⟩
  have gp2 := (hW.sm w2).free np2
  have sn2 : Same (upd G1 p (.lst vs)) (upd (upd G1 p (.lst vs)) p2 (.lst (xs ++ vs))) := same_new gp2
  have sa := s1.trans (sn.trans sn2)
  exact q p2 (xs ++ vs) _ _ sa (hW.new w2 np2) ((s1.trans sn).free gp2) upd_same (dpa_app (DpAll.mono sa hd) (DpAll.mono (sn.trans sn2) d1))
/-- [..] of data -/
theorem dlst_step {K : PySem.W.Frag} {W : Hp → Hp → Prop} {as : List (Nat × TE)} {Ds : (Nat → PyData) → List PyData} {σ : L2.St} {G H : Hp} {Q : VK} (ρ : Nat → PyData) (hW : Wo W) (w : W G H)
    (acc : ∀ p ∈ as, AccW K W p.2 σ G (ρ p.1)) (n2 : (Ds ρ).length ≤ 1000)
    (q : ∀ (p : Addr) (zs : List V) (G' H' : Hp), Same G G' → W G' H' → G p = none → G' p = some (.lst zs) → DpAll K G' zs (Ds ρ) → Q (.ref p) H') : tLst (tDs K as Ds) σ H Q := by
  refine ⟨W, hW, ρ, G, w, acc, fun vs G1 H1 s1 w1 d1 => ⟨dall_len d1 (Nat.le_trans n2 (by decide)), fun p np => ?_⟩⟩
  have gp := (hW.sm w1).free np
  have sn : Same G1 (upd G1 p (.lst vs)) := same_new gp
  exact q p vs _ _ (s1.trans sn) (hW.new w1 np) (s1.free gp) upd_same (DpAll.mono sn d1)
/-- x + [y], y made -/
theorem dcat_one {K : PySem.W.Frag} {W : Hp → Hp → Prop} {G H : Hp} {Q : VK} {l : Addr} {xs : List V} {ds : List PyData} {y : V} {d : PyData} (hW : Wo W) (w : W G H) (hl : G l = some (.lst xs)) (hd : DpAll K G xs ds) (hy : Dp K G y d) (n1 : ds.length ≤ 1000)
    (q : ∀ (p : Addr) (zs : List V) (G' H' : Hp), Same G G' → W G' H' → G p = none → G' p = some (.lst zs) → DpAll K G' zs (ds ++ [d]) → Q (.ref p) H') : [y].length ≤ sizeLine ∧ ∀ p, H p = none → rCat (.ref l) (.ref p) (upd H p (.lst [y])) Q := by
  refine ⟨(by show 1 ≤ sizeLine; decide), fun p np => ?_⟩
  have gp := (hW.sm w).free np
  have sn : Same G (upd G p (.lst [y])) := same_new gp
  have w2 := hW.new (o := .lst [y]) w np
  have lx := DpAll.length hd
  refine ⟨l, p, xs, [y], rfl, rfl, hW.sm w2 _ _ (sn _ _ hl), upd_same, le_line (by show xs.length + 1 ≤ _; omega), fun p2 np2 => ?_⟩
  have gp2 := (hW.sm w2).free np2
  have sn2 : Same (upd G p (.lst [y])) (upd (upd G p (.lst [y])) p2 (.lst (xs ++ [y]))) := same_new gp2
  have sa := sn.trans sn2
  exact q p2 (xs ++ [y]) _ _ sa (hW.new w2 np2) (sn.free gp2) upd_same (dpa_app (DpAll.mono sa hd) (.cons (Dp.mono sa hy) .nil))
theorem dpa_mem {K : PySem.W.Frag} {H : Hp} {xs : List V} {ds : List PyData} (h : DpAll K H xs ds) {x : V} (m : x ∈ xs) : ∃ d ∈ ds, Dp K H x d := by
  obtain ⟨i, hi⟩ := List.mem_iff_getElem?.mp m
  obtain ⟨d, e1, e2⟩ := DpAll.get h hi
  exact ⟨d, List.mem_of_getElem? e1, e2⟩
/-- one drawn of data -/
theorem any_of {K : PySem.W.Frag} {b l p : Addr} {G H : Hp} {zs : List V} {ds : List PyData} {Q : VK} (w : Wd b l G H) (hp : G p = some (.lst zs)) (hd : DpAll K G zs ds) (n1 : 1 ≤ ds.length) (n2 : ds.length ≤ 100000)
    (q : ∀ (y : V) (d : PyData) (H' : Hp), Wd b l G H' → Dp K G y d → d ∈ ds → Q y H') : spAny K [.ref b, .ref p] H Q E0 := by
  have lz := DpAll.length hd
  refine ⟨b, l, p, G, zs, rfl, .inl (SqL.of hp), fun z => ?_, by omega, w, fun x H' hx w' => ?_⟩
  · rw [z] at lz
    have lz : 0 = ds.length := lz
    omega
  · obtain ⟨d, m, h⟩ := dpa_mem hd hx
    exact q x d H' w' h m
theorem acc_nil {P : Nat × TE → Prop} : ∀ p ∈ ([] : List (Nat × TE)), P p := fun _ h => nomatch h
theorem acc_one {P : Nat × TE → Prop} {x : Nat × TE} (h : P x) : ∀ p ∈ [x], P p := fun p hp => by
  rw [List.mem_singleton.mp hp]
  exact h
theorem acc_app {P : Nat × TE → Prop} {as bs : List (Nat × TE)} (h1 : ∀ p ∈ as, P p) (h2 : ∀ p ∈ bs, P p) : ∀ p ∈ as ++ bs, P p := fun p hp => (List.mem_append.mp hp).elim (h1 p) (h2 p)
/-- x + [y, ..], these made -/
theorem dcat_vs {K : PySem.W.Frag} {W : Hp → Hp → Prop} {G H : Hp} {Q : VK} {l : Addr} {xs ys : List V} {ds es : List PyData} (hW : Wo W) (w : W G H) (hl : G l = some (.lst xs)) (hd : DpAll K G xs ds) (hy : DpAll K G ys es) (n1 : ds.length ≤ 1000) (n2 : es.length ≤ 1000)
    (q : ∀ (p : Addr) (zs : List V) (G' H' : Hp), Same G G' → W G' H' → G p = none → G' p = some (.lst zs) → DpAll K G' zs (ds ++ es) → Q (.ref p) H') : ys.length ≤ sizeLine ∧ ∀ p, H p = none → rCat (.ref l) (.ref p) (upd H p (.lst ys)) Q := by
  have lx := DpAll.length hd
  have ly := DpAll.length hy
  refine ⟨le_line (by omega), fun p np => ?_⟩
  have gp := (hW.sm w).free np
  have sn : Same G (upd G p (.lst ys)) := same_new gp
  have w2 := hW.new (o := .lst ys) w np
  refine ⟨l, p, xs, ys, rfl, rfl, hW.sm w2 _ _ (sn _ _ hl), upd_same, le_line (by omega), fun p2 np2 => ?_⟩
  have gp2 := (hW.sm w2).free np2
  have sn2 : Same (upd G p (.lst ys)) (upd (upd G p (.lst ys)) p2 (.lst (xs ++ ys))) := same_new gp2
  have sa := sn.trans sn2
  exact q p2 (xs ++ ys) _ _ sa (hW.new w2 np2) (sn.free gp2) upd_same (dpa_app (DpAll.mono sa hd) (DpAll.mono sa hy))
/-- t + (z,), t a tuple of data -/
theorem acc_catT {K : PySem.W.Frag} {W : Hp → Hp → Prop} (hW : Wo W) {σ : L2.St} {G : Hp} {i : Nat} {a : Addr} {xs : List V} {ds : List PyData} {z : Str} (e : σ[i]? = some (some (.ref a))) (h : SqT K G a xs) (hd : DpAll K G xs ds) (n0 : 1 ≤ ds.length) (n1 : ds.length ≤ 1000) :
    AccW K W (tOp (rCatA K) (tVar i) (tTup (tCons (tC (.str z)) tNil))) σ G (.tuple (ds ++ [.str z])) := fun G' H' Q s w k => by
  refine ⟨_, e, (by show 1 ≤ sizeLine; decide), fun p np => ?_⟩
  have lx := DpAll.length hd
  have gp := (hW.sm w).free np
  have sn : Same G' (upd G' p (.tup [.str z])) := same_new gp
  have w2 := hW.new (o := .tup [.str z]) w np
  refine ⟨a, p, xs, [.str z], rfl, rfl, Same.tup (s.trans (sn.trans (hW.sm w2))) h, SqT.of upd_same, le_line (by show xs.length + 1 ≤ _; omega), fun z => ?_, (fun _ z => nomatch z), fun _ _ p2 np2 => ?_⟩
  · rw [z] at lx
    have lx : 0 = ds.length := lx
    omega
  have gp2 := (hW.sm w2).free np2
  have sn2 : Same (upd G' p (.tup [.str z])) (upd (upd G' p (.tup [.str z])) p2 (.tup (xs ++ [.str z]))) := same_new gp2
  exact k _ _ _ (sn.trans sn2) (hW.new w2 np2) (.tup (SqT.of upd_same) (dpa_app (DpAll.mono (s.trans (sn.trans sn2)) hd) (.cons (.str z) .nil)))
theorem cutV_neg1 (xs : List V) (h : 1 ≤ xs.length) : HT.sIx xs.length xs.length (some (-1)) = xs.length - 1 ∧ cutV xs none (some (-1)) = xs.take (xs.length - 1) := by
  have e : HT.sIx xs.length xs.length (some (-1)) = xs.length - 1 := by
    show (if (-1 : Int) < 0 then ((-1 : Int) + (xs.length : Int)).toNat else min (-1 : Int).toNat xs.length) = _
    rw [if_pos (by decide)]
    omega
  refine ⟨e, ?_⟩
  unfold cutV
  rw [e, HT.sIx_none]
  rfl
/-- t[:-1] + (z,) -/
theorem acc_cutT {K : PySem.W.Frag} {W : Hp → Hp → Prop} (hW : Wo W) {σ : L2.St} {G : Hp} {i : Nat} {a : Addr} {xs : List V} {ds : List PyData} {z : Str} (e : σ[i]? = some (some (.ref a))) (h : SqT K G a xs) (hd : DpAll K G xs ds) (n0 : 1 ≤ ds.length) (n1 : ds.length ≤ 1000) :
    AccW K W (tOp (rCatA K) (tSl (rSlA K) (tVar i) tNoPart (tPart (tUn (rU fun i => V.int (-i)) (tC (.int 1))))) (tTup (tCons (tC (.str z)) tNil))) σ G (.tuple (ds.take (ds.length - 1) ++ [.str z])) := fun G' H' Q s w k => by
  have lx := DpAll.length hd
  obtain ⟨e1, e2⟩ := cutV_neg1 xs (by omega)
  refine ⟨_, e, (1 : Int), rfl, -1, rfl, a, xs, rfl, Same.tup (s.trans (hW.sm w)) h, fun zz => ?_, fun _ p0 np0 => ?_⟩
  · have := zz.2
    rw [e1] at this
    omega
  rw [e2]
  have gp0 := (hW.sm w).free np0
  have s0 : Same G' (upd G' p0 (.tup (xs.take (xs.length - 1)))) := same_new gp0
  have w0 := hW.new (o := .tup (xs.take (xs.length - 1))) w np0
  refine ⟨(by show 1 ≤ sizeLine; decide), fun p np => ?_⟩
  have gp := (hW.sm w0).free np
  have sn := same_new (o := .tup [.str z]) gp
  have w2 := hW.new (o := .tup [.str z]) w0 np
  have ht := sn _ _ (upd_same (H := G') (a := p0) (o := .tup (xs.take (xs.length - 1))))
  have dt := DpAll.take (xs.length - 1) (DpAll.mono (s.trans (s0.trans sn)) hd)
  rw [lx] at dt ht
  rw [lx]
  refine ⟨p0, p, xs.take (ds.length - 1), [.str z], rfl, rfl, SqT.of (by rw [← lx] at ht ⊢; exact hW.sm w2 _ _ ht), SqT.of upd_same, le_line (by rw [List.length_take]; show min _ _ + 1 ≤ _; omega), fun zz => ?_, (fun _ z => nomatch z), fun _ _ p2 np2 => ?_⟩
  · have d0 : ds.take (ds.length - 1) = [] := by
      have := DpAll.length dt
      rw [zz] at this
      exact List.eq_nil_of_length_eq_zero this.symm
    rw [d0] at k
    refine k _ _ _ (s0.trans sn) (by rw [← lx] at *; exact w2) (.tup (SqT.of upd_same) (.cons (.str z) .nil))
  have w2' : W (upd (upd G' p0 (.tup (xs.take (ds.length - 1)))) p (.tup [.str z])) (upd (upd H' p0 (.tup (xs.take (ds.length - 1)))) p (.tup [.str z])) := by
    rw [← lx]
    exact w2
  have s0' : Same G' (upd (upd G' p0 (.tup (xs.take (ds.length - 1)))) p (.tup [.str z])) := by
    rw [← lx]
    exact s0.trans sn
  have gp2 := (hW.sm w2').free np2
  have sn2 : Same (upd (upd G' p0 (.tup (xs.take (ds.length - 1)))) p (.tup [.str z])) (upd (upd (upd G' p0 (.tup (xs.take (ds.length - 1)))) p (.tup [.str z])) p2 (.tup (xs.take (ds.length - 1) ++ [.str z]))) := same_new gp2
  exact k _ _ _ (s0'.trans sn2) (hW.new w2' np2) (.tup (SqT.of upd_same) (dpa_app (DpAll.take _ (DpAll.mono (s.trans (s0'.trans sn2)) hd)) (.cons (.str z) .nil)))
end Bh

set_option Elab.async false
set_option linter.all false
set_option maxRecDepth 100000
set_option maxHeartbeats 1000000
namespace Bh
open PySem PySem.Spec PyProof.Rows L2 LamX
/-! ### the written texts -/
abbrev wA : Str := "cell a k\n"
abbrev wB : Str := "cell b k.2\n"
abbrev wT : Str := "tie t a a\n"
def wRows : List (Str × Nat) := [("x", 0), (wA ++ "x", 1), ("cell a k", 0), (wA ++ wA, 1), (wA ++ "cell a h\n", 1), (wA ++ wT ++ wB, 2), (wT, 0),
  (wA ++ wT ++ wT, 2), (wA ++ "tie t a b\n", 1), (wA ++ "tie t b a\n" ++ wB, 1), ("\n", 0), (wA ++ "\n", 1)]
def wGood : List Str := ["", wA, wA ++ wB, wA ++ wB ++ wT ++ "tie u a a\ntie t b a\n"]
def wS : Nat → Str
  | 0 => wA
  | 1 => wB
  | 2 => wT
  | 100 => wA ++ wT ++ wB
  | 101 => wA ++ "cell a h\n"
  | 102 => wA ++ wA
  | 103 => "cell a k"
  | 104 => wA ++ "x"
  | 105 => wA ++ "\n"
  | 106 => wA ++ "tie t b a\n" ++ wB
  | 107 => wA ++ "tie t a b\n"
  | 108 => wA ++ wT ++ wT
  | 109 => wA ++ wB ++ wT ++ "tie u a a\ntie t b a\n"
  | 110 => wA ++ wB
  | _ => ""
def dRow (r : Str × Nat) : PyData := .tuple [.str r.1, .int (r.2 : Int)]
theorem wRows_all : ∀ r ∈ wRows, readE r.1 = some r.2 ∧ r.1.length ≤ 900 := by decide +kernel
theorem wGood_all : ∀ t ∈ wGood, readE t = none ∧ t.length ≤ 900 := by decide +kernel
def AccE (t : TE) (σ : L2.St) (z : Str) : Prop := ∀ (H : Hp) (Q : VK), Q (.str z) H → t σ H Q
theorem acc_of {K : PySem.W.Frag} {t : TE} {σ : L2.St} {G : Hp} {z : Str} (h : AccE t σ z) : AccW K (fun G H => G = H) t σ G (.str z) := fun G' H' Q _ w k => h H' Q (k _ _ _ (Same.refl _) w (.str _))
theorem accE_var {σ : L2.St} {i : Nat} {z : Str} (e : σ[i]? = some (some (.str z))) : AccE (tVar i) σ z := fun H Q q => ⟨_, e, q⟩
theorem accE_c {σ : L2.St} {z : Str} : AccE (tC (.str z)) σ z := fun H Q q => q
theorem accE_add {σ : L2.St} {a b : TE} {x y : Str} (h1 : AccE a σ x) (h2 : AccE b σ y) (l : x.length + y.length ≤ 100000) : AccE (tOp (fun x y H Q => ∃ i j, x = V.str i ∧ y = V.str j ∧ i.length + j.length ≤ sizeLine ∧ Q (V.str (i ++ j)) H) a b) σ (x ++ y) :=
  fun H Q q => h1 H _ (h2 H _ ⟨_, _, rfl, rfl, le_line l, q⟩)
theorem acc_vv {σ : L2.St} {a : Nat} {x : Str} (ea : σ[a]? = some (some (.str x))){b : Nat} {y : Str} (eb : σ[b]? = some (some (.str y)))(l1 : (x).length + (y).length ≤ 100000) : AccE (tOp (fun x y H Q => ∃ i j, x = V.str i ∧ y = V.str j ∧ i.length + j.length ≤ sizeLine ∧ Q (V.str (i ++ j)) H) (tVar a) (tVar b)) σ (x ++ y) := accE_add (accE_var ea) (accE_var eb) l1
theorem acc_vc {σ : L2.St} {a : Nat} {x : Str} (ea : σ[a]? = some (some (.str x))){y : Str}(l1 : (x).length + (y).length ≤ 100000) : AccE (tOp (fun x y H Q => ∃ i j, x = V.str i ∧ y = V.str j ∧ i.length + j.length ≤ sizeLine ∧ Q (V.str (i ++ j)) H) (tVar a) (tC (.str y))) σ (x ++ y) := accE_add (accE_var ea) accE_c l1
theorem acc_cv {σ : L2.St} {b : Nat} {y : Str} (eb : σ[b]? = some (some (.str y))){x : Str}(l1 : (x).length + (y).length ≤ 100000) : AccE (tOp (fun x y H Q => ∃ i j, x = V.str i ∧ y = V.str j ∧ i.length + j.length ≤ sizeLine ∧ Q (V.str (i ++ j)) H) (tC (.str x)) (tVar b)) σ (x ++ y) := accE_add accE_c (accE_var eb) l1
theorem acc_vvv {σ : L2.St} {a : Nat} {x : Str} (ea : σ[a]? = some (some (.str x))){b : Nat} {y : Str} (eb : σ[b]? = some (some (.str y))){c : Nat} {u : Str} (ec : σ[c]? = some (some (.str u)))(l1 : (x).length + (y).length ≤ 100000)(l2 : (x ++ y).length + (u).length ≤ 100000) : AccE (tOp (fun x y H Q => ∃ i j, x = V.str i ∧ y = V.str j ∧ i.length + j.length ≤ sizeLine ∧ Q (V.str (i ++ j)) H) (tOp (fun x y H Q => ∃ i j, x = V.str i ∧ y = V.str j ∧ i.length + j.length ≤ sizeLine ∧ Q (V.str (i ++ j)) H) (tVar a) (tVar b)) (tVar c)) σ (x ++ y ++ u) := accE_add (accE_add (accE_var ea) (accE_var eb) l1) (accE_var ec) l2
theorem acc_vcv {σ : L2.St} {a : Nat} {x : Str} (ea : σ[a]? = some (some (.str x))){y : Str}{c : Nat} {u : Str} (ec : σ[c]? = some (some (.str u)))(l1 : (x).length + (y).length ≤ 100000)(l2 : (x ++ y).length + (u).length ≤ 100000) : AccE (tOp (fun x y H Q => ∃ i j, x = V.str i ∧ y = V.str j ∧ i.length + j.length ≤ sizeLine ∧ Q (V.str (i ++ j)) H) (tOp (fun x y H Q => ∃ i j, x = V.str i ∧ y = V.str j ∧ i.length + j.length ≤ sizeLine ∧ Q (V.str (i ++ j)) H) (tVar a) (tC (.str y))) (tVar c)) σ (x ++ y ++ u) := accE_add (accE_add (accE_var ea) accE_c l1) (accE_var ec) l2
theorem accE_cut {σ : L2.St} (e : σ[0]? = some (some (.str wA))) : AccE (tSl rSlS (tVar 0) tNoPart (tPart (tUn (rU fun i => V.int (-i)) (tC (V.int 1))))) σ "cell a k" :=
  fun H Q q => ⟨_, e, 1, rfl, _, rfl, wA, rfl, le_line (by decide +kernel), by
    show Q (.str (cutS wA none (some (-1)))) H
    rw [show cutS wA none (some (-1)) = "cell a k" by decide +kernel]
    exact q⟩
/-- what is known, but tables of code objects -/
def noTb (H : Hp) : Hp := fun a => match H a with
  | some (.tbl _) => none
  | o => o
theorem noTb_le {H : Hp} : Same (noTb H) H := fun a o e => by
  unfold noTb at e
  split at e
  · cases e
  · exact e
theorem noTb_at {H : Hp} {a : Addr} {o : HO} (e : H a = some o) (n : ∀ ps, o ≠ .tbl ps) : noTb H a = some o := by
  unfold noTb
  rw [e]
  cases o with
  | tbl ps => exact absurd rfl (n ps)
  | _ => rfl
theorem noTb_not {H : Hp} {a : Addr} {o : HO} (e : noTb H a = some o) : ∀ ps, o ≠ .tbl ps := fun ps z => by
  unfold noTb at e
  split at e
  · cases e
  · rename_i n
    exact n ps (z ▸ e)
/-- H' keeps what H holds, but tables of code objects and the lists at S -/
def Kp (S : List Addr) (H H' : Hp) : Prop := ∀ a o, H a = some o → (∀ ps, o ≠ .tbl ps) → (a ∈ S → ∀ xs, o ≠ .lst xs) → H' a = some o
section
variable {K : PySem.W.Frag} {S S' : List Addr} {H H1 H' : Hp} {b l p pI C x a1 a2 a3 t p1 p2 p3 : Addr} {fs : List Fld} {ts : List Tie} {ks : List Knd} {q : Str}
theorem Same.kp (e : Same H H') : Kp S H H' := fun a o h _ _ => e _ _ h
theorem Kp.trans (e : Kp S H H1) (f : Kp S H1 H') : Kp S H H' := fun a o h n m => f a o (e a o h n m) n m
theorem Kp.mono (h : ∀ a ∈ S, a ∈ S') (e : Kp S H H') : Kp S' H H' := fun a o k n m => e a o k n fun z => m (h a z)
theorem kp_tb (e : Same (noTb H) H') : Kp S H H' := fun a o h n _ => e _ _ (noTb_at h n)
theorem kp_upd {xs : List V} {o : HO} (h : H p = some (.lst xs)) (m : p ∈ S) : Kp S H (upd H p o) := fun a u k _ n => by
  rw [upd_ne (fun z => by rw [z, h] at k; exact n (z ▸ m) _ (Option.some.inj k).symm)]
  exact k
theorem kp_hid {xs : List V} (h : H p = some (.lst xs)) (m : p ∈ S) : Kp S H (hid p H) := fun a u k _ n => by
  rw [hid_ne (fun z => by rw [z, h] at k; exact n (z ▸ m) _ (Option.some.inj k).symm)]
  exact k
theorem Kp.lst {xs : List V} (e : Kp S H H') (h : H p = some (.lst xs)) (n : p ∉ S) : H' p = some (.lst xs) := e _ _ h (fun _ z => nomatch z) fun m => absurd m n
theorem Kp.tup {xs : List V} (e : Kp S H H') (h : H p = some (.tup xs)) : H' p = some (.tup xs) := e _ _ h (fun _ z => nomatch z) fun _ _ z => nomatch z
theorem Kp.ins {dx : Addr} {gs : List (Str × V)} (e : Kp S H H') (h : H p = some (.ins C dx gs)) : H' p = some (.ins C dx gs) := e _ _ h (fun _ z => nomatch z) fun _ _ z => nomatch z
theorem Kp.imm (e : Kp S H H') : Imm (noTb H) H' := fun a u h n => e _ _ (noTb_le _ _ h) (noTb_not h) fun _ => n
theorem SqL.nTb {a : Addr} {xs : List V} (h : SqL K H a xs) : SqL K (noTb H) a xs :=
  h.imp (fun h => h.imp (fun h => noTb_at h (fun _ z => nomatch z)) fun ⟨o, h⟩ => ⟨o, noTb_at h (fun _ z => nomatch z)⟩) id
theorem SqT.nTb {a : Addr} {xs : List V} (h : SqT K H a xs) : SqT K (noTb H) a xs :=
  h.imp (fun h => h.imp (fun h => noTb_at h (fun _ z => nomatch z)) fun ⟨o, h⟩ => ⟨o, noTb_at h (fun _ z => nomatch z)⟩) id
end
mutual
theorem Dp.nTb {K : PySem.W.Frag} {H : Hp} : ∀ {v : V} {d : PyData}, Dp K H v d → Dp K (noTb H) v d
  | _, _, .non => .non
  | _, _, .bl b => .bl b
  | _, _, .int i => .int i
  | _, _, .str x => .str x
  | _, _, .lst h all => .lst (SqL.nTb h) (DpAll.nTb all)
  | _, _, .tup h all => .tup (SqT.nTb h) (DpAll.nTb all)
theorem DpAll.nTb {K : PySem.W.Frag} {H : Hp} : ∀ {vs : List V} {ds : List PyData}, DpAll K H vs ds → DpAll K (noTb H) vs ds
  | _, _, .nil => .nil
  | _, _, .cons h t => .cons (Dp.nTb h) (DpAll.nTb t)
end
section
variable {K : PySem.W.Frag} {S S' : List Addr} {H H1 H' : Hp} {b l p pI C x a1 a2 a3 t p1 p2 p3 : Addr} {fs : List Fld} {ts : List Tie} {ks : List Knd} {q : Str}
theorem Kp.dps {α : Type} {f : α → PyData} (e : Kp S H H') (n : ∀ x, noL (f x) = true) {ys : List V} {xs : List α} (h : DpAll K H ys (xs.map f)) : DpAll K H' ys (xs.map f) := DpAll.imm e.imm (noLs_map n xs) (DpAll.nTb h)
end
theorem noTb_mono {H H' : Hp} (s : Same H H') : Same (noTb H) (noTb H') := fun a o e => noTb_at (s _ _ (noTb_le _ _ e)) (noTb_not e)
section
variable {K : PySem.W.Frag} {S S' : List Addr} {H H1 H' : Hp} {b l p pI C x a1 a2 a3 t p1 p2 p3 : Addr} {q : Str}
theorem BagAt.kp (h : BagAt b l H) (e : Kp S H H') (nb : b ∉ S) (nl : l ∉ S) : BagAt b l H' := by
  obtain ⟨ns, i, c, s, h1, h2, r⟩ := h
  exact ⟨ns, i, c, s, e.lst h1 nb, e.lst h2 nl, r⟩
theorem BagAt.ne (h : BagAt b l H) : b ≠ l := fun z => by
  obtain ⟨ns, i, c, s, h1, h2, r⟩ := h
  rw [z, h2] at h1
  cases ns with
  | nil => cases h1
  | cons n ns => cases h1
theorem tab_hidL {xs : List V} (t : TabS H pI q) (h : H p = some (.lst xs)) : TabS (hid p H) pI q := by
  obtain ⟨ps, h1, h2, h3⟩ := t
  refine ⟨ps, ?_, h2, fun pos cv hc => ?_⟩
  · rw [hid_ne (fun z => by rw [z, h] at h1; cases h1)]
    exact h1
  · obtain ⟨c, e1, e2⟩ := h3 pos cv hc
    refine ⟨c, e1, ?_⟩
    rw [hid_ne (fun z => by rw [z, h] at e2; unfold CodeO at e2; cases e2)]
    exact e2
theorem tab_updL {xs : List V} {o : HO} (t : TabS H pI q) (h : H p = some (.lst xs)) : TabS (upd H p o) pI q := by
  obtain ⟨ps, h1, h2, h3⟩ := t
  refine ⟨ps, ?_, h2, fun pos cv hc => ?_⟩
  · rw [upd_ne (fun z => by rw [z, h] at h1; cases h1)]
    exact h1
  · obtain ⟨c, e1, e2⟩ := h3 pos cv hc
    refine ⟨c, e1, ?_⟩
    rw [upd_ne (fun z => by rw [z, h] at e2; unfold CodeO at e2; cases e2)]
    exact e2
/-- all that is known but the bag -/
def noBag (b l : Addr) (H : Hp) : Hp := hid b (hid l H)
theorem BagAt.wd (h : BagAt b l H) : Wd b l (noBag b l H) H := by
  refine ⟨if_pos rfl, ?_, hid_le.trans hid_le, h⟩
  unfold noBag
  rw [hid_comm]
  exact if_pos rfl
theorem BagAt.kpB (h : BagAt b l H) : Kp [b, l] H (noBag b l H) := by
  have ne := h.ne
  obtain ⟨ns, i, c, s, h1, h2, r⟩ := h
  exact (kp_hid h2 (by simp)).trans (kp_hid (p := b) (by rw [hid_ne ne]; exact h1) (by simp))
theorem tab_noBag (t : TabS H pI q) (h : BagAt b l H) : TabS (noBag b l H) pI q := by
  have ne := h.ne
  obtain ⟨ns, i, c, s, h1, h2, r⟩ := h
  exact tab_hidL (tab_hidL t h2) (by rw [hid_ne ne]; exact h1)
/-- after a draw -/
theorem draw_kp {G' : Hp} (h : BagAt b l H) (s : Same (Bh.noBag b l H) G') (w : Wd b l G' H') : Kp [b, l] H H' := h.kpB.trans (Same.kp (Same.trans s w.sm))
theorem draw_tab {G' : Hp} (t : TabS H pI q) (h : BagAt b l H) (s : Same (Bh.noBag b l H) G') (w : Wd b l G' H') : TabS H' pI q := (tab_noBag t h).ext (Same.trans s w.sm)
theorem tabs_hidL {TL : List (Addr × Str)} {p : Addr} {xs : List V} (t : Tabs TL H) (h : H p = some (.lst xs)) : Tabs TL (hid p H) := fun a ha => tab_hidL (t a ha) h
theorem tabs_updL {TL : List (Addr × Str)} {p : Addr} {xs : List V} {o : HO} (t : Tabs TL H) (h : H p = some (.lst xs)) : Tabs TL (upd H p o) := fun a ha => tab_updL (t a ha) h
theorem draws_tab {TL : List (Addr × Str)} {G' : Hp} (t : Tabs TL H) (h : BagAt b l H) (s : Same (Bh.noBag b l H) G') (w : Wd b l G' H') : Tabs TL H' := fun a ha => draw_tab (t a ha) h s w
end
/-! ### questions told -/
theorem extn_nTb {H H' : Hp} (e : ExtN H H') : Same (noTb H) (noTb H') := fun a o h => noTb_at (e _ _ (noTb_le _ _ h) (noTb_not h)) (noTb_not h)
/-- what is told of a text -/
def dEr (r : Option Nat) (z : Str) : PyData := match r with
  | some i => .tuple [.str "InvalidNetwork", .int (i : Nat)]
  | none => .tuple [.str "value", .str z]
section
variable {K : PySem.W.Frag} {mg : Str → Option Value} {TL : List (Addr × Str)} {H : Hp} {Q : VK}
theorem told_gen (T : Top K mg) (tb : Tabs TL H) {r : Option Nat} {z : Str} {tl : XK → Hp → VK → Prop}
    (htl : ∀ (E : XK) (Q' : VK), (∀ i, r = some i → ErR H E T.r_InvalidNetwork.c i) → (r = none → ∀ H2, Same H H2 → Q' (.str z) H2) → tl E H Q')
    (q : ∀ (H2 : Hp) (p : Addr), Same (noTb H) H2 → Tabs TL H2 → Dp K H2 (.ref p) (dEr r z) → Q (.ref p) H2) : TTryE K T.cBE T.cMS exPairs tl H Q := by
  refine ⟨fun cls d H2 => ∃ (dd : Addr) (i : Nat), cls = .ref T.r_InvalidNetwork.c ∧ d = some dd ∧ r = some i ∧ Same (noTb H) H2 ∧ Tabs TL H2 ∧ H2 dd = some (.xd [("code", .str "InvalidNetwork"), ("line", .int (i : Nat))]),
    fun v H2 => v = .str z ∧ r = none ∧ Same (noTb H) H2 ∧ Tabs TL H2, htl _ _ (fun i e dd H2 s ed => ⟨dd, i, rfl, rfl, e, noTb_le.trans s, tb.ext s, ed⟩) (fun e H2 s => ⟨rfl, e, noTb_le.trans s, tb.ext s⟩), ?_, ?_⟩
  · rintro cls d H2 ⟨dd, i, rfl, rfl, rfl, s, t2, ed⟩
    exact ⟨_, dd, _, _, _, rfl, rfl, ed, T.e_InvalidNetwork, by simp, fun H3 p s3 hp => q H3 p (s.trans s3) (t2.ext s3) (.tup (SqT.of hp) (.cons (.str _) (.cons (.int _) .nil)))⟩
  · rintro v H2 ⟨rfl, rfl, s, t2⟩ p np
    exact q _ p (s.trans (same_new np)) (t2.ext (same_new np)) (.tup (SqT.of upd_same) (.cons (.str _) (.cons (.str _) .nil)))
theorem tlam_gen (T : Top K mg) {r : Option Nat} {z : Str} {t : XK → TE} {σ : L2.St} (tb : Tabs TL H)
    (htl : ∀ (H1 : Hp) (E : XK) (Q' : VK), Same (noTb H) (noTb H1) → Tabs TL H1 → (∀ i, r = some i → ErR H1 E T.r_InvalidNetwork.c i) → (r = none → ∀ H2, Same H1 H2 → Q' (.str z) H2) → t E σ H1 Q')
    (q : ∀ (H2 : Hp) (p : Addr), Same (noTb H) H2 → Tabs TL H2 → Dp K H2 (.ref p) (dEr r z) → Q (.ref p) H2) : LamX.tLam TL (TTryE K T.cBE T.cMS exPairs) t σ H Q :=
  ⟨tb, fun H1 e tb1 => told_gen T tb1 (fun E Q' a b => htl H1 E Q' (extn_nTb e) tb1 a b) fun H2 p s t2 d => q H2 p ((extn_nTb e).trans s) t2 d⟩
theorem noL_dEr (x : Option Nat × Str) : noL (dEr x.1 x.2) = true := by
  obtain ⟨r, z⟩ := x
  cases r <;> rfl
/-- one more told, at the list D's end -/
theorem told_more {H2 : Hp} {D p : Addr} {ys : List V} {es : List (Option Nat × Str)} {e : Option Nat × Str} (hD : H2 D = some (.lst ys)) (hY : DpAll K H2 ys (es.map fun x => dEr x.1 x.2)) (hp : Dp K H2 (.ref p) (dEr e.1 e.2)) :
    DpAll K (upd H2 D (.lst (ys ++ [.ref p]))) (ys ++ [.ref p]) ((es ++ [e]).map fun x => dEr x.1 x.2) := by
  have k : Kp [D] H2 (upd H2 D (.lst (ys ++ [.ref p]))) := kp_upd hD (by simp)
  have a : DpAll K H2 (ys ++ [.ref p]) ((es ++ [e]).map fun x => dEr x.1 x.2) := by
    rw [List.map_append]
    exact DpAll.append hY (.cons hp .nil)
  exact k.dps noL_dEr a
theorem dp_row {K : PySem.W.Frag} {H : Hp} {v : V} {r : Str × Nat} (h : Dp K H v (dRow r)) : ∃ a, v = .ref a ∧ SqT K H a [.str r.1, .int (r.2 : Int)] := by
  cases h with
  | @tup a xs ds h1 h2 =>
    cases h2 with
    | cons a1 r1 =>
    cases r1 with
    | cons a2 r2 =>
    cases r2
    cases a1
    cases a2
    exact ⟨_, rfl, h1⟩
theorem sh_pair {n : Nat} {a b : PyData} (ha : Sh n a) (hb : Sh n b) : Sh (n + 1) (.tuple [a, b]) := .tup (by show 2 ≤ 100000; decide) fun d h => by
  simp only [List.mem_cons, List.not_mem_nil, or_false] at h
  rcases h with rfl | rfl
  · exact ha
  · exact hb
theorem sh_dEr {n : Nat} (x : Option Nat × Str) : Sh (n + 1) (dEr x.1 x.2) := by
  obtain ⟨r, z⟩ := x
  cases r with
  | some i => exact sh_pair .str .int
  | none => exact sh_pair .str .str
end
end Bh

set_option Elab.async false
set_option linter.all false
set_option maxRecDepth 100000
set_option maxHeartbeats 1000000
namespace Bh
open PySem PySem.Spec PyProof.Rows L2
/-- a text some times -/
theorem op_mul_str {X : Cx} : OpR X (binaryOp .Mult) (fun x y H Q => ∃ (i : Str) (n : Int), x = .str i ∧ y = .int n ∧ MulOk i n ∧ Q (.str (Txt.mul i n)) H) := by
  intro pins s σ H x y v u Q I rx ry h
  obtain ⟨i, n, rfl, rfl, hz, q⟩ := h
  obtain ⟨t, rfl⟩ := rx
  obtain ⟨t', rfl⟩ := ry
  exact SB.mul hz fun t' tk => ⟨.str (Txt.mul i n), H, I.tok _, ⟨_, rfl⟩, q⟩
end Bh

set_option Elab.async false
set_option linter.all false
set_option maxRecDepth 100000
set_option maxHeartbeats 1000000
set_option autoImplicit false
namespace Bh
open PySem PySem.Spec PyProof.Rows L2
theorem nm_kd {k : Str} (h : IsNm k) : KdOk k := by
  refine ⟨?_, h.ok.2⟩
  unfold kindB
  rw [if_neg]
  · exact h.word
  · intro e
    obtain ⟨p, hp, ep⟩ := List.any_eq_true.mp e
    have m : 46 ∈ TL.tl k := ends_mem ep (by
      have : ∀ p ∈ ends3, 46 ∈ TL.tl p := by decide +kernel
      exact this p hp)
    exact absurd (h.az 46 m).1 (by decide)
theorem dp_head {K : PySem.W.Frag} {H : Hp} {v : V} {s : Str} {ds : List PyData} (h : Dp K H v (.tuple (.str s :: ds))) : ∃ (a : Addr) (ys : List V), v = .ref a ∧ SqT K H a (.str s :: ys) := by
  obtain ⟨a, ys, rfl, h1, h2⟩ := dp_tup h
  cases h2 with
  | cons e r =>
    cases e
    exact ⟨a, _, rfl, h1⟩
theorem good_of {cs : List Cl} {ts : List Ti} (c : CsOk cs) (t : TsOk cs ts) : GoodN (cs, ts) := ⟨c.nd, fun x hx => ⟨(c.nm x hx).1.1, (c.nm x hx).2.1⟩, t.nd, fun x hx => ⟨(t.nm x hx).1.1, (t.nm x hx).2⟩⟩
theorem good_cs {D : Nt} (g : GoodN D) (few : D.1.length ≤ 1000) : CsOk D.1 := ⟨g.cnd, fun c hc => by
  have h := g.cnm c hc
  exact ⟨⟨h.1, by have := (word_len h.1).2; omega⟩, h.2, by have := kind_len h.2; omega⟩, few⟩
theorem good_ts {D : Nt} (g : GoodN D) (few : D.2.length ≤ 1000) : TsOk D.1 D.2 := ⟨g.tnd, fun t ht => by
  have h := g.tnm t ht
  exact ⟨⟨h.1, by have := (word_len h.1).2; omega⟩, h.2⟩, few⟩
def spNet (K : PySem.W.Frag) : Sp := fun vs H Q _ => ∃ (b l m p1 p2 p3 : Addr) (G : Hp) (y2 y3 : List V) (tn : List Tie) (ks : List Knd), vs = [.ref b, .ref m, .int 8] ∧ Wd b l G H ∧ G m = some (.tup [.ref p1, .ref p2, .ref p3]) ∧ G p2 = some (.lst y2) ∧ G p3 = some (.lst y3) ∧
  DpAll K G y2 (tn.map dTie) ∧ DpAll K G y3 (ks.map dKnd) ∧ 1 ≤ tn.length ∧ tn.length ≤ 4 ∧ (∀ t ∈ tn, IsNm t.1) ∧ 1 ≤ ks.length ∧ ks.length ≤ 3 ∧ (∀ k ∈ ks, IsNm k.name) ∧
  ∀ (G' H' : Hp) (v : V) (cs : List Cl) (ts : List Ti), Same G G' → Wd b l G' H' → WebAt K G' v cs ts → GoodN (cs, ts) → cs.length ≤ 8 → ts.length ≤ 16 → Q v H'
section
variable {P : Program} {w : World} {K : PySem.W.Frag} {mg : Str → Option Value} {base : Heap}
theorem any_name {b l p : Addr} {G H : Hp} {zs : List V} {α : Type} {f : α → PyData} {nm : α → Str} {xs : List α} {Q : VK} (w : Wd b l G H) (hp : G p = some (.lst zs)) (hd : DpAll K G zs (xs.map f)) (hf : ∀ x, ∃ ds, f x = .tuple (.str (nm x) :: ds)) (h1 : 1 ≤ xs.length) (h2 : xs.length ≤ 1000)
    (q : ∀ (a : Addr) (ys : List V) (x : α) (H' : Hp), Wd b l G H' → x ∈ xs → SqT K G a (.str (nm x) :: ys) → Q (.ref a) H') : spAny K [.ref b, .ref p] H Q E0 := by
  have lz : zs.length = xs.length := by rw [DpAll.length hd, List.length_map]
  refine ⟨b, l, p, G, zs, rfl, .inl (SqL.of hp), (fun z => by rw [z] at lz; simp at lz; omega), by omega, w, fun y H' hy w' => ?_⟩
  obtain ⟨i, hi⟩ := List.mem_iff_getElem?.mp hy
  obtain ⟨d, e1, e2⟩ := DpAll.get hd hi
  rw [List.getElem?_map] at e1
  obtain ⟨x, hx, rfl⟩ := Option.map_eq_some_iff.mp e1
  obtain ⟨ds, ef⟩ := hf x
  rw [ef] at e2
  obtain ⟨a, ys, rfl, ha⟩ := dp_head e2
  exact q a ys x H' w' (List.mem_of_getElem? hx) ha
theorem ok_net (T : Top K mg) : FnOk P w K mg base CX0 5 T.a_l_net T.fd_l_net ["_law_bag_here", "_law_m", "_law_most"] (spNet K) := by
  have G_l_draw := ok_draw (P := P) (w := w) (base := base) T
  have G_l_any := ok_any (P := P) (w := w) (base := base) T
  have G_l_words := ok_words (P := P) (w := w) (base := base) T
  refine T.d_l_net.F.ok sc_l_net (fun vs H Q E h => ?_) (fun cdv A outer s H vs Q E hr h => ?_)
  · obtain ⟨b, l, m, p1, p2, p3, G, y2, y3, tn, ks, rfl, _⟩ := h
    rfl
  obtain ⟨b, l, m, p1, p2, p3, G, y2, y3, tn, ks, rfl, wd, gm, g2, g3, d2, d3, tn1, tn4, tnm, ks1, ks3, knm, q⟩ := h
  refine ⟨_, (pss_cons (ps_set (i := 3) sc_l_net.nd rfl (Or.inl rfl) (pe_call G_l_draw (hr.mono (by decide)) (by rfl) T.d_l_draw.g T.d_l_draw.kp T.d_l_draw.b .nil pass0 (pa_cons (pv 0) (pa_cons (pe_op op_add (pv 2) pe_int) pa_nil))))
    (pss_cons (ps_set (i := 4) sc_l_net.nd rfl (Or.inl rfl) (pe_call G_l_words (hr.mono (by decide)) (by rfl) T.d_l_words.g T.d_l_words.kp T.d_l_words.b .nil pass0 (pa_cons (pv 0) (pa_cons (pv 3) pa_nil))))
    (pss_cons (ps_setLc (i := 5) (own := [("_law_name", 9)]) rfl sc_l_net.nd rfl rfl (sw_true rfl rfl rfl (by decide +kernel)) (pi_list_K (K := K) (by rfl) (pv 4)) (blkOk_by (own := [("_law_name", 9)]) (N := ["_law_bag_here", "_law_m", "_law_most", "_law_many", "_law_names", "_law_cells_z", "_law_ties_z", "_law_k", "_law_row", "_law_name"]) (sc := defScope s_l_net) (by decide +kernel)) (fun _ _ _ _ _ => by exact (pg_name (i := 9) sc_l_net.nd rfl (Or.inl rfl))) (fun _ _ _ _ _ => by exact pts_nil) (fun _ _ _ _ _ => by exact (pe_tup (pa_cons (pv 9) (pa_cons (pe_ix (ix_tup_K (K := K) (by rfl)) (pe_call G_l_any (hr.mono (by decide)) (by rfl) T.d_l_any.g T.d_l_any.kp T.d_l_any.b .nil pass0 (pa_cons (pv 0) (pa_cons (pe_ix (ix_tup_K (K := K) (by rfl)) (pv 1) pe_int (fun _ _ => rfl)) pa_nil))) pe_int (fun _ _ => rfl)) pa_nil)))))
    (pss_cons (ps_set (i := 6) sc_l_net.nd rfl (Or.inl rfl) (pe_lst pa_nil))
    (pss_cons (ps_for PassesOwn.never rfl (pi_range1 rfl T.b_range (pa_cons (pe_call G_l_draw (hr.mono (by decide)) (by rfl) T.d_l_draw.g T.d_l_draw.kp T.d_l_draw.b .nil pass0 (pa_cons (pv 0) (pa_cons (pe_op op_add (pe_op op_mul pe_int (pv 3)) pe_int) pa_nil))) pa_nil)) (pg_name (i := 7) sc_l_net.nd rfl (Or.inl rfl))
      (pss_cons (ps_set (i := 8) sc_l_net.nd rfl (Or.inl rfl) (pe_tup (pa_cons (pe_ix (ix_tup_K (K := K) (by rfl)) (pe_call G_l_any (hr.mono (by decide)) (by rfl) T.d_l_any.g T.d_l_any.kp T.d_l_any.b .nil pass0 (pa_cons (pv 0) (pa_cons (pe_ix (ix_tup_K (K := K) (by rfl)) (pv 1) pe_int (fun _ _ => rfl)) pa_nil))) pe_int (fun _ _ => rfl)) (pa_cons (pe_call G_l_any (hr.mono (by decide)) (by rfl) T.d_l_any.g T.d_l_any.kp T.d_l_any.b .nil pass0 (pa_cons (pv 0) (pa_cons (pv 4) pa_nil))) (pa_cons (pe_call G_l_any (hr.mono (by decide)) (by rfl) T.d_l_any.g T.d_l_any.kp T.d_l_any.b .nil pass0 (pa_cons (pv 0) (pa_cons (pv 4) pa_nil))) pa_nil)))))
      (pss_one (ps_set (i := 6) sc_l_net.nd rfl (Or.inl rfl) (pe_op op_cat (pv 6) (pe_op op_rep (pe_lst (pa_cons (pv 8) pa_nil)) (pe_callTy call_int1 (by rfl) T.b_int (by decide +kernel) (pa_cons (pe_cmpR (op_notInDK (K := K) (by rfl) (r65 hr)) (pv 8) (pv 6) (by rfl)) pa_nil))))))))
    (pss_one (ps_ret (pe_tup (pa_cons (pv 5) (pa_cons (pv 6) pa_nil)))))))))), ?_⟩
  rw [show L2.start ["_law_bag_here", "_law_m", "_law_most", "_law_many", "_law_names", "_law_cells_z", "_law_ties_z", "_law_k", "_law_row", "_law_name"] [.ref b, .ref m, .int 8] = [some (.ref b), some (.ref m), some (.int 8), none, none, none, none, none, none, none] from rfl]
  refine ⟨_, rfl, _, rfl, _, _, rfl, rfl, b, l, G, _, rfl, by omega, by omega, wd, fun r H1 r0 r1 w1 => ?_⟩
  refine gn_step ?_
  refine ⟨_, rfl, _, rfl, b, l, G, r, rfl, r0, by omega, w1, fun G2 H2 pn us s2 w2 hc lus ndu nmu => ?_⟩
  have l8 : us.length ≤ 8 := by omega
  refine gn_step ?_
  refine ⟨_, rfl, pn, rfl, ⟨_, SqL.of (w2.sm _ _ hc)⟩, fun D nD => ?_⟩
  have gD := w2.free nD
  refine lc_it walk_list (fun i H' => ∃ (G' : Hp) (cs : List Cl) (vs : List V), Same G2 G' ∧ Wd b l G' H' ∧ G' D = some (.lst vs) ∧ DpAll K G' vs (cs.map dCell) ∧ cs.map (·.1) = us.take i ∧ ∀ k ∈ cs, IsNm k.2)
    ⟨_, [], [], w2.sameG nD, w2.new nD, upd_same, .nil, rfl, (fun k hk => nomatch hk)⟩ (fun i H' _ ⟨G', _, _, sg, w4, _⟩ => SqL.of (w4.sm _ _ (sg _ _ hc))) ?_ ?_
  · rintro i x H' H'' hi ⟨G', cs, vs, sg, w4, hD, hK, ek, hk⟩ ⟨rfl, ex⟩
    rw [List.getElem?_map] at ex
    obtain ⟨n, hn', rfl⟩ := Option.map_eq_some_iff.mp ex
    have s4 := s2.trans sg
    have lcs : vs.length ≤ 8 := by
      have := DpAll.length hK
      rw [List.length_map] at this
      have e2 : cs.length = (us.take i).length := by rw [← ek, List.length_map]
      rw [List.length_take] at e2
      omega
    refine ⟨rfl, _, rfl, _, rfl, _, rfl, m, _, (2 : Int), .ref p3, rfl, rfl, SqT.of (w4.sm _ _ (s4 _ _ gm)), at_nn (by decide) rfl, ?_⟩
    refine any_name (f := dKnd) (nm := Knd.name) (xs := ks) w4 (s4 _ _ g3) (DpAll.mono s4 d3) (fun x => ⟨_, rfl⟩) ks1 (by omega) (fun a ys k H5 w5 hks ha => ?_)
    refine ⟨a, _, (0 : Int), .str k.name, rfl, rfl, Same.tup w5.sm ha, at_nn (by decide) rfl, (by show 2 ≤ sizeLine; decide), fun tp ntp => ?_⟩
    have w6 := w5.new (o := .tup [.str n, .str k.name]) ntp
    have s6 := w5.sameG (o := .tup [.str n, .str k.name]) ntp
    have hD6 := s6 _ _ hD
    refine ⟨vs, w6.sm _ _ hD6, lt_line (by omega), _, cs ++ [(n, k.name)], vs ++ [.ref tp], same_mut (sg.trans s6) gD, w6.mut hD6, upd_same, ?_, ?_, ?_⟩
    · rw [List.map_append]
      exact DpAll.append (DpAll.imm (imm_upd hD6) (noLs_map (fun _ => rfl) _) (DpAll.mono s6 hK)) (.cons (.tup ((imm_upd hD6).tup (SqT.of upd_same)) (strs_dp [n, k.name])) .nil)
    · rw [List.map_append, ek, take_next hn']
      rfl
    · intro d hd
      rcases List.mem_append.mp hd with h | h
      · exact hk d h
      · have e : d = (n, k.name) := by simpa using h
        rw [e]
        exact knm k hks
  · rintro H' ⟨G', cs, vs, sg, w4, hD, hK, ek, hk⟩
    rw [List.length_map, List.take_length] at ek
    have lcs : cs.length = us.length := by rw [← ek, List.length_map]
    have okc : CsOk cs := ⟨by rw [ek]; exact ndu, fun d hd => ⟨(nmu _ (by rw [← ek]; exact List.mem_map.mpr ⟨d, hd, rfl⟩)).ok, nm_kd (hk d hd)⟩, by omega⟩
    refine gn_step ?_
    refine ⟨Nat.zero_le _, fun pt npt => ?_⟩
    have w5 := w4.new (o := .lst []) npt
    have s5 := w4.sameG (o := .lst []) npt
    refine gn_step ?_
    dsimp only [List.set]
    refine ⟨_, rfl, _, rfl, _, _, rfl, rfl, .inl ⟨by decide, by decide⟩, _, _, rfl, rfl, b, l, _, _, rfl, (by omega), (by omega), w5, fun r2 H5 y0 y1 w7 => ?_⟩
    have hc7 := s5 _ _ (sg _ _ hc)
    have hD7 := s5 _ _ hD
    have hK7 := DpAll.mono s5 hK
    have hp7 : upd G' pt (.lst []) pt = some (.lst []) := upd_same
    have sA := s2.trans (sg.trans s5)
    generalize eGA : upd G' pt (.lst []) = GA at w7 hc7 hD7 hK7 hp7 sA
    have gmA := sA _ _ gm
    have g2A := sA _ _ g2
    have d2A := DpAll.mono sA d2
    refine ⟨_, rfl, by omega, by omega, ?_⟩
    refine for_it walk_range (fun i σ H' => ∃ (v7 v8 : Option V) (pt' : Addr) (G5 : Hp) (ts : List Ti) (ys : List V), σ = [some (.ref b), some (.ref m), some (.int 8), some (.int r), some (.ref pn), some (.ref D), some (.ref pt'), v7, v8, none] ∧ Same GA G5 ∧ Wd b l G5 H' ∧ G5 pt' = some (.lst ys) ∧ DpAll K G5 ys (ts.map dTi) ∧ TsOk cs ts ∧ ts.length ≤ i)
      ⟨none, none, pt, GA, [], [], rfl, Same.refl _, w7, hp7, .nil, ⟨.nil, (fun t ht => nomatch ht), Nat.zero_le _⟩, Nat.le_refl _⟩ (fun _ _ _ _ _ => True.intro) ?_ ?_
    · rintro i v σ H' H'' hi ⟨v7, v8, pt', G5, ts, ys, rfl, s8, w8, hp, hT, okt, lt⟩ ⟨rfl, rfl⟩
      have u0 : us ≠ [] := fun z => by
        rw [z] at lus
        have : r = 0 := by
          have : ([] : List Str).length = r.toNat := lus
          have : (0 : Nat) = r.toNat := this
          omega
        omega
      have li7 : i < 17 := by omega
      have hc8 := s8 _ _ hc7
      refine gn_step ?_
      dsimp only [List.set]
      refine ⟨_, rfl, _, rfl, m, _, (1 : Int), .ref p2, rfl, rfl, SqT.of (w8.sm _ _ (s8 _ _ gmA)), at_nn (by decide) rfl, ?_⟩
      refine any_name (f := dTie) (nm := fun t : Tie => t.1) (xs := tn) w8 (s8 _ _ g2A) (DpAll.mono s8 d2A) (fun x => ⟨_, rfl⟩) tn1 (by omega) (fun ta tys tt H1 w10 htn hta => ?_)
      refine ⟨ta, _, (0 : Int), .str tt.1, rfl, rfl, Same.tup w10.sm hta, at_nn (by decide) rfl, ?_⟩
      refine ⟨_, rfl, _, rfl, b, l, pn, _, us.map V.str, rfl, .inl (SqL.of hc8), (by simpa using u0), by rw [List.length_map]; omega, w10, fun x2 H2 hx2 w11 => ?_⟩
      refine ⟨_, rfl, _, rfl, b, l, pn, _, us.map V.str, rfl, .inl (SqL.of hc8), (by simpa using u0), by rw [List.length_map]; omega, w11, fun x3 H3 hx3 w12 => ⟨(by show 3 ≤ sizeLine; decide), fun tr ntr => ?_⟩⟩
      obtain ⟨t1, ht1⟩ : ∃ t1, tt.1 = t1 := ⟨_, rfl⟩
      obtain ⟨t2, ht2, rfl⟩ := List.mem_map.mp hx2
      obtain ⟨t3, ht3, rfl⟩ := List.mem_map.mp hx3
      rw [ht1]
      have w13 := w12.new (o := .tup [.str t1, .str t2, .str t3]) ntr
      have s13 := w12.sameG (o := .tup [.str t1, .str t2, .str t3]) ntr
      have htr := upd_same (H := G5) (a := tr) (o := .tup [.str t1, .str t2, .str t3])
      generalize upd G5 tr (.tup [.str t1, .str t2, .str t3]) = GB at w13 s13 htr
      generalize upd H3 tr (.tup [.str t1, .str t2, .str t3]) = HB at w13
      have ok1 : NmOk t1 := by rw [← ht1]; exact (tnm tt htn).ok
      have m2 : t2 ∈ cs.map (·.1) := by rw [ek]; exact ht2
      have m3 : t3 ∈ cs.map (·.1) := by rw [ek]; exact ht3
      have ok2 := name_ok okc m2
      have ok3 := name_ok okc m3
      have hpB := s13 _ _ hp
      have hTB := DpAll.mono s13 hT
      have tsn : ∀ u ∈ ts, NmOk u.1 ∧ NmOk u.2.1 ∧ NmOk u.2.2 := fun u hu => ⟨(okt.nm u hu).1, name_ok okc (okt.nm u hu).2.1, name_ok okc (okt.nm u hu).2.2⟩
      have lys : ys.length = ts.length := by rw [DpAll.length hT, List.length_map]
      refine gn_step ?_
      dsimp only [List.set]
      refine ⟨_, rfl, _, rfl, (by show 1 ≤ sizeLine; decide), fun pr npr => ?_⟩
      have w14 := w13.new (o := .lst [.ref tr]) npr
      have s14 := w13.sameG (o := .lst [.ref tr]) npr
      refine ⟨_, rfl, _, rfl, dTi (t1, t2, t3), ts.map dTi, .tup (SqT.of (w14.sm _ _ (s14 _ _ htr))) (strs_dp [t1, t2, t3]), .lst (SqL.of (w14.sm _ _ (s14 _ _ hpB))) (DpAll.mono (s14.trans w14.sm) hTB), shaped_ti ok1 ok2 ok3, shaped_tis tsn, .inr ⟨_, rfl, ?_⟩⟩
      rw [any_ti]
      by_cases mt : (t1, t2, t3) ∈ ts
      · rw [decide_eq_true mt]
        refine ⟨pr, 0, _, rfl, rfl, upd_same, by decide, by decide, (by rw [List.length_singleton]; decide), fun p2 np2 => ?_⟩
        have w15 := w14.new (o := .lst []) np2
        have s15 := s14.trans (w14.sameG (o := .lst []) np2)
        refine ⟨pt', p2, ys, [], rfl, rfl, w15.sm _ _ (s15 _ _ hpB), upd_same, le_line (by rw [List.length_nil]; omega), fun p3 np3 => ?_⟩
        have w16 := w15.new (o := .lst (ys ++ [])) np3
        have s16 := s15.trans (w15.sameG (o := .lst (ys ++ [])) np3)
        refine ⟨_, _, p3, _, ts, ys, rfl, s8.trans (s13.trans s16), w16, ?_, DpAll.mono s16 hTB, okt, Nat.le_succ_of_le lt⟩
        rw [upd_same, List.append_nil]
      · rw [decide_eq_false mt]
        refine ⟨pr, 1, _, rfl, rfl, upd_same, by decide, by decide, (by rw [List.length_singleton]; decide), fun p2 np2 => ?_⟩
        have w15 := w14.new (o := .lst [.ref tr]) np2
        have s15 := s14.trans (w14.sameG (o := .lst [.ref tr]) np2)
        refine ⟨pt', p2, ys, [.ref tr], rfl, rfl, w15.sm _ _ (s15 _ _ hpB), upd_same, le_line (by rw [List.length_singleton]; omega), fun p3 np3 => ?_⟩
        have w16 := w15.new (o := .lst (ys ++ [.ref tr])) np3
        have s16 := s15.trans (w15.sameG (o := .lst (ys ++ [.ref tr])) np3)
        refine ⟨_, _, p3, _, ts ++ [(t1, t2, t3)], ys ++ [.ref tr], rfl, s8.trans (s13.trans s16), w16, upd_same, ?_, ⟨?_, fun u hu => ?_, by rw [List.length_append, List.length_singleton]; omega⟩, by rw [List.length_append]; exact Nat.succ_le_succ lt⟩
        · rw [List.map_append]
          exact DpAll.append (DpAll.mono s16 hTB) (.cons (.tup (SqT.of (s16 _ _ htr)) (strs_dp [t1, t2, t3])) .nil)
        · rw [List.nodup_append]
          refine ⟨okt.nd, by simp, fun a ha b hb => ?_⟩
          have e : b = (t1, t2, t3) := by simpa using hb
          rw [e]
          exact fun z => mt (z ▸ ha)
        · rcases List.mem_append.mp hu with h | h
          · exact okt.nm u h
          · have e : u = (t1, t2, t3) := by simpa using h
            rw [e]
            exact ⟨ok1, m2, m3⟩
    · rintro σ H' ⟨v7, v8, pt', G5, ts, ys, rfl, s8, w8, hp, hT, okt, lt⟩
      refine ⟨_, rfl, _, rfl, (by show 2 ≤ sizeLine; decide), fun t nt => ?_⟩
      have w9 := w8.new (o := .tup [.ref D, .ref pt']) nt
      have s9 := w8.sameG (o := .tup [.ref D, .ref pt']) nt
      exact q _ _ _ cs ts (sA.trans (s8.trans s9)) w9 ⟨t, D, pt', _, _, rfl, upd_same, s9 _ _ (s8 _ _ hD7), DpAll.mono (s8.trans s9) hK7, s9 _ _ hp, DpAll.mono s9 hT⟩ (good_of okc okt) (by omega) (by omega)
end
end Bh

set_option Elab.async false
set_option linter.all false
set_option maxRecDepth 100000
set_option maxHeartbeats 1000000
set_option autoImplicit false
namespace Bh
open PySem PySem.Spec PyProof.Rows L2
theorem sumw {m : Nat} : ∀ {ws : List Str}, (∀ w ∈ ws, w.length ≤ m) → (ws.map (·.length)).sum ≤ ws.length * m
  | [], _ => Nat.zero_le _
  | w :: ws, h => by
    have k1 := h w List.mem_cons_self
    have k2 := sumw (ws := ws) fun z hz => h z (List.mem_cons_of_mem _ hz)
    rw [List.map_cons, List.sum_cons, List.length_cons, Nat.succ_mul]
    omega
theorem join_ok {ws : List Str} {y : Str} {m : Nat} (h : ∀ w ∈ ws, w.length ≤ m) (n : ws.length * (m + y.length) ≤ 16777216) : (ws.map (·.length)).sum + ws.length * y.length ≤ 16777216 := by
  have := sumw h
  rw [Nat.mul_add] at n
  omega
def spOdd (K : PySem.W.Frag) : Sp := fun vs H Q _ => ∃ (b l : Addr) (G : Hp), vs = [.ref b] ∧ Wd b l G H ∧ ∀ (o : Str) (H' : Hp), o ∈ oddN → Wd b l G H' → Q (.str o) H'
def spTextOf (K : PySem.W.Frag) : Sp := fun vs H Q _ => ∃ (v : V) (cs : List Cl) (ts : List Ti), vs = [v] ∧ WebAt K H v cs ts ∧ GoodN (cs, ts) ∧ cs.length ≤ 100 ∧ ts.length ≤ 100 ∧ ∀ (p : Addr) (H' : Hp), H p = none → Same H H' → H' p = some (.lst ((netLs (cs, ts)).map V.str)) → Q (.ref p) H'
theorem cellL_eq (c : Cl) : cellL c = "cell " ++ c.1 ++ " " ++ c.2 := by
  unfold cellL cellW
  rw [TL.join_eq]
  refine TL.ext_tl ?_
  show TL.tl ("cell" ++ " " ++ (c.1 ++ " " ++ c.2)) = _
  simp only [TL.tl_append, List.append_assoc]
  rw [show TL.tl ("cell " : Str) = TL.tl ("cell" : Str) ++ TL.tl (" " : Str) by decide +kernel]
  simp only [List.append_assoc]
theorem tieL_eq (t : Ti) : tieL t = "tie " ++ Txt.join " " [t.1, t.2.1, t.2.2] := by
  unfold tieL tieW
  rw [TL.join_eq, TL.join_eq]
  refine TL.ext_tl ?_
  show TL.tl ("tie" ++ " " ++ (t.1 ++ " " ++ (t.2.1 ++ " " ++ t.2.2))) = TL.tl ("tie " ++ (t.1 ++ " " ++ (t.2.1 ++ " " ++ t.2.2)))
  simp only [TL.tl_append, List.append_assoc]
  rw [show TL.tl ("tie " : Str) = TL.tl ("tie" : Str) ++ TL.tl (" " : Str) by decide +kernel]
  simp only [List.append_assoc]
section
variable {P : Program} {w : World} {K : PySem.W.Frag} {mg : Str → Option Value} {base : Heap}
theorem ok_oddline (T : Top K mg) : FnOk P w K mg base CX0 3 T.a_l_wrong_line T.fd_l_wrong_line ["_law_bag_here"] (spOdd K) := by
  have G_l_any := ok_any (P := P) (w := w) (base := base) T
  refine T.d_l_wrong_line.F.ok sc_l_wrong_line (fun vs H Q E h => ?_) (fun cdv A outer s H vs Q E hr h => ?_)
  · obtain ⟨b, l, G, rfl, _⟩ := h
    rfl
  obtain ⟨b, l, G, rfl, wd, q⟩ := h
  refine ⟨_, (pss_cons (ps_set (i := 1) sc_l_wrong_line.nd rfl (Or.inl rfl) (pe_lst (pds_cons (K := K) pd_str (pds_cons pd_str (pds_cons pd_str (pds_cons pd_str (pds_cons pd_str (pds_cons pd_str (pds_cons pd_str (pds_cons pd_str (pds_cons pd_str (pds_cons pd_str pds_nil))))))))))))
    (pss_cons (ps_set (i := 1) sc_l_wrong_line.nd rfl (Or.inl rfl) (pe_op op_cat (pv 1) (pe_lst (pds_cons (K := K) pd_str (pds_cons pd_str (pds_cons pd_str (pds_cons pd_str (pds_cons pd_str (pds_cons pd_str (pds_cons pd_str (pds_cons pd_str (pds_cons pd_str pds_nil))))))))))))
    (pss_one (ps_ret (pe_call G_l_any (hr.mono (by decide)) (by rfl) T.d_l_any.g T.d_l_any.kp T.d_l_any.b .nil pass0 (pa_cons (pv 0) (pa_cons (pe_op op_cat (pv 1) (pe_lst (pds_cons (K := K) pd_str (pds_cons pd_str (pds_cons pd_str (pds_cons pd_str (pds_cons pd_str pds_nil))))))) pa_nil))))))), ?_⟩
  refine sq_asg ?_
  refine dlst_step (W := Wd b l) (fun _ => .none) (wo_wd b l) wd (fun p hp => ?_) (by decide) (fun p1 z1 G1 H1 s1 w1 n1 h1 d1 => ?_)
  · cases hp
  refine gn_step ?_
  try dsimp only
  refine sq_asg ?_
  refine dcat_step (W := Wd b l) (fun _ => .none) (wo_wd b l) w1 rfl h1 d1 (fun p hp => ?_) (by decide) (by decide) (fun p2 z2 G2 H2 s2 w2 n2 h2 d2 => ?_)
  · cases hp
  refine gn_step ?_
  try dsimp only
  refine ⟨_, rfl, ?_⟩
  refine dcat_step (W := Wd b l) (fun _ => .none) (wo_wd b l) w2 rfl h2 d2 (fun p hp => ?_) (by decide) (by decide) (fun p3 z3 G3 H3 s3 w3 n3 h3 d3 => ?_)
  · cases hp
  refine any_of w3 h3 d3 (Nat.le_of_ble_eq_true rfl) (Nat.le_of_ble_eq_true rfl) fun y6 d6 H7 w7 hy m => ?_
  have hm : ∃ o ∈ oddN, d6 = .str o := by
    have m : d6 ∈ oddN.map PyData.str := m
    obtain ⟨o, ho, e⟩ := List.mem_map.mp m
    exact ⟨o, ho, e.symm⟩
  obtain ⟨o, ho, rfl⟩ := hm
  obtain rfl := dp_str hy
  have sG := s1.trans (s2.trans s3)
  exact q o H7 ho ⟨sG.free w7.nb, sG.free w7.nl, sG.trans w7.sm, w7.bag⟩
theorem ok_textof (T : Top K mg) : FnOk P w K mg base CX0 2 T.a_l_text_of T.fd_l_text_of ["_law_net_here"] (spTextOf K) := by
  refine T.d_l_text_of.F.ok sc_l_text_of (fun vs H Q E h => ?_) (fun cdv A outer s H vs Q E hr h => ?_)
  · obtain ⟨v, cs, ts, rfl, _⟩ := h
    rfl
  obtain ⟨v, cs, ts, rfl, ⟨a, p1, p2, xs, ys, rfl, h0, h1, d1, h2, d2⟩, g, few1, few2, q⟩ := h
  refine ⟨_, (pss_cons (ps_setLc (i := 1) (own := [("_law_cell", 2), ("_law_kind", 3)]) rfl sc_l_text_of.nd rfl rfl (sw_true rfl rfl rfl (by decide +kernel)) (pi_list_K (K := K) (by rfl) (pe_ix (ix_tup_K (K := K) (by rfl)) (pv 0) pe_int (fun _ _ => rfl))) (blkOk_by (own := [("_law_cell", 2), ("_law_kind", 3)]) (N := ["_law_net_here", "_law_lines", "_law_cell", "_law_kind", "_law_row"]) (sc := defScope s_l_text_of) (by decide +kernel)) (fun _ _ _ _ _ => by exact (pg_tup_K (K := K) (by rfl) (n := 2) (by rfl) (pgs_cons (pg_name (i := 2) sc_l_text_of.nd rfl (Or.inl rfl)) (pgs_cons (pg_name (i := 3) sc_l_text_of.nd rfl (Or.inl rfl)) pgs_nil)))) (fun _ _ _ _ _ => by exact pts_nil) (fun _ _ _ _ _ => by exact (pe_op op_add_str (pe_op op_add_str (pe_op op_add_str pe_str (pv 2)) pe_str) (pv 3))))
    (pss_one (ps_ret (pe_op op_cat (pv 1) (pe_lc (own := [("_law_row", 4)]) rfl sc_l_text_of.nd (pi_list_K (K := K) (by rfl) (pe_ix (ix_tup_K (K := K) (by rfl)) (pv 0) pe_int (fun _ _ => rfl))) (blkOk_by (own := [("_law_row", 4)]) (N := ["_law_net_here", "_law_lines", "_law_cell", "_law_kind", "_law_row"]) (sc := defScope s_l_text_of) (by decide +kernel)) (fun _ _ _ _ _ => by exact (pg_name (i := 4) sc_l_text_of.nd rfl (Or.inl rfl))) (fun _ _ _ _ _ => by exact pts_nil) (fun _ _ _ _ _ => by exact (pe_op op_add_str pe_str (pe_join_K (K := K) (by rfl) pe_str (pv 4))))))))), ?_⟩
  rw [show L2.start ["_law_net_here", "_law_lines", "_law_cell", "_law_kind", "_law_row"] [.ref a] = [some (.ref a), none, none, none, none] from rfl]
  refine ⟨_, rfl, a, _, (0 : Int), .ref p1, rfl, rfl, SqT.of h0, at_nn (by decide) rfl, p1, rfl, ⟨_, SqL.of h1⟩, fun D nD => ?_⟩
  refine lc_it walk_list (fun i H' => Same H H' ∧ H' D = some (.lst (((cs.take i).map cellL).map V.str))) ⟨same_new nD, upd_same⟩ (fun i H' _ ⟨s, _⟩ => SqL.of (s _ _ h1)) ?_ ?_
  · rintro i y H' H'' hi ⟨s1, hD⟩ ⟨rfl, ey⟩
    obtain ⟨c, ta, hc, rfl, ht⟩ := dp_cell d1 ey
    have hcc := g.cnm c (List.mem_of_getElem? hc)
    have l1 := (word_len hcc.1).2
    have l2 := kind_len hcc.2
    have b1 : ("cell " : Str).length = 5 := by decide +kernel
    have b2 : (" " : Str).length = 1 := by decide +kernel
    refine ⟨ta, _, rfl, Same.tup s1 ht, rfl, _, _, rfl, _, _, rfl, rfl, rfl, ?_⟩
    refine ⟨_, rfl, _, _, rfl, rfl, le_line (by omega), _, _, rfl, rfl, le_line (by rw [len_app]; omega), _, rfl, _, _, rfl, rfl, le_line (by rw [len_app, len_app]; omega), _, hD, ?_, same_mut s1 nD, ?_⟩
    · rw [List.length_map, List.length_map, List.length_take]
      exact lt_line (by omega)
    · rw [upd_same, take_next hc, List.map_append, List.map_append, show ("cell " ++ c.1 ++ " " ++ c.2 : Str) = cellL c from (cellL_eq c).symm]
      rfl
  rintro H1 ⟨s1, hD⟩
  have lx : xs.length = cs.length := by rw [DpAll.length d1, List.length_map]
  have ly : ys.length = ts.length := by rw [DpAll.length d2, List.length_map]
  rw [lx, List.take_length] at hD
  refine gn_step ?_
  dsimp only [List.set]
  refine ⟨_, rfl, _, rfl, a, _, (1 : Int), .ref p2, rfl, rfl, SqT.of (s1 _ _ h0), at_nn (by decide) rfl, p2, rfl, ⟨_, SqL.of (s1 _ _ h2)⟩, fun D2 nD2 => ?_⟩
  refine lc_it walk_list (fun i H' => Same H1 H' ∧ H' D2 = some (.lst (((ts.take i).map tieL).map V.str))) ⟨same_new nD2, upd_same⟩ (fun i H' _ ⟨s, _⟩ => SqL.of (s _ _ (s1 _ _ h2))) ?_ ?_
  · rintro i y H' H'' hi ⟨s2, hD2⟩ ⟨rfl, ey⟩
    obtain ⟨t, tb, ht, rfl, hb⟩ := dp_ti d2 ey
    obtain ⟨k1, k2, k3⟩ := g.ends (List.mem_of_getElem? ht)
    have l1 := (word_len k1).2
    have l2 := (word_len k2).2
    have l3 := (word_len k3).2
    have bj := join_len " " (m := 8) [t.1, t.2.1, t.2.2] (fun p hp => by
      simp only [List.mem_cons, List.not_mem_nil, or_false] at hp
      rcases hp with rfl | rfl | rfl <;> assumption)
    have b2 : (" " : Str).length = 1 := by decide +kernel
    have b4 : ("tie " : Str).length = 4 := by decide +kernel
    rw [b2] at bj
    have bj : (Txt.join " " [t.1, t.2.1, t.2.2]).length ≤ 27 := bj
    refine ⟨rfl, ⟨_, rfl⟩, _, rfl, _, tb, [t.1, t.2.1, t.2.2], rfl, rfl, .inr (Same.tup (s1.trans s2) hb), join_ok (m := 8) (fun p hp => by
      simp only [List.mem_cons, List.not_mem_nil, or_false] at hp
      rcases hp with rfl | rfl | rfl <;> assumption) (by rw [b2]; show 3 * (8 + 1) ≤ 16777216; decide), _, _, rfl, rfl, le_line (by omega), _, hD2, ?_, same_mut s2 nD2, ?_⟩
    · rw [List.length_map, List.length_map, List.length_take]
      exact lt_line (by omega)
    · rw [upd_same, take_next ht, List.map_append, List.map_append, show ("tie " ++ Txt.join " " [t.1, t.2.1, t.2.2] : Str) = tieL t from (tieL_eq t).symm]
      rfl
  · rintro H2 ⟨s2, hD2⟩
    rw [ly, List.take_length] at hD2
    refine ⟨D, D2, _, _, rfl, rfl, s2 _ _ hD, hD2, le_line (by rw [List.length_map, List.length_map, List.length_map, List.length_map]; omega), fun p np => ?_⟩
    have s := s1.trans s2
    refine q p _ (s.free np) (s.trans (same_new np)) ?_
    rw [upd_same]
    unfold netLs
    rw [List.map_append]
end
end Bh

set_option Elab.async false
set_option linter.all false
set_option maxRecDepth 100000
set_option maxHeartbeats 4000000
namespace Bh
open PySem PySem.Spec PyProof.Rows L2 LamX NdefX
theorem passE {X : Cx} {P : Program} {w : World} : L2.Passes (L2.CX P w) X E0 := fun _ _ _ _ _ _ _ h => by
  obtain ⟨_, _, _, _, _, _, _, _, _, _, _, _, z⟩ := h
  exact z.elim
theorem lc_open {K : PySem.W.Frag} {tl : TE} {g : TG} {tt : TT} {te : TE} {vs : List Nat} {σ : L2.St} {H : Hp} {Q : VK} (h : tl σ H fun x H1 => ∃ a, x = V.ref a ∧ (∃ xs, SqL K H1 a xs) ∧ tLc (fun _ H' R => R (Itl K a) H') g tt te vs σ H1 Q) : tLc (iList K tl) g tt te vs σ H Q := h
def oddD : List PyData := [.none, .int 3, .bool true, .list [.str wA]]
theorem oddD_ty : ∀ d ∈ oddD, tyN d ≠ "str" := fun d hd => by
  unfold oddD at hd
  simp only [List.mem_cons, List.not_mem_nil, or_false] at hd
  rcases hd with rfl | rfl | rfl | rfl <;> exact fun z => absurd z (by decide +kernel)
/-- the def with lambdas besides law -/
structure WsM (K : PySem.W.Frag) (mg : Str → Option Value) (cS : Addr) : Type where
  f : Addr
  od : Option Addr
  an : Option Addr
  oc : Value
  kV : Value
  doc : Value
  pm : Value
  ct : Value
  osl : Array (Option Value)
  lk : K.lookup f = some ⟨oc, od, .func (PySem.W.fnOf "_law_written_webs" "_law_written_webs" (defArgs s_l_written_webs) (defBody s_l_written_webs) (defScope s_l_written_webs) .none kV doc pm an (.ref cS) ct), osl⟩
  hcd : PySem.W.codeIn K (.ref cS) "_law_written_webs" = true
  g : mg "_law_written_webs" = some (.ref f)
  kp : PySem.W.keepIn K (.ref f) = true
  b : Binds K (PySem.W.fnOf "_law_written_webs" "_law_written_webs" (defArgs s_l_written_webs) (defBody s_l_written_webs) (defScope s_l_written_webs) .none kV doc pm an (.ref cS) ct) [] []
abbrev WsM.fd {K : PySem.W.Frag} {mg : Str → Option Value} {cS : Addr} (S : WsM K mg cS) : FuncData := PySem.W.fnOf "_law_written_webs" "_law_written_webs" (defArgs s_l_written_webs) (defBody s_l_written_webs) (defScope s_l_written_webs) .none S.kV S.doc S.pm S.an (.ref cS) S.ct
section
variable {P : Program} {w : World} {K : PySem.W.Frag} {mg : Str → Option Value} {base : Heap} {cS pS : Addr}
theorem ok_written {TL : List (Addr × Str)} (T : Top K mg) (S : WsM K mg cS) {R : NtC K mg} (M : NtM K mg R)
    (TBS : TabB base mg cS pS) (mS0 : (pS, ("_law_written_webs.<locals>.<lambda>" : Str)) ∈ TL) (uS0 : ∀ p ∈ TL, p.1 = pS → p.2 = "_law_written_webs.<locals>.<lambda>") : FnOk P w K mg base CX0 16 S.f S.fd [] (fun vs H Q _ => vs = [] ∧ Tabs TL H ∧ ∀ H', Q (.bl true) H') := by
  have G_read := ok_readN (P := P) (w := w) (base := base) T M
  have G_m_text := ok_mtext (P := P) (w := w) (base := base) T M
  have G_l_like := ok_like (P := P) (w := w) (base := base) T 8
  obtain ⟨ocT, odT, kVT, docT, pmT, anT, cdvT, ctT, oslT, eT, lkT, hcT⟩ := T.d_l_try.F.ex
  have bT := T.d_l_try.b
  rw [eT] at bT lkT
  have mS : (pS, ("_law_written_webs.<locals>." : Str) ++ "<lambda>") ∈ TL := by
    rw [show (("_law_written_webs.<locals>." : Str) ++ "<lambda>") = "_law_written_webs.<locals>.<lambda>" by decide +kernel]
    exact mS0
  have uS : ∀ p ∈ TL, p.1 = pS → p.2 = ("_law_written_webs.<locals>." : Str) ++ "<lambda>" := fun p hp e => (uS0 p hp e).trans (show ("_law_written_webs.<locals>.<lambda>" : Str) = ("_law_written_webs.<locals>." : Str) ++ "<lambda>" by decide +kernel)
  refine fn_of S.lk S.hcd sc_l_written_webs (fun vs H Q E h => ?_) (fun A outer s H vs Q E hr h => ?_)
  · obtain ⟨rfl, _⟩ := h
    rfl
  obtain ⟨rfl, tb, q⟩ := h
  refine ⟨_, (pss_cons (ps_asg (pe_tup (pa_cons pe_str (pa_cons pe_str (pa_cons pe_str pa_nil)))) (pg_tup_K (K := K) (by rfl) (n := 3) (by rfl) (pgs_cons (pg_name (i := 0) sc_l_written_webs.nd rfl (Or.inl rfl)) (pgs_cons (pg_name (i := 1) sc_l_written_webs.nd rfl (Or.inl rfl)) (pgs_cons (pg_name (i := 2) sc_l_written_webs.nd rfl (Or.inl rfl)) pgs_nil)))))
    (pss_cons (ps_set (i := 3) sc_l_written_webs.nd rfl (Or.inl rfl) (pe_lst (pds_cons (K := K) (pd_tup (pds_cons pd_str (pds_cons pd_int pds_nil))) (pds_cons (pd_tup (pds_cons (pd_acc 104 (pe_op op_add_str (pv 0) pe_str)) (pds_cons pd_int pds_nil))) (pds_cons (pd_tup (pds_cons (pd_acc 103 (pe_slice sl_str (pv 0) po_none (po_some (pe_un un_neg pe_int)))) (pds_cons pd_int pds_nil))) (pds_cons (pd_tup (pds_cons (pd_acc 102 (pe_op op_add_str (pv 0) (pv 0))) (pds_cons pd_int pds_nil))) (pds_cons (pd_tup (pds_cons (pd_acc 101 (pe_op op_add_str (pv 0) pe_str)) (pds_cons pd_int pds_nil))) (pds_cons (pd_tup (pds_cons (pd_acc 100 (pe_op op_add_str (pe_op op_add_str (pv 0) (pv 2)) (pv 1))) (pds_cons pd_int pds_nil))) (pds_cons (pd_tup (pds_cons (pd_acc 2 (pv 2)) (pds_cons pd_int pds_nil))) pds_nil)))))))))
    (pss_cons (ps_set (i := 3) sc_l_written_webs.nd rfl (Or.inl rfl) (pe_op op_cat (pv 3) (pe_lst (pds_cons (K := K) (pd_tup (pds_cons (pd_acc 108 (pe_op op_add_str (pe_op op_add_str (pv 0) (pv 2)) (pv 2))) (pds_cons pd_int pds_nil))) (pds_cons (pd_tup (pds_cons (pd_acc 107 (pe_op op_add_str (pv 0) pe_str)) (pds_cons pd_int pds_nil))) (pds_cons (pd_tup (pds_cons (pd_acc 106 (pe_op op_add_str (pe_op op_add_str (pv 0) pe_str) (pv 1))) (pds_cons pd_int pds_nil))) (pds_cons (pd_tup (pds_cons pd_str (pds_cons pd_int pds_nil))) (pds_cons (pd_tup (pds_cons (pd_acc 105 (pe_op op_add_str (pv 0) pe_str)) (pds_cons pd_int pds_nil))) pds_nil))))))))
    (pss_cons (ps_setLc (i := 4) (own := [("_law_text_z", 7), ("_law_line", 8)]) rfl sc_l_written_webs.nd rfl rfl (sw_true rfl rfl rfl (by decide +kernel)) (pi_list_K (K := K) (by rfl) (pv 3)) (blkOk_by (own := [("_law_text_z", 7), ("_law_line", 8)]) (N := ["_law_a", "_law_b", "_law_t", "_law_rows", "_law_told", "_law_due", "_law_good", "_law_text_z", "_law_line", "_law_one"]) (sc := defScope s_l_written_webs) (by decide +kernel)) (fun _ _ _ _ _ => by exact (pg_tup_K (K := K) (by rfl) (n := 2) (by rfl) (pgs_cons (pg_name (i := 7) sc_l_written_webs.nd rfl (Or.inr rfl)) (pgs_cons (pg_name (i := 8) sc_l_written_webs.nd rfl (Or.inl rfl)) pgs_nil)))) (fun _ _ _ _ _ => by exact pts_nil) (fun _ _ _ _ _ => by exact (LamX.pe_lamcall (T := TL) (TT := TTryE K T.cBE T.cMS exPairs) (x := "_law_try") (a := "_law_ask") (Ng := ["_law_ask", "_law_found", "_law_e"]) (k := 12) (t := fun E => _) (by rfl) T.d_l_try.g T.d_l_try.kp lkT hcT bT sc_l_try rfl (.inl (by rfl)) (try_givesT 12 T rfl rfl (hr.mono (by decide)) cdvT _) TBS rfl mS uS (hr.mono (by decide)) (LamX.lamS_by (by rfl)) rfl (fun _ _ _ _ _ => rfl) (fun A outer s H E f c' hr2 => by exact (ClX.pe_cmeth (pe_glob (v := .ref R.C) rfl R.g rfl) M.rd M.cR (fnR_of G_read M.bR) (hr2.mono (by decide)) (passes_call (takes_of rfl rfl rfl rfl) (fun _ _ _ _ z => z)) (pa_cons (pv 7) pa_nil))))))
    (pss_cons (ps_set (i := 4) sc_l_written_webs.nd rfl (Or.inl rfl) (pe_op op_cat (pv 4) (pe_lc (own := [("_law_one", 9)]) rfl sc_l_written_webs.nd (pi_list_K (K := K) (by rfl) (pe_lst (pds_cons (K := K) pd_non (pds_cons pd_int (pds_cons pd_bl (pds_cons (pd_lst (pds_cons (pd_acc 0 (pv 0)) pds_nil)) pds_nil)))))) (blkOk_by (own := [("_law_one", 9)]) (N := ["_law_a", "_law_b", "_law_t", "_law_rows", "_law_told", "_law_due", "_law_good", "_law_text_z", "_law_line", "_law_one"]) (sc := defScope s_l_written_webs) (by decide +kernel)) (fun _ _ _ _ _ => by exact (pg_name (i := 9) sc_l_written_webs.nd rfl (Or.inr rfl))) (fun _ _ _ _ _ => by exact pts_nil) (fun _ _ _ _ _ => by exact (LamX.pe_lamcall (T := TL) (TT := TTryE K T.cBE T.cMS exPairs) (x := "_law_try") (a := "_law_ask") (Ng := ["_law_ask", "_law_found", "_law_e"]) (k := 12) (t := fun E => _) (by rfl) T.d_l_try.g T.d_l_try.kp lkT hcT bT sc_l_try rfl (.inl (by rfl)) (try_givesT 12 T rfl rfl (hr.mono (by decide)) cdvT _) TBS rfl mS uS (hr.mono (by decide)) (LamX.lamS_by (by rfl)) rfl (fun _ _ _ _ _ => rfl) (fun A outer s H E f c' hr2 => by exact (ClX.pe_cmeth (pe_glob (v := .ref R.C) rfl R.g rfl) M.rd M.cR (fnR_of G_read M.bR) (hr2.mono (by decide)) (passes_call (takes_of rfl rfl rfl rfl) (fun _ _ _ _ z => z)) (pa_cons (pv 9) pa_nil))))))))
    (pss_cons (ps_set (i := 5) sc_l_written_webs.nd rfl (Or.inl rfl) (pe_op op_cat (pe_lc (own := [("_law_text_z", 7), ("_law_line", 8)]) rfl sc_l_written_webs.nd (pi_list_K (K := K) (by rfl) (pv 3)) (blkOk_by (own := [("_law_text_z", 7), ("_law_line", 8)]) (N := ["_law_a", "_law_b", "_law_t", "_law_rows", "_law_told", "_law_due", "_law_good", "_law_text_z", "_law_line", "_law_one"]) (sc := defScope s_l_written_webs) (by decide +kernel)) (fun _ _ _ _ _ => by exact (pg_tup_K (K := K) (by rfl) (n := 2) (by rfl) (pgs_cons (pg_name (i := 7) sc_l_written_webs.nd rfl (Or.inl rfl)) (pgs_cons (pg_name (i := 8) sc_l_written_webs.nd rfl (Or.inl rfl)) pgs_nil)))) (fun _ _ _ _ _ => by exact pts_nil) (fun _ _ _ _ _ => by exact (pe_tup (pa_cons pe_str (pa_cons (pv 8) pa_nil))))) (pe_op op_rep (pe_lst (pa_cons (pe_tup (pa_cons pe_str (pa_cons pe_int pa_nil))) pa_nil)) pe_int)))
    (pss_cons (ps_set (i := 6) sc_l_written_webs.nd rfl (Or.inl rfl) (pe_lst (pds_cons (K := K) pd_str (pds_cons (pd_acc 0 (pv 0)) (pds_cons (pd_acc 110 (pe_op op_add_str (pv 0) (pv 1))) (pds_cons (pd_acc 109 (pe_op op_add_str (pe_op op_add_str (pe_op op_add_str (pv 0) (pv 1)) (pv 2)) pe_str)) pds_nil))))))
    (pss_one (ps_ret (pe_and (pe_call G_l_like (hr.mono (by decide)) (by rfl) T.d_l_like.g T.d_l_like.kp T.d_l_like.b .nil pass0 (pa_cons (pv 4) (pa_cons (pv 5) pa_nil))) (pe_one (pe_cmpR (op_eqP (K := K) (by rfl) hr.units) (pe_lc (own := [("_law_text_z", 7)]) rfl sc_l_written_webs.nd (pi_list_K (K := K) (by rfl) (pv 6)) (blkOk_by (own := [("_law_text_z", 7)]) (N := ["_law_a", "_law_b", "_law_t", "_law_rows", "_law_told", "_law_due", "_law_good", "_law_text_z", "_law_line", "_law_one"]) (sc := defScope s_l_written_webs) (by decide +kernel)) (fun _ _ _ _ _ => by exact (pg_name (i := 7) sc_l_written_webs.nd rfl (Or.inl rfl))) (fun _ _ _ _ _ => by exact pts_nil) (fun _ _ _ _ _ => by exact (pe_meth0 (ClX.pe_cmeth (pe_glob (v := .ref R.C) rfl R.g rfl) M.rd M.cR (fnR_of G_read M.bR) (hr.mono (by decide)) passE (pa_cons (pv 7) pa_nil)) R.cl M.text.M G_m_text (hr.mono (by decide)) M.text.b .nil pass0))) (pv 6) (nomark _))))))))))))), ?_⟩
  refine ⟨(by show 3 ≤ sizeLine; decide), fun t nt => ⟨t, _, rfl, SqT.of upd_same, rfl, _, _, rfl, _, _, rfl, _, _, rfl, rfl, ?_⟩⟩
  have tb1 := tb.ext (same_new (o := .tup [.str wA, .str wB, .str wT]) nt)
  generalize upd H t _ = H1 at tb1 ⊢
  clear nt tb
  rw [show L2.start ["_law_a", "_law_b", "_law_t", "_law_rows", "_law_told", "_law_due", "_law_good", "_law_text_z", "_law_line", "_law_one"] [] = [none, none, none, none, none, none, none, none, none, none] from rfl]
  try dsimp only [List.set]
  refine sq_asg ?_
  refine dlst_step (W := fun G H => G = H) (fun n => .str (wS n)) wo_eq rfl ?_ (Nat.le_of_ble_eq_true rfl) (fun p1 z1 G1 H2 s1 w1 n1 h1 d1 => ?_)
  · exact (acc_app (acc_app acc_nil (acc_app acc_nil acc_nil)) (acc_app (acc_app (acc_one (acc_of (acc_vc (a := 0) (x := wA) (y := "x") rfl (by decide +kernel)))) (acc_app acc_nil acc_nil)) (acc_app (acc_app (acc_one (acc_of (accE_cut rfl))) (acc_app acc_nil acc_nil)) (acc_app (acc_app (acc_one (acc_of (acc_vv (a := 0) (b := 0) (x := wA) (y := wA) rfl rfl (by decide +kernel)))) (acc_app acc_nil acc_nil)) (acc_app (acc_app (acc_one (acc_of (acc_vc (a := 0) (x := wA) (y := "cell a h\n") rfl (by decide +kernel)))) (acc_app acc_nil acc_nil)) (acc_app (acc_app (acc_one (acc_of (acc_vvv (a := 0) (b := 2) (c := 1) (x := wA) (y := wT) (u := wB) rfl rfl rfl (by decide +kernel) (by decide +kernel)))) (acc_app acc_nil acc_nil)) (acc_app (acc_app (acc_one (acc_of (accE_var (i := 2) (z := wT) rfl))) (acc_app acc_nil acc_nil)) acc_nil)))))))
  refine gn_step ?_
  try dsimp only [List.set]
  refine sq_asg ?_
  refine dcat_step (W := fun G H => G = H) (fun n => .str (wS n)) wo_eq w1 rfl h1 d1 ?_ (Nat.le_of_ble_eq_true rfl) (Nat.le_of_ble_eq_true rfl) (fun p2 z2 G2 H3 s2 w2 n2 h2 d2 => ?_)
  · exact (acc_app (acc_app (acc_one (acc_of (acc_vvv (a := 0) (b := 2) (c := 2) (x := wA) (y := wT) (u := wT) rfl rfl rfl (by decide +kernel) (by decide +kernel)))) (acc_app acc_nil acc_nil)) (acc_app (acc_app (acc_one (acc_of (acc_vc (a := 0) (x := wA) (y := "tie t a b\n") rfl (by decide +kernel)))) (acc_app acc_nil acc_nil)) (acc_app (acc_app (acc_one (acc_of (acc_vcv (a := 0) (c := 1) (x := wA) (y := "tie t b a\n") (u := wB) rfl rfl (by decide +kernel) (by decide +kernel)))) (acc_app acc_nil acc_nil)) (acc_app (acc_app acc_nil (acc_app acc_nil acc_nil)) (acc_app (acc_app (acc_one (acc_of (acc_vc (a := 0) (x := wA) (y := "\n") rfl (by decide +kernel)))) (acc_app acc_nil acc_nil)) acc_nil)))))
  have tb2 := tb1.ext (s1.trans s2)
  replace d2 : DpAll K G2 z2 (wRows.map dRow) := d2
  subst w2
  clear d1 h1 w1 s1 s2 n1 n2 tb1
  refine gn_step ?_
  try dsimp only [List.set]
  refine sq_asg ?_
  refine ⟨_, rfl, p2, rfl, ⟨_, SqL.of h2⟩, fun D nD => ?_⟩
  have l6 : z2.length = 12 := by rw [DpAll.length d2, List.length_map]; decide +kernel
  have nD0 : noTb G2 D = none := Same.free noTb_le nD
  refine lc_it walk_list (fun i H' => ∃ ys, Same (noTb G2) H' ∧ Tabs TL H' ∧ H' D = some (.lst ys) ∧ DpAll K H' ys (((wRows.take i).map fun r => ((some r.2 : Option Nat), r.1)).map fun x => dEr x.1 x.2)) ⟨[], noTb_le.trans (same_new nD), tb2.ext (same_new nD), upd_same, .nil⟩ (fun i H' _ ⟨_, s, _⟩ => SqL.of (s _ _ (noTb_at h2 (fun _ z => nomatch z)))) ?_ ?_
  · rintro i y H' H'' hi ⟨ys, s, tb, hD, hY⟩ ⟨rfl, ey⟩
    obtain ⟨d, e1, e2⟩ := DpAll.get d2 ey
    rw [List.getElem?_map] at e1
    obtain ⟨r, hr1, rfl⟩ := Option.map_eq_some_iff.mp e1
    obtain ⟨er, lr⟩ := wRows_all r (List.mem_of_getElem? hr1)
    obtain ⟨ta, rfl, hta⟩ := dp_row e2
    have hta' := Same.tup s (SqT.nTb hta)
    refine ⟨ta, _, rfl, hta', rfl, _, _, rfl, _, _, rfl, rfl, ?_⟩
    refine ⟨rfl, ?_⟩
    refine tlam_gen T (r := some r.2) (z := r.1) tb (fun H1 E Q' e t1 a b => ?_) (fun H2 p s2 t2 dp => ?_)
    · exact ⟨rfl, _, rfl, .inr ⟨r.1, rfl, lr, fun i e => a i (er.symm.trans e), fun e => by rw [er] at e; cases e⟩⟩
    · have hD2 := s2 _ _ (noTb_at hD (fun _ z => nomatch z))
      have kp2 : Kp [] _ H2 := kp_tb s2
      refine ⟨ys, hD2, lt_line (by have := DpAll.length hY; simp at this; omega), _, same_mut (fun a o e => s2 _ _ (noTb_at (s _ _ e) (noTb_not e))) nD0, tabs_updL t2 hD2, upd_same, ?_⟩
      rw [List.take_add_one, hr1, List.map_append]
      exact told_more hD2 (kp2.dps noL_dEr hY) dp
  rintro H1' ⟨ys, s1, tb1, hD, hY⟩
  rw [l6, List.take_of_length_le (by decide +kernel)] at hY
  have lyw := DpAll.length hY
  have h61 : H1' p2 = some (.lst z2) := s1 _ _ (noTb_at h2 (fun _ z => nomatch z))
  have d61 : DpAll K H1' z2 (wRows.map dRow) := Kp.dps (S := []) (fun a o h n _ => s1 a o (noTb_at h n)) (fun _ => rfl) d2
  clear h2 d2 tb2 s1 nD nD0
  refine gn_step ?_
  try dsimp only [List.set]
  refine sq_asg ?_
  refine ⟨_, rfl, ?_⟩
  refine lc_open ?_
  refine dlst_step (W := fun G H => G = H) (fun n => .str (wS n)) wo_eq rfl ?_ (Nat.le_of_ble_eq_true rfl) (fun p3 z3 G3 H3 s3 w3 n3 h3 d3 => ?_)
  · exact (acc_app acc_nil (acc_app acc_nil (acc_app acc_nil (acc_app (acc_app (acc_one (acc_of (accE_var (i := 0) (z := wA) rfl))) acc_nil) acc_nil))))
  subst w3
  have tb3 := tb1.ext s3
  have hT2 := s3 _ _ hD
  have hY2 := DpAll.mono s3 hY
  have h62 := s3 _ _ h61
  have d62 := DpAll.mono s3 d61
  clear tb1 s3 n3 hD hY h61 d61
  replace d3 : DpAll K G3 z3 oddD := d3
  refine ⟨p3, rfl, ⟨_, SqL.of h3⟩, fun D3 nD3 => ?_⟩
  have l3 : z3.length = 4 := DpAll.length d3
  have nD30 : noTb G3 D3 = none := Same.free noTb_le nD3
  refine lc_it walk_list (fun i H' => ∃ us, Same (noTb G3) H' ∧ Tabs TL H' ∧ H' D3 = some (.lst us) ∧ DpAll K H' us ((List.replicate i ((some 0 : Option Nat), ("" : Str))).map fun x => dEr x.1 x.2)) ⟨[], noTb_le.trans (same_new nD3), tb3.ext (same_new nD3), upd_same, .nil⟩ (fun i H' _ ⟨_, s, _⟩ => SqL.of (s _ _ (noTb_at h3 (fun _ z => nomatch z)))) ?_ ?_
  · rintro i y H' H'' hi ⟨us, s, tb, hD, hY⟩ ⟨rfl, ey⟩
    obtain ⟨d, e1, e2⟩ := DpAll.get d3 ey
    have ty := oddD_ty d (List.mem_of_getElem? e1)
    refine ⟨rfl, ?_⟩
    refine tlam_gen T (r := some 0) (z := "") tb (fun H1 E Q' e t1 a b => ?_) (fun H2 p s2 t2 dp => ?_)
    · exact ⟨rfl, _, rfl, .inl ⟨_, d, rfl, Dp.mono ((fun a o x => noTb_le _ _ (e _ _ (noTb_at (s _ _ x) (noTb_not x)))) : Same (noTb G3) H1) (Dp.nTb e2), ty, a 0 rfl⟩⟩
    · have hD2 := s2 _ _ (noTb_at hD (fun _ z => nomatch z))
      have kp2 : Kp [] _ H2 := kp_tb s2
      refine ⟨us, hD2, lt_line (by have := DpAll.length hY; simp at this; omega), _, same_mut (fun a o e => s2 _ _ (noTb_at (s _ _ e) (noTb_not e))) nD30, tabs_updL t2 hD2, upd_same, ?_⟩
      rw [List.replicate_succ']
      exact told_more hD2 (kp2.dps noL_dEr hY) dp
  rintro H4' ⟨us, s4, tb4, hD3, hU⟩
  have kp34 : Kp [] G3 H4' := kp_tb s4
  have hT4 : H4' D = some (.lst ys) := s4 _ _ (noTb_at hT2 (fun _ z => nomatch z))
  have hY4 := kp34.dps noL_dEr hY2
  have h64 : H4' p2 = some (.lst z2) := s4 _ _ (noTb_at h62 (fun _ z => nomatch z))
  have d64 : DpAll K H4' z2 (wRows.map dRow) := kp34.dps (fun _ => rfl) d62
  have lus := DpAll.length hU
  rw [List.length_map, List.length_replicate, l3] at lus
  refine ⟨D, D3, ys, us, rfl, rfl, hT4, hD3, le_line (by rw [lyw, List.length_map, List.length_map, lus]; decide +kernel), fun p np => ?_⟩
  have s5 := same_new (o := .lst (ys ++ us)) np
  have hP5 : upd H4' p (.lst (ys ++ us)) p = some (.lst (ys ++ us)) := upd_same
  have dP5 : DpAll K (upd H4' p (.lst (ys ++ us))) (ys ++ us) ((wRows.map (fun r => ((some r.2 : Option Nat), r.1)) ++ List.replicate 4 ((some 0 : Option Nat), ("" : Str))).map fun x => dEr x.1 x.2) := by
    rw [l3] at hU
    rw [List.map_append]
    exact DpAll.append (DpAll.mono s5 hY4) (DpAll.mono s5 hU)
  have tb5 := tb4.ext s5
  have h65 := s5 _ _ h64
  have d65 := DpAll.mono s5 d64
  generalize upd H4' p (.lst (ys ++ us)) = H7' at *
  clear np s5 lus d64 h64 hY4 hT4 kp34 hU hD3 tb4 s4 nD3 nD30 d3 h3 d62 h62 hY2 hT2 tb3
  refine gn_step ?_
  try dsimp only [List.set]
  refine sq_asg ?_
  refine ⟨_, rfl, p2, rfl, ⟨_, SqL.of h65⟩, fun D5 nD5 => ?_⟩
  refine lc_it walk_list (fun i H' => ∃ us, Same H7' H' ∧ H' D5 = some (.lst us) ∧ DpAll K H' us (((wRows.take i).map fun r => ((some r.2 : Option Nat), r.1)).map fun x => dEr x.1 x.2)) ⟨[], same_new nD5, upd_same, .nil⟩ (fun i H' _ ⟨_, s, _⟩ => SqL.of (s _ _ h65)) ?_ ?_
  · rintro i y H' H'' hi ⟨us, s, hD, hY⟩ ⟨rfl, ey⟩
    obtain ⟨d, e1, e2⟩ := DpAll.get d65 ey
    rw [List.getElem?_map] at e1
    obtain ⟨r, hr1, rfl⟩ := Option.map_eq_some_iff.mp e1
    obtain ⟨ta, rfl, hta⟩ := dp_row e2
    have hta' := Same.tup s hta
    refine ⟨ta, _, rfl, hta', rfl, _, _, rfl, _, _, rfl, rfl, ?_⟩
    refine ⟨rfl, ?_⟩
    refine ⟨_, rfl, (by show 2 ≤ sizeLine; decide), fun u nu => ?_⟩
    have s2 := same_new (o := .tup [.str "InvalidNetwork", .int (r.2 : Int)]) nu
    have hD2 := s2 _ _ hD
    refine ⟨us, hD2, lt_line (by have := DpAll.length hY; simp at this; omega), _, same_mut (s.trans s2) nD5, upd_same, ?_⟩
    rw [List.take_add_one, hr1, List.map_append]
    exact told_more hD2 (DpAll.mono s2 hY) (.tup (SqT.of upd_same) (.cons (.str _) (.cons (.int _) .nil)))
  rintro H8 ⟨us', s8, hD5, hU⟩
  rw [l6, List.take_of_length_le (by decide +kernel)] at hU
  refine ⟨(by show 2 ≤ sizeLine; decide), fun u nu => ⟨(by show 1 ≤ sizeLine; decide), fun l3 nl3 => ?_⟩⟩
  have s9 := (same_new (o := .tup [.str "InvalidNetwork", .int 0]) nu).trans (same_new (o := .lst [.ref u]) nl3)
  have eu : upd (upd H8 u (.tup [.str "InvalidNetwork", .int 0])) l3 (.lst [.ref u]) u = some (.tup [.str "InvalidNetwork", .int 0]) := same_new nl3 _ _ upd_same
  refine ⟨l3, 4, [.ref u], rfl, rfl, upd_same, (by decide), (by decide), (by show 4 ≤ sizeLine; decide), fun l4 nl4 => ?_⟩
  have s10 := same_new (o := .lst (List.replicate (4 : Int).toNat [V.ref u]).flatten) nl4
  have dd : Dp K (upd (upd (upd H8 u (.tup [.str "InvalidNetwork", .int 0])) l3 (.lst [.ref u])) l4 (.lst (List.replicate (4 : Int).toNat [V.ref u]).flatten)) (.ref u) (dEr (some 0) "") := .tup (SqT.of (s10 _ _ eu)) (.cons (.str _) (.cons (.int _) .nil))
  have sA := s9.trans s10
  have lus := DpAll.length hU
  refine ⟨D5, l4, us', _, rfl, rfl, sA _ _ hD5, upd_same, le_line (by rw [lus, List.length_map, List.length_map]; show wRows.length + 4 ≤ 100000; decide +kernel), fun p9 np9 => ?_⟩
  have s11 := same_new (o := .lst (us' ++ (List.replicate (4 : Int).toNat [V.ref u]).flatten)) np9
  have sB := s8.trans (sA.trans s11)
  have hP9 := sB _ _ hP5
  have dP9 := DpAll.mono sB dP5
  have hE9 := upd_same (H := upd (upd (upd H8 u (.tup [.str "InvalidNetwork", .int 0])) l3 (.lst [.ref u])) l4 (.lst (List.replicate (4 : Int).toNat [V.ref u]).flatten)) (a := p9) (o := .lst (us' ++ (List.replicate (4 : Int).toNat [V.ref u]).flatten))
  have dE9 : DpAll K (upd (upd (upd (upd H8 u (.tup [.str "InvalidNetwork", .int 0])) l3 (.lst [.ref u])) l4 (.lst (List.replicate (4 : Int).toNat [V.ref u]).flatten)) p9 (.lst (us' ++ (List.replicate (4 : Int).toNat [V.ref u]).flatten))) (us' ++ (List.replicate (4 : Int).toNat [V.ref u]).flatten) ((wRows.map (fun r => ((some r.2 : Option Nat), r.1)) ++ List.replicate 4 ((some 0 : Option Nat), ("" : Str))).map fun x => dEr x.1 x.2) := by
    rw [List.map_append]
    exact DpAll.mono s11 (DpAll.append (DpAll.mono sA hU) (.cons dd (.cons dd (.cons dd (.cons dd .nil)))))
  have tb9 := tb5.ext sB
  generalize upd (upd (upd (upd H8 u (.tup [.str "InvalidNetwork", .int 0])) l3 (.lst [.ref u])) l4 (.lst (List.replicate (4 : Int).toNat [V.ref u]).flatten)) p9 (.lst (us' ++ (List.replicate (4 : Int).toNat [V.ref u]).flatten)) = H9 at *
  clear sB s11 lus sA dd s10 nl4 eu s9 hU hD5 s8 nD5 h65 d65 tb5 dP5 hP5 np9 nu nl3
  refine gn_step ?_
  try dsimp only [List.set]
  refine sq_asg ?_
  refine dlst_step (W := fun G H => G = H) (fun n => .str (wS n)) wo_eq rfl ?_ (Nat.le_of_ble_eq_true rfl) (fun p6 z6 G6 H6 s6 w6 n6 h6 d6 => ?_)
  · exact (acc_app acc_nil (acc_app (acc_one (acc_of (accE_var (i := 0) (z := wA) rfl))) (acc_app (acc_one (acc_of (acc_vv (a := 0) (b := 1) (x := wA) (y := wB) rfl rfl (by decide +kernel)))) (acc_app (acc_one (acc_of (accE_add (acc_vvv (a := 0) (b := 1) (c := 2) (x := wA) (y := wB) (u := wT) rfl rfl rfl (by decide +kernel) (by decide +kernel)) accE_c (by decide +kernel)))) acc_nil))))
  subst w6
  have hP6 := s6 _ _ hP9
  have dP6 := DpAll.mono s6 dP9
  have hE6 := s6 _ _ hE9
  have dE6 := DpAll.mono s6 dE9
  have tb6 := tb9.ext s6
  replace d6 : DpAll K G6 z6 (wGood.map PyData.str) := d6
  clear s6 n6 hP9 dP9 hE9 dE9 tb9
  refine gn_step ?_
  try dsimp only [List.set]
  refine ⟨_, rfl, _, rfl, _, _, .list ((wRows.map (fun r => ((some r.2 : Option Nat), r.1)) ++ List.replicate 4 ((some 0 : Option Nat), ("" : Str))).map fun x => dEr x.1 x.2), rfl, .lst (SqL.of hP6) dP6, .lst (SqL.of hE6) dE6, ?_, fun H7 s7 => ?_⟩
  · refine .lst (by decide +kernel) fun d hd => ?_
    obtain ⟨x, _, rfl⟩ := List.mem_map.mp hd
    exact sh_dEr x
  refine ⟨true, rfl, ?_⟩
  rw [if_pos rfl]
  have h67 := s7 _ _ h6
  have d67 := DpAll.mono s7 d6
  have tb7 := tb6.ext s7
  clear hP6 dP6 hE6 dE6 tb6 h6 d6
  refine ⟨_, rfl, p6, rfl, ⟨_, SqL.of h67⟩, fun D9 nD9 => ?_⟩
  have l9 : z6.length = 4 := DpAll.length d67
  refine lc_it walk_list (fun i H' => Same H7 H' ∧ H' D9 = some (.lst ((wGood.take i).map V.str))) ⟨same_new nD9, upd_same⟩ (fun i H' _ ⟨s, _⟩ => SqL.of (s _ _ h67)) ?_ ?_
  · rintro i y H' H'' hi ⟨s, hD⟩ ⟨rfl, ey⟩
    obtain ⟨d, e1, e2⟩ := DpAll.get d67 ey
    rw [List.getElem?_map] at e1
    obtain ⟨t, ht, rfl⟩ := Option.map_eq_some_iff.mp e1
    obtain rfl := dp_str e2
    obtain ⟨er, lt⟩ := wGood_all t (List.mem_of_getElem? ht)
    refine ⟨rfl, rfl, _, rfl, .inr ⟨t, rfl, lt, (fun i e => by rw [er] at e; cases e), fun _ H2 x dc dt s2 nx n1 n2 na => ?_⟩⟩
    obtain ⟨dx, h0, _, _⟩ := id na
    have g := read_good t
    have et := read_ok er
    have ln := took_few (linesO t)
    have ll : (linesO t).length ≤ 1000 := by
      have z := split_parts t
      have z2 := split_weight t "\n" (by decide +kernel)
      have z3 := congrArg List.length z
      rw [List.length_append, List.length_singleton] at z3
      omega
    refine ⟨x, dx, _, rfl, h0, rfl, x, dc, dt, _, _, rfl, na, good_cs g (Nat.le_trans ln.1 ll), good_ts g (Nat.le_trans ln.2 ll), fun H3 s3 => ?_⟩
    have e3 : textN (readN t).1 (readN t).2 = t := (text_is (readN t)).trans et
    rw [e3]
    refine ⟨_, s3 _ _ (s2 _ _ hD), ?_, same_mut (s.trans (s2.trans s3)) nD9, ?_⟩
    · rw [List.length_map, List.length_take]
      exact lt_line (by omega)
    · rw [upd_same, List.take_add_one, ht, List.map_append]
      rfl
  rintro H10 ⟨s10, hD10⟩
  rw [l9, List.take_of_length_le (by decide)] at hD10
  refine ⟨_, rfl, .list (wGood.map PyData.str), .list (wGood.map PyData.str), .lst (SqL.of hD10) (strs_dp wGood), .lst (SqL.of (s10 _ _ h67)) (DpAll.mono s10 d67), (by decide +kernel), ?_⟩
  rw [show PyData.eqv (.list (wGood.map PyData.str)) (.list (wGood.map PyData.str)) = true by decide +kernel]
  exact q _
end
end Bh

set_option Elab.async false
set_option linter.all false
set_option maxRecDepth 100000
set_option maxHeartbeats 1000000
namespace Bh
open PySem PySem.Spec PyProof.Rows L2 LamX NdefX
abbrev addS : R2 := fun x y H Q => ∃ i j, x = V.str i ∧ y = V.str j ∧ i.length + j.length ≤ sizeLine ∧ Q (V.str (i ++ j)) H
theorem lc_nl {K : PySem.W.Frag} {σ : L2.St} {H : Hp} {Q : VK} {t : TE} {j : Nat} {ls : List Str}
    (ej : ∀ v, (List.set (wipe σ [j]) j (some v))[j]? = some (some v)) (ew : ∀ v, wipe (List.set (wipe σ [j]) j (some v)) [j] = wipe σ [j])
    (he : ∀ Q' : VK, (∀ (H' : Hp) (p' : Addr), Same H H' → H' p' = some (.lst (ls.map V.str)) → Q' (.ref p') H') → t σ H Q')
    (len : ∀ l ∈ ls, l.length ≤ 5000) (few : ls.length ≤ 1000)
    (q : ∀ (H' : Hp) (D : Addr), Same H H' → H' D = some (.lst ((ls.map fun l : Str => l ++ ("\n" : Str)).map V.str)) → Q (.ref D) H') :
    tLc (iList K t) (gName j) tYes (tOp addS (tVar j) (tC (.str "\n"))) [j] σ H Q := by
  refine he _ fun H1 a s0 ha => ?_
  refine ⟨a, rfl, ⟨_, SqL.of ha⟩, fun D nD => ?_⟩
  refine lc_it walk_list (fun i H' => Same H1 H' ∧ H' D = some (.lst (((ls.map fun l : Str => l ++ ("\n" : Str)).take i).map V.str))) ⟨same_new nD, upd_same⟩ (fun i H' _ p => SqL.of (p.1 _ _ ha)) ?_ ?_
  · rintro i y H' H'' hi ⟨s1, hD⟩ ⟨rfl, ey⟩
    rw [List.getElem?_map] at ey
    obtain ⟨l, hl, rfl⟩ := Option.map_eq_some_iff.mp ey
    have ll := len l (List.mem_of_getElem? hl)
    refine ⟨ew _, _, ej _, _, _, rfl, rfl, le_line (by show _ + 1 ≤ _; omega), _, hD, ?_, same_mut s1 nD, ?_⟩
    · rw [List.length_map, List.length_take]
      exact lt_line (by rw [List.length_map]; omega)
    · rw [upd_same, List.take_add_one, List.getElem?_map, hl, List.map_append]
      rfl
  · rintro H' ⟨s1, hD⟩
    rw [List.length_map, List.take_of_length_le (by rw [List.length_map]; exact Nat.le_refl _)] at hD
    exact q H' D (s0.trans s1) hD
/-- the lines' list is not the bag -/
theorem not_bag {H : Hp} {b l p : Addr} {s : Str} {ss : List V} (hp : H p = some (.lst (.str s :: ss))) (hb : BagAt b l H) : p ∉ [b, l] := fun m => by
  obtain ⟨ns, i, c, r, h1, h2, _⟩ := hb
  simp only [List.mem_cons, List.not_mem_nil, or_false] at m
  rcases m with rfl | rfl
  · rw [hp] at h1
    cases h1
  · rw [hp] at h2
    cases ns with
    | nil => cases h2
    | cons n ns => cases h2
theorem cutV_drop (xs : List V) {n : Nat} (h : n ≤ xs.length) : cutV xs (some (n : Int)) none = xs.drop n := by
  unfold cutV
  rw [HT.sIx_none, HT.sIx_nat, Nat.min_eq_left h]
  exact List.take_of_length_le (by rw [List.length_drop]; exact Nat.le_refl _)
theorem rows_cat {K : PySem.W.Frag} {σ : L2.St} {H : Hp} {Q : VK} {p : Addr} {ls : List Str} {n i j : Nat} {o : Str} {t : TE}
    (hi : σ[i]? = some (some (.ref p))) (hj : σ[j]? = some (some (.int (n : Int)))) (hp : H p = some (.lst (ls.map V.str))) (hn : n ≤ ls.length) (few : ls.length ≤ 1000)
    (ht : ∀ (H' : Hp) (Q' : VK), Q' (.str o) H' → t σ H' Q')
    (q : ∀ (H' : Hp) (p' : Addr), Same H H' → H' p' = some (.lst ((ls.take n ++ o :: ls.drop n).map V.str)) → Q (.ref p') H') :
    tOp rCat (tOp rCat (tSl (rSlL K) (tVar i) tNoPart (tPart (tVar j))) (tLst (tCons t tNil))) (tSl (rSlL K) (tVar i) (tPart (tVar j)) tNoPart) σ H Q := by
  refine ⟨_, hi, _, hj, (n : Int), rfl, p, _, rfl, SqL.of hp, fun a na => ?_⟩
  have s1 := same_new (o := .lst (cutV (ls.map V.str) none (some (n : Int)))) na
  refine ht _ _ ?_
  refine ⟨(by show 1 ≤ sizeLine; decide), fun c nc => ?_⟩
  have s2 := s1.trans (same_new (o := .lst [V.str o]) nc)
  have ha : upd (upd H a (.lst (cutV (ls.map V.str) none (some (n : Int))))) c (.lst [V.str o]) a = some (.lst (cutV (ls.map V.str) none (some (n : Int)))) := same_new nc _ _ upd_same
  have e1 : cutV (ls.map V.str) none (some (n : Int)) = (ls.take n).map V.str := by
    rw [cutV_take _ (by omega), List.map_take]
    rfl
  have e2 : cutV (ls.map V.str) (some (n : Int)) none = (ls.drop n).map V.str := by
    rw [cutV_drop _ (by rw [List.length_map]; exact hn), List.map_drop]
  refine ⟨a, c, _, _, rfl, rfl, ha, upd_same, le_line ?_, fun d nd => ?_⟩
  · rw [e1, List.length_map, List.length_take]
    show _ + 1 ≤ _
    omega
  have s3 := s2.trans (same_new (o := .lst (cutV (ls.map V.str) none (some (n : Int)) ++ [V.str o])) nd)
  refine ⟨_, hi, _, hj, (n : Int), rfl, p, _, rfl, SqL.of (s3 _ _ hp), fun e ne => ?_⟩
  have s4 := s3.trans (same_new (o := .lst (cutV (ls.map V.str) (some (n : Int)) none)) ne)
  refine ⟨d, e, _, _, rfl, rfl, same_new ne _ _ upd_same, upd_same, le_line ?_, fun f nf => ?_⟩
  · rw [e1, e2, List.length_append, List.length_map, List.length_map, List.length_take, List.length_drop]
    show _ + 1 + _ ≤ _
    omega
  refine q _ f (s4.trans (same_new nf)) ?_
  rw [upd_same, e1, e2, List.map_append, List.map_cons]
  simp
theorem tcb1 {r : List V → Hp → VK → Prop} {t : TE} {σ : L2.St} {H : Hp} {Q : VK} (h : t σ H fun x H1 => r [x] H1 Q) : tCB r (tCons t tNil) σ H Q := h
theorem cutS_lo_len (z : Str) (k : Nat) : (cutS z none (some (k : Int))).length ≤ k := by
  have e := cut_lo z k
  show (cutS z none (some (k : Int))).cps.size ≤ k
  rw [← Array.length_toList, e, List.length_take]
  omega
theorem cutS_hi_len (z : Str) (k : Nat) : (cutS z (some (k : Int)) none).length ≤ z.length - k := by
  show (cutS z (some (k : Int)) none).cps.size ≤ _
  unfold cutS
  rw [HT.sIx_none, HT.sIx_nat]
  show (List.take _ (List.drop _ z.cps.toList)).toArray.size ≤ _
  rw [List.size_toArray, List.length_take, List.length_drop]
  omega
section
variable {K : PySem.W.Frag} {mg : Str → Option Value} {TL : List (Addr × Str)} {H : Hp} {Q : VK}
theorem lines_few (t : Str) : (linesO t).length ≤ t.length + 1 := by
  have z := split_parts t
  have z2 := split_weight t "\n" (by decide +kernel)
  have z3 := congrArg List.length z
  rw [List.length_append, List.length_singleton] at z3
  omega
theorem ask_text (T : Top K mg) {R : NtC K mg} {t : Str} {i : Nat} {σ : L2.St} (hi : σ[i]? = some (some (.str t))) (lt : t.length ≤ 900) (tb : Tabs TL H)
    (q : ∀ (H2 : Hp) (p : Addr), Same (noTb H) H2 → Tabs TL H2 → Dp K H2 (.ref p) (dEr (readE t) t) → Q (.ref p) H2) :
    LamX.tLam TL (TTryE K T.cBE T.cMS exPairs) (fun E => tMeth R.C "text" (spText R.C) [] E0 (ClX.tCMeth R.C (spReadN K R.C T.r_InvalidNetwork.c) E (tC (.ref R.C)) (tCons (tVar i) tNil)) tNil) σ H Q := by
  refine tlam_gen T (r := readE t) (z := t) tb (fun H1 E Q' e t1 a b => ?_) q
  refine ⟨rfl, _, hi, .inr ⟨t, rfl, lt, fun i e => a i e, fun e2 H2 x dc dt s nx n1 n2 na => ?_⟩⟩
  obtain ⟨dx, h0, _, _⟩ := id na
  have et := read_ok e2
  have ln := took_few (linesO t)
  have ll := lines_few t
  refine ⟨x, dx, _, rfl, h0, rfl, x, dc, dt, _, _, rfl, na, good_cs (read_good t) (Nat.le_trans ln.1 (by omega)), good_ts (read_good t) (Nat.le_trans ln.2 (by omega)), fun H6 s6 => ?_⟩
  have e3 : textN (readN t).1 (readN t).2 = t := (text_is (readN t)).trans et
  rw [e3]
  exact b e2 H6 (s.trans s6)
theorem dp_er {p : Addr} {i : Nat} {z : Str} (h : Dp K H (.ref p) (dEr (some i) z)) : SqT K H p [.str "InvalidNetwork", .int (i : Int)] := by
  cases h with
  | @tup a xs ds h1 h2 =>
    cases h2 with
    | cons a1 r1 =>
    cases r1 with
    | cons a2 r2 =>
    cases r2
    cases a1
    cases a2
    exact h1
theorem eqv_val (z : Str) : PyData.eqv (dEr none z) (.tuple [.str "value", .str z]) = true := by
  simp [dEr, PyData.eqv, PyData.eqvAll]
theorem eqv_no (i : Nat) (z y : Str) : PyData.eqv (dEr (some i) z) (.tuple [.str "value", .str y]) = false := by
  have : (("InvalidNetwork" : Str) == "value") = false := by decide +kernel
  simp [dEr, PyData.eqv, PyData.eqvAll, this]
end
theorem cutS_len (z : Str) (lo hi : Option Int) : (cutS z lo hi).length ≤ z.length := by
  show (cutS z lo hi).cps.size ≤ _
  unfold cutS
  show (List.take _ (List.drop _ z.cps.toList)).toArray.size ≤ _
  rw [List.size_toArray, List.length_take, List.length_drop]
  show _ ≤ z.cps.size
  rw [← Array.length_toList]
  omega
theorem ifn_step {sp : Sp} {dvs : List V} {E : XK} {tc : TE} {ta : TA} {t u : TS} {D : Ends} {σ : L2.St} {H : Hp} (h : tc σ H fun x H1 => ta σ H1 fun xs H2 => sp (x :: xs ++ dvs) H2 (fun v H3 => ∃ c, v = .bl c ∧ if (!c) = true then t D σ H3 else u D σ H3) E) :
    tIfS (tNot (tB (tCall sp dvs E (tCons tc ta)))) t u D σ H := h
theorem bent_if {I12 I17 I5 : Nat} {K : PySem.W.Frag} {σ : L2.St} {H : Hp} {D : Ends} {p : Addr} {bent text : Str} (h12 : σ[I12]? = some (some (.ref p))) (h17 : σ[I17]? = some (some (.str bent))) (h5 : σ[I5]? = some (some (.str text)))
    (d : Dp K H (.ref p) (dEr (readE bent) bent)) (nt : readE text = none) (nx : ∀ H', Same H H' → D.nx σ H') :
    tIfS (tAnd (tTest (tOp (rNeP K) (tVar I12) (tTup (tCons (tC (.str "value")) (tCons (tVar I17) tNil))))) (tOr (tTest (tOp (rNeP K) (tOp (rIxT K) (tVar I12) (tC (.int 0))) (tC (.str "InvalidNetwork")))) (tTest (tOp rEq (tVar I17) (tVar I5))))) (tRet (tC (.bl false))) tNext D σ H := by
  refine ⟨_, h12, _, h17, (by show 2 ≤ sizeLine; decide), fun u nu => ?_⟩
  have su := same_new (o := .tup [.str "value", .str bent]) nu
  replace d := Dp.mono su d
  refine ⟨dEr (readE bent) bent, .tuple [.str "value", .str bent], d, .tup (SqT.of upd_same) (.cons (.str _) (.cons (.str _) .nil)), Nat.le_trans (Nat.min_le_left _ _) (Nat.le_trans (sh_dEr (n := 6) (readE bent, bent)).depth (by decide)), _, rfl, ?_⟩
  cases er : readE bent with
  | none =>
    rw [eqv_val]
    exact nx _ su
  | some i =>
    rw [eqv_no]
    rw [er] at d
    refine ⟨_, h12, p, _, (0 : Int), .str "InvalidNetwork", rfl, rfl, dp_er d, at_nn (by decide) rfl, .str "InvalidNetwork", .str "InvalidNetwork", .str _, .str _, (by decide +kernel), _, rfl, iteB (fun z => absurd z (by decide +kernel)) (fun _ => ?_)⟩
    refine ⟨_, h17, _, h5, rfl, _, rfl, iteB (fun z => ?_) (fun _ => nx _ su)⟩
    have z := of_decide_eq_true z
    injection z with z
    rw [z, nt] at er
    cases er
theorem net32 {D : Nt} (g : GoodN D) : ∀ l ∈ netLs D, l.length ≤ 32 := fun l hl => by
  have b1 : ("cell " : Str).length = 5 := by decide +kernel
  have b2 : (" " : Str).length = 1 := by decide +kernel
  have b4 : ("tie " : Str).length = 4 := by decide +kernel
  rcases List.mem_append.mp hl with z | z
  · obtain ⟨c, hc, rfl⟩ := List.mem_map.mp z
    have h := g.cnm c hc
    have l1 := (word_len h.1).2
    have l2 := kind_len h.2
    rw [cellL_eq, len_app, len_app, len_app]
    omega
  · obtain ⟨t, ht, rfl⟩ := List.mem_map.mp z
    obtain ⟨h1, h2, h3⟩ := g.ends ht
    have l1 := (word_len h1).2
    have l2 := (word_len h2).2
    have l3 := (word_len h3).2
    rw [tieL_eq, len_app]
    have e : Txt.join " " [t.1, t.2.1, t.2.2] = t.1 ++ " " ++ (t.2.1 ++ " " ++ t.2.2) := by rw [TL.join_eq]; rfl
    rw [e, len_app, len_app, len_app, len_app]
    omega
theorem odd32 : ∀ l ∈ oddN, l.length ≤ 32 := by decide +kernel
theorem sh_net {n : Nat} {cs : List Cl} {ts : List Ti} (h1 : cs.length ≤ 100000) (h2 : ts.length ≤ 100000) : Sh (n + 3) (dNet cs ts) := by
  refine .tup (by show 2 ≤ 100000; decide) fun d hd => ?_
  rcases (by simpa using hd : d = .list (cs.map dCell) ∨ d = .list (ts.map dTi)) with rfl | rfl
  · refine .lst (by rw [List.length_map]; exact h1) fun d hd => ?_
    obtain ⟨c, _, rfl⟩ := List.mem_map.mp hd
    refine .tup (by show 2 ≤ 100000; decide) fun d hd => ?_
    rcases (by simpa using hd : d = .str c.1 ∨ d = .str c.2) with rfl | rfl <;> exact .str
  · refine .lst (by rw [List.length_map]; exact h2) fun d hd => ?_
    obtain ⟨t, _, rfl⟩ := List.mem_map.mp hd
    refine .tup (by show 3 ≤ 100000; decide) fun d hd => ?_
    rcases (by simpa using hd : d = .str t.1 ∨ d = .str t.2.1 ∨ d = .str t.2.2) with rfl | rfl | rfl <;> exact .str
theorem eqNet_self {cs : List Cl} {ts : List Ti} (a : CsOk cs) : eqNet cs cs ts ts = true := by
  unfold eqNet
  rw [beq_self_eq_true, beq_self_eq_true, Bool.true_and, Bool.true_and, Bool.and_eq_true]
  exact ⟨List.all_eq_true.mpr fun c hc => decide_eq_true (kind_nodup a.nd hc), List.all_eq_true.mpr fun t ht => decide_eq_true ht⟩
theorem seq_meet {s u : TS} {D : Ends} {σ : L2.St} {H : Hp} (R : L2.St → Hp → Prop) (h : ∀ D' : Ends, (∀ σ' H', R σ' H' → D'.nx σ' H') → s D' σ H) (hu : ∀ σ' H', R σ' H' → u D σ' H') : tSeq s u D σ H := h { D with nx := u D } hu
end Bh

set_option Elab.async false
set_option linter.all false
set_option maxRecDepth 100000
set_option maxHeartbeats 4000000
set_option autoImplicit false
namespace Bh
open PySem PySem.Spec PyProof.Rows L2 LamX NdefX
abbrev lawQ : Str := "law.<locals>.<lambda>"
abbrev wrQ : Str := "_law_written_webs.<locals>.<lambda>"
def spLaw0 (K : PySem.W.Frag) (TL : List (Addr × Str)) : Sp := fun vs H Q _ => ∃ (a : Addr) (ns : List Int), vs = [.ref a] ∧ SqL K H a (ns.map V.int) ∧ ns.length ≤ 63 ∧ Tabs TL H ∧ ∀ H', Q (.bl true) H'
theorem not_bagN {H : Hp} {b l p : Addr} (np : H p = none) (hb : BagAt b l H) : p ∉ [b, l] := fun m => by
  obtain ⟨o, h1⟩ := hb.b_some
  obtain ⟨u, h2⟩ := hb.l_some
  simp only [List.mem_cons, List.not_mem_nil, or_false] at m
  rcases m with rfl | rfl
  · rw [np] at h1; cases h1
  · rw [np] at h2; cases h2
section
variable {P : Program} {w : World} {K : PySem.W.Frag} {mg : Str → Option Value} {base : Heap} {cS pS cL pL : Addr} {TL : List (Addr × Str)}
theorem kb_read {R : NtC K mg} (M : NtM K mg R) : KBn K M.fdR ["cls", "text"] 1 ["text"] (fun us ws => us ++ ws) (fun vs zs => vs ++ zs) := by
  obtain ⟨oc, od, kV, doc, pm, an, cdv, ct, osl, e, _⟩ := M.FR.ex
  refine ⟨fun s us ws _ l1 l2 => ?_, fun r1 r2 => ?_⟩
  · rw [e]
    match us, ws, l1, l2 with
    | [u], [a], _, _ => exact .of_eq rfl
  · exact r1.append r2
theorem ok_law {fL : Addr} {od an : Option Addr} {oc kV doc pm ct : Value} {osl : Array (Option Value)} (T : Top K mg) (S : WsM K mg cS) {R : NtC K mg} (M : NtM K mg R) (TBS : TabB base mg cS pS) (TBL : TabB base mg cL pL)
    (mS : (pS, wrQ) ∈ TL) (uS : ∀ p ∈ TL, p.1 = pS → p.2 = wrQ) (mL0 : (pL, lawQ) ∈ TL) (uL0 : ∀ p ∈ TL, p.1 = pL → p.2 = lawQ)
    (lk : K.lookup fL = some ⟨oc, od, .func (PySem.W.fnOf "law" "law" (defArgs s_law) (defBody s_law) (defScope s_law) .none kV doc pm an (.ref cL) ct), osl⟩) (hcd : PySem.W.codeIn K (.ref cL) "law" = true) :
    FnOk P w K mg base CX0 18 fL (PySem.W.fnOf "law" "law" (defArgs s_law) (defBody s_law) (defScope s_law) .none kV doc pm an (.ref cL) ct) ["_law_script"] (spLaw0 K TL) := by
  have mL : (pL, ("law.<locals>." : Str) ++ "<lambda>") ∈ TL := by
    rw [show (("law.<locals>." : Str) ++ "<lambda>") = lawQ by decide +kernel]
    exact mL0
  have uL : ∀ p ∈ TL, p.1 = pL → p.2 = ("law.<locals>." : Str) ++ "<lambda>" := fun p hp e => (uL0 p hp e).trans (show lawQ = ("law.<locals>." : Str) ++ "<lambda>" by decide +kernel)
  have G_l_bag := ok_bag (P := P) (w := w) (base := base) T
  have G_l_draw := ok_draw (P := P) (w := w) (base := base) T
  have G_l_any := ok_any (P := P) (w := w) (base := base) T
  have G_l_book := ok_book5 (P := P) (w := w) (base := base) T
  have G_l_net := ok_net (P := P) (w := w) (base := base) T
  have G_l_text_of := ok_textof (P := P) (w := w) (base := base) T
  have G_l_wrong_line := ok_oddline (P := P) (w := w) (base := base) T
  have G_l_web := ok_web (P := P) (w := w) (base := base) T M
  have G_l_net_of := ok_netof (P := P) (w := w) (base := base) T M
  have G_l_like := ok_like (P := P) (w := w) (base := base) T 8
  have G_m_text := ok_mtext (P := P) (w := w) (base := base) T M
  have G_m_eq := ok_meq (P := P) (w := w) (base := base) T M
  have G_read := ok_readN (P := P) (w := w) (base := base) T M
  have G_l_written_webs := ok_written (P := P) (w := w) (TL := TL) T S M TBS mS uS
  obtain ⟨oc2, od2, kV2, doc2, pm2, an2, cdvT, ct2, osl2, eT, lkT, hcT⟩ := T.d_l_try.F.ex
  have bT := T.d_l_try.b
  rw [eT] at bT lkT
  refine fn_of lk hcd sc_law (fun vs H Q E h => ?_) (fun A outer s H vs Q E hr h => ?_)
  · obtain ⟨a, ns, rfl, _⟩ := h
    rfl
  obtain ⟨a, ns, rfl, hS, hl, tb, q⟩ := h
  refine ⟨_, PSs.nox (pss_cons (ps_set (i := 1) sc_law.nd rfl (Or.inl rfl) (pe_call G_l_bag (hr.mono (by decide)) (by rfl) T.d_l_bag.g T.d_l_bag.kp T.d_l_bag.b .nil pass0 (pa_cons (pv 0) pa_nil)))
    (pss_cons (ps_for PassesOwn.never rfl (pi_range1 rfl T.b_range (pa_cons pe_int pa_nil)) (pg_name (i := 2) sc_law.nd rfl (Or.inl rfl))
      (pss_cons (ps_set (i := 3) sc_law.nd rfl (Or.inl rfl) (pe_call G_l_book (hr.mono (by decide)) (by rfl) T.d_l_book.g T.d_l_book.kp T.d_l_book.b .nil pass0 (pa_cons (pv 1) (pa_cons pe_int (pa_cons pe_int pa_nil)))))
      (pss_cons (ps_set (i := 4) sc_law.nd rfl (Or.inl rfl) (pe_call G_l_net (hr.mono (by decide)) (by rfl) T.d_l_net.g T.d_l_net.kp T.d_l_net.b .nil pass0 (pa_cons (pv 1) (pa_cons (pv 3) (pa_cons pe_int pa_nil)))))
      (pss_cons (ps_set (i := 5) sc_law.nd rfl (Or.inl rfl) (pe_call G_l_text_of (hr.mono (by decide)) (by rfl) T.d_l_text_of.g T.d_l_text_of.kp T.d_l_text_of.b .nil pass0 (pa_cons (pv 4) pa_nil)))
      (pss_cons (ps_set (i := 6) sc_law.nd rfl (Or.inr rfl) (pe_join_K (K := K) (by rfl) pe_str (pe_lc (own := [("_law_line", 17)]) rfl sc_law.nd (pi_list_K (K := K) (by rfl) (pv 5)) (blkOk_by (own := [("_law_line", 17)]) (N := ["_law_script", "_law_bag_here", "_law_turn", "_law_m", "_law_net_here", "_law_lines", "_law_text_z", "_law_web_here", "_law_found", "_law_at", "_law_odd", "_law_rows", "_law_told", "_law_spot", "_law_doubled", "_law_sign", "_law_bent", "_law_line", "_law_row"]) (sc := defScope s_law) (by decide +kernel)) (fun _ _ _ _ _ => by exact (pg_name (i := 17) sc_law.nd rfl (Or.inl rfl))) (fun _ _ _ _ _ => by exact pts_nil) (fun _ _ _ _ _ => by exact (pe_op op_add_str (pv 17) pe_str)))))
      (pss_cons (ps_set (i := 7) sc_law.nd rfl (Or.inl rfl) (pe_call G_l_web (hr.mono (by decide)) (by rfl) T.d_l_web.g T.d_l_web.kp T.d_l_web.b .nil pass0 (pa_cons (pv 4) pa_nil)))
      (pss_cons (ps_set (i := 8) sc_law.nd rfl (Or.inl rfl) (ClX.pe_cmeth (pe_glob (v := .ref R.C) rfl R.g rfl) M.rd M.cR (fnR_of G_read M.bR) (hr.mono (by decide)) passE (pa_cons (pv 6) pa_nil)))
      (pss_cons (ps_if (pt_not (pt_val (pe_call G_l_like (hr.mono (by decide)) (by rfl) T.d_l_like.g T.d_l_like.kp T.d_l_like.b .nil pass0 (pa_cons (pe_lst (pa_cons (pe_meth0 (pv 7) R.cl M.text.M G_m_text (hr.mono (by decide)) M.text.b .nil pass0) (pa_cons (pe_call G_l_net_of (hr.mono (by decide)) (by rfl) T.d_l_net_of.g T.d_l_net_of.kp T.d_l_net_of.b .nil pass0 (pa_cons (pv 8) pa_nil)) (pa_cons (pe_call G_l_net_of (hr.mono (by decide)) (by rfl) T.d_l_net_of.g T.d_l_net_of.kp T.d_l_net_of.b .nil pass0 (pa_cons (pe_cmethN (pe_glob (v := .ref R.C) rfl R.g rfl) M.rd M.cR G_read (hr.mono (by decide)) (kb_read M) passE (pk_cons (pv 6) pk_nil)) pa_nil)) pa_nil)))) (pa_cons (pe_lst (pa_cons (pv 6) (pa_cons (pv 4) (pa_cons (pv 4) pa_nil)))) pa_nil))))) (pss_one (ps_ret pe_bl)) pss_nil)
      (pss_cons (ps_if (pt_cmpR (op_neIns G_m_eq M.ne M.eq.b (hr.mono (by decide))) (pv 8) (pv 7) (nomark _)) (pss_one (ps_ret pe_bl)) pss_nil)
      (pss_cons (ps_par (i := 9) (j := 10) (by rfl) sc_law.nd rfl rfl (by decide) rfl rfl (pa_cons (pe_call G_l_draw (hr.mono (by decide)) (by rfl) T.d_l_draw.g T.d_l_draw.kp T.d_l_draw.b .nil pass0 (pa_cons (pv 1) (pa_cons (pe_op op_add (pe_callB (call_len_seq_K (K := K) (by rfl)) (by rfl) T.b_len PySem.boot_len (pa_cons (pv 5) pa_nil)) pe_int) pa_nil))) (pa_cons (pe_call G_l_wrong_line (hr.mono (by decide)) (by rfl) T.d_l_wrong_line.g T.d_l_wrong_line.kp T.d_l_wrong_line.b .nil pass0 (pa_cons (pv 1) pa_nil)) pa_nil)) (by rfl))
      (pss_cons (ps_set (i := 11) sc_law.nd rfl (Or.inr rfl) (pe_op op_cat (pe_op op_cat (pe_slice (sl_list_K (K := K) (by rfl)) (pv 5) po_none (po_some (pv 9))) (pe_lst (pa_cons (pv 10) pa_nil))) (pe_slice (sl_list_K (K := K) (by rfl)) (pv 5) (po_some (pv 9)) po_none)))
      (pss_cons (ps_set (i := 12) sc_law.nd rfl (Or.inl rfl) (LamX.pe_lamcall (T := TL) (TT := TTryE K T.cBE T.cMS exPairs) (x := "_law_try") (a := "_law_ask") (Ng := ["_law_ask", "_law_found", "_law_e"]) (k := 12) (t := fun E => _) (by rfl) T.d_l_try.g T.d_l_try.kp lkT hcT bT sc_l_try rfl (.inl (by rfl)) (try_givesT 12 T rfl rfl (hr.mono (by decide)) cdvT _) TBL rfl mL uL (hr.mono (by decide)) (LamX.lamS_by (by rfl)) rfl (fun _ _ _ _ _ => rfl) (fun A outer s H E f c' hr2 => by exact (ClX.pe_cmeth (pe_glob (v := .ref R.C) rfl R.g rfl) M.rd M.cR (fnR_of G_read M.bR) (hr2.mono (by decide)) (passes_call (takes_of rfl rfl rfl rfl) (fun _ _ _ _ z => z)) (pa_cons (pe_join_K (K := K) (by rfl) pe_str (pe_lc (own := [("_law_row", 18)]) rfl sc_law.nd (pi_list_K (K := K) (by rfl) (pv 11)) (blkOk_by (own := [("_law_row", 18)]) (by rfl)) (fun _ _ _ _ _ => by exact (pg_name (i := 18) sc_law.nd rfl (Or.inl rfl))) (fun _ _ _ _ _ => by exact pts_nil) (fun _ _ _ _ _ => by exact (pe_op op_add_str (pv 18) pe_str)))) pa_nil)))))
      (pss_cons (ps_if (pt_not (pt_val (pe_call G_l_like (hr.mono (by decide)) (by rfl) T.d_l_like.g T.d_l_like.kp T.d_l_like.b .nil pass0 (pa_cons (pv 12) (pa_cons (pe_tup (pa_cons pe_str (pa_cons (pv 9) pa_nil))) pa_nil))))) (pss_one (ps_ret pe_bl)) pss_nil)
      (pss_cons (ps_if (pt_cmpR (op_neP (K := K) (by rfl) hr.units) (pv 5) (pe_lst pa_nil) (nomark _)) (pss_cons (ps_set (i := 12) sc_law.nd rfl (Or.inl rfl) (LamX.pe_lamcall (T := TL) (TT := TTryE K T.cBE T.cMS exPairs) (x := "_law_try") (a := "_law_ask") (Ng := ["_law_ask", "_law_found", "_law_e"]) (k := 12) (t := fun E => _) (by rfl) T.d_l_try.g T.d_l_try.kp lkT hcT bT sc_l_try rfl (.inl (by rfl)) (try_givesT 12 T rfl rfl (hr.mono (by decide)) cdvT _) TBL rfl mL uL (hr.mono (by decide)) (LamX.lamS_by (by rfl)) rfl (fun _ _ _ _ _ => rfl) (fun A outer s H E f c' hr2 => by exact (ClX.pe_cmeth (pe_glob (v := .ref R.C) rfl R.g rfl) M.rd M.cR (fnR_of G_read M.bR) (hr2.mono (by decide)) (passes_call (takes_of rfl rfl rfl rfl) (fun _ _ _ _ z => z)) (pa_cons (pe_slice sl_str (pv 6) po_none (po_some (pe_un un_neg pe_int))) pa_nil)))))
        (pss_cons (ps_set (i := 13) sc_law.nd rfl (Or.inl rfl) (pe_call G_l_draw (hr.mono (by decide)) (by rfl) T.d_l_draw.g T.d_l_draw.kp T.d_l_draw.b .nil pass0 (pa_cons (pv 1) (pa_cons (pe_callB (call_len_seq_K (K := K) (by rfl)) (by rfl) T.b_len PySem.boot_len (pa_cons (pv 5) pa_nil)) pa_nil))))
        (pss_cons (ps_set (i := 14) sc_law.nd rfl (Or.inr rfl) (pe_op op_cat (pe_slice (sl_list_K (K := K) (by rfl)) (pv 5) po_none (po_some (pe_op op_add (pv 13) pe_int))) (pe_slice (sl_list_K (K := K) (by rfl)) (pv 5) (po_some (pv 13)) po_none)))
        (pss_cons (ps_set (i := 8) sc_law.nd rfl (Or.inl rfl) (LamX.pe_lamcall (T := TL) (TT := TTryE K T.cBE T.cMS exPairs) (x := "_law_try") (a := "_law_ask") (Ng := ["_law_ask", "_law_found", "_law_e"]) (k := 12) (t := fun E => _) (by rfl) T.d_l_try.g T.d_l_try.kp lkT hcT bT sc_l_try rfl (.inl (by rfl)) (try_givesT 12 T rfl rfl (hr.mono (by decide)) cdvT _) TBL rfl mL uL (hr.mono (by decide)) (LamX.lamS_by (by rfl)) rfl (fun _ _ _ _ _ => rfl) (fun A outer s H E f c' hr2 => by exact (ClX.pe_cmeth (pe_glob (v := .ref R.C) rfl R.g rfl) M.rd M.cR (fnR_of G_read M.bR) (hr2.mono (by decide)) (passes_call (takes_of rfl rfl rfl rfl) (fun _ _ _ _ z => z)) (pa_cons (pe_join_K (K := K) (by rfl) pe_str (pe_lc (own := [("_law_row", 18)]) rfl sc_law.nd (pi_list_K (K := K) (by rfl) (pv 14)) (blkOk_by (own := [("_law_row", 18)]) (by rfl)) (fun _ _ _ _ _ => by exact (pg_name (i := 18) sc_law.nd rfl (Or.inl rfl))) (fun _ _ _ _ _ => by exact pts_nil) (fun _ _ _ _ _ => by exact (pe_op op_add_str (pv 18) pe_str)))) pa_nil)))))
        (pss_one (ps_if (pt_not (pt_val (pe_call G_l_like (hr.mono (by decide)) (by rfl) T.d_l_like.g T.d_l_like.kp T.d_l_like.b .nil pass0 (pa_cons (pe_lst (pa_cons (pv 12) (pa_cons (pv 8) pa_nil))) (pa_cons (pe_lst (pa_cons (pe_tup (pa_cons pe_str (pa_cons (pe_op op_sub (pe_callB (call_len_seq_K (K := K) (by rfl)) (by rfl) T.b_len PySem.boot_len (pa_cons (pv 5) pa_nil)) pe_int) pa_nil))) (pa_cons (pe_tup (pa_cons pe_str (pa_cons (pe_op op_add (pv 13) pe_int) pa_nil))) pa_nil))) pa_nil))))) (pss_one (ps_ret pe_bl)) pss_nil)))))) pss_nil)
      (pss_cons (ps_par (i := 13) (j := 15) (by rfl) sc_law.nd rfl rfl (by decide) rfl rfl (pa_cons (pe_call G_l_draw (hr.mono (by decide)) (by rfl) T.d_l_draw.g T.d_l_draw.kp T.d_l_draw.b .nil pass0 (pa_cons (pv 1) (pa_cons (pe_op op_add (pe_callB call_len_str (by rfl) T.b_len PySem.boot_len (pa_cons (pv 6) pa_nil)) pe_int) pa_nil))) (pa_cons (pe_call G_l_any (hr.mono (by decide)) (by rfl) T.d_l_any.g T.d_l_any.kp T.d_l_any.b .nil pass0 (pa_cons (pv 1) (pa_cons (pe_lst (pa_cons pe_str (pa_cons pe_str (pa_cons pe_str (pa_cons pe_str (pa_cons pe_str (pa_cons pe_str (pa_cons pe_str pa_nil)))))))) pa_nil))) pa_nil)) (by rfl))
      (pss_cons (ps_set (i := 16) sc_law.nd rfl (Or.inr rfl) (pe_op op_add_str (pe_op op_add_str (pe_slice sl_str (pv 6) po_none (po_some (pv 13))) (pv 15)) (pe_slice sl_str (pv 6) (po_some (pe_op op_add (pv 13) (pe_call G_l_draw (hr.mono (by decide)) (by rfl) T.d_l_draw.g T.d_l_draw.kp T.d_l_draw.b .nil pass0 (pa_cons (pv 1) (pa_cons pe_int pa_nil))))) po_none)))
      (pss_cons (ps_set (i := 12) sc_law.nd rfl (Or.inl rfl) (LamX.pe_lamcall (T := TL) (TT := TTryE K T.cBE T.cMS exPairs) (x := "_law_try") (a := "_law_ask") (Ng := ["_law_ask", "_law_found", "_law_e"]) (k := 12) (t := fun E => _) (by rfl) T.d_l_try.g T.d_l_try.kp lkT hcT bT sc_l_try rfl (.inl (by rfl)) (try_givesT 12 T rfl rfl (hr.mono (by decide)) cdvT _) TBL rfl mL uL (hr.mono (by decide)) (LamX.lamS_by (by rfl)) rfl (fun _ _ _ _ _ => rfl) (fun A outer s H E f c' hr2 => by exact (pe_meth0 (ClX.pe_cmeth (pe_glob (v := .ref R.C) rfl R.g rfl) M.rd M.cR (fnR_of G_read M.bR) (hr2.mono (by decide)) (passes_call (takes_of rfl rfl rfl rfl) (fun _ _ _ _ z => z)) (pa_cons (pv 16) pa_nil)) R.cl M.text.M G_m_text (hr2.mono (by decide)) M.text.b .nil pass0))))
      (pss_one (ps_if (PW.pt (pw_and (pt_cmpR (op_neP (K := K) (by rfl) hr.units) (pv 12) (pe_tup (pa_cons pe_str (pa_cons (pv 16) pa_nil))) (nomark _)) (pw_and1 (PW.pt (pw_or (pt_cmpR (op_neP (K := K) (by rfl) hr.units) (pe_ix (ix_tup_K (K := K) (by rfl)) (pv 12) pe_int (fun _ _ => rfl)) pe_str (nomark _)) (pw_or1 (pt_cmpR op_eq (pv 16) (pv 6) (nomark _)))))))) (pss_one (ps_ret pe_bl)) pss_nil)))))))))))))))))))
    (pss_one (ps_ret (pe_call0 G_l_written_webs (hr.mono (by decide)) (by rfl) S.g S.kp S.b .nil pass0))))), ?_⟩
  refine ⟨_, rfl, a, ns, rfl, hS, hl, fun b l H1 nb nl s1 hb => ?_⟩
  have tb1 := tb.ext s1
  refine ⟨_, rfl, by omega, by omega, ?_⟩
  refine for_it walk_range (fun i σ H' => ∃ x2 x3 x4 x5 x6 x7 x8 x9 x10 x11 x12 x13 x14 x15 x16, σ = [some (.ref a), some (.ref b), x2, x3, x4, x5, x6, x7, x8, x9, x10, x11, x12, x13, x14, x15, x16, none, none] ∧ BagAt b l H' ∧ Tabs TL H')
    ⟨none, none, none, none, none, none, none, none, none, none, none, none, none, none, none, rfl, hb, tb1⟩ (fun _ _ _ _ _ => True.intro) ?_ ?_
  · clear hS hl tb tb1 hb s1 nb nl
    rintro iT vT σ H0 H0' hiT ⟨x2, x3, x4, x5, x6, x7, x8, x9, x10, x11, x12, x13, x14, x15, x16, rfl, hb, tb⟩ ⟨rfl, rfl⟩
    refine ⟨_, rfl, b, l, noBag b l H0', 2, rfl, by decide, by decide, hb.wd, fun G1 H1 t p1 p2 p3 y1 y2 y3 fs ts0 ks s1 w1 g0 g1 g2 g3 d1 d2 d3 ok5 t1 t4 tnm k1 k3 knm => ?_⟩
    refine gn_step ?_
    dsimp only [List.set]
    refine ⟨_, rfl, _, rfl, b, l, t, p1, p2, p3, G1, y2, y3, ts0, ks, rfl, w1, g0, g2, g3, d2, d3, t1, t4, tnm, k1, k3, knm, fun G2 H2 v cs us s2 w2 wa g lc lt => ?_⟩
    have tb2 := draws_tab tb hb (s1.trans s2) w2
    have hb2 := w2.bag
    have wa2 := wa.mono w2.sm
    clear s1 s2 w1 w2 g0 g1 g2 g3 d1 d2 d3 tb hb wa ok5 t1 t4 tnm k1 k3 knm G1 G2
    refine gn_step ?_
    dsimp only [List.set]
    refine ⟨_, rfl, v, cs, us, rfl, wa2, g, by omega, by omega, fun p H3 np s3 hp => ?_⟩
    have nbp := not_bagN np hb2
    replace wa2 := wa2.mono s3
    have tb3 := tb2.ext s3
    have hb3 := hb2.same s3
    have mb := net_line g
    have m32 := net32 g
    have lb : (netLs (cs, us)).length ≤ 24 := by
      unfold netLs
      rw [List.length_append, List.length_map, List.length_map]
      dsimp only
      omega
    clear tb2 hb2 s3 np
    refine gn_step ?_
    dsimp only [List.set]
    refine ⟨⟨_, rfl⟩, lc_nl (fun _ => rfl) (fun _ => rfl) (fun Q' k => ⟨_, rfl, k _ p (Same.refl _) hp⟩) (fun l hl => by have := m32 l hl; omega) (by omega) (fun H4 D s4 hD => ?_)⟩
    refine ⟨_, D, _, rfl, rfl, .inl (SqL.of hD), join_ok (m := 33) (fun z hz => ?_) ?_, ?_⟩
    · obtain ⟨ln, hl, rfl⟩ := List.mem_map.mp hz
      rw [len_app]
      have := m32 ln hl
      show _ + 1 ≤ _
      omega
    · rw [List.length_map]
      show _ * (33 + 0) ≤ _
      omega
    rw [show Txt.join "" ((netLs (cs, us)).map fun l : Str => l ++ ("\n" : Str)) = textL (netLs (cs, us)) from rfl]
    have lt32 := textL_len m32
    obtain ⟨rn, rN⟩ := read_net g
    replace wa2 := wa2.mono s4
    replace hp := s4 _ _ hp
    have tb4 := tb3.ext s4
    have hb4 := hb3.same s4
    clear tb3 hb3 s4 hD D
    refine gn_step ?_
    dsimp only [List.set]
    refine ⟨_, rfl, v, cs, us, rfl, wa2.dp, good_cs g (by dsimp only; omega), good_ts g (by dsimp only; omega), fun H5 y ec et ny nec net s5 na => ?_⟩
    replace wa2 := wa2.mono s5
    replace hp := s5 _ _ hp
    have tb5 := tb4.ext s5
    have hb5 := hb4.same s5
    clear tb4 hb4 s5 ny nec net
    refine gn_step ?_
    dsimp only [List.set]
    refine ⟨rfl, _, rfl, .inr ⟨_, rfl, by omega, (fun i e => by rw [rn] at e; cases e), fun _ H6 x dc dt s6 nx ndc ndt nax => ?_⟩⟩
    rw [rN] at nax
    dsimp only at nax
    replace wa2 := wa2.mono s6
    replace hp := s6 _ _ hp
    replace na := na.mono s6
    have tb6 := tb5.ext s6
    have hb6 := hb5.same s6
    clear tb5 hb5 s6 nx ndc ndt
    refine gn_step ?_
    dsimp only [List.set]
    have okc : CsOk cs := good_cs g (by dsimp only; omega)
    have okt : TsOk cs us := good_ts g (by dsimp only; omega)
    obtain ⟨dy, hy, _, _⟩ := id na
    refine ⟨_, rfl, y, dy, _, rfl, hy, rfl, y, ec, et, cs, us, rfl, na, okc, okt, fun H7 s7 => ?_⟩
    rw [text_is (cs, us)]
    refine ⟨_, rfl, x, dc, dt, cs, us, rfl, nax.mono s7, okc, fun H8 v8 s8 d8 => ?_⟩
    refine ⟨rfl, _, rfl, rfl, .inr ⟨_, rfl, by omega, (fun i e => by rw [rn] at e; cases e), fun _ H9 z ez et2 s9 nz nez nzt naz => ?_⟩⟩
    rw [rN] at naz
    dsimp only at naz
    refine ⟨z, ez, et2, cs, us, rfl, naz, okc, fun H10 v10 s10 d10 => ?_⟩
    refine ⟨(by show 3 ≤ sizeLine; decide), fun w1 nw1 => ⟨_, rfl, _, rfl, _, rfl, (by show 3 ≤ sizeLine; decide), fun w2 nw2 => ?_⟩⟩
    have sw1 := same_new (o := .lst [.str (textL (netLs (cs, us))), v8, v10]) nw1
    have sw2 := same_new (o := .lst [.str (textL (netLs (cs, us))), v, v]) nw2
    have sw := sw1.trans sw2
    have s610 := s7.trans (s8.trans (s9.trans s10))
    refine ⟨.ref w1, .ref w2, .list [.str (textL (netLs (cs, us))), dNet cs us, dNet cs us], rfl, .lst (SqL.of (sw2 _ _ upd_same)) (.cons (.str _) (.cons (Dp.mono ((s9.trans s10).trans sw) d8) (.cons (Dp.mono sw d10) .nil))), .lst (SqL.of upd_same) (.cons (.str _) (.cons (Dp.mono (s610.trans sw) wa2.dp) (.cons (Dp.mono (s610.trans sw) wa2.dp) .nil))), .lst (by show 3 ≤ 100000; decide) (fun d hd => ?_), fun H11 s11 => ⟨_, rfl, iteF ?_⟩⟩
    · simp only [List.mem_cons, List.not_mem_nil, or_false] at hd
      rcases hd with rfl | rfl | rfl
      · exact .str
      · exact sh_net (by omega) (by omega)
      · exact sh_net (by omega) (by omega)
    have s611 := s610.trans (sw.trans s11)
    replace na := na.mono s611
    replace nax := nax.mono s611
    replace hp := s611 _ _ hp
    have tb11 := tb6.ext s611
    have hb11 := hb6.same s611
    clear s611 s610 sw sw1 sw2 nw1 nw2 s7 s8 s9 s10 s11 d8 d10 naz nz nez nzt tb6 hb6 wa2 hy
    obtain ⟨dx1, hx, _, _⟩ := id nax
    obtain ⟨dy1, hy, _, _⟩ := id na
    refine ⟨_, rfl, _, rfl, x, dx1, _, y, dy1, _, rfl, hx, rfl, hy, x, dc, dt, cs, us, _, rfl, nax, .inl ⟨y, ec, et, cs, us, rfl, na, ?_⟩⟩
    rw [eqNet_self okc]
    refine ⟨true, rfl, false, rfl, iteF ?_⟩
    clear hx hy na nax dx1 dy1
    dsimp only
    refine ⟨_, rfl, _, rfl, p, _, rfl, .inl (SqL.of hp), _, _, rfl, rfl, b, l, noBag b l H11, _, rfl, (by rw [List.length_map]; omega), (by rw [List.length_map]; omega), hb11.wd, fun r H12 r0 r1 w12 => ?_⟩
    refine ⟨_, rfl, b, l, _, rfl, w12, fun o H13 ho w13 => ?_⟩
    refine ⟨_, _, rfl, ?_⟩
    rw [List.length_map] at r1
    obtain ⟨n, rfl⟩ : ∃ n : Nat, r = n := ⟨r.toNat, by omega⟩
    have hn : n ≤ (netLs (cs, us)).length := by omega
    have kp13 := draw_kp hb11 (Same.refl _) w13
    replace hp := kp13.lst hp nbp
    have tb13 := draws_tab tb11 hb11 (Same.refl _) w13
    have hb13 := w13.bag
    clear kp13 tb11 hb11 w12 w13 r0 r1
    dsimp only [List.set]
    refine sq_asg ?_
    refine rows_cat rfl rfl hp hn (by omega) (fun H' Q' k => ⟨_, rfl, k⟩) (fun H14 p8 s14 hp8 => ?_)
    replace hp := s14 _ _ hp
    have tb14 := tb13.ext s14
    have hb14 := hb13.same s14
    clear tb13 hb13 s14
    refine gn_step ?_
    dsimp only [List.set]
    have od := odd_read g hn ho
    have mr : ∀ z ∈ (netLs (cs, us)).take n ++ o :: (netLs (cs, us)).drop n, z.length ≤ 32 := fun z hz => by
      rcases List.mem_append.mp hz with y | y
      · exact m32 z (List.mem_of_mem_take y)
      rcases List.mem_cons.mp y with rfl | y
      · exact odd32 _ ho
      · exact m32 z (List.mem_of_mem_drop y)
    have lr : ((netLs (cs, us)).take n ++ o :: (netLs (cs, us)).drop n).length ≤ 25 := by
      rw [List.length_append, List.length_cons, List.length_take, List.length_drop]
      omega
    refine sq_asg ?_
    refine tlam_gen T (r := some n) (z := "") tb14 (fun H1 E Q' e t1 a b => ?_) (fun H15 p9 s15 tb15 d9 => ?_)
    · have hp1 := noTb_le _ _ (e _ _ (noTb_at hp8 (fun _ z => nomatch z)))
      refine ⟨rfl, ⟨_, rfl⟩, lc_nl (fun _ => rfl) (fun _ => rfl) (fun Q' k => ⟨_, rfl, k _ p8 (Same.refl _) hp1⟩) (fun l hl => by have := mr l hl; omega) (by omega) (fun H3 D s3 hD => ?_)⟩
      refine ⟨_, D, _, rfl, rfl, .inl (SqL.of hD), join_ok (m := 33) (fun z hz => ?_) ?_, ?_⟩
      · obtain ⟨ln, hl, rfl⟩ := List.mem_map.mp hz
        rw [len_app]
        have := mr ln hl
        show _ + 1 ≤ _
        omega
      · rw [List.length_map]
        show _ * (33 + 0) ≤ _
        omega
      have lt := textL_len mr
      refine .inr ⟨_, rfl, ?_, fun i e2 => ?_, fun e2 => ?_⟩
      · show (textL _).length ≤ _
        omega
      · exact (a i (od.symm.trans e2)).mono s3
      · exact absurd (od.symm.trans e2) (by simp)
    have kp15 : Kp [] _ H15 := kp_tb s15
    replace hp := kp15.lst hp (fun h => nomatch h)
    have hb15 := hb14.kp kp15 (fun h => nomatch h) (fun h => nomatch h)
    clear od mr lr kp15 s15 tb14 hb14 hp8
    refine gn_step ?_
    dsimp only [List.set]
    refine ⟨_, rfl, _, rfl, (by show 2 ≤ sizeLine; decide), fun u nu => ?_⟩
    have su := same_new (o := .tup [.str "InvalidNetwork", .int (n : Int)]) nu
    refine ⟨_, _, dEr (some n) "", rfl, Dp.mono su d9, .tup (SqT.of upd_same) (.cons (.str _) (.cons (.int _) .nil)), sh_dEr (some n, ""), fun H16 s16 => ⟨_, rfl, iteF ?_⟩⟩
    replace s16 := su.trans s16
    replace hp := s16 _ _ hp
    have hb16 := hb15.same s16
    have tb16 := tb15.ext s16
    clear s16 su nu d9 hb15 tb15
    dsimp only
    unfold tNext
    dsimp only
    refine seq_meet (fun σ' H' => ∃ x8 x12 x13 x14, σ' = [some (.ref a), some (.ref b), some (.int (0 + ↑iT)), some (.ref t), some v, some (.ref p), some (.str (textL (netLs (cs, us)))), some (.ref y), x8, some (.int (n : Int)), some (.str o), some (.ref p8), x12, x13, x14, x15, x16, none, none] ∧ BagAt b l H' ∧ Tabs TL H') (fun D' hD' => ?_) ?_
    · refine ⟨_, rfl, Nat.zero_le _, fun u0 nu0 => ?_⟩
      have su0 := same_new (o := .lst []) nu0
      replace hp := su0 _ _ hp
      have hb17 := hb16.same su0
      have tb17 := tb16.ext su0
      refine ⟨.list ((netLs (cs, us)).map PyData.str), .list [], .lst (SqL.of hp) (strs_dp _), .lst (SqL.of upd_same) .nil, Nat.le_trans (Nat.min_le_right _ _) (by decide), _, rfl, ?_⟩
      generalize upd H16 u0 (.lst []) = H17 at hp hb17 tb17 ⊢
      clear su0 nu0 hb16 tb16
      rw [eqv_nil]
      by_cases ne : netLs (cs, us) = []
      · rw [decide_eq_true (by rw [ne]; rfl)]
        exact hD' _ _ ⟨_, _, _, _, rfl, hb17, tb17⟩
      rw [decide_eq_false (fun z => ne (List.map_eq_nil_iff.mp z))]
      have pos : 0 < (netLs (cs, us)).length := List.length_pos_iff.mpr ne
      have cr := cut_read g ne
      refine iteT ?_
      refine sq_asg ?_
      refine tlam_gen T (r := some ((netLs (cs, us)).length - 1)) (z := "") tb17 (fun H1 E Q' e t1 a b => ?_) (fun H18 p18 s18 tb18 d18 => ?_)
      · have lc := cutS_len (textL (netLs (cs, us))) none (some (-1))
        exact ⟨rfl, _, rfl, 1, rfl, _, rfl, _, rfl, le_line (by omega), .inr ⟨_, rfl, by omega, fun i e2 => a i (cr.symm.trans e2), fun e2 => absurd (cr.symm.trans e2) (by simp)⟩⟩
      have kp18 : Kp [] _ H18 := kp_tb s18
      replace hp := kp18.lst hp (fun h => nomatch h)
      have hb18 := hb17.kp kp18 (fun h => nomatch h) (fun h => nomatch h)
      clear kp18 s18 tb17 hb17
      refine gn_step ?_
      dsimp only [List.set]
      refine ⟨_, rfl, _, rfl, p, _, rfl, .inl (SqL.of hp), b, l, noBag b l H18, _, rfl, (by rw [List.length_map]; omega), (by rw [List.length_map]; omega), hb18.wd, fun r H19 r0 r1 w19 => ?_⟩
      rw [List.length_map] at r1
      obtain ⟨s, rfl⟩ : ∃ s : Nat, r = s := ⟨r.toNat, by omega⟩
      have hs : s < (netLs (cs, us)).length := by omega
      have kp19 := draw_kp hb18 (Same.refl _) w19
      replace hp := kp19.lst hp nbp
      have tb19 := draws_tab tb18 hb18 (Same.refl _) w19
      have hb19 := w19.bag
      have d19 : Dp K H19 (.ref p18) (dEr (some ((netLs (cs, us)).length - 1)) "") := by
        have z := kp19.dps noL_dEr (xs := [(some ((netLs (cs, us)).length - 1), "")]) (.cons d18 .nil)
        cases z with
        | cons z _ => exact z
      clear kp19 tb18 hb18 w19 r0 r1 d18
      refine gn_step ?_
      dsimp only [List.set]
      refine sq_asg ?_
      refine ⟨_, rfl, _, rfl, _, _, rfl, rfl, _, rfl, p, _, rfl, SqL.of hp, fun c1 nc1 => ?_⟩
      have es : (s : Int) + 1 = ((s + 1 : Nat) : Int) := by omega
      rw [es, cutV_take _ (by omega), Int.toNat_natCast, ← List.map_take]
      have sc1 := same_new (o := .lst (((netLs (cs, us)).take (s + 1)).map V.str)) nc1
      refine ⟨_, rfl, _, rfl, _, rfl, p, _, rfl, SqL.of (sc1 _ _ hp), fun c2 nc2 => ?_⟩
      rw [cutV_drop _ (by rw [List.length_map]; omega), ← List.map_drop]
      have sc2 := same_new (o := .lst (((netLs (cs, us)).drop s).map V.str)) nc2
      refine ⟨c1, c2, _, _, rfl, rfl, sc2 _ _ upd_same, upd_same, le_line (by rw [List.length_map, List.length_map, List.length_take, List.length_drop]; omega), fun c3 nc3 => ?_⟩
      rw [← List.map_append]
      have sc3 := same_new (o := .lst (((netLs (cs, us)).take (s + 1) ++ (netLs (cs, us)).drop s).map V.str)) nc3
      have sc := sc1.trans (sc2.trans sc3)
      have hp3 := upd_same (H := upd (upd H19 c1 (.lst (((netLs (cs, us)).take (s + 1)).map V.str))) c2 (.lst (((netLs (cs, us)).drop s).map V.str))) (a := c3) (o := .lst (((netLs (cs, us)).take (s + 1) ++ (netLs (cs, us)).drop s).map V.str))
      generalize upd (upd (upd H19 c1 (.lst (((netLs (cs, us)).take (s + 1)).map V.str))) c2 (.lst (((netLs (cs, us)).drop s).map V.str))) c3 (.lst (((netLs (cs, us)).take (s + 1) ++ (netLs (cs, us)).drop s).map V.str)) = H20 at sc hp3 ⊢
      replace hp := sc _ _ hp
      have hb20 := hb19.same sc
      have tb20 := tb19.ext sc
      have d20 := Dp.mono sc d19
      clear sc sc1 sc2 sc3 nc1 nc2 nc3 hb19 tb19 d19
      refine gn_step ?_
      dsimp only [List.set]
      have dr := double_read g hs
      have mr : ∀ z ∈ (netLs (cs, us)).take (s + 1) ++ (netLs (cs, us)).drop s, z.length ≤ 32 := fun z hz => by
        rcases List.mem_append.mp hz with y | y
        · exact m32 z (List.mem_of_mem_take y)
        · exact m32 z (List.mem_of_mem_drop y)
      have lr : ((netLs (cs, us)).take (s + 1) ++ (netLs (cs, us)).drop s).length ≤ 25 := by
        rw [List.length_append, List.length_take, List.length_drop]
        omega
      refine sq_asg ?_
      refine tlam_gen T (r := some (s + 1)) (z := "") tb20 (fun H1 E Q' e t1 a b => ?_) (fun H21 p21 s21 tb21 d21 => ?_)
      · have hp1 := noTb_le _ _ (e _ _ (noTb_at hp3 (fun _ z => nomatch z)))
        refine ⟨rfl, ⟨_, rfl⟩, lc_nl (fun _ => rfl) (fun _ => rfl) (fun Q' k => ⟨_, rfl, k _ c3 (Same.refl _) hp1⟩) (fun l hl => by have := mr l hl; omega) (by omega) (fun H3 D s3 hD => ?_)⟩
        refine ⟨_, D, _, rfl, rfl, .inl (SqL.of hD), join_ok (m := 33) (fun z hz => ?_) ?_, ?_⟩
        · obtain ⟨ln, hl, rfl⟩ := List.mem_map.mp hz
          rw [len_app]
          have := mr ln hl
          show _ + 1 ≤ _
          omega
        · rw [List.length_map]
          show _ * (33 + 0) ≤ _
          omega
        have lt := textL_len mr
        refine .inr ⟨_, rfl, ?_, fun i e2 => ?_, fun e2 => ?_⟩
        · show (textL _).length ≤ _
          omega
        · exact (a i (dr.symm.trans e2)).mono s3
        · exact absurd (dr.symm.trans e2) (by simp)
      have kp21 : Kp [] _ H21 := kp_tb s21
      replace hp := kp21.lst hp (fun h => nomatch h)
      have hb21 := hb20.kp kp21 (fun h => nomatch h) (fun h => nomatch h)
      replace d20 := Dp.mono s21 (Dp.nTb d20)
      clear kp21 s21 tb20 hb20 hp3 dr mr lr
      refine gn_step ?_
      dsimp only [List.set]
      refine ⟨_, rfl, _, rfl, (by show 2 ≤ sizeLine; decide), fun w1 nw1 => ?_⟩
      have sw1 := same_new (o := .lst [.ref p18, .ref p21]) nw1
      refine ⟨_, rfl, p, _, rfl, .inl (SqL.of (sw1 _ _ hp)), _, _, rfl, rfl, (by show 2 ≤ sizeLine; decide), fun q1 nq1 => ?_⟩
      have ei : (((netLs (cs, us)).map V.str).length : Int) - 1 = (((netLs (cs, us)).length - 1 : Nat) : Int) := by rw [List.length_map]; omega
      refine ⟨_, rfl, _, _, rfl, rfl, (by show 2 ≤ sizeLine; decide), fun q2 nq2 => ⟨(by show 2 ≤ sizeLine; decide), fun w2 nw2 => ?_⟩⟩
      have sq1 := same_new (o := .tup [.str "InvalidNetwork", .int ((((netLs (cs, us)).map V.str).length : Int) - 1)]) nq1
      have dq1 : Dp K (upd (upd H21 w1 (.lst [.ref p18, .ref p21])) q1 (.tup [.str "InvalidNetwork", .int ((((netLs (cs, us)).map V.str).length : Int) - 1)])) (.ref q1) (dEr (some ((netLs (cs, us)).length - 1)) "") := .tup (SqT.of upd_same) (.cons (.str _) (.cons (by rw [ei]; exact .int _) .nil))
      have sq2 := same_new (o := .tup [.str "InvalidNetwork", .int ((s : Int) + 1)]) nq2
      have dq2 : Dp K (upd (upd (upd H21 w1 (.lst [.ref p18, .ref p21])) q1 (.tup [.str "InvalidNetwork", .int ((((netLs (cs, us)).map V.str).length : Int) - 1)])) q2 (.tup [.str "InvalidNetwork", .int ((s : Int) + 1)])) (.ref q2) (dEr (some (s + 1)) "") := .tup (SqT.of upd_same) (.cons (.str _) (.cons (by rw [es]; exact .int _) .nil))
      have sw2 := same_new (o := .lst [.ref q1, .ref q2]) nw2
      have sB := sq1.trans (sq2.trans sw2)
      refine ⟨.ref w1, .ref w2, .list [dEr (some ((netLs (cs, us)).length - 1)) "", dEr (some (s + 1)) ""], rfl, .lst (SqL.of (sB _ _ upd_same)) (.cons (Dp.mono (sw1.trans sB) d20) (.cons (Dp.mono (sw1.trans sB) d21) .nil)), .lst (SqL.of upd_same) (.cons (Dp.mono (sq2.trans sw2) dq1) (.cons (Dp.mono sw2 dq2) .nil)), .lst (by show 2 ≤ 100000; decide) (fun d hd => ?_), fun H22 s22 => ⟨_, rfl, iteF ?_⟩⟩
      · simp only [List.mem_cons, List.not_mem_nil, or_false] at hd
        rcases hd with rfl | rfl
        · exact sh_dEr (some ((netLs (cs, us)).length - 1), "")
        · exact sh_dEr (some (s + 1), "")
      have sC := (sw1.trans sB).trans s22
      exact hD' _ _ ⟨_, _, _, _, rfl, hb21.same sC, tb21.ext sC⟩
    · rintro σ' H17 ⟨x8, x12, x13, x14, rfl, hb17, tb17⟩
      have rt := rn
      refine ⟨_, rfl, _, rfl, _, rfl, le_line (by omega), _, _, rfl, rfl, b, l, noBag b l H17, _, rfl, (by omega), (by omega), hb17.wd, fun r H18 r0 r1 w18 => ?_⟩
      refine ⟨_, rfl, (by show 7 ≤ sizeLine; decide), fun q1 nq1 => ?_⟩
      have w19 := w18.new (o := .lst [.str "", .str " ", .str "\n", .str "a", .str "0", .str ".", .str "A"]) nq1
      have s19 := w18.sameG (o := .lst [.str "", .str " ", .str "\n", .str "a", .str "0", .str ".", .str "A"]) nq1
      refine any_of (ds := [.str "", .str " ", .str "\n", .str "a", .str "0", .str ".", .str "A"]) w19 upd_same (.cons (.str _) (.cons (.str _) (.cons (.str _) (.cons (.str _) (.cons (.str _) (.cons (.str _) (.cons (.str _) .nil))))))) (by decide) (by decide) (fun y6 d6 H20 w20 hy md => ?_)
      have hsg : ∃ sg : Str, sg.length ≤ 1 ∧ d6 = .str sg := by
        simp only [List.mem_cons, List.not_mem_nil, or_false] at md
        rcases md with rfl | rfl | rfl | rfl | rfl | rfl | rfl <;> exact ⟨_, by decide +kernel, rfl⟩
      obtain ⟨sg, lsg, rfl⟩ := hsg
      obtain rfl := dp_str hy
      obtain ⟨s, rfl⟩ : ∃ s : Nat, r = s := ⟨r.toNat, by omega⟩
      have tb20 := draws_tab tb17 hb17 s19 w20
      have hb20 := w20.bag
      clear tb17 hb17 s19 w19 w20 hy md nq1 w18
      refine ⟨_, _, rfl, ?_⟩
      dsimp only [List.set]
      refine sq_asg ?_
      have l1 := cutS_lo_len (textL (netLs (cs, us))) s
      refine ⟨_, rfl, _, rfl, (s : Int), rfl, _, rfl, le_line (by omega), _, rfl, _, _, rfl, rfl, le_line (by omega), _, rfl, _, rfl, _, rfl, b, l, noBag b l H20, 2, rfl, (by decide), (by decide), hb20.wd, fun r2 H21 r20 r21 w21 => ?_⟩
      obtain ⟨s2, rfl⟩ : ∃ s2 : Nat, r2 = s2 := ⟨r2.toNat, by omega⟩
      have l2 := cutS_hi_len (textL (netLs (cs, us))) (s + s2)
      have es : (s : Int) + (s2 : Int) = ((s + s2 : Nat) : Int) := by omega
      refine ⟨_, _, rfl, rfl, _, rfl, _, rfl, le_line (by omega), _, _, rfl, rfl, le_line ?_, ?_⟩
      · rw [len_app, es]
        omega
      rw [es]
      have lbt : (cutS (textL (netLs (cs, us))) none (some (s : Int)) ++ sg ++ cutS (textL (netLs (cs, us))) (some ((s + s2 : Nat) : Int)) none).length ≤ 900 := by
        rw [len_app, len_app]
        omega
      generalize cutS (textL (netLs (cs, us))) none (some (s : Int)) ++ sg ++ cutS (textL (netLs (cs, us))) (some ((s + s2 : Nat) : Int)) none = bent at lbt ⊢
      have tb21 := draws_tab tb20 hb20 (Same.refl _) w21
      have hb21 := w21.bag
      clear tb20 hb20 w21 l1 l2 es r20 r21 r0 r1
      refine gn_step ?_
      dsimp only [List.set]
      refine sq_asg ?_
      refine ask_text (i := 16) T rfl lbt tb21 (fun H22 p22 s22 tb22 d22 => ?_)
      have kp22 : Kp [] _ H22 := kp_tb s22
      have hb22 := hb21.kp kp22 (fun h => nomatch h) (fun h => nomatch h)
      clear kp22 s22 tb21 hb21
      refine gn_step ?_
      dsimp only [List.set]
      refine bent_if (I12 := 12) (I17 := 16) (I5 := 6) rfl rfl rfl d22 rt (fun H23 s23 => ?_)
      exact ⟨_, _, _, _, _, _, _, _, _, _, _, _, _, _, _, rfl, hb22.same s23, tb22.ext s23⟩
  · rintro σ H' ⟨x2, x3, x4, x5, x6, x7, x8, x9, x10, x11, x12, x13, x14, x15, x16, rfl, hb, tb⟩
    exact ⟨rfl, tb, q⟩
end
end Bh

set_option Elab.async false
set_option linter.all false
set_option maxRecDepth 100000
set_option maxHeartbeats 2000000
namespace Bh
open PySem PySem.Spec PyProof.Rows L2
/-! ### the end of a law by one run of the top: facts out of a Hook -/
section
variable {K : PySem.W.Frag} {h : Heap} {mg : Str → Option Value} {fa : List He.Fa} {fn : List He.DefD}
theorem funD_none {x q : Str} {ar : Arguments} {bd : List Stmt} {sc : Scope} {f : Addr} {fd : FuncData} (F : FunD K x q ar bd sc [] [] f fd) :
    ∃ (oc : Value) (od : Option Addr) (kV doc pm : Value) (an : Option Addr) (cdv ct : Value) (osl : Array (Option Value)), fd = PySem.W.fnOf x q ar bd sc .none kV doc pm an cdv ct ∧ K.lookup f = some ⟨oc, od, .func fd, osl⟩ ∧ PySem.W.codeIn K cdv q = true := by
  obtain ⟨oc, od, dV, kV, doc, pm, an, cdv, ct, osl, e, lk, hc, hd, _⟩ := F.ex
  rcases hd with ⟨_, e2⟩ | ⟨e2, _⟩
  · rw [e2] at e
    exact ⟨oc, od, kV, doc, pm, an, cdv, ct, osl, e, lk, hc⟩
  · exact absurd rfl e2
theorem fun_ofD {x q : Str} {st : Stmt} {f : Addr} {fd : FuncData} (F : FunD K x q (defArgs st) (defBody st) (defScope st) [] [] f fd) : Fun K x q st f fd := ⟨funD_none F, F.kp⟩
abbrev BindsAs (x q : Str) (st : Stmt) (ps : List Str) : Prop := ∀ (kV doc pm : Value) (an : Option Addr) (cdv ct : Value) (us : List Value), us.length = ps.length → bindArgs (PySem.W.fnOf x q (defArgs st) (defBody st) (defScope st) .none kV doc pm an cdv ct) ⟨us, []⟩ = pure (ps.zip us)
theorem df_of (c : He.SaysD fa fn K) (X : K.In h) (G : h.Ns mainGlobals mg) {x : Str} {st : Stmt} {ps : List Str} (i j : Nat) (hb : BindsAs x x st ps) (h1 : fn[i]? = some (dd x st)) (h2 : fa[j]? = some (.glo x)) : ∃ fd, Df K mg x st ps (He.ga K x) fd := by
  obtain ⟨fd, F⟩ := c.def_ i (d := dd x st) h1
  have F2 : Fun K x x st (He.ga K x) fd := fun_ofD F
  exact ⟨fd, F2, He.glo_ok X G (c.fact j h2), F2.binds hb⟩
theorem meth_of (c : He.SaysD fa fn K) {C m q : Str} {st : Stmt} {ps : List Str} (i j : Nat) (hb : BindsAs m q st ps) (h1 : fn[i]? = some (dm C m q st)) (h2 : fa[j]? = some (.meth C m)) :
    ∃ fd, Fun K m q st (He.ma K (He.ga K C) m) fd ∧ Meth K (He.ga K C) m (He.ma K (He.ga K C) m) ∧ Binds K fd ps [] := by
  obtain ⟨fd, F⟩ := c.def_ i (d := dm C m q st) h1
  have F2 : Fun K m q st (He.ma K (He.ga K C) m) fd := fun_ofD F
  exact ⟨fd, F2, He.meth_ok (c.fact j h2), F2.binds hb⟩
/-- a def whose table of code objects is wanted -/
theorem tab_def (c : He.SaysD fa fn K) {d : He.DefD} (i : Nat) (h1 : fn[i]? = some d) (hd : d.dfl = []) (hk : d.kwd = []) :
    ∃ (oc : Value) (od : Option Addr) (kV doc pm : Value) (an : Option Addr) (ct : Value) (osl : Array (Option Value)), K.lookup (He.fAd K d.at_) = some ⟨oc, od, .func (PySem.W.fnOf d.name d.qual d.params d.body d.scope .none kV doc pm an (.ref (He.cT K d.at_).1) ct), osl⟩ ∧ PySem.W.codeIn K (.ref (He.cT K d.at_).1) d.qual = true := by
  obtain ⟨fd, F⟩ := c.def_ i (d := d) h1
  have e1 : d.dvs K = [] := by unfold He.DefD.dvs; rw [hd]; rfl
  have e2 : d.kws K = [] := by unfold He.DefD.kws; rw [hk]; rfl
  rw [e1, e2] at F
  obtain ⟨oc, od, kV, doc, pm, an, cdv, ct, osl, e, lk, hc⟩ := funD_none F
  obtain ⟨cc, rfl⟩ := He.codeIn_ref hc
  have k := He.codeOf_eq lk (by rw [e])
  refine ⟨oc, od, kV, doc, pm, an, ct, osl, ?_, ?_⟩
  · show K.lookup (He.fAd K d.at_) = some ⟨oc, od, .func (PySem.W.fnOf d.name d.qual d.params d.body d.scope .none kV doc pm an (.ref (He.codeOf K d.at_)) ct), osl⟩
    rw [k, ← e]
    exact lk
  · show PySem.W.codeIn K (.ref (He.codeOf K d.at_)) d.qual = true
    rw [k]
    exact hc
/-! ### own exceptions -/
theorem fam_of {C : Addr} {B newId initId : String} {bmB : List Value} (FB : ExcBaseFacts B newId initId bmB) (SF : StoreFacts B bmB "object.__setattr__" "object") (q : PySem.W.excInitIn K C bmB newId = true) (ov : PySem.W.excOver K C bmB = true) (hd : PySem.W.hasDictIn K C = true) :
    ∃ (B newId initId : String) (bmB : List Value), ExcBaseFacts B newId initId bmB ∧ StoreFacts B bmB "object.__setattr__" "object" ∧ PySem.W.excOver K C bmB = true ∧
    ∃ nm q N bs bm sn sub ab col dd k0 k1 k2 k3 k5, K.lookup C = some (excClassObj nm q C N bs bm true sn sub ab col dd k0 k1 k2 k3 k5 newId) ∧ ∀ Y : String, bm.contains (.type Y) = bmB.contains (.type Y) := by
  refine ⟨B, newId, initId, bmB, FB, SF, ov, ?_⟩
  unfold PySem.W.excInitIn at q
  split at q
  · rename_i d1 cd1 sl1 look
    split at q
    · rename_i C2 bm2 z0 z1 z2 z3 n z5 em es
      rw [Bool.and_eq_true, Bool.and_eq_true, Bool.and_eq_true, beq_iff_eq, beq_iff_eq, Bool.not_eq_true'] at q
      obtain ⟨⟨⟨e1, e2⟩, e3⟩, tl⟩ := q
      subst e1 e2
      have hh : (PySem.W.clsIn K C2).any (·.hasDict) = true := hd
      unfold PySem.W.clsIn at hh
      rw [look] at hh
      obtain ⟨a1, a2, a3, a4, a5, a6, a7, a8, a9, a10, a11⟩ := cd1
      have h6 : a6 = true := hh
      have em2 : a3 = .ref C2 :: bm2 := em
      have e32 : a11 = false := e3
      subst h6 em2 e32
      have e6 : sl1 = #[z0, z1, z2, z3, some (.builtin n), z5] := by
        exact Array.ext' es
      subst e6
      exact ⟨_, _, _, _, _, _, _, _, _, _, _, _, _, _, _, look, fun Y => PySem.W.excTail_contains Y _ tl⟩
    · cases q
  · cases q
theorem exg_of {x : Str} {B newId initId : String} {bmB : List Value} (FB : ExcBaseFacts B newId initId bmB) (SF : StoreFacts B bmB "object.__setattr__" "object") (p : ExcP K x bmB newId) : ExG K (He.ga K x) :=
  ⟨fam_of FB SF p.1 p.2.1 p.2.2.1, p.2.2.2.1, p.2.2.2.2.2.2.2.2.2.2.2.1, p.2.2.2.2.2.2.2.2.2.2.2.2, p.2.2.2.2.2.2.2.2.2.2.1, p.2.2.1⟩
theorem xfc_of {x : Str} {newId : String} {bmB : List Value} (p : ExcP K x bmB newId) : XfC K (He.ga K x) :=
  ⟨p.2.2.2.2.1, p.2.2.2.2.2.1, p.2.2.2.2.2.2.2.2.2.2.2.1, p.2.2.1⟩
theorem excc_of {x : Str} {newId : String} {bmB : List Value} (p : ExcP K x bmB newId) : ExcC K (He.ga K x) :=
  ⟨p.2.2.2.2.1, p.2.2.2.2.2.1, p.2.2.2.2.2.2.2.2.2.2.2.1, p.2.2.1, p.2.2.2.2.2.2.1, p.2.2.2.2.2.2.2.2.1, p.2.2.2.2.2.2.2.2.2.1, p.2.2.2.2.2.2.2.1⟩
theorem exr_of (c : He.SaysD fa fn K) (X : K.In h) (G : h.Ns mainGlobals mg) {x q : Str} {st : Stmt} {ps at_ : List Str} {B newId initId : String} {bmB : List Value} (FB : ExcBaseFacts B newId initId bmB) (SF : StoreFacts B bmB "object.__setattr__" "object") (i j : Nat)
    (p : ExcP K x bmB newId) (p2 : ExcI K x) (p3 : NoAt K x at_) (hb : BindsAs "__init__" q st ps) (h1 : fn[i]? = some (dm x "__init__" q st)) (h2 : fa[j]? = some (.glo x)) : ∃ r : ExR K mg x q st ps at_, r.c = He.ga K x := by
  obtain ⟨fd, F⟩ := c.def_ i (d := dm x "__init__" q st) h1
  have F2 : Fun K "__init__" q st (He.ma K (He.ga K x) "__init__") fd := fun_ofD F
  exact ⟨⟨He.ga K x, He.ma K (He.ga K x) "__init__", fd, F2, F2.binds hb, He.glo_ok X G (c.fact j h2), exg_of FB SF p, p2.1, p2.2, p3, xfc_of p, excc_of p⟩, rfl⟩
theorem erc_of {x y1 y2 f : Str} {newId : String} {bmB : List Value} (p : ExcP K x bmB newId) (p3 : NoAt K x ["code", f]) (h1 : PySem.W.exmAny K (.ref (He.ga K x)) [.ref (He.ga K y1), .ref (He.ga K y2)] = some true) : ErC K (He.ga K y1) (He.ga K y2) (He.ga K x) x f :=
  ⟨xfc_of p, p3 _ (List.mem_cons_self ..), p3 _ (List.mem_cons_of_mem _ (List.mem_cons_self ..)), h1⟩
/-! ### classes -/
theorem callO_of {x : Str} (p : CallP K x) (m : Meth K (He.ga K x) "__call__" (He.ma K (He.ga K x) "__call__")) : StX.CallO K (He.ga K x) (He.ma K (He.ga K x) "__call__") := ⟨m.at_, m.fn, p⟩
end
end Bh

set_option Elab.async false
set_option linter.all false
set_option maxRecDepth 100000
set_option maxHeartbeats 2000000
namespace Bh
open PySem PySem.Spec PyProof.Rows L2
/-! ### a class over object alone; defaults that are empty tuples -/
theorem neC_of {K : PySem.W.Frag} {C f : Addr} (q : neB K C f = true) (p : fnB K f = true) : NeC K C f := by
  refine ⟨?_, ?_⟩
  · unfold neB at q
    split at q
    · rename_i d1 cd1 sl1 look
      split at q
      · rename_i C2 o2 z0 z1 z2 z3 n z5 em es
        rw [Bool.and_eq_true, Bool.and_eq_true, Bool.and_eq_true, Bool.and_eq_true, beq_iff_eq, decide_eq_true_eq, Bool.not_eq_true'] at q
        obtain ⟨e1, e2, e3, e4, e5⟩ := q
        subst e1 e2
        obtain ⟨a1, a2, a3, a4, a5, a6, a7, a8, a9, a10, a11⟩ := cd1
        have em2 : a3 = [.ref C2, .type "object"] := em
        have e32 : a11 = false := e3
        have h6 : a6 = true := e4
        subst em2 e32 h6
        have e6 : sl1 = #[z0, z1, z2, z3, some (.builtin n), z5] := Array.ext' es
        subst e6
        exact ⟨_, _, _, _, _, _, _, _, _, _, _, _, _, _, _, _, look, e5⟩
      · cases q
    · cases q
  · unfold fnB at p
    split at p
    · rename_i c d dt sl look
      rw [decide_eq_true_eq] at p
      subst p
      exact ⟨_, look, rfl⟩
    · cases p
theorem tupE_ok {K : PySem.W.Frag} {z : Addr} (h : tupE K z = true) (H : Hp) : SqT K H z [] := by
  unfold tupE at h
  split at h
  · rename_i c d its n sl look
    rw [Bool.and_eq_true, decide_eq_true_eq, decide_eq_true_eq] at h
    obtain ⟨h1, h2⟩ := h
    subst h1
    have e : its = #[] := Array.ext' h2
    subst e
    exact .inr ⟨_, _, _, look, rfl, rfl, Nat.zero_le _, .nil⟩
  · cases h
end Bh

set_option Elab.async false
set_option linter.all false
set_option maxRecDepth 100000
set_option maxHeartbeats 2000000
namespace Bh
open PySem PySem.Spec PyProof.Rows L2
/-! ### staticmethods and classmethods of a class out of the Hook -/
theorem fun_wr {fw : List He5.DefA} {K : PySem.W.Frag} {x q : Str} {st : Stmt} {ps : List Str} {a : PySem.W.Frag → Addr} (c : He5.SaysA [] fw K) (i : Nat) (hb : BindsAs x q st ps) (h : fw[i]? = some ⟨a, x, q, defArgs st, defBody st, defScope st, [], []⟩) : ∃ fd, Fun K x q st (a K) fd ∧ Binds K fd ps [] := by
  obtain ⟨fd, F⟩ := c.def_ i h
  have F2 : Fun K x q st (a K) fd := fun_ofD F
  exact ⟨fd, F2, F2.binds hb⟩
theorem cmet_wr {K : PySem.W.Frag} {C : Addr} {m : Str} (h : He5.wrapB K C "classmethod" "classmethod.__get__" m = true) (hf : PySem.W.fnIn K (He5.wf K C "classmethod" m) = true) : ClX.CMet K C (.type "type") m (He.ma K C m) (He5.wf K C "classmethod" m) :=
  ⟨(He5.wrapB_ok h).1, (He5.wrapB_ok h).2, hf⟩
theorem smet_wr {K : PySem.W.Frag} {C : Addr} {m : Str} (h : He5.wrapB K C "staticmethod" "staticmethod.__get__" m = true) (hf : PySem.W.keepIn K (.ref (He5.wf K C "staticmethod" m)) = true) : SMet K C (.type "type") m (He.ma K C m) (He5.wf K C "staticmethod" m) :=
  ⟨(He5.wrapB_ok h).1, (He5.wrapB_ok h).2, hf⟩
end Bh

set_option Elab.async false
set_option linter.all false
set_option maxRecDepth 100000
set_option maxHeartbeats 4000000
set_option synthInstance.maxSize 10000
set_option synthInstance.maxHeartbeats 400000
namespace Bh
open PySem PySem.Spec PyProof.Rows L2
open LamX NdefX
theorem law_at {l : PySem.W.OpenLaw} {w : World} {K : PySem.W.Frag} {h : Heap} {mg : Str → Option Value} {fa : Addr} (X : K.In h) (G : h.Ns mainGlobals mg) (hfa : mg "law" = some (.ref fa)) (c : He.SaysX hFa hFn [] hTf hEx w h K) (cw : He5.SaysA [] hFw K) :
    LamX.LawAtS l w K CX0 18 63 "_law_script" mg fa h := by
  have D := c.t.d
  obtain ⟨⟨E0, E1, E2, E3, E4, E5, E6, E7, E8, E9, E10, E11⟩, ⟨E12, E13, E14, E15, E16, E17, E18, E19, E20, E21, E22, E23⟩, ⟨E24, E25, E26, E27, E28, E29, E30, E31, E32, E33, E34, E35⟩, ⟨E36, E37, E38, E39, E40, E41, E42, E43, E44, E45⟩⟩ := hEx_of c.more
  obtain ⟨f_copy_of, d_copy_of⟩ := df_of (ps := ["value"]) D X G 0 0 (fun _ _ _ _ _ _ us hl => match us, hl with | [_], _ => rfl) rfl rfl
  obtain ⟨f_is_name, d_is_name⟩ := df_of (ps := ["value"]) D X G 1 1 (fun _ _ _ _ _ _ us hl => match us, hl with | [_], _ => rfl) rfl rfl
  obtain ⟨f_is_word, d_is_word⟩ := df_of (ps := ["value", "characters"]) D X G 2 2 (fun _ _ _ _ _ _ us hl => match us, hl with | [_, _], _ => rfl) rfl rfl
  obtain ⟨f_kinds_of, d_kinds_of⟩ := df_of (ps := ["cells"]) D X G 3 3 (fun _ _ _ _ _ _ us hl => match us, hl with | [_], _ => rfl) rfl rfl
  obtain ⟨f_ties_between, d_ties_between⟩ := df_of (ps := ["kinds", "ties"]) D X G 4 4 (fun _ _ _ _ _ _ us hl => match us, hl with | [_, _], _ => rfl) rfl rfl
  obtain ⟨f_check_cell, d_check_cell⟩ := df_of (ps := ["kinds", "name", "kind"]) D X G 5 5 (fun _ _ _ _ _ _ us hl => match us, hl with | [_, _, _], _ => rfl) rfl rfl
  obtain ⟨f_check_tie, d_check_tie⟩ := df_of (ps := ["kinds", "ties", "tie", "source", "target"]) D X G 6 6 (fun _ _ _ _ _ _ us hl => match us, hl with | [_, _, _, _, _], _ => rfl) rfl rfl
  obtain ⟨f_is_kind, d_is_kind⟩ := df_of (ps := ["value"]) D X G 7 7 (fun _ _ _ _ _ _ us hl => match us, hl with | [_], _ => rfl) rfl rfl
  obtain ⟨f_l_bag, d_l_bag⟩ := df_of (ps := ["_law_script"]) D X G 8 8 (fun _ _ _ _ _ _ us hl => match us, hl with | [_], _ => rfl) rfl rfl
  obtain ⟨f_l_draw, d_l_draw⟩ := df_of (ps := ["_law_bag_here", "_law_many"]) D X G 9 9 (fun _ _ _ _ _ _ us hl => match us, hl with | [_, _], _ => rfl) rfl rfl
  obtain ⟨f_l_any, d_l_any⟩ := df_of (ps := ["_law_bag_here", "_law_row"]) D X G 10 10 (fun _ _ _ _ _ _ us hl => match us, hl with | [_, _], _ => rfl) rfl rfl
  obtain ⟨f_l_mixed, d_l_mixed⟩ := df_of (ps := ["_law_bag_here", "_law_row"]) D X G 11 11 (fun _ _ _ _ _ _ us hl => match us, hl with | [_, _], _ => rfl) rfl rfl
  obtain ⟨f_l_like, d_l_like⟩ := df_of (ps := ["_law_found", "_law_due"]) D X G 12 12 (fun _ _ _ _ _ _ us hl => match us, hl with | [_, _], _ => rfl) rfl rfl
  obtain ⟨f_l_given, d_l_given⟩ := df_of (ps := ["_law_e"]) D X G 13 13 (fun _ _ _ _ _ _ us hl => match us, hl with | [_], _ => rfl) rfl rfl
  obtain ⟨f_l_try, d_l_try⟩ := df_of (ps := ["_law_ask"]) D X G 14 14 (fun _ _ _ _ _ _ us hl => match us, hl with | [_], _ => rfl) rfl rfl
  obtain ⟨f_l_words, d_l_words⟩ := df_of (ps := ["_law_bag_here", "_law_many"]) D X G 15 15 (fun _ _ _ _ _ _ us hl => match us, hl with | [_, _], _ => rfl) rfl rfl
  obtain ⟨f_l_options, d_l_options⟩ := df_of (ps := ["_law_bag_here", "_law_many"]) D X G 16 16 (fun _ _ _ _ _ _ us hl => match us, hl with | [_, _], _ => rfl) rfl rfl
  obtain ⟨f_l_fields, d_l_fields⟩ := df_of (ps := ["_law_bag_here", "_law_room"]) D X G 17 17 (fun _ _ _ _ _ _ us hl => match us, hl with | [_, _], _ => rfl) rfl rfl
  obtain ⟨f_l_case, d_l_case⟩ := df_of (ps := ["_law_bag_here", "_law_fields_here"]) D X G 18 18 (fun _ _ _ _ _ _ us hl => match us, hl with | [_, _], _ => rfl) rfl rfl
  obtain ⟨f_l_program, d_l_program⟩ := df_of (ps := ["_law_bag_here", "_law_fields_here", "_law_most"]) D X G 19 19 (fun _ _ _ _ _ _ us hl => match us, hl with | [_, _, _], _ => rfl) rfl rfl
  obtain ⟨f_l_value, d_l_value⟩ := df_of (ps := ["_law_bag_here", "_law_fields_here"]) D X G 20 20 (fun _ _ _ _ _ _ us hl => match us, hl with | [_, _], _ => rfl) rfl rfl
  obtain ⟨f_l_keys, d_l_keys⟩ := df_of (ps := ["_law_bag_here", "_law_fields_here"]) D X G 21 21 (fun _ _ _ _ _ _ us hl => match us, hl with | [_, _], _ => rfl) rfl rfl
  obtain ⟨f_l_kinds, d_l_kinds⟩ := df_of (ps := ["_law_bag_here", "_law_fields_here", "_law_most"]) D X G 22 22 (fun _ _ _ _ _ _ us hl => match us, hl with | [_, _, _], _ => rfl) rfl rfl
  obtain ⟨f_l_book, d_l_book⟩ := df_of (ps := ["_law_bag_here", "_law_room", "_law_most"]) D X G 23 23 (fun _ _ _ _ _ _ us hl => match us, hl with | [_, _, _], _ => rfl) rfl rfl
  obtain ⟨f_l_net, d_l_net⟩ := df_of (ps := ["_law_bag_here", "_law_m", "_law_most"]) D X G 24 24 (fun _ _ _ _ _ _ us hl => match us, hl with | [_, _, _], _ => rfl) rfl rfl
  obtain ⟨f_l_web, d_l_web⟩ := df_of (ps := ["_law_net_here"]) D X G 25 25 (fun _ _ _ _ _ _ us hl => match us, hl with | [_], _ => rfl) rfl rfl
  obtain ⟨f_l_net_of, d_l_net_of⟩ := df_of (ps := ["_law_web_here"]) D X G 26 26 (fun _ _ _ _ _ _ us hl => match us, hl with | [_], _ => rfl) rfl rfl
  obtain ⟨f_l_text_of, d_l_text_of⟩ := df_of (ps := ["_law_net_here"]) D X G 27 27 (fun _ _ _ _ _ _ us hl => match us, hl with | [_], _ => rfl) rfl rfl
  obtain ⟨f_l_wrong_line, d_l_wrong_line⟩ := df_of (ps := ["_law_bag_here"]) D X G 28 28 (fun _ _ _ _ _ _ us hl => match us, hl with | [_], _ => rfl) rfl rfl
  obtain ⟨f_l_written_webs, d_l_written_webs⟩ := df_of (ps := []) D X G 29 29 (fun _ _ _ _ _ _ us hl => match us, hl with | [], _ => rfl) rfl rfl
  have n_InvalidName : NoAt K "InvalidName" ["code", "given"] := (fun y hy => by
    rcases List.mem_cons.mp hy with e | hy
    · rw [e]; exact E3
    · rw [List.mem_singleton.mp hy]; exact E4)
  obtain ⟨r_InvalidName, hr_InvalidName⟩ := exr_of (ps := ["self", "given"]) D X G PySem.F.excBase_ValueError PySem.F.store_ValueError 31 49 E1 E2 n_InvalidName (fun _ _ _ _ _ _ us hl => match us, hl with | [_, _], _ => rfl) rfl rfl
  have n_InvalidNetwork : NoAt K "InvalidNetwork" ["code", "line"] := (fun y hy => by
    rcases List.mem_cons.mp hy with e | hy
    · rw [e]; exact E8
    · rw [List.mem_singleton.mp hy]; exact E9)
  obtain ⟨r_InvalidNetwork, hr_InvalidNetwork⟩ := exr_of (ps := ["self", "line"]) D X G PySem.F.excBase_ValueError PySem.F.store_ValueError 32 50 E6 E7 n_InvalidNetwork (fun _ _ _ _ _ _ us hl => match us, hl with | [_, _], _ => rfl) rfl rfl
  have n_DuplicateCell : NoAt K "DuplicateCell" ["code", "name"] := (fun y hy => by
    rcases List.mem_cons.mp hy with e | hy
    · rw [e]; exact E13
    · rw [List.mem_singleton.mp hy]; exact E14)
  obtain ⟨r_DuplicateCell, hr_DuplicateCell⟩ := exr_of (ps := ["self", "name"]) D X G PySem.F.excBase_ValueError PySem.F.store_ValueError 33 51 E11 E12 n_DuplicateCell (fun _ _ _ _ _ _ us hl => match us, hl with | [_, _], _ => rfl) rfl rfl
  have n_UnknownCell : NoAt K "UnknownCell" ["code", "name"] := (fun y hy => by
    rcases List.mem_cons.mp hy with e | hy
    · rw [e]; exact E18
    · rw [List.mem_singleton.mp hy]; exact E19)
  obtain ⟨r_UnknownCell, hr_UnknownCell⟩ := exr_of (ps := ["self", "name"]) D X G PySem.F.excBase_LookupError PySem.F.store_LookupError 34 52 E16 E17 n_UnknownCell (fun _ _ _ _ _ _ us hl => match us, hl with | [_, _], _ => rfl) rfl rfl
  have n_DuplicateTie : NoAt K "DuplicateTie" ["code", "tie"] := (fun y hy => by
    rcases List.mem_cons.mp hy with e | hy
    · rw [e]; exact E23
    · rw [List.mem_singleton.mp hy]; exact E24)
  obtain ⟨r_DuplicateTie, hr_DuplicateTie⟩ := exr_of (ps := ["self", "tie"]) D X G PySem.F.excBase_ValueError PySem.F.store_ValueError 35 53 E21 E22 n_DuplicateTie (fun _ _ _ _ _ _ us hl => match us, hl with | [_, _], _ => rfl) rfl rfl
  have T : Top K mg := {
    a_copy_of := _, fd_copy_of := f_copy_of, d_copy_of := d_copy_of,
    a_is_name := _, fd_is_name := f_is_name, d_is_name := d_is_name,
    a_is_word := _, fd_is_word := f_is_word, d_is_word := d_is_word,
    a_kinds_of := _, fd_kinds_of := f_kinds_of, d_kinds_of := d_kinds_of,
    a_ties_between := _, fd_ties_between := f_ties_between, d_ties_between := d_ties_between,
    a_check_cell := _, fd_check_cell := f_check_cell, d_check_cell := d_check_cell,
    a_check_tie := _, fd_check_tie := f_check_tie, d_check_tie := d_check_tie,
    a_is_kind := _, fd_is_kind := f_is_kind, d_is_kind := d_is_kind,
    a_l_bag := _, fd_l_bag := f_l_bag, d_l_bag := d_l_bag,
    a_l_draw := _, fd_l_draw := f_l_draw, d_l_draw := d_l_draw,
    a_l_any := _, fd_l_any := f_l_any, d_l_any := d_l_any,
    a_l_mixed := _, fd_l_mixed := f_l_mixed, d_l_mixed := d_l_mixed,
    a_l_like := _, fd_l_like := f_l_like, d_l_like := d_l_like,
    a_l_given := _, fd_l_given := f_l_given, d_l_given := d_l_given,
    a_l_try := _, fd_l_try := f_l_try, d_l_try := d_l_try,
    a_l_words := _, fd_l_words := f_l_words, d_l_words := d_l_words,
    a_l_options := _, fd_l_options := f_l_options, d_l_options := d_l_options,
    a_l_fields := _, fd_l_fields := f_l_fields, d_l_fields := d_l_fields,
    a_l_case := _, fd_l_case := f_l_case, d_l_case := d_l_case,
    a_l_program := _, fd_l_program := f_l_program, d_l_program := d_l_program,
    a_l_value := _, fd_l_value := f_l_value, d_l_value := d_l_value,
    a_l_keys := _, fd_l_keys := f_l_keys, d_l_keys := d_l_keys,
    a_l_kinds := _, fd_l_kinds := f_l_kinds, d_l_kinds := d_l_kinds,
    a_l_book := _, fd_l_book := f_l_book, d_l_book := d_l_book,
    a_l_net := _, fd_l_net := f_l_net, d_l_net := d_l_net,
    a_l_web := _, fd_l_web := f_l_web, d_l_web := d_l_web,
    a_l_net_of := _, fd_l_net_of := f_l_net_of, d_l_net_of := d_l_net_of,
    a_l_text_of := _, fd_l_text_of := f_l_text_of, d_l_text_of := d_l_text_of,
    a_l_wrong_line := _, fd_l_wrong_line := f_l_wrong_line, d_l_wrong_line := d_l_wrong_line,
    b_all := He.free_ok X G (D.fact 31 rfl),
    b_dict := He.free_ok X G (D.fact 32 rfl),
    b_isinstance := He.free_ok X G (D.fact 33 rfl),
    b_len := He.free_ok X G (D.fact 34 rfl),
    b_list := He.free_ok X G (D.fact 35 rfl),
    b_max := He.free_ok X G (D.fact 36 rfl),
    b_min := He.free_ok X G (D.fact 37 rfl),
    b_range := He.free_ok X G (D.fact 38 rfl),
    b_sorted := He.free_ok X G (D.fact 39 rfl),
    b_tuple := He.free_ok X G (D.fact 40 rfl),
    b_int := He.free_ok X G (D.fact 41 rfl),
    b_zip := He.free_ok X G (D.fact 42 rfl),
    b_bool := He.free_ok X G (D.fact 43 rfl),
    b_str := He.free_ok X G (D.fact 44 rfl),
    b_enumerate := He.free_ok X G (D.fact 45 rfl),
    g_LETTERS := He.str_ok X G (D.fact 46 rfl),
    g_LONGEST := He.int_ok X G (D.fact 47 rfl),
    a_NUMBERS := _, g_NUMBERS := He.glo_ok X G (D.fact 48 rfl), k_NUMBERS := He.tupB_ok E0,
    r_InvalidName := r_InvalidName,
    r_InvalidNetwork := r_InvalidNetwork,
    e_InvalidNetwork := (by rw [hr_InvalidNetwork]; exact erc_of E6 n_InvalidNetwork E10),
    r_DuplicateCell := r_DuplicateCell,
    r_UnknownCell := r_UnknownCell,
    r_DuplicateTie := r_DuplicateTie,
    cBE := He.ga K "BestError", cMS := He.ga K "Missing", gBE := He.glo_ok X G (D.fact 54 rfl), gMS := He.glo_ok X G (D.fact 55 rfl), f_InvalidName := (by rw [hr_InvalidName, hr_DuplicateCell, hr_UnknownCell, hr_DuplicateTie]; exact E38), f_DuplicateCell := (by rw [hr_InvalidName, hr_DuplicateCell, hr_UnknownCell, hr_DuplicateTie]; exact E39), f_UnknownCell := (by rw [hr_InvalidName, hr_DuplicateCell, hr_UnknownCell, hr_DuplicateTie]; exact E40), f_DuplicateTie := (by rw [hr_InvalidName, hr_DuplicateCell, hr_UnknownCell, hr_DuplicateTie]; exact E41) }
  obtain ⟨f_Network_add_cell, F_Network_add_cell, M_Network_add_cell, B_Network_add_cell⟩ := meth_of (ps := ["self", "name", "kind"]) D 36 61 (fun _ _ _ _ _ _ us hl => match us, hl with | [_, _, _], _ => rfl) rfl rfl
  obtain ⟨f_Network_add_tie, F_Network_add_tie, M_Network_add_tie, B_Network_add_tie⟩ := meth_of (ps := ["self", "tie", "source", "target"]) D 37 62 (fun _ _ _ _ _ _ us hl => match us, hl with | [_, _, _, _], _ => rfl) rfl rfl
  obtain ⟨f_Network_cells, F_Network_cells, M_Network_cells, B_Network_cells⟩ := meth_of (ps := ["self"]) D 38 63 (fun _ _ _ _ _ _ us hl => match us, hl with | [_], _ => rfl) rfl rfl
  obtain ⟨f_Network_ties, F_Network_ties, M_Network_ties, B_Network_ties⟩ := meth_of (ps := ["self"]) D 39 64 (fun _ _ _ _ _ _ us hl => match us, hl with | [_], _ => rfl) rfl rfl
  obtain ⟨f_Network__getitem, F_Network__getitem, M_Network__getitem, B_Network__getitem⟩ := meth_of (ps := ["self", "name"]) D 40 65 (fun _ _ _ _ _ _ us hl => match us, hl with | [_, _], _ => rfl) rfl rfl
  obtain ⟨f_Network__contains, F_Network__contains, M_Network__contains, B_Network__contains⟩ := meth_of (ps := ["self", "name"]) D 41 66 (fun _ _ _ _ _ _ us hl => match us, hl with | [_, _], _ => rfl) rfl rfl
  obtain ⟨f_Network__eq, F_Network__eq, M_Network__eq, B_Network__eq⟩ := meth_of (ps := ["self", "other"]) D 42 67 (fun _ _ _ _ _ _ us hl => match us, hl with | [_, _], _ => rfl) rfl rfl
  obtain ⟨f_Network_check_known, F_Network_check_known, M_Network_check_known, B_Network_check_known⟩ := meth_of (ps := ["self", "name"]) D 43 68 (fun _ _ _ _ _ _ us hl => match us, hl with | [_, _], _ => rfl) rfl rfl
  obtain ⟨f_Network_text, F_Network_text, M_Network_text, B_Network_text⟩ := meth_of (ps := ["self"]) D 44 69 (fun _ _ _ _ _ _ us hl => match us, hl with | [_], _ => rfl) rfl rfl
  obtain ⟨f_Network_take, F_Network_take, M_Network_take, B_Network_take⟩ := meth_of (ps := ["self", "line"]) D 45 70 (fun _ _ _ _ _ _ us hl => match us, hl with | [_, _], _ => rfl) rfl rfl
  obtain ⟨f_Network_read, F_Network_read, B_Network_read⟩ := fun_wr (ps := ["cls", "text"]) cw 0 (fun _ _ _ _ _ _ us hl => match us, hl with | [_, _], _ => rfl) rfl
  obtain ⟨oc_0, od_0, kV_0, dc_0, pm_0, an_0, ct_0, sl_0, lk_0, hc_0⟩ := tab_def D 29 rfl rfl rfl
  obtain ⟨oc_1, od_1, kV_1, dc_1, pm_1, an_1, ct_1, sl_1, lk_1, hc_1⟩ := tab_def D 30 rfl rfl rfl
  have e0 := hfa.symm.trans (He.glo_ok X G (D.fact 30 rfl))
  cases e0
  let R : NtC K mg := { C := He.ga K "Network", g := He.glo_ok X G (D.fact 56 rfl), cl := He.cls_ok (D.fact 57 rfl), n1 := He.noat_ok (D.fact 59 rfl), n2 := He.noat_ok (D.fact 60 rfl), ha := E26.1, hn := E26.2.1, ht := E26.2.2.1, hm := E26.2.2.2.1, k1 := E26.2.2.2.2.1, nq := E32, t2 := E33, t3 := E34, kt := E35, ks := E36 }
  obtain ⟨f_I, F_I⟩ := D.def_ 46 (d := ⟨("Network", some "__init__"), "__init__", "Network.__init__", defArgs s_Network__init, defBody s_Network__init, defScope s_Network__init, [], [("cells", .adr (kwAd "Network" "__init__" "cells")), ("ties", .adr (kwAd "Network" "__init__" "ties"))]⟩) rfl
  have M : NtM K mg R := {
    fI := _, fdI := f_I, z1 := kwAd "Network" "__init__" "cells" K, z2 := kwAd "Network" "__init__" "ties" K, e1 := tupE_ok E44, e2 := tupE_ok E45, FI := F_I, mkr := He.mkr_ok (D.fact 58 rfl),
    add_cell := ⟨_, f_Network_add_cell, F_Network_add_cell, M_Network_add_cell, B_Network_add_cell⟩,
    add_tie := ⟨_, f_Network_add_tie, F_Network_add_tie, M_Network_add_tie, B_Network_add_tie⟩,
    cells := ⟨_, f_Network_cells, F_Network_cells, M_Network_cells, B_Network_cells⟩,
    ties := ⟨_, f_Network_ties, F_Network_ties, M_Network_ties, B_Network_ties⟩,
    getitem := ⟨_, f_Network__getitem, F_Network__getitem, M_Network__getitem, B_Network__getitem⟩,
    contains := ⟨_, f_Network__contains, F_Network__contains, M_Network__contains, B_Network__contains⟩,
    eq := ⟨_, f_Network__eq, F_Network__eq, M_Network__eq, B_Network__eq⟩,
    check_known := ⟨_, f_Network_check_known, F_Network_check_known, M_Network_check_known, B_Network_check_known⟩,
    text := ⟨_, f_Network_text, F_Network_text, M_Network_text, B_Network_text⟩,
    take := ⟨_, f_Network_take, F_Network_take, M_Network_take, B_Network_take⟩,
    gi := E37, ne := neC_of E42 E43, mc := .type "type", rd := ⟨E30, E31⟩,
    pR := _, fR := _, fdR := f_Network_read, FR := F_Network_read, bR := B_Network_read, cR := cmet_wr E28 E29 }
  have S : WsM K mg (He.cT K ("_law_written_webs", none)).1 := { f := _, od := od_0, an := an_0, oc := oc_0, kV := kV_0, doc := dc_0, pm := pm_0, ct := ct_0, osl := sl_0, lk := lk_0, hcd := hc_0, g := He.glo_ok X G (D.fact 29 rfl), kp := d_l_written_webs.F.kp, b := (fun_mk (st := s_l_written_webs) lk_0 hc_0 d_l_written_webs.F.kp).binds (ps := []) (fun _ _ _ _ _ _ us hl => match us, hl with | [], _ => rfl) }
  have q1 : He.cT K ("_law_written_webs", none) ∈ hTf.map (He.cT K) := List.mem_map_of_mem (a := (("_law_written_webs", none) : He.Defn)) (List.mem_cons_self ..)
  have q2 : He.cT K ("law", none) ∈ hTf.map (He.cT K) := List.mem_map_of_mem (a := (("law", none) : He.Defn)) (List.mem_cons_of_mem _ (List.mem_singleton.mpr rfl))
  have tl : ∀ p ∈ [((He.cT K ("_law_written_webs", none)).2, wrQ), ((He.cT K ("law", none)).2, lawQ)], (p.1 = (He.cT K ("_law_written_webs", none)).2 → p.2 = wrQ) ∧ (p.1 = (He.cT K ("law", none)).2 → p.2 = lawQ) := fun p hp => by
    simp only [List.mem_cons, List.not_mem_nil, or_false] at hp
    rcases hp with rfl | rfl
    · exact ⟨fun _ => rfl, fun e => absurd e E27⟩
    · exact ⟨fun e => absurd e.symm E27, fun _ => rfl⟩
  refine ⟨_, hTf.map (He.cT K), spLaw0 K [((He.cT K ("_law_written_webs", none)).2, wrQ), ((He.cT K ("law", none)).2, lawQ)], fun p hp => ?_, fun p hp => ?_, fun p hp => ?_, fun s u => .of_eq rfl, fun H a ns hl _ hH hS => ⟨a, ns, rfl, hS, hl, fun p hp => ?_, fun _ => rfl⟩,
    fun base _ _ hTB => ok_law T S M (hTB _ q1) (hTB _ q2) (List.mem_cons_self ..) (fun p hp => (tl p hp).1) (List.mem_cons_of_mem _ (List.mem_singleton.mpr rfl)) (fun p hp => (tl p hp).2) lk_1 hc_1⟩
  · obtain ⟨z, hz, rfl⟩ := List.mem_map.mp hp
    exact c.empty z hz
  · obtain ⟨z, hz, rfl⟩ := List.mem_map.mp hp
    exact c.out z hz
  · obtain ⟨z, hz, rfl⟩ := List.mem_map.mp hp
    exact PySem.W.codeHd_of_K X (c.hd z hz)
  · simp only [List.mem_cons, List.not_mem_nil, or_false] at hp
    rcases hp with rfl | rfl
    · exact TabS.nil (hH _ q1)
    · exact TabS.nil (hH _ q2)
end Bh

open PySem PySem.W PySem.Calls PyProof.Rows in
set_option maxRecDepth 100000 in
set_option maxHeartbeats 0 in
theorem PySem.Challenge.cw_bestheard_k16_whole_networks_there_and_b_holds : PySem.Challenge.rw_bestheard_k16_whole_networks_there_and_b.Holds := by
  w_on; o_law
  refine HandSHeadRun.head_any (r := OpenLaw.row PySem.Challenge.rw_bestheard_k16_whole_networks_there_and_b) (q := view (OpenLaw.row PySem.Challenge.rw_bestheard_k16_whole_networks_there_and_b).prog [48]) (H := Bh.hHk) (ob := Bh.hOb) (M := 7000) (loose := Bh.hLo) (d := HandSHeadRun.topDef (OpenLaw.row PySem.Challenge.rw_bestheard_k16_whole_networks_there_and_b).prog 48) (kwd := []) Bh.hOb_eq
    (by kernel_rfl) (fun s => by kernel_rfl) Bh.hRun (by kernel_rfl) (by kernel_rfl) (by kernel_rfl) (by rfl) (by first | assumption | decide +kernel) (by decide +kernel) ⟨rfl, rfl, rfl, rfl, rfl, by decide +kernel⟩ ?hw ?hc
  case hw => w_witness2
  case hc =>
    refine LamX.walk_ofTsE (l := PySem.Challenge.rw_bestheard_k16_whole_networks_there_and_b) (n := 63) (k := 18) (x := "_law_script") (CX := fun _ => L2.CX0) rfl (by decide) (by kernel_rfl) ⟨rfl, by decide, by decide⟩ ?F (fun _ _ _ _ _ z => z)
    intro w mg fa h Y G hmg0
    obtain ⟨K, KX, c, cw⟩ := Y
    have hmg : mg ("law" : PySem.Str) = some (.ref fa) := by
      have e : (HandSHeadRun.topDef (OpenLaw.row PySem.Challenge.rw_bestheard_k16_whole_networks_there_and_b).prog 48).name = ("law" : PySem.Str) := by kernel_rfl
      rw [← e]
      exact hmg0
    exact ⟨K, KX, Bh.law_at KX G hmg c cw⟩
