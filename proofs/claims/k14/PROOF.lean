import PyProof.Rows.All
import Wide.All
import OpenK.AllK
import Wide.FinOn
import KE.KStateDown
import KE.KExcInit
import HandS.ForMost
import HandS.Walk
import HandS.Defaults
import HandS.Head2
import HandS.HeadEnd
import HandS.HeadHook4
import HandS.HeadWalk
import PyProof.InstNe
import PySem.Challenge.RW_bestheard_k14_networks_joined_and_compar
import HandS.IsInst
import HandS.Deep
import HandS.Evl
import HandS.Steps
import HandS.More
import HandS.Zip
import HandS.Strs
import HandS.TupAny
import HandS.TupMul
import HandS.StrMore
import HandS.Style
import KE.DataEq
import HandS.Nested
import HandS.NestedK
import HandS.CallLocal
import HandS.StrSplit
import HandS.Star
import HandS.ExcField
import HandS.ExcInit
import HandS.ExcIs
import KE.KTryMore
import KE.KExcIs
import HandS.HotCalls
import HandS.Lambda
import HandS.EndTab
import HandS.MakeKwOnly
import HandS.WordsExc
import HandS.OwnEq
import HandS.Dict
import HandS.DictComp
import PyProof.DictMoreH
import OpenK.KOps
import KE.KOpsOwn
import PyProof.SeqIndex
import HandS.DictEq
import HandS.Text
import KE.KxPercentT
import PyProof.MeetsSeq2
import PyProof.Tail
import HandS.MethStar
import HandS.ClsMeth
import HandS.FStr
import HandS.Conv
import HandS.WordsDict
import HandS.TupLen
import HandS.ListItems
import KE.KDflt
import KE.SortKeyHeap
import HandS.SortKw
import KE.SortData
set_option Elab.async false
set_option linter.all false
set_option maxRecDepth 100000
set_option maxHeartbeats 2000000
namespace Bh
open PySem PySem.Spec PyProof.Rows L2
/-! ### the end of a law by one run of the top: what the Hook looks at -/
/-- a def of the top; a method -/
def dd (x : Str) (st : Stmt) : He.DefD := ⟨(x, none), x, x, defArgs st, defBody st, defScope st, [], []⟩
def dm (C m q : Str) (st : Stmt) : He.DefD := ⟨(C, some m), m, q, defArgs st, defBody st, defScope st, [], []⟩
abbrev ExcP (K : PySem.W.Frag) (x : Str) (bmB : List Value) (newId : String) : Prop :=
  PySem.W.excInitIn K (He.ga K x) bmB newId = true ∧ PySem.W.excOver K (He.ga K x) bmB = true ∧ PySem.W.hasDictIn K (He.ga K x) = true ∧ PySem.W.findIn K (.ref (He.ga K x)) "__setattr__" = some (some (.builtin "object.__setattr__")) ∧
  PySem.W.findIn K (.ref (He.ga K x)) "__getattribute__" = some (some (.builtin "BaseException.__getattribute__")) ∧ PySem.W.findIn K (.ref (He.ga K x)) "__getattr__" = some none ∧
  PySem.W.findIn K (.ref (He.ga K x)) "__class__" = some (some (.builtin "object.__class__")) ∧ PySem.W.mroIn K (He.ga K x) (.type "object") = some true ∧
  PySem.W.specialIn K (.builtin "object.__class__") "__get__" = some (some (.builtin "getset_descriptor.__get__")) ∧ PySem.W.takesIn K (.builtin "object.__class__") = some true ∧
  PySem.W.keepIn K (.ref (He.ga K x)) = true ∧ PySem.W.subIn K (.ref (He.ga K x)) (.type "BaseException") = some true ∧ PySem.W.typeIn K (.ref (He.ga K x)) = some (.type "type")
abbrev ExcI (K : PySem.W.Frag) (x : Str) : Prop := PySem.W.findIn K (.ref (He.ga K x)) "__init__" = some (some (.ref (He.ma K (He.ga K x) "__init__"))) ∧ PySem.W.typeIn K (.ref (He.ma K (He.ga K x) "__init__")) = some (.type "function")
abbrev NoAt (K : PySem.W.Frag) (x : Str) (ys : List Str) : Prop := ∀ y ∈ ys, PySem.W.findIn K (.ref (He.ga K x)) y = some none
abbrev ClsP (K : PySem.W.Frag) (x : Str) : Prop :=
  PySem.W.findIn K (.ref (He.ga K x)) "__class__" = some (some (.builtin "object.__class__")) ∧ PySem.W.specialIn K (.builtin "object.__class__") "__get__" = some (some (.builtin "getset_descriptor.__get__")) ∧ PySem.W.takesIn K (.builtin "object.__class__") = some true ∧
  PySem.W.mroIn K (He.ga K x) (.type "object") = some true ∧ PySem.W.kitOne K (.ref (He.ga K x)) (.ref (He.ga K x)) = some true ∧ PySem.W.kitOne K (.type "tuple") (.ref (He.ga K x)) = some false
abbrev CallP (K : PySem.W.Frag) (x : Str) : Prop := PySem.W.fnIn K (He.ma K (He.ga K x) "__call__") = true
abbrev veB : List Value := [.type "ValueError", .type "Exception", .type "BaseException", .type "object"]
abbrev leB : List Value := [.type "LookupError", .type "Exception", .type "BaseException", .type "object"]
/-! ### a Hook over fewer objects: what the module's names hold, the classes' own names, the code objects -/
def pickO (o : Obj) : List Addr := match o.data with
  | .dict es _ => es.toList.flatMap fun e => He.refV e.val
  | .func fd => He.refV fd.code ++ He.refV fd.defaults ++ He.refV fd.kwdefaults
  | .cls cd => [cd.ns]
  | _ => []
def nextA (g : Addr → Option Obj) (as : List Addr) : List Addr := as.flatMap fun a => match g a with
  | some o => pickO o
  | none => []
def asY (g : Addr → Option Obj) : List Addr := mainGlobals :: (nextA g [mainGlobals] ++ (nextA g (nextA g [mainGlobals]) ++ (nextA g (nextA g (nextA g [mainGlobals])) ++ nextA g (nextA g (nextA g (nextA g [mainGlobals]))) ++ nextA g (nextA g (nextA g (nextA g (nextA g [mainGlobals])))))))
def obsY (fa : List He.Fa) (fn : List He.DefD) (ts : List He.Tab) (tf : List He.Defn) (ex : PySem.W.Frag → Bool) (g : Addr → Option Obj) : He.AlX := (He.obsT fa fn ts (He.frT g (asY g)), ex (He.frT g (asY g)) && He.tabsB g tf (He.frT g (asY g)))
theorem says_any {fa : List He.Fa} {fn : List He.DefD} {ts : List He.Tab} {tf : List He.Defn} {ex : PySem.W.Frag → Bool} {w : World} {h : Heap} {K : PySem.W.Frag} (e1 : He.obsT fa fn ts K = He.valT fn ts w) (e2 : (ex K && He.tabsB h.get? tf K) = true)
    (no : ∀ a o, h.get? a = some o → He.emptyTab o = true → K.lookup a = none) : He.SaysX fa fn ts tf ex w h K := by
  obtain ⟨m1, m2⟩ := He.ba e2
  have all : ∀ p ∈ tf, PySem.W.codeHdIn K (He.cT K p).1 (He.cT K p).2 = true ∧ ∃ o, h.get? (He.cT K p).2 = some o ∧ He.emptyTab o = true := by
    intro p hp
    have z := He.ba (List.all_eq_true.mp m2 p hp)
    refine ⟨z.1, ?_⟩
    have z2 := z.2
    revert z2
    cases h.get? (He.cT K p).2 with
    | none => exact fun c => nomatch c
    | some o => exact fun c => ⟨o, rfl, c⟩
  refine { t := e1, more := m1, hd := fun p hp => (all p hp).1, out := fun p hp => ?_, empty := fun p hp => ?_ }
  · obtain ⟨o, g1, g2⟩ := (all p hp).2
    exact no _ o g1 g2
  · obtain ⟨o, g1, g2⟩ := (all p hp).2
    rw [g1, He.emptyTab_eq g2]
def hookY (fa : List He.Fa) (fn : List He.DefD) (ts : List He.Tab) (tf : List He.Defn) (ex : PySem.W.Frag → Bool) : PySem.W.Hook where
  α := He.AlX
  obs s := obsY fa fn ts tf ex s.heap.get?
  val w := He.valX fn ts w
  says w h := ∃ K : PySem.W.Frag, K.In h ∧ He.SaysX fa fn ts tf ex w h K
  of w s e := ⟨_, He.frT_in, says_any (congrArg (fun z : He.AlX => z.1) e) (congrArg (fun z : He.AlX => z.2) e) fun _ _ => He.frT_none⟩
  keeps w h h' := fun ⟨K, k1, k2⟩ k => ⟨K, PySem.W.Frag.In.keeps k1 k, { t := k2.t, more := k2.more, hd := k2.hd, out := k2.out, empty := fun p hp => k _ _ (k2.empty p hp) }⟩
theorem obsY_eq {fa : List He.Fa} {fn : List He.DefD} {ts : List He.Tab} {tf : List He.Defn} {ex : PySem.W.Frag → Bool} {g : Addr → Option Obj} {s : Shared} (e : ∀ a, g a = s.heap.get? a) : obsY fa fn ts tf ex g = (hookY fa fn ts tf ex).obs s := by
  rw [show g = s.heap.get? from funext e]
  rfl
end Bh

set_option Elab.async false
set_option linter.all false
set_option maxRecDepth 100000
set_option maxHeartbeats 2000000
namespace Bh
open PySem PySem.Spec PyProof.Rows L2
/-! ### what the Hook looks at besides: a class over object alone, defaults that are objects -/
def nsB2 (K : PySem.W.Frag) (N f : Addr) : Bool := match K.lookup N with
  | some ⟨_, _, .dict es _, _⟩ => (es.toList.all fun e => match e.key with
      | .str _ _ => true
      | _ => false) && (decide (nsFind es "__eq__" = some (.ref f)) && decide (nsFind es "__ne__" = none))
  | _ => false
def neB (K : PySem.W.Frag) (C f : Addr) : Bool := match K.lookup C with
  | some ⟨.type "type", _, .cls cd, sl⟩ => (match cd.mro, sl.toList with
    | [.ref C', .type o], [_, _, _, _, some (.builtin _), _] => C' == C && (decide (o = "object") && (!cd.hasDel && (cd.hasDict && nsB2 K cd.ns f)))
    | _, _ => false)
  | _ => false
def fnB (K : PySem.W.Frag) (f : Addr) : Bool := match K.lookup f with
  | some ⟨.type c, _, _, _⟩ => decide (c = "function")
  | _ => false
/-- a keyword-only default that is an object -/
def kwAd (C m k : Str) (K : PySem.W.Frag) : Addr := match K.lookup (He.fAd K (C, some m)) with
  | some ⟨_, _, .func fd, _⟩ => (match fd.kwdefaults with
    | .ref D => (match PySem.W.nsIn K D k with
      | some (some (.ref a)) => a
      | _ => 0)
    | _ => 0)
  | _ => 0
def tupE (K : PySem.W.Frag) (z : Addr) : Bool := match K.lookup z with
  | some ⟨.type c, _, .seq its _, _⟩ => decide (c = "tuple") && decide (its.toList = [])
  | _ => false
end Bh

set_option Elab.async false
set_option linter.all false
set_option maxRecDepth 100000
set_option maxHeartbeats 1000000
namespace Bh
open PySem PySem.Spec PyProof.Rows L2
def topS (i : Nat) : Stmt := PySem.Challenge.pw_bestheard_k14_networks_joined_and_compar.main.body.getD i (.Pass ⟨0, 0, 0, 0⟩)
abbrev s_copy_of : Stmt := topS 2
theorem sc_copy_of : FnScope ["value", "item", "key", "worth"] ["value"] (defScope s_copy_of) := ⟨rfl, rfl, rfl, by decide +kernel, rfl, by decide +kernel, by decide +kernel⟩
abbrev s_KindsDiffer__init : Stmt := inClass (topS 10) 0
theorem sc_KindsDiffer__init : FnScope ["self", "name"] ["self", "name"] (defScope s_KindsDiffer__init) := ⟨rfl, rfl, rfl, by decide +kernel, rfl, by decide +kernel, by decide +kernel⟩
abbrev s_is_name : Stmt := topS 15
theorem sc_is_name : FnScope ["value"] ["value"] (defScope s_is_name) := ⟨rfl, rfl, rfl, by decide +kernel, rfl, by decide +kernel, by decide +kernel⟩
abbrev s_is_word : Stmt := topS 16
theorem sc_is_word : FnScope ["value", "characters", "character"] ["value", "characters"] (defScope s_is_word) := ⟨rfl, rfl, rfl, by decide +kernel, rfl, by decide +kernel, by decide +kernel⟩
abbrev s_Network__init : Stmt := inClass (topS 19) 0
theorem sc_Network__init : FnScope ["self", "cells", "ties"] ["self", "cells", "ties"] (defScope s_Network__init) := ⟨rfl, rfl, rfl, by decide +kernel, rfl, by decide +kernel, by decide +kernel⟩
abbrev s_Network_add_cell : Stmt := inClass (topS 19) 3
theorem sc_Network_add_cell : FnScope ["self", "name", "kind"] ["self", "name", "kind"] (defScope s_Network_add_cell) := ⟨rfl, rfl, rfl, by decide +kernel, rfl, by decide +kernel, by decide +kernel⟩
abbrev s_Network_add_tie : Stmt := inClass (topS 19) 4
theorem sc_Network_add_tie : FnScope ["self", "tie", "source", "target"] ["self", "tie", "source", "target"] (defScope s_Network_add_tie) := ⟨rfl, rfl, rfl, by decide +kernel, rfl, by decide +kernel, by decide +kernel⟩
abbrev s_Network_cells : Stmt := inClass (topS 19) 7
theorem sc_Network_cells : FnScope ["self"] ["self"] (defScope s_Network_cells) := ⟨rfl, rfl, rfl, by decide +kernel, rfl, by decide +kernel, by decide +kernel⟩
abbrev s_Network_ties : Stmt := inClass (topS 19) 8
theorem sc_Network_ties : FnScope ["self"] ["self"] (defScope s_Network_ties) := ⟨rfl, rfl, rfl, by decide +kernel, rfl, by decide +kernel, by decide +kernel⟩
abbrev s_Network__getitem : Stmt := inClass (topS 19) 11
theorem sc_Network__getitem : FnScope ["self", "name"] ["self", "name"] (defScope s_Network__getitem) := ⟨rfl, rfl, rfl, by decide +kernel, rfl, by decide +kernel, by decide +kernel⟩
abbrev s_Network__contains : Stmt := inClass (topS 19) 15
theorem sc_Network__contains : FnScope ["self", "name"] ["self", "name"] (defScope s_Network__contains) := ⟨rfl, rfl, rfl, by decide +kernel, rfl, by decide +kernel, by decide +kernel⟩
abbrev s_Network__eq : Stmt := inClass (topS 19) 17
theorem sc_Network__eq : FnScope ["self", "other"] ["self", "other"] (defScope s_Network__eq) := ⟨rfl, rfl, rfl, by decide +kernel, rfl, by decide +kernel, by decide +kernel⟩
abbrev s_Network_is_part_of : Stmt := inClass (topS 19) 18
theorem sc_Network_is_part_of : FnScope ["self", "other", "name", "kind", "tie"] ["self", "other"] (defScope s_Network_is_part_of) := ⟨rfl, rfl, rfl, by decide +kernel, rfl, by decide +kernel, by decide +kernel⟩
abbrev s_Network__or : Stmt := inClass (topS 19) 19
theorem sc_Network__or : FnScope ["self", "other", "more_cells", "more_ties", "name", "tie"] ["self", "other"] (defScope s_Network__or) := ⟨rfl, rfl, rfl, by decide +kernel, rfl, by decide +kernel, by decide +kernel⟩
abbrev s_Network__ior : Stmt := inClass (topS 19) 20
theorem sc_Network__ior : FnScope ["self", "other", "joined"] ["self", "other"] (defScope s_Network__ior) := ⟨rfl, rfl, rfl, by decide +kernel, rfl, by decide +kernel, by decide +kernel⟩
abbrev s_Network_clone : Stmt := inClass (topS 19) 22
theorem sc_Network_clone : FnScope ["self"] ["self"] (defScope s_Network_clone) := ⟨rfl, rfl, rfl, by decide +kernel, rfl, by decide +kernel, by decide +kernel⟩
abbrev s_Network_text : Stmt := inClass (topS 19) 23
theorem sc_Network_text : FnScope ["self", "cells", "ties", "name", "kind", "tie", "source", "target"] ["self"] (defScope s_Network_text) := ⟨rfl, rfl, rfl, by decide +kernel, rfl, by decide +kernel, by decide +kernel⟩
abbrev s_Network_check_known : Stmt := inClass (topS 19) 25
theorem sc_Network_check_known : FnScope ["self", "name"] ["self", "name"] (defScope s_Network_check_known) := ⟨rfl, rfl, rfl, by decide +kernel, rfl, by decide +kernel, by decide +kernel⟩
abbrev s_Network_check_kinds : Stmt := inClass (topS 19) 26
theorem sc_Network_check_kinds : FnScope ["self", "other", "name", "kind"] ["self", "other"] (defScope s_Network_check_kinds) := ⟨rfl, rfl, rfl, by decide +kernel, rfl, by decide +kernel, by decide +kernel⟩
abbrev s_kinds_of : Stmt := topS 20
theorem sc_kinds_of : FnScope ["cells", "kinds", "name", "kind"] ["cells"] (defScope s_kinds_of) := ⟨rfl, rfl, rfl, by decide +kernel, rfl, by decide +kernel, by decide +kernel⟩
abbrev s_ties_between : Stmt := topS 21
theorem sc_ties_between : FnScope ["kinds", "ties", "found", "tie", "source", "target"] ["kinds", "ties"] (defScope s_ties_between) := ⟨rfl, rfl, rfl, by decide +kernel, rfl, by decide +kernel, by decide +kernel⟩
abbrev s_check_cell : Stmt := topS 22
theorem sc_check_cell : FnScope ["kinds", "name", "kind"] ["kinds", "name", "kind"] (defScope s_check_cell) := ⟨rfl, rfl, rfl, by decide +kernel, rfl, by decide +kernel, by decide +kernel⟩
abbrev s_check_tie : Stmt := topS 23
theorem sc_check_tie : FnScope ["kinds", "ties", "tie", "source", "target", "name"] ["kinds", "ties", "tie", "source", "target"] (defScope s_check_tie) := ⟨rfl, rfl, rfl, by decide +kernel, rfl, by decide +kernel, by decide +kernel⟩
abbrev s_is_kind : Stmt := topS 24
theorem sc_is_kind : FnScope ["value"] ["value"] (defScope s_is_kind) := ⟨rfl, rfl, rfl, by decide +kernel, rfl, by decide +kernel, by decide +kernel⟩
abbrev s_l_bag : Stmt := topS 26
theorem sc_l_bag : FnScope ["_law_script", "_law_seed", "_law_cell"] ["_law_script"] (defScope s_l_bag) := ⟨rfl, rfl, rfl, by decide +kernel, rfl, by decide +kernel, by decide +kernel⟩
abbrev s_l_draw : Stmt := topS 27
theorem sc_l_draw : FnScope ["_law_bag_here", "_law_many", "_law_cell", "_law_found", "_law_old"] ["_law_bag_here", "_law_many"] (defScope s_l_draw) := ⟨rfl, rfl, rfl, by decide +kernel, rfl, by decide +kernel, by decide +kernel⟩
abbrev s_l_any : Stmt := topS 28
theorem sc_l_any : FnScope ["_law_bag_here", "_law_row"] ["_law_bag_here", "_law_row"] (defScope s_l_any) := ⟨rfl, rfl, rfl, by decide +kernel, rfl, by decide +kernel, by decide +kernel⟩
abbrev s_l_mixed : Stmt := topS 29
theorem sc_l_mixed : FnScope ["_law_bag_here", "_law_row", "_law_found", "_law_item"] ["_law_bag_here", "_law_row"] (defScope s_l_mixed) := ⟨rfl, rfl, rfl, by decide +kernel, rfl, by decide +kernel, by decide +kernel⟩
abbrev s_l_like : Stmt := topS 30
theorem sc_l_like : FnScope ["_law_found", "_law_due", "_law_key", "_law_one", "_law_other_z"] ["_law_found", "_law_due"] (defScope s_l_like) := ⟨rfl, rfl, rfl, by decide +kernel, rfl, by decide +kernel, by decide +kernel⟩
abbrev s_l_given : Stmt := topS 31
theorem sc_l_given : FnScope ["_law_e"] ["_law_e"] (defScope s_l_given) := ⟨rfl, rfl, rfl, by decide +kernel, rfl, by decide +kernel, by decide +kernel⟩
abbrev s_l_try : Stmt := topS 32
theorem sc_l_try : FnScope ["_law_ask", "_law_found", "_law_e"] ["_law_ask"] (defScope s_l_try) := ⟨rfl, rfl, rfl, by decide +kernel, rfl, by decide +kernel, by decide +kernel⟩
abbrev s_l_words : Stmt := topS 33
theorem sc_l_words : FnScope ["_law_bag_here", "_law_many", "_law_tail", "_law_at", "_law_start", "_law_letters", "_law_k"] ["_law_bag_here", "_law_many"] (defScope s_l_words) := ⟨rfl, rfl, rfl, by decide +kernel, rfl, by decide +kernel, by decide +kernel⟩
abbrev s_l_web : Stmt := topS 34
theorem sc_l_web : FnScope ["_law_net"] ["_law_net"] (defScope s_l_web) := ⟨rfl, rfl, rfl, by decide +kernel, rfl, by decide +kernel, by decide +kernel⟩
abbrev s_l_net_of : Stmt := topS 35
theorem sc_l_net_of : FnScope ["_law_web_here", "_law_cell"] ["_law_web_here"] (defScope s_l_net_of) := ⟨rfl, rfl, rfl, by decide +kernel, rfl, by decide +kernel, by decide +kernel⟩
abbrev s_l_drawn_web : Stmt := topS 36
theorem sc_l_drawn_web : FnScope ["_law_bag_here", "_law_names", "_law_words_here", "_law_chosen", "_law_cells_z", "_law_ties_z", "_law_k", "_law_row", "_law_name"] ["_law_bag_here", "_law_names", "_law_words_here"] (defScope s_l_drawn_web) := ⟨rfl, rfl, rfl, by decide +kernel, rfl, by decide +kernel, by decide +kernel⟩
abbrev s_l_small_example : Stmt := topS 37
theorem sc_l_small_example : FnScope ["_law_one", "_law_two", "_law_kept", "_law_told", "_law_due"] [] (defScope s_l_small_example) := ⟨rfl, rfl, rfl, by decide +kernel, rfl, by decide +kernel, by decide +kernel⟩
abbrev s_l_compared : Stmt := topS 38
theorem sc_l_compared : FnScope ["_law_one", "_law_two", "_law_a", "_law_b", "_law_same", "_law_part", "_law_told", "_law_row"] ["_law_one", "_law_two", "_law_a", "_law_b"] (defScope s_l_compared) := ⟨rfl, rfl, rfl, by decide +kernel, rfl, by decide +kernel, by decide +kernel⟩
abbrev s_l_put_in : Stmt := topS 39
theorem sc_l_put_in : FnScope ["_law_one", "_law_two", "_law_a", "_law_both", "_law_late", "_law_kept"] ["_law_one", "_law_two", "_law_a"] (defScope s_l_put_in) := ⟨rfl, rfl, rfl, by decide +kernel, rfl, by decide +kernel, by decide +kernel⟩
abbrev s_l_put_in_so : Stmt := topS 40
theorem sc_l_put_in_so : FnScope ["_law_one", "_law_two", "_law_due", "_law_b", "_law_late", "_law_said", "_law_kept", "_law_e", "_law_told"] ["_law_one", "_law_two", "_law_due", "_law_b"] (defScope s_l_put_in_so) := ⟨rfl, rfl, rfl, by decide +kernel, rfl, by decide +kernel, by decide +kernel⟩
abbrev s_law : Stmt := topS 41
theorem sc_law : FnScope ["_law_script", "_law_bag_here", "_law_names", "_law_turn", "_law_words_here", "_law_a", "_law_b", "_law_one", "_law_two", "_law_there", "_law_clash", "_law_told", "_law_more", "_law_due", "_law_late", "_law_cell", "_law_kind", "_law_row"] ["_law_script"] (defScope s_law) := ⟨rfl, rfl, rfl, by decide +kernel, rfl, by decide +kernel, by decide +kernel⟩
end Bh

set_option Elab.async false
set_option linter.all false
set_option maxRecDepth 100000
set_option maxHeartbeats 4000000
set_option synthInstance.maxSize 10000
set_option synthInstance.maxHeartbeats 400000
namespace Bh
open PySem PySem.Spec PyProof.Rows L2
def hFn0 : List He.DefD := [dd "copy_of" s_copy_of, dd "is_name" s_is_name, dd "_is_word" s_is_word, dd "_kinds_of" s_kinds_of, dd "_ties_between" s_ties_between, dd "_check_cell" s_check_cell, dd "_check_tie" s_check_tie, dd "_is_kind" s_is_kind, dd "_law_bag" s_l_bag, dd "_law_draw" s_l_draw, dd "_law_any" s_l_any, dd "_law_mixed" s_l_mixed, dd "_law_like" s_l_like, dd "_law_given" s_l_given, dd "_law_try" s_l_try, dd "_law_words" s_l_words, dd "_law_web" s_l_web, dd "_law_net_of" s_l_net_of]
def hFn1 : List He.DefD := [dd "_law_drawn_web" s_l_drawn_web, dd "_law_small_example" s_l_small_example, dd "_law_compared" s_l_compared, dd "_law_put_in" s_l_put_in, dd "_law_put_in_so" s_l_put_in_so, dd "law" s_law, dm "KindsDiffer" "__init__" "KindsDiffer.__init__" s_KindsDiffer__init, dm "Network" "add_cell" "Network.add_cell" s_Network_add_cell, dm "Network" "add_tie" "Network.add_tie" s_Network_add_tie, dm "Network" "cells" "Network.cells" s_Network_cells, dm "Network" "ties" "Network.ties" s_Network_ties, dm "Network" "__getitem__" "Network.__getitem__" s_Network__getitem, dm "Network" "__contains__" "Network.__contains__" s_Network__contains, dm "Network" "__eq__" "Network.__eq__" s_Network__eq, dm "Network" "_check_known" "Network._check_known" s_Network_check_known, dm "Network" "_check_kinds" "Network._check_kinds" s_Network_check_kinds, dm "Network" "is_part_of" "Network.is_part_of" s_Network_is_part_of, dm "Network" "__or__" "Network.__or__" s_Network__or]
def hFn2 : List He.DefD := [dm "Network" "__ior__" "Network.__ior__" s_Network__ior, dm "Network" "clone" "Network.clone" s_Network_clone, dm "Network" "text" "Network.text" s_Network_text, ⟨("Network", some "__init__"), "__init__", "Network.__init__", defArgs s_Network__init, defBody s_Network__init, defScope s_Network__init, [], [("cells", .adr (kwAd "Network" "__init__" "cells")), ("ties", .adr (kwAd "Network" "__init__" "ties"))]⟩]
def hFn : List He.DefD := hFn0 ++ hFn1 ++ hFn2
def hFa0 : List He.Fa := [.glo "copy_of", .glo "is_name", .glo "_is_word", .glo "_kinds_of", .glo "_ties_between", .glo "_check_cell", .glo "_check_tie", .glo "_is_kind", .glo "_law_bag", .glo "_law_draw", .glo "_law_any", .glo "_law_mixed", .glo "_law_like", .glo "_law_given", .glo "_law_try", .glo "_law_words", .glo "_law_web", .glo "_law_net_of"]
def hFa1 : List He.Fa := [.glo "_law_drawn_web", .glo "_law_small_example", .glo "_law_compared", .glo "_law_put_in", .glo "_law_put_in_so", .glo "law", .free "all", .free "dict", .free "isinstance", .free "len", .free "list", .free "range", .free "sorted", .free "tuple", .free "int", .free "zip", .free "bool", .free "str"]
def hFa2 : List He.Fa := [.str "LETTERS" "abcdefghijklmnopqrstuvwxyz", .int "LONGEST" 8, .glo "NUMBERS", .glo "KindsDiffer", .glo "BestError", .glo "Missing", .glo "Network", .cls "Network", .mkr "Network", .noat "Network" "_cells", .noat "Network" "_ties", .meth "Network" "add_cell", .meth "Network" "add_tie", .meth "Network" "cells", .meth "Network" "ties", .meth "Network" "__getitem__", .meth "Network" "__contains__", .meth "Network" "__eq__"]
def hFa3 : List He.Fa := [.meth "Network" "_check_known", .meth "Network" "_check_kinds", .meth "Network" "is_part_of", .meth "Network" "__or__", .meth "Network" "__ior__", .meth "Network" "clone", .meth "Network" "text"]
def hFa : List He.Fa := hFa0 ++ hFa1 ++ hFa2 ++ hFa3
def hTf : List He.Defn := [("_law_small_example", none), ("law", none)]
abbrev ExF0 (K : PySem.W.Frag) : Prop := (He.tupB K "NUMBERS" [.str ".0", .str ".1", .str ".2"] = true) ∧
  (ExcP K "KindsDiffer" veB "ValueError.__new__") ∧
  (ExcI K "KindsDiffer") ∧
  (PySem.W.findIn K (.ref (He.ga K "KindsDiffer")) "code" = some none) ∧
  (PySem.W.findIn K (.ref (He.ga K "KindsDiffer")) "name" = some none) ∧
  (PySem.W.exmAny K (.ref (He.ga K "KindsDiffer")) [.ref (He.ga K "BestError"), .ref (He.ga K "Missing")] = some true) ∧
  (ClsP K "Network") ∧
  ((He.cT K ("_law_small_example", none)).2 ≠ (He.cT K ("law", none)).2) ∧
  (PySem.W.noSeq K (He.ga K "Network") = true) ∧
  (PySem.W.subIn K (.type "tuple") (.ref (He.ga K "Network")) = some false) ∧
  (PySem.W.subIn K (.type "str") (.ref (He.ga K "Network")) = some false) ∧
  (PySem.W.kitOne K (.type "tuple") (.ref (He.ga K "Network")) = some false)
abbrev ExF1 (K : PySem.W.Frag) : Prop := (PySem.W.kitOne K (.type "str") (.ref (He.ga K "Network")) = some false) ∧
  (PySem.W.fnIn K (He.ma K (He.ga K "Network") "__getitem__") = true) ∧
  (PySem.W.findIn K (.ref (He.ga K "Network")) (PySem.dunder "or") = some (some (.ref (He.ma K (He.ga K "Network") "__or__")))) ∧
  (PySem.W.findIn K (.ref (He.ga K "Network")) (PySem.dunderI "or") = some (some (.ref (He.ma K (He.ga K "Network") "__ior__")))) ∧
  (PySem.W.selfFirst K (He.ga K "Network") = true) ∧
  (PySem.W.exmOne K (.ref (He.ga K "KindsDiffer")) (.ref (He.ga K "BestError")) = some true) ∧
  (neB K (He.ga K "Network") (He.ma K (He.ga K "Network") "__eq__") = true) ∧
  (fnB K (He.ma K (He.ga K "Network") "__eq__") = true) ∧
  (tupE K (kwAd "Network" "__init__" "cells" K) = true) ∧
  (tupE K (kwAd "Network" "__init__" "ties" K) = true)
def hEx (K : PySem.W.Frag) : Bool := decide (ExF0 K) && decide (ExF1 K)
theorem hEx_of {K : PySem.W.Frag} (e : hEx K = true) : ExF0 K ∧ ExF1 K := by
  unfold hEx at e
  simpa only [Bool.and_eq_true, decide_eq_true_eq, and_assoc] using e
abbrev hR : PySem.W.OpenRow := PySem.W.OpenLaw.row PySem.Challenge.rw_bestheard_k14_networks_joined_and_compar
abbrev hHk : PySem.W.Hook := hookY hFa hFn [] hTf hEx
def hOb (s : PySem.W.SharedT) : He.AlX := obsY hFa hFn [] hTf hEx (HandSHeadRun.getT s)
theorem hOb_eq (s : PySem.W.SharedT) : hOb s = hHk.obs s.abs := obsY_eq (HandSHeadRun.getT_eq s)
def hLo0 : List Str := ["_wall", "__name__", "copy_of", "__name__", "BestError", "Missing", "InvalidName", "InvalidNetwork", "DuplicateCell", "DuplicateTie", "KindsDiffer", "UnknownCell", "__name__", "LETTERS", "LONGEST", "is_name", "_is_word", "__name__"]
def hLo1 : List Str := ["NUMBERS", "Network", "_kinds_of", "_ties_between", "_check_cell", "_check_tie", "_is_kind", "__name__", "_law_bag", "_law_draw", "_law_any", "_law_mixed", "_law_like", "_law_given", "_law_try", "_law_words", "_law_web", "_law_net_of"]
def hLo2 : List Str := ["_law_drawn_web", "_law_small_example", "_law_compared", "_law_put_in", "_law_put_in_so"]
def hLo : List Str := hLo0 ++ hLo1 ++ hLo2
set_option maxHeartbeats 0 in
theorem hRun (w : World) : HandSHeadRun.RunEq hR (PySem.W.view hR.prog [41]) hHk hOb 7000 hLo w := by
  intro os
  kernel_rfl
end Bh

set_option Elab.async false
set_option linter.all false
set_option maxRecDepth 100000
namespace Bh
open PySem PySem.Spec PyProof.Rows L2
/-! ### what the laws of this set have in common: constants, defs of the top, the drawing bag -/
section
variable {X : Cx} {x z : Str} {i : Int} {a : Addr} {pos : Pos}
theorem pe_gS (hg : Gl X x) (hm : ∃ t, X.mg x = some (.str z t)) (hd : (x == ("__debug__" : Str)) = false := by decide) : PE X (.Name x pos) (tC (.str z)) := by
  obtain ⟨t, hm⟩ := hm
  exact pe_glob hg hm ⟨t, rfl⟩ hd
theorem pe_gI (hg : Gl X x) (hm : ∃ t, X.mg x = some (.int i t)) (hd : (x == ("__debug__" : Str)) = false := by decide) : PE X (.Name x pos) (tC (.int i)) := by
  obtain ⟨t, hm⟩ := hm
  exact pe_glob hg hm ⟨t, rfl⟩ hd
theorem pe_gR (hg : Gl X x) (hm : X.mg x = some (.ref a)) (hd : (x == ("__debug__" : Str)) = false := by decide) : PE X (.Name x pos) (tC (.ref a)) :=
  pe_glob hg hm rfl hd
end
theorem pe_tyN {X : Cx} {x : Str} {pos : Pos} (n : String) (hg : Gl X x) (hm : X.mg x = none) (hv : bootBuiltins x = some (.type n)) (hnn : x ≠ "__name__" := by decide) (hdb : (x == ("__debug__" : Str)) = false := by decide) : PE X (.Name x pos) (tC (.ty n)) := pe_bltn hg hm hv rfl hnn hdb
/-- a def of the top: where it stands, what its name holds, how it binds -/
structure Df (K : PySem.W.Frag) (mg : Str → Option Value) (x : Str) (st : Stmt) (ps : List Str) (f : Addr) (fd : FuncData) : Prop where
  F : Fun K x x st f fd
  g : mg x = some (.ref f)
  b : Binds K fd ps []
theorem Df.kp {K : PySem.W.Frag} {mg : Str → Option Value} {x : Str} {st : Stmt} {ps : List Str} {f : Addr} {fd : FuncData} (d : Df K mg x st ps f fd) : PySem.W.keepIn K (.ref f) = true := d.F.kp
theorem same_new {H : Hp} {p : Addr} {o : HO} (h : H p = none) : Same H (upd H p o) := fun b u e => by
  rw [upd_ne (ne_of_none e h)]
  exact e
theorem Same.tup {K : PySem.W.Frag} {H H' : Hp} {a : Addr} {xs : List V} (e : Same H H') (h : SqT K H a xs) : SqT K H' a xs := by
  rcases h with (h | ⟨o, h⟩) | h
  · exact .inl (.inl (e _ _ h))
  · exact .inl (.inr ⟨o, e _ _ h⟩)
  · exact .inr h
/-- the bag of a law: the script's ints at l, how many are taken, what is left of a great one, the seed -/
def BagAt (b l : Addr) (H : Hp) : Prop := ∃ (ns : List Int) (i c s : Int), H b = some (.lst [.ref l, .int i, .int c, .int s]) ∧ H l = some (.lst (ns.map V.int)) ∧ ns.length ≤ 63 ∧ 0 ≤ i ∧ i ≤ (ns.length : Int) ∧ 0 ≤ c ∧ 0 ≤ s ∧ s < 2147483647
/-- G: all that is known apart from the bag at b, l -/
structure Wd (b l : Addr) (G H : Hp) : Prop where
  nb : G b = none
  nl : G l = none
  sm : Same G H
  bag : BagAt b l H
section
variable {b l p q : Addr} {G G' H H' : Hp} {o o' : HO}
theorem BagAt.b_some (h : BagAt b l H) : ∃ o, H b = some o := by
  obtain ⟨_, _, _, _, h, _⟩ := h
  exact ⟨_, h⟩
theorem BagAt.l_some (h : BagAt b l H) : ∃ o, H l = some o := by
  obtain ⟨_, _, _, _, _, h, _⟩ := h
  exact ⟨_, h⟩
theorem BagAt.same (h : BagAt b l H) (e : Same H H') : BagAt b l H' := by
  obtain ⟨ns, i, c, s, h1, h2, r⟩ := h
  exact ⟨ns, i, c, s, e _ _ h1, e _ _ h2, r⟩
theorem Wd.b_ne (w : Wd b l G H) (hp : H p = none) : p ≠ b := fun z => by
  obtain ⟨o, e⟩ := w.bag.b_some
  rw [← z, hp] at e
  cases e
theorem Wd.l_ne (w : Wd b l G H) (hp : H p = none) : p ≠ l := fun z => by
  obtain ⟨o, e⟩ := w.bag.l_some
  rw [← z, hp] at e
  cases e
theorem Wd.same (w : Wd b l G H) (e : Same H H') : Wd b l G H' := ⟨w.nb, w.nl, w.sm.trans e, w.bag.same e⟩
/-- a new object -/
theorem Wd.new (w : Wd b l G H) (hp : H p = none) : Wd b l (upd G p o) (upd H p o) := by
  refine ⟨?_, ?_, fun a u e => ?_, w.bag.same (same_new hp)⟩
  · rw [upd_ne (w.b_ne hp).symm]
    exact w.nb
  · rw [upd_ne (w.l_ne hp).symm]
    exact w.nl
  · by_cases h : a = p
    · rw [h, upd_same] at e ⊢
      exact e
    · rw [upd_ne h] at e ⊢
      exact w.sm _ _ e
theorem Wd.free (w : Wd b l G H) (hp : H p = none) : G p = none := w.sm.free hp
theorem Wd.sameG (w : Wd b l G H) (hp : H p = none) : Same G (upd G p o) := same_new (w.free hp)
/-- an object that is known changes -/
theorem Wd.mut (w : Wd b l G H) (hq : G q = some o) : Wd b l (upd G q o') (upd H q o') := by
  have nb : q ≠ b := fun z => by
    rw [z, w.nb] at hq
    cases hq
  have nl : q ≠ l := fun z => by
    rw [z, w.nl] at hq
    cases hq
  obtain ⟨ns, i, c, s, h1, h2, r⟩ := w.bag
  refine ⟨?_, ?_, fun a u e => ?_, ns, i, c, s, ?_, ?_, r⟩
  · rw [upd_ne nb.symm]
    exact w.nb
  · rw [upd_ne nl.symm]
    exact w.nl
  · by_cases h : a = q
    · rw [h, upd_same] at e ⊢
      exact e
    · rw [upd_ne h] at e ⊢
      exact w.sm _ _ e
  · rw [upd_ne nb.symm]
    exact h1
  · rw [upd_ne nl.symm]
    exact h2
/-- what a def leaves that knows nothing of the bag: G' has more, new things -/
theorem Wd.grow (w : Wd b l G H) (e : Same H H') (g : Same G' H') (n : ∀ a o, G' a = some o → G a = none → H a = none) : Wd b l G' H' := by
  have key : ∀ a, G a = none → (∃ o, H a = some o) → G' a = none := fun a ha ⟨o, ho⟩ => by
    cases q : G' a with
    | none => rfl
    | some u =>
      have z := n a u q ha
      rw [ho] at z
      cases z
  exact ⟨key _ w.nb w.bag.b_some, key _ w.nl w.bag.l_some, g, w.bag.same e⟩
/-- the bag alone changes -/
theorem Wd.bagged (w : Wd b l G H) (h : BagAt b l (upd H b o)) : Wd b l G (upd H b o) := by
  refine ⟨w.nb, w.nl, fun a u e => ?_, h⟩
  rw [upd_ne (ne_of_none e w.nb)]
  exact w.sm _ _ e
end
theorem p31 : (0 : Int) < 2147483647 := by decide
theorem p8117 : (0 : Int) < 8117 := by decide
/-! ### the promises of the bag's defs -/
def spBag (K : PySem.W.Frag) : Sp := fun vs H Q _ => ∃ (a : Addr) (ns : List Int), vs = [.ref a] ∧ SqL K H a (ns.map V.int) ∧ ns.length ≤ 63 ∧ ∀ (b l : Addr) (H' : Hp), H b = none → H l = none → Same H H' → BagAt b l H' → Q (.ref b) H'
def spDraw : Sp := fun vs H Q _ => ∃ (b l : Addr) (G : Hp) (n : Int), vs = [.ref b, .int n] ∧ 0 < n ∧ n < 1073741824 ∧ Wd b l G H ∧ ∀ (r : Int) (H' : Hp), 0 ≤ r → r < n → Wd b l G H' → Q (.int r) H'
/-- the same, by what any def that draws may lean on -/
theorem wd_start {b l : Addr} {H H' : Hp} (hb : H b = none) (hl : H l = none) (e : Same H H') (h : BagAt b l H') : Wd b l H H' := ⟨hb, hl, e, h⟩
theorem get_map {ns : List Int} {i : Nat} {v : V} (h : (ns.map V.int)[i]? = some v) : ∃ z, ns[i]? = some z ∧ v = .int z := by
  rw [List.getElem?_map] at h
  cases e : ns[i]? with
  | none =>
    rw [e] at h
    cases h
  | some z =>
    rw [e] at h
    exact ⟨z, rfl, (Option.some.inj h).symm⟩
theorem at_nn {α : Type} {xs : List α} {i : Int} {v : α} (h0 : 0 ≤ i) (h : xs[i.toNat]? = some v) : atI xs i = some v := by
  have e : i = ((i.toNat : Nat) : Int) := by omega
  rw [e]
  exact atI_nat h
theorem at_lt {α : Type} {xs : List α} {i : Int} (h0 : 0 ≤ i) (h1 : i < (xs.length : Int)) : ∃ v, atI xs i = some v ∧ v ∈ xs := by
  have h : i.toNat < xs.length := by omega
  exact ⟨xs[i.toNat], at_nn h0 (List.getElem?_eq_getElem h), List.getElem_mem h⟩
end Bh

set_option Elab.async false
set_option linter.all false
set_option maxRecDepth 100000
namespace Bh
open PySem PySem.Spec PyProof.Rows L2
/-! ### one of two rules -/
section
variable {X : Cx}
theorem pe_or {e : Expr} {t u : TE} (h1 : PE X e t) (h2 : PE X e u) : PE X e (fun σ H Q => t σ H Q ∨ u σ H Q) :=
  ⟨fun pins s σ H Q I h => h.elim (h1.run pins s σ H Q I) (h2.run pins s σ H Q I)⟩
theorem pi_or {tg it : Expr} {w v : TI} (h1 : PI X tg it w) (h2 : PI X tg it v) : PI X tg it (fun σ H R => w σ H R ∨ v σ H R) :=
  ⟨fun pins s σ H R I h => h.elim (h1.run pins s σ H R I) (h2.run pins s σ H R I)⟩
/-- a list or a tuple -/
theorem pi_seq {tg l : Expr} {tl : TE} (hl : PE X l tl) : PI X tg l (fun σ H R => iList X.K tl σ H R ∨ iTup X.K tl σ H R) := pi_or (pi_list hl) (pi_tup hl)
/-- f(k = v, ..) -/
theorem pe_callN0 {CX : CXT} {k : Nat} {f : Addr} {fd : FuncData} {ps ks : List Str} {sp : Sp} {E : XK} {x : Str} {p pos : Pos} {kws : List Keyword} {tk : TA} {g : List Value → List Value → List Value} {gV : List V → List V → List V}
    (F : FnOk X.prog X.w X.K X.mg X.base CX k f fd ps sp) (hr : Room k X.A) (hg : Gl X x) (hm : X.mg x = some (.ref f)) (hk : PySem.W.keepIn X.K (.ref f) = true) (hb : KBn X.K fd ps 0 ks g gV) (hx : Passes CX X E)
    (hkw : PK X kws tk) (hall : (backToKw pos (keywordEach kws X.env)).all (·.1.isSome) = true := by rfl) (hks : (backToKw pos (keywordEach kws X.env)).filterMap (·.1) = ks := by rfl)
    (hdb : (x == ("__debug__" : Str)) = false := by decide) (hpl : ((backTo pos (starEach [] X.env)).any (·.1) || (backToKw pos (keywordEach kws X.env)).any (·.1.isNone)) = false := by rfl) :
    PE X (.Call (.Name x p) [] kws pos) (tCallN 0 ks.length sp gV E tNil tk) := by
  refine ⟨fun pins s σ H Q I h => ?_⟩
  refine wpAny_Call_Name_kw (ld_glob I hg hm ?_ hdb)
  refine PySem.W.callWith_KW0 (h₀ := X.base) I.ok.mod.kin hk hall ?_ hpl
  refine thn (hkw.run pos pins s σ H _ I h) fun ws s2 ⟨zs, H2, I2, rz, l1, l2, q2⟩ => ⟨I2.kIn, ?_⟩
  rw [hks]
  exact run_fnN (us := []) (vs := []) F hr hb hx I2 .nil rz rfl l2 q2
end
/-! ### data of any depth -/
section
variable {K : PySem.W.Frag} {H H' : Hp} {v x y : V} {xs ys : List V} {d e : PyData} {ds es : List PyData} {a : Addr}
mutual
theorem Dp.mono (g : Same H H') : ∀ {v : V} {d : PyData}, Dp K H v d → Dp K H' v d
  | _, _, .non => .non
  | _, _, .bl b => .bl b
  | _, _, .int i => .int i
  | _, _, .str x => .str x
  | _, _, .lst h all => .lst (g.seq h) (DpAll.mono g all)
  | _, _, .tup h all => .tup (Same.tup g h) (DpAll.mono g all)
theorem DpAll.mono (g : Same H H') : ∀ {vs : List V} {ds : List PyData}, DpAll K H vs ds → DpAll K H' vs ds
  | _, _, .nil => .nil
  | _, _, .cons h t => .cons (Dp.mono g h) (DpAll.mono g t)
end
theorem DpAll.length : ∀ {xs : List V} {ds : List PyData}, DpAll K H xs ds → xs.length = ds.length
  | _, _, .nil => rfl
  | _, _, .cons _ t => congrArg Nat.succ (DpAll.length t)
theorem DpAll.get : ∀ {xs : List V} {ds : List PyData} {i : Nat} {x : V}, DpAll K H xs ds → xs[i]? = some x → ∃ d, ds[i]? = some d ∧ Dp K H x d
  | _, _, _, _, .nil, e => by simp at e
  | _, _, 0, _, .cons h _, e => by
    simp at e
    subst e
    exact ⟨_, rfl, h⟩
  | _, _, i + 1, x, .cons _ t, e => by
    obtain ⟨d, h1, h2⟩ := DpAll.get (i := i) (x := x) t (by simpa using e)
    exact ⟨d, by simpa using h1, h2⟩
theorem DpAll.getD : ∀ {xs : List V} {ds : List PyData} {i : Nat} {d : PyData}, DpAll K H xs ds → ds[i]? = some d → ∃ x, xs[i]? = some x ∧ Dp K H x d
  | _, _, _, _, .nil, e => by simp at e
  | _, _, 0, _, .cons h _, e => by
    simp at e
    subst e
    exact ⟨_, rfl, h⟩
  | _, _, i + 1, x, .cons _ t, e => by
    obtain ⟨d, h1, h2⟩ := DpAll.getD (i := i) (d := x) t (by simpa using e)
    exact ⟨d, by simpa using h1, h2⟩
theorem DpAll.append : ∀ {xs ys : List V} {ds es : List PyData}, DpAll K H xs ds → DpAll K H ys es → DpAll K H (xs ++ ys) (ds ++ es)
  | _, _, _, _, .nil, k => k
  | _, _, _, _, .cons h t, k => .cons h (DpAll.append t k)
theorem DpAll.take : ∀ {xs : List V} {ds : List PyData} (n : Nat), DpAll K H xs ds → DpAll K H (xs.take n) (ds.take n)
  | _, _, 0, _ => .nil
  | _, _, _ + 1, .nil => .nil
  | _, _, n + 1, .cons h t => .cons h (DpAll.take n t)
theorem DpAll.drop : ∀ {xs : List V} {ds : List PyData} (n : Nat), DpAll K H xs ds → DpAll K H (xs.drop n) (ds.drop n)
  | _, _, 0, h => h
  | _, _, _ + 1, .nil => .nil
  | _, _, n + 1, .cons _ t => DpAll.drop n t
theorem dp_strs : ∀ {xs : List V} {zs : List Str}, DpAll K H xs (zs.map PyData.str) → xs = zs.map V.str
  | _, [], .nil => rfl
  | _, z :: zs, .cons h t => by
    cases h
    rw [dp_strs t]
    rfl
theorem strs_dp : ∀ (zs : List Str), DpAll K H (zs.map V.str) (zs.map PyData.str)
  | [] => .nil
  | z :: zs => .cons (.str z) (strs_dp zs)
theorem dp_str {z : Str} (h : Dp K H v (.str z)) : v = .str z := by
  cases h
  rfl
theorem dp_non (h : Dp K H v .none) : v = .non := by
  cases h
  rfl
theorem dp_tup (h : Dp K H v (.tuple ds)) : ∃ a xs, v = .ref a ∧ SqT K H a xs ∧ DpAll K H xs ds := by
  cases h with
  | tup h1 h2 => exact ⟨_, _, rfl, h1, h2⟩
theorem dp_lst (h : Dp K H v (.list ds)) : ∃ a xs, v = .ref a ∧ SqL K H a xs ∧ DpAll K H xs ds := by
  cases h with
  | lst h1 h2 => exact ⟨_, _, rfl, h1, h2⟩
theorem dpa_cons (h : DpAll K H xs (d :: ds)) : ∃ x r, xs = x :: r ∧ Dp K H x d ∧ DpAll K H r ds := by
  cases h with
  | cons h1 h2 => exact ⟨_, _, rfl, h1, h2⟩
theorem dpa_nil (h : DpAll K H xs []) : xs = [] := by
  cases h
  rfl
/-- a list or a tuple of these -/
def DpS (K : PySem.W.Frag) (H : Hp) (v : V) (ds : List PyData) : Prop := ∃ a xs, v = .ref a ∧ (SqL K H a xs ∨ SqT K H a xs) ∧ DpAll K H xs ds
theorem DpS.mono (g : Same H H') (h : DpS K H v ds) : DpS K H' v ds := by
  obtain ⟨a, xs, e, h1, h2⟩ := h
  exact ⟨a, xs, e, h1.imp g.seq (Same.tup g), DpAll.mono g h2⟩
theorem DpS.ofT (h : Dp K H v (.tuple ds)) : DpS K H v ds := by
  obtain ⟨a, xs, e, h1, h2⟩ := dp_tup h
  exact ⟨a, xs, e, .inr h1, h2⟩
theorem DpS.ofL (h : Dp K H v (.list ds)) : DpS K H v ds := by
  obtain ⟨a, xs, e, h1, h2⟩ := dp_lst h
  exact ⟨a, xs, e, .inl h1, h2⟩
/-- how deep data are -/
inductive Sh : Nat → PyData → Prop
  | non {n : Nat} : Sh n .none
  | bl {n : Nat} {b : Bool} : Sh n (.bool b)
  | int {n : Nat} {i : Int} : Sh n (.int i)
  | str {n : Nat} {z : Str} : Sh n (.str z)
  | lst {n : Nat} {ds : List PyData} (hl : ds.length ≤ 100000) (h : ∀ d ∈ ds, Sh n d) : Sh (n + 1) (.list ds)
  | tup {n : Nat} {ds : List PyData} (hl : ds.length ≤ 100000) (h : ∀ d ∈ ds, Sh n d) : Sh (n + 1) (.tuple ds)
theorem tyL (h : SqL K H a xs) : TyX K H (.ref a) (.type "list") := by
  rcases h with (h | ⟨o, h⟩) | ⟨o, its, n, h1, h2, _⟩
  · exact .base (.lst h)
  · exact .base (.frz h)
  · exact .kList h1 h2
theorem tyT (h : SqT K H a xs) : TyX K H (.ref a) (.type "tuple") := by
  rcases h with (h | ⟨o, h⟩) | ⟨o, its, n, h1, h2, _⟩
  · exact .base (.tup h)
  · exact .fTuple h
  · exact .kTuple h1 h2
/-- the type of data, by its name -/
def tyN : PyData → String
  | .none => "NoneType"
  | .bool _ => "bool"
  | .int _ => "int"
  | .str _ => "str"
  | .list _ => "list"
  | .tuple _ => "tuple"
  | .dict _ => "dict"
theorem tyD (h : Dp K H v d) : TyX K H v (.type (tyN d)) := by
  cases h with
  | non => exact .base .non
  | bl b => exact .base (.bl b)
  | int i => exact .base (.int i)
  | str x => exact .base (.str x)
  | lst h1 h2 => exact tyL h1
  | tup h1 h2 => exact tyT h1
end
/-! ### zip of two tuples, as a walk -/
theorem walk_zipT {K : PySem.W.Frag} {a b : Addr} {xs ys : List V} {n : Nat} (hn : n = min xs.length ys.length) : Walk (RZ.ItzT K a b) n (fun H => SqT K H a xs ∧ SqT K H b ys) (YPair (fun i => xs[i]?) (fun i => ys[i]?)) := by
  subst hn
  refine ⟨fun i _ hi q => ?_, fun _ q => ⟨xs, ys, q.1, q.2, by omega⟩, fun i H v H' _ q y => ?_⟩
  · have h1 : i < xs.length := by omega
    have h2 : i < ys.length := by omega
    exact ⟨xs, ys, xs[i], ys[i], q.1, q.2, by simp [h1], by simp [h2]⟩
  · obtain ⟨T, x, z, h1, h2, h3, h4, h5⟩ := y
    exact ⟨T, x, z, h1, h2, h3, h4 xs q.1, h5 ys q.2⟩
end Bh
namespace Bh
open PySem PySem.Spec PyProof.Rows L2
theorem iteN {p A B : Prop} [Decidable p] (h : ¬ p) (b : B) : if decide p = true then A else B := by
  rw [decide_eq_false h]
  exact iteF b
theorem iteY {p A B : Prop} [Decidable p] (h : p) (a : A) : if decide p = true then A else B := by
  rw [decide_eq_true h]
  exact iteT a
theorem ite3 {p A B : Prop} [Decidable p] (h1 : p → A) (h2 : ¬ p → B) : if decide p = true then A else B := by
  by_cases h : p
  · exact iteY h (h1 h)
  · exact iteN h (h2 h)
/-- the promise of the laws' comparison: both sides are the same data (n: how deep, one more) -/
def spLk (K : PySem.W.Frag) : Nat → Sp
  | 0 => fun _ _ _ _ => False
  | n + 1 => fun vs H Q _ => ∃ (x y : V) (d : PyData), vs = [x, y] ∧ Dp K H x d ∧ Dp K H y d ∧ Sh n d ∧ ∀ H', Same H H' → Q (.bl true) H'
theorem bls_true (n : Nat) : (List.replicate n true).all id = true := by
  induction n with
  | zero => rfl
  | succ n ih => rw [List.replicate_succ, List.all_cons, ih]; rfl
end Bh

set_option Elab.async false
set_option linter.all false
set_option maxRecDepth 100000
namespace Bh
open PySem PySem.Spec PyProof.Rows L2
/-! ### the rules that lean on the written part, told over a named one -/
def rLenS (K : PySem.W.Frag) : List V → Hp → VK → Prop := fun xs H Q => ∃ p ys, xs = [.ref p] ∧ (SqL K H p ys ∨ SqT K H p ys) ∧ Q (.int ys.length) H
def rListOf (K : PySem.W.Frag) : List V → Hp → VK → Prop := fun xs H Q => ∃ p ys, xs = [.ref p] ∧ (SqL K H p ys ∨ SqT K H p ys) ∧ ∀ l, H l = none → Q (.ref l) (upd H l (.lst ys))
def rTupOf (K : PySem.W.Frag) : List V → Hp → VK → Prop := fun xs H Q => ∃ p ys, xs = [.ref p] ∧ ((SqL K H p ys ∧ ∀ l, H l = none → Q (.ref l) (upd H l (.tup ys))) ∨ (SqT K H p ys ∧ Q (.ref p) H))
def rTupIx (K : PySem.W.Frag) : V → List V → Hp → VK → Prop := fun x xs H Q => ∃ p, ∃ ys : List Str, ∃ z j, x = .ref p ∧ xs = [.str z] ∧ SqT K H p (ys.map V.str) ∧ ys[j]? = some z ∧ (∀ m, m < j → ys[m]? ≠ some z) ∧ Q (.int (j : Nat)) H
def rJoin (K : PySem.W.Frag) : V → List V → Hp → VK → Prop := fun x xs H Q => ∃ a p, ∃ ys : List Str, x = .str a ∧ xs = [.ref p] ∧ (SqL K H p (ys.map V.str) ∨ SqT K H p (ys.map V.str)) ∧ (ys.map (·.length)).sum + ys.length * a.length ≤ 16777216 ∧ Q (.str (Txt.join a ys)) H
def iSeq (K : PySem.W.Frag) (tl : TE) : TI := fun σ H R => iList K tl σ H R ∨ iTup K tl σ H R
section
variable {X : Cx} {K : PySem.W.Frag} (hK : X.K = K)
include hK
theorem pg_tup_K {es : List Expr} {k : Nat} {t : TGs} {n : Nat} {pos : Pos} (hc : X.calm = true) (h : PGs X es t) (hn : (assignEach es X.env).length = n := by rfl) (hst : (assignEach es X.env).findIdx? (·.1) = none := by rfl) : PG X (.Tuple es k pos) (gTup K n t) := by
  subst hK
  exact pg_tup hc h hn hst
theorem pi_list_K {tg l : Expr} {tl : TE} (hl : PE X l tl) : PI X tg l (iList K tl) := by subst hK; exact pi_list hl
theorem pi_tup_K {tg l : Expr} {tl : TE} (hl : PE X l tl) : PI X tg l (iTup K tl) := by subst hK; exact pi_tup hl
theorem pi_seq_K {tg l : Expr} {tl : TE} (hl : PE X l tl) : PI X tg l (iSeq K tl) := by subst hK; exact pi_seq hl
theorem pi_zipA_K {e e2 : Expr} {ta : TA} {p pos tpos : Pos} {elts : List Expr} {kk : Nat} (hg : Gl X "zip") (hm : X.mg "zip" = none) (ha : PA X [e, e2] ta)
    (hs : starEach [e, e2] X.env = (false, eval e X.env) :: starEach [e2] X.env := by rfl) (hpl : (backTo pos (starEach [e2] X.env)).any (·.1) = false := by rfl) :
    PI X (.Tuple elts kk tpos) (.Call (.Name "zip" p) [e, e2] [] pos) (RZ.iZipA K ta) := by subst hK; exact RZ.pi_zipA hg hm ha hs hpl
theorem call_len_seq_K : CallR X (.builtin "len") (rLenS K) := by subst hK; exact call_len_seq
theorem call_list_of_K : CallR X (.type "list") (rListOf K) := by subst hK; exact call_list_of
theorem call_tuple_of_K : CallR X (.type "tuple") (rTupOf K) := by subst hK; exact call_tuple_of
theorem ix_list_K : IxR X (rIxL K) := by subst hK; exact ix_list
theorem ix_tup_K : IxR X (rIxT K) := by subst hK; exact ix_tup
theorem ix_seq_K : IxR X (rIx K) := by subst hK; exact ix_seq
theorem sl_list_K : SlR X (rSlL K) := by subst hK; exact sl_list
theorem sl_tupA_K : SlR X (rSlA K) := by subst hK; exact sl_tupA
theorem cr_all_K (hc : X.calm = true) : CallR X (.builtin "all") (rAll K) := by subst hK; exact cr_all hc
theorem cr_any_K (hc : X.calm = true) : CallR X (.builtin "any") (rAny K) := by subst hK; exact cr_any hc
theorem op_in_seq_K : OpR X (compareOp .In) (rIn K false) := by subst hK; exact op_in_seq
theorem op_notIn_seq_K : OpR X (compareOp .NotIn) (rIn K true) := by subst hK; exact op_notIn_seq
theorem op_catA_K : OpR X (binaryOp .Add) (rCatA K) := by subst hK; exact op_catA
theorem op_repT_K : OpR X (binaryOp .Mult) (rRepT K) := by subst hK; exact op_repT
theorem mt_index_K : MtR X "list.index" (rIndex K) := by subst hK; exact mt_index
theorem mt_tup_index_K : MtR X "tuple.index" (rTupIx K) := by subst hK; exact mt_tup_index
theorem mt_join_K : MtR X "str.join" (rJoin K) := by subst hK; exact mt_join
theorem call_isi_K : CallR X (.builtin "isinstance") (rIsi K) := by subst hK; exact call_isi
theorem call_isiT_K : CallR X (.builtin "isinstance") (rIsiT K) := by subst hK; exact call_isiT
theorem op_eqD_K (hu : X.A.units + 64 < cLine) : OpR X (compareOp .Eq) (rEqD K) := by subst hK; exact op_eqD hu
theorem op_neD_K (hu : X.A.units + 64 < cLine) : OpR X (compareOp .NotEq) (rNeD K) := by subst hK; exact op_neD hu
theorem pe_bm_K {o e : Expr} {es : List Expr} {to : TE} {t : TA} {name : Str} {apos cpos : Pos} {T id : String} {r : V → List V → Hp → VK → Prop}
    (pa : PlainAttrs T) (slot : Slot T name id) (hty : typeOf (.builtin id) = pure (.type "method_descriptor")) (hm : MtR X id r) (ho : PE X o to) (ha : PA X (e :: es) t)
    (hbase : attributeBase o name X.env (eval o X.env) = eval o X.env := by rfl)
    (hfew : ((backTo cpos (starEach (e :: es) X.env)).all (fun x => !x.1) && (backToKw cpos (keywordEach [] X.env)).all (fun x => x.1.isSome)
      && decide ((e :: es).length + ([] : List Keyword).length + (if ([] : List Keyword).isEmpty then 0 else 1) < 30)) = true := by rfl)
    (hline : (apos.endLine == cpos.line) = true := by rfl) (hs : starEach (e :: es) X.env = (false, eval e X.env) :: starEach es X.env := by rfl) (hplain : (backTo cpos (starEach es X.env)).any (·.1) = false := by rfl) :
    PE X (.Call (.Attribute o name apos) (e :: es) [] cpos) (tBM K T r to t) := by subst hK; exact pe_bm pa slot hty hm ho ha hbase hfew hline hs hplain
end
section
variable {X : Cx} {K : PySem.W.Frag} {o e : Expr} {to te : TE}
theorem pe_join_K (hK : X.K = K) {apos pos : Pos} (ho : PE X o to) (he : PE X e te) (hs : starEach [e] X.env = [(false, eval e X.env)] := by rfl) (hbase : attributeBase o "join" X.env (eval o X.env) = eval o X.env := by rfl) (hline : (apos.endLine == pos.line) = true := by rfl) :
    PE X (.Call (.Attribute o "join" apos) [e] [] pos) (tM1 (rJoin K) to te) := pe_m1 PySem.F.slot_str_join PySem.F.type_str_join (mt_join_K hK) ho he hs hbase hline
end
end Bh
namespace Bh
open PySem PySem.Spec PyProof.Rows L2
theorem q_eq {x : V} {Q : VK} {H : Hp} (h : Q (.bl true) H) : Q (.bl (decide (x = x))) H := by
  rw [decide_eq_true rfl]
  exact h
theorem dpa_at {K : PySem.W.Frag} {H : Hp} {xs ys : List V} {ds : List PyData} {i : Nat} {x y : V} (hx : DpAll K H xs ds) (hy : DpAll K H ys ds) (ex : xs[i]? = some x) (ey : ys[i]? = some y) : ∃ d ∈ ds, Dp K H x d ∧ Dp K H y d := by
  obtain ⟨d, h1, h2⟩ := DpAll.get hx ex
  obtain ⟨e, h3, h4⟩ := DpAll.get hy ey
  rw [h1] at h3
  cases h3
  exact ⟨d, List.mem_of_getElem? h1, h2, h4⟩
theorem rep_snoc (n : Nat) (v : V) : List.replicate n v ++ [v] = List.replicate (n + 1) v := List.replicate_succ'.symm
theorem lt_line {n : Nat} (h : n ≤ 100000) : n < sizeLine := Nat.lt_of_le_of_lt h (by decide)
theorem le_line {n : Nat} (h : n ≤ 100000) : n ≤ sizeLine := Nat.le_of_lt (lt_line h)
end Bh
namespace Bh
open PySem PySem.Spec PyProof.Rows L2
/-! ### tuples without a dict of their own: their methods -/
def SqP (K : PySem.W.Frag) (H : Hp) (a : Addr) (xs : List V) : Prop := (∃ o : Obj, H a = some (.frz o (.tup xs)) ∧ o.dict = none) ∨
  ∃ (o : Obj) (its : Array Value) (n : Nat), K.lookup a = some o ∧ o.cls = .type "tuple" ∧ o.dict = none ∧ o.data = .seq its n ∧ its.size ≤ sizeLine ∧ Vals xs its.toList
section
variable {K : PySem.W.Frag} {H H' : Hp} {a : Addr} {xs : List V}
theorem SqP.sqT (h : SqP K H a xs) : SqT K H a xs := by
  rcases h with ⟨o, h, _⟩ | ⟨o, its, n, h1, h2, _, h3, h4, h5⟩
  · exact .inl (.inr ⟨o, h⟩)
  · exact .inr ⟨o, its, n, h1, h2, h3, h4, h5⟩
theorem SqP.mono (e : Same H H') (h : SqP K H a xs) : SqP K H' a xs := by
  rcases h with ⟨o, h, h2⟩ | h
  · exact .inl ⟨o, e _ _ h, h2⟩
  · exact .inr h
theorem SqP.new {o : Obj} (h : o.dict = none) : SqP K (upd H a (.frz o (.tup xs))) a xs := .inl ⟨o, upd_same, h⟩
end
def rTupOfP (K : PySem.W.Frag) : List V → Hp → VK → Prop := fun xs H Q => ∃ p ys, xs = [.ref p] ∧ ((SqL K H p ys ∧ ∀ (l : Addr) (o : Obj), H l = none → o.dict = none → Q (.ref l) (upd H l (.frz o (.tup ys)))) ∨ (SqT K H p ys ∧ Q (.ref p) H))
section
variable {X : Cx} {K : PySem.W.Frag}
theorem call_tuple_of_P (hK : X.K = K) : CallR X (.type "tuple") (rTupOfP K) := by
  subst hK
  intro pins s σ H xs us Q I r h
  obtain ⟨p, ys, rfl, h⟩ := h
  obtain ⟨u, rfl, rx⟩ := vals1 r
  cases rx
  rcases h with ⟨hq, q⟩ | ⟨hq, q⟩
  · obtain ⟨its, r', pl, hz⟩ := I.list hq
    have hlen := r'.length
    refine call_tuple_list pl.isList (fun h' kp => ?_) (by simp only [List.size_toArray] <;> omega)
    have I1 : Inv X pins σ H { s with heap := h' } := I.kept (t' := s.toks) kp
    have I2 : Inv X pins σ (upd H h'.objs.size (.frz { cls := .type "tuple", data := .seq its.toArray } (.tup ys))) { s with heap := h'.push { cls := .type "tuple", data := .seq its.toArray } } :=
      I1.laid (t' := s.toks) (fun b o e => Heap.get?_push_of_some _ e) (Nat.le_refl _) (show ObjOk X.prog X.w _ _ _ (.frz { cls := .type "tuple", data := .seq its.toArray } (.tup ys)) from ⟨Heap.get?_push_size _ rfl, hz, its, r', IsTup.new _ _⟩)
    exact ⟨.ref h'.objs.size, _, I2, rfl, q _ _ (I1.hok.fresh (Nat.le_refl _)) rfl⟩
  · obtain ⟨its, r', pl, hz⟩ := I.tuple hq
    exact call_tuple_same pl ⟨.ref p, H, I, rfl, q⟩
def tBMP (K : PySem.W.Frag) (r : V → List V → Hp → VK → Prop) (to : TE) (t : TA) : TE := fun σ H Q => to σ H fun x H1 => (∃ a xs, x = .ref a ∧ SqP K H1 a xs) ∧ t σ H1 fun xs H2 => r x xs H2 Q
theorem pe_bm_P (hK : X.K = K) {o e : Expr} {es : List Expr} {to : TE} {t : TA} {name : Str} {apos cpos : Pos} {id : String} {r : V → List V → Hp → VK → Prop}
    (pa : PlainAttrs "tuple") (slot : Slot "tuple" name id) (hty : typeOf (.builtin id) = pure (.type "method_descriptor")) (hm : MtR X id r) (ho : PE X o to) (ha : PA X (e :: es) t)
    (hbase : attributeBase o name X.env (eval o X.env) = eval o X.env := by rfl)
    (hfew : ((backTo cpos (starEach (e :: es) X.env)).all (fun x => !x.1) && (backToKw cpos (keywordEach [] X.env)).all (fun x => x.1.isSome)
      && decide ((e :: es).length + ([] : List Keyword).length + (if ([] : List Keyword).isEmpty then 0 else 1) < 30)) = true := by rfl)
    (hline : (apos.endLine == cpos.line) = true := by rfl) (hs : starEach (e :: es) X.env = (false, eval e X.env) :: starEach es X.env := by rfl) (hplain : (backTo cpos (starEach es X.env)).any (·.1) = false := by rfl) :
    PE X (.Call (.Attribute o name apos) (e :: es) [] cpos) (tBMP K r to t) := by
  subst hK
  refine ⟨fun pins s σ H Q I h => ?_⟩
  refine wpAny_Call_method_late hbase hfew hline rfl (thn (ho.run pins s σ H _ I h) fun v s1 ⟨x, H1, I1, r1, ty, q1⟩ => ?_)
  have hty2 : s1.TypeIs v "tuple" ∧ ∀ a, v = .ref a → ∃ ob, s1.heap.get? a = some ob ∧ ob.dict = none := by
    obtain ⟨a, xs, rfl, hP⟩ := ty
    cases r1
    obtain ⟨its, _, pl, _⟩ := I1.tuple hP.sqT
    refine ⟨pl.typeIs, fun b e => ?_⟩
    cases e
    rcases hP with ⟨ob, hb, hd⟩ | ⟨ob, its, n, hk, hc, hd, _⟩
    · exact ⟨ob, (I1.hok a _ hb).1, hd⟩
    · exact ⟨ob, I1.kIn a ob hk, hd⟩
  obtain ⟨h1, h2⟩ := hty2
  refine ⟨"tuple", id, pa, slot, hty, h1, h2, ?_⟩
  have hA := ha.run cpos pins s1 σ H1 _ I1 q1
  rw [hs] at hA ⊢
  refine Calls.callWith_builtin (by show (false || (backTo cpos (starEach es X.env)).any (·.1)) = false; rw [hplain] <;> rfl) (Calls.evalArgs_plain ?_)
  exact thn hA fun us s2 ⟨vs, H2, I2, r2, q2⟩ => hm pins s2 σ H2 x vs v us Q I2 r1 r2 q2
end
end Bh
namespace Bh
open PySem PySem.Spec PyProof.Rows L2
/-! ### == and != of data of any texts -/
mutual
theorem Dp.plain {K : PySem.W.Frag} {H : Hp} : ∀ {v : V} {d : PyData}, Dp K H v d → d.plain = true
  | _, _, .non => rfl
  | _, _, .bl _ => rfl
  | _, _, .int _ => rfl
  | _, _, .str _ => rfl
  | _, _, .lst _ all => DpAll.plain all
  | _, _, .tup _ all => DpAll.plain all
theorem DpAll.plain {K : PySem.W.Frag} {H : Hp} : ∀ {vs : List V} {ds : List PyData}, DpAll K H vs ds → PyData.plainAll ds = true
  | _, _, .nil => rfl
  | _, _, .cons h t => by
    show (_ && _) = true
    rw [Dp.plain h, DpAll.plain t]
    rfl
end
def rEqP (K : PySem.W.Frag) : R2 := fun x y H Q => ∃ d e, Dp K H x d ∧ Dp K H y e ∧ min d.depth e.depth ≤ 64 ∧ Q (.bl (PyData.eqv d e)) H
def rNeP (K : PySem.W.Frag) : R2 := fun x y H Q => ∃ d e, Dp K H x d ∧ Dp K H y e ∧ min d.depth e.depth ≤ 64 ∧ Q (.bl (!PyData.eqv d e)) H
section
variable {X : Cx} {K : PySem.W.Frag}
theorem op_eqP (hK : X.K = K) (hu : X.A.units + 64 < cLine) : OpR X (compareOp .Eq) (rEqP K) := by
  subst hK
  intro pins s σ H x y v u Q I rx ry h
  obtain ⟨d, e, hd, he, hz, q⟩ := h
  obtain ⟨as, r1⟩ := Dp.reads I d x v hd rx
  obtain ⟨bs, r2⟩ := Dp.reads I e y u he ry
  exact SeqAt.eq_plain r1 r2 (Dp.plain hd) (Dp.plain he) (by omega) ⟨.bl _, H, I, rfl, q⟩
theorem op_neP (hK : X.K = K) (hu : X.A.units + 64 < cLine) : OpR X (compareOp .NotEq) (rNeP K) := by
  subst hK
  intro pins s σ H x y v u Q I rx ry h
  obtain ⟨d, e, hd, he, hz, q⟩ := h
  obtain ⟨as, r1⟩ := Dp.reads I d x v hd rx
  obtain ⟨bs, r2⟩ := Dp.reads I e y u he ry
  exact SeqAt.ne_plain r1 r2 (Dp.plain hd) (Dp.plain he) (by omega) ⟨.bl _, H, I, rfl, q⟩
end
theorem depth_all {n : Nat} : ∀ {ds : List PyData}, (∀ d ∈ ds, d.depth ≤ n) → PyData.depthAll ds ≤ n
  | [], _ => Nat.zero_le _
  | d :: ds, h => Nat.max_le.mpr ⟨h d (List.mem_cons_self ..), depth_all fun e he => h e (List.mem_cons_of_mem _ he)⟩
theorem Sh.depth {n : Nat} {d : PyData} (h : Sh n d) : d.depth ≤ n := by
  induction h with
  | non => exact Nat.zero_le _
  | bl => exact Nat.zero_le _
  | int => exact Nat.zero_le _
  | str => exact Nat.zero_le _
  | lst _ _ ih => exact Nat.succ_le_succ (depth_all ih)
  | tup _ _ ih => exact Nat.succ_le_succ (depth_all ih)
end Bh
namespace Bh
open PySem PySem.Spec PyProof.Rows L2
theorem seq_mono {K : PySem.W.Frag} {H H' : Hp} {a : Addr} {xs : List V} (e : Same H H') (h : SqL K H a xs ∨ SqT K H a xs) : SqL K H' a xs ∨ SqT K H' a xs := h.imp e.seq (Same.tup e)
/-- a new thing, changed since -/
theorem same_mut {H H' : Hp} {p : Addr} {o : HO} (e : Same H H') (h : H p = none) : Same H (upd H' p o) := fun b u k => by
  rw [upd_ne (ne_of_none k h)]
  exact e _ _ k
theorem Wd.sameH {b l : Addr} {G H : Hp} (w : Wd b l G H) : Same G H := w.sm
end Bh
namespace Bh
open PySem PySem.Spec PyProof.Rows L2
/-! ### a heap without one address -/
def hid (p : Addr) (G : Hp) : Hp := fun a => if a = p then none else G a
section
variable {p q : Addr} {G G' : Hp} {o : HO}
theorem hid_ne (h : q ≠ p) : hid p G q = G q := if_neg h
theorem hid_le : Same (hid p G) G := fun a u e => by
  by_cases h : a = p
  · rw [h] at e
    unfold hid at e
    rw [if_pos rfl] at e
    cases e
  · rw [hid_ne h] at e
    exact e
theorem hid_same (e : Same G G') : Same (hid p G) (hid p G') := fun a u k => by
  by_cases h : a = p
  · rw [h] at k
    unfold hid at k
    rw [if_pos rfl] at k
    cases k
  · rw [hid_ne h] at k ⊢
    exact e _ _ k
theorem hid_upd : hid p (upd G p o) = hid p G := by
  funext a
  by_cases h : a = p
  · unfold hid
    rw [if_pos h, if_pos h]
  · rw [hid_ne h, hid_ne h, upd_ne h]
theorem hid_of (e : Same G G') (h : G p = none) : Same G (hid p G') := fun a u k => by
  rw [hid_ne (ne_of_none k h)]
  exact e _ _ k
theorem hid_comm : hid p (hid q G) = hid q (hid p G) := by
  funext a
  unfold hid
  split <;> split <;> rfl
end
end Bh
namespace Bh
open PySem PySem.Spec PyProof.Rows L2
/-! ### what is no list stays where lists alone change -/
def Imm (H H' : Hp) : Prop := ∀ a u, H a = some u → (∀ xs, u ≠ .lst xs) → H' a = some u
section
variable {H H' H1 : Hp} {a p : Addr} {o : HO} {xs ys : List V} {K : PySem.W.Frag}
theorem Same.imm (e : Same H H') : Imm H H' := fun a u h _ => e a u h
theorem Imm.trans (e : Imm H H1) (f : Imm H1 H') : Imm H H' := fun a u h n => f a u (e a u h n) n
theorem imm_upd (h : H p = some (.lst ys)) : Imm H (upd H p o) := fun a u e n => by
  rw [upd_ne (fun z => by rw [z, h] at e; exact n _ (Option.some.inj e).symm)]
  exact e
theorem Imm.tup (e : Imm H H') (h : SqT K H a xs) : SqT K H' a xs := by
  rcases h with (h | ⟨o, h⟩) | h
  · exact .inl (.inl (e _ _ h (fun _ z => by cases z)))
  · exact .inl (.inr ⟨o, e _ _ h (fun _ z => by cases z)⟩)
  · exact .inr h
theorem Imm.sqp (e : Imm H H') (h : SqP K H a xs) : SqP K H' a xs := by
  rcases h with ⟨o, h, d⟩ | h
  · exact .inl ⟨o, e _ _ h (fun _ z => by cases z), d⟩
  · exact .inr h
end
mutual
def noL : PyData → Bool
  | .none | .bool _ | .int _ | .str _ => true
  | .tuple xs => noLs xs
  | .list _ | .dict _ => false
def noLs : List PyData → Bool
  | [] => true
  | d :: ds => noL d && noLs ds
end
mutual
theorem Dp.imm {K : PySem.W.Frag} {H H' : Hp} (e : Imm H H') : ∀ {v : V} {d : PyData}, noL d = true → Dp K H v d → Dp K H' v d
  | _, _, _, .non => .non
  | _, _, _, .bl b => .bl b
  | _, _, _, .int i => .int i
  | _, _, _, .str x => .str x
  | _, _, n, .lst _ _ => nomatch n
  | _, _, n, .tup h all => .tup (e.tup h) (DpAll.imm e n all)
theorem DpAll.imm {K : PySem.W.Frag} {H H' : Hp} (e : Imm H H') : ∀ {vs : List V} {ds : List PyData}, noLs ds = true → DpAll K H vs ds → DpAll K H' vs ds
  | _, _, _, .nil => .nil
  | _, _, n, .cons h t => .cons (Dp.imm e (Bool.and_eq_true_iff.mp n).1 h) (DpAll.imm e (Bool.and_eq_true_iff.mp n).2 t)
end
theorem noLs_map {α : Type} {f : α → PyData} (h : ∀ x, noL (f x) = true) : ∀ l : List α, noLs (l.map f) = true
  | [] => rfl
  | x :: l => by
    show (noL (f x) && noLs (l.map f)) = true
    rw [h x, noLs_map h l]
    rfl
end Bh

set_option Elab.async false
set_option linter.all false
set_option maxRecDepth 100000
namespace Bh
open PySem PySem.Spec PyProof.Rows L2
/-! ### the mirror of programs applied -/
def ix : List Str → Str → Nat
  | [], _ => 0
  | y :: r, x => if y = x then 0 else ix r x + 1
theorem ix_get : ∀ {l : List Str} {x : Str}, x ∈ l → l[ix l x]? = some x
  | y :: r, x, h => by
    unfold ix
    by_cases e : y = x
    · rw [if_pos e, e]
      rfl
    · rw [if_neg e]
      rcases List.mem_cons.mp h with z | z
      · exact absurd z.symm e
      · simpa using ix_get z
theorem ix_first : ∀ {l : List Str} {x : Str} {m : Nat}, m < ix l x → l[m]? ≠ some x
  | [], _, _, h => absurd h (Nat.not_lt_zero _)
  | y :: r, x, m, h => by
    unfold ix at h
    by_cases e : y = x
    · rw [if_pos e] at h
      exact absurd h (Nat.not_lt_zero _)
    · rw [if_neg e] at h
      cases m with
      | zero =>
        intro z
        exact e (Option.some.inj z)
      | succ m =>
        have q := ix_first (l := r) (x := x) (m := m) (by omega)
        simpa using q
theorem ix_lt {l : List Str} {x : Str} (h : x ∈ l) : ix l x < l.length := (List.getElem?_eq_some_iff.mp (ix_get h)).1
/-- the place of an item of different ones -/
theorem ix_at : ∀ {l : List Str} {i : Nat} {x : Str}, l.Nodup → l[i]? = some x → ix l x = i
  | [], _, _, _, h => by simp at h
  | y :: r, 0, x, _, h => by
    have e : y = x := Option.some.inj h
    unfold ix
    rw [if_pos e]
  | y :: r, i + 1, x, nd, h => by
    have hr : r[i]? = some x := by simpa using h
    have hm : x ∈ r := List.mem_of_getElem? hr
    have nd' := List.nodup_cons.mp nd
    have ne : ¬ y = x := fun z => nd'.1 (z ▸ hm)
    unfold ix
    rw [if_neg ne, ix_at nd'.2 hr]
theorem flat_strs (l : List Str) : (l.map V.str).all flatV = true := by
  rw [List.all_map]
  exact List.all_eq_true.mpr fun _ _ => rfl
theorem eqV_str {a b : Str} : eqV (.str a) (.str b) = decide (a = b) := rfl
theorem ixs_at {l : List Str} {x : Str} (h : x ∈ l) : (l.map V.str)[ix l x]? = some (.str x) := by
  rw [List.getElem?_map, ix_get h]
  rfl
theorem ixs_no {l : List Str} {x : Str} : ∀ (m : Nat) (z : V), m < ix l x → (l.map V.str)[m]? = some z → eqV z (.str x) = false := fun m z hm hz => by
  rw [List.getElem?_map] at hz
  cases e : l[m]? with
  | none =>
    rw [e] at hz
    cases hz
  | some y =>
    rw [e] at hz
    cases hz
    rw [eqV_str]
    refine decide_eq_false fun q => ix_first hm ?_
    rw [e, q]
abbrev Fld := Str × List Str
abbrev Tst := Str × Str × Str
abbrev Stp := Str × Str
abbrev Cas := List Tst × Option (List Stp)
def posOf (fs : List Fld) (x : Str) : Nat := ix (fs.map (·.1)) x
def optsOf (fs : List Fld) (x : Str) : List Str := ((fs[posOf fs x]?).map (·.2)).getD []
def nextO (os : List Str) (o : Str) : Str := os.getD (min (ix os o + 1) (os.length - 1)) o
def holdsT (fs : List Fld) (v : List Str) (t : Tst) : Bool :=
  if t.2.1 = "=" then decide (ix (optsOf fs t.1) (v.getD (posOf fs t.1) Str.empty) = ix (optsOf fs t.1) t.2.2)
  else if t.2.1 = "!" then !decide (ix (optsOf fs t.1) (v.getD (posOf fs t.1) Str.empty) = ix (optsOf fs t.1) t.2.2)
  else if t.2.1 = "<" then decide (ix (optsOf fs t.1) (v.getD (posOf fs t.1) Str.empty) < ix (optsOf fs t.1) t.2.2)
  else decide (ix (optsOf fs t.1) t.2.2 < ix (optsOf fs t.1) (v.getD (posOf fs t.1) Str.empty))
def stepO (fs : List Fld) (v : List Str) (s : Stp) : List Str :=
  v.set (posOf fs s.1) (if s.2 = "+" then nextO (optsOf fs s.1) (v.getD (posOf fs s.1) Str.empty) else s.2)
def stepped (fs : List Fld) (ss : List Stp) (v : List Str) : List Str := ss.foldl (stepO fs) v
def applyP (fs : List Fld) : List Cas → List Str → Option (List Str)
  | [], _ => none
  | c :: r, v => if c.1.all (holdsT fs v) = true then c.2.map (fun ss => stepped fs ss v) else applyP fs r v
def applyH (fs : List Fld) (p : List Cas) : Option (List Str) → Option (List Str)
  | none => none
  | some v => applyP fs p v
/-! what fits -/
def FitV (fs : List Fld) (v : List Str) : Prop := v.length = fs.length ∧ ∀ (i : Nat) (f : Fld) (o : Str), fs[i]? = some f → v[i]? = some o → o ∈ f.2
def FitT (fs : List Fld) (t : Tst) : Prop := t.1 ∈ fs.map (·.1) ∧ t.2.2 ∈ optsOf fs t.1
def FitS (fs : List Fld) (s : Stp) : Prop := s.1 ∈ fs.map (·.1) ∧ (s.2 ≠ "+" → s.2 ∈ optsOf fs s.1)
structure FitC (fs : List Fld) (c : Cas) : Prop where
  t : ∀ t ∈ c.1, FitT fs t
  s : ∀ ss, c.2 = some ss → ∀ s ∈ ss, FitS fs s
  lt : c.1.length ≤ 1000
  ls : ∀ ss, c.2 = some ss → ss.length ≤ 1000
theorem pos_at {fs : List Fld} {x : Str} (h : x ∈ fs.map (·.1)) : ∃ f, fs[posOf fs x]? = some f ∧ f.1 = x ∧ f.2 = optsOf fs x := by
  have q := ix_get h
  rw [List.getElem?_map] at q
  unfold optsOf
  show ∃ f, fs[posOf fs x]? = some f ∧ _
  have q' : (fs[posOf fs x]?).map (·.1) = some x := q
  cases e : fs[posOf fs x]? with
  | none =>
    rw [e] at q'
    cases q'
  | some f =>
    rw [e] at q'
    exact ⟨f, rfl, Option.some.inj q', rfl⟩
theorem fit_at {fs : List Fld} {v : List Str} {x : Str} (hv : FitV fs v) (h : x ∈ fs.map (·.1)) : ∃ o, v[posOf fs x]? = some o ∧ o ∈ optsOf fs x ∧ v.getD (posOf fs x) Str.empty = o := by
  obtain ⟨f, h1, h2, h3⟩ := pos_at h
  have hl : posOf fs x < v.length := by
    rw [hv.1]
    exact (List.getElem?_eq_some_iff.mp h1).1
  refine ⟨v[posOf fs x], List.getElem?_eq_getElem hl, ?_, ?_⟩
  · rw [← h3]
    exact hv.2 _ _ _ h1 (List.getElem?_eq_getElem hl)
  · rw [List.getD_eq_getElem?_getD, List.getElem?_eq_getElem hl]
    rfl
theorem next_mem {os : List Str} {o : Str} (h : o ∈ os) : os[min (ix os o + 1) (os.length - 1)]? = some (nextO os o) ∧ nextO os o ∈ os := by
  have hl := ix_lt h
  have hm : min (ix os o + 1) (os.length - 1) < os.length := by omega
  have e : os[min (ix os o + 1) (os.length - 1)]? = some (nextO os o) := by
    unfold nextO
    rw [List.getD_eq_getElem?_getD, List.getElem?_eq_getElem hm]
    rfl
  exact ⟨e, List.mem_of_getElem? e⟩
theorem step_fit {fs : List Fld} {v : List Str} {s : Stp} (hv : FitV fs v) (hs : FitS fs s) : FitV fs (stepO fs v s) := by
  refine ⟨by unfold stepO; rw [List.length_set]; exact hv.1, fun i f o hf ho => ?_⟩
  unfold stepO at ho
  obtain ⟨f', h1, h2, h3⟩ := pos_at hs.1
  obtain ⟨o', g1, g2, g3⟩ := fit_at hv hs.1
  rw [List.getElem?_set] at ho
  by_cases e : posOf fs s.1 = i
  · rw [if_pos e] at ho
    have hl : i < v.length := by
      rw [hv.1]
      exact (List.getElem?_eq_some_iff.mp hf).1
    rw [if_pos (e ▸ hl)] at ho
    have ho' := Option.some.inj ho
    rw [e, hf] at h1
    cases h1
    rw [← ho', h3]
    by_cases z : s.2 = "+"
    · rw [if_pos z, g3]
      exact (next_mem g2).2
    · rw [if_neg z]
      exact hs.2 z
  · rw [if_neg e] at ho
    exact hv.2 i f o hf ho
theorem stepped_fit {fs : List Fld} : ∀ {ss : List Stp} {v : List Str}, (∀ s ∈ ss, FitS fs s) → FitV fs v → FitV fs (stepped fs ss v)
  | [], _, _, hv => hv
  | s :: ss, v, h, hv => stepped_fit (ss := ss) (v := stepO fs v s) (fun s' hs' => h s' (List.mem_cons_of_mem _ hs')) (step_fit hv (h s (List.mem_cons_self ..)))
theorem stepped_take {fs : List Fld} {ss : List Stp} {v : List Str} {i : Nat} {s : Stp} (h : ss[i]? = some s) : stepped fs (ss.take (i + 1)) v = stepO fs (stepped fs (ss.take i) v) s := by
  unfold stepped
  rw [List.take_add_one, h, List.foldl_append]
  rfl
/-! as data -/
def dF (f : Fld) : PyData := .tuple [.str f.1, .tuple (f.2.map PyData.str)]
def dT (t : Tst) : PyData := .tuple [.str t.1, .str t.2.1, .str t.2.2]
def dS (s : Stp) : PyData := .tuple [.str s.1, .str s.2]
def dO : Option (List Stp) → PyData
  | none => .none
  | some ss => .tuple (ss.map dS)
def dC (c : Cas) : PyData := .tuple [.tuple (c.1.map dT), dO c.2]
def dV (v : List Str) : PyData := .tuple (v.map PyData.str)
def dH : Option (List Str) → PyData
  | none => .none
  | some v => dV v
section
variable {K : PySem.W.Frag} {H : Hp} {v : V}
theorem dp_dF {f : Fld} (h : Dp K H v (dF f)) : ∃ a o, v = .ref a ∧ SqT K H a [.str f.1, .ref o] ∧ SqT K H o (f.2.map V.str) := by
  obtain ⟨a, xs, rfl, h1, h2⟩ := dp_tup h
  obtain ⟨x, r, rfl, k1, k2⟩ := dpa_cons h2
  obtain ⟨y, r', rfl, k3, k4⟩ := dpa_cons k2
  cases dpa_nil k4
  cases dp_str k1
  obtain ⟨o, ys, rfl, m1, m2⟩ := dp_tup k3
  rw [dp_strs m2] at m1
  exact ⟨a, o, rfl, h1, m1⟩
theorem dp_dT {t : Tst} (h : Dp K H v (dT t)) : ∃ a, v = .ref a ∧ SqT K H a [.str t.1, .str t.2.1, .str t.2.2] := by
  obtain ⟨a, xs, rfl, h1, h2⟩ := dp_tup h
  obtain ⟨x, r, rfl, k1, k2⟩ := dpa_cons h2
  obtain ⟨y, r', rfl, k3, k4⟩ := dpa_cons k2
  obtain ⟨z, r'', rfl, k5, k6⟩ := dpa_cons k4
  cases dpa_nil k6
  cases dp_str k1
  cases dp_str k3
  cases dp_str k5
  exact ⟨a, rfl, h1⟩
theorem dp_dS {s : Stp} (h : Dp K H v (dS s)) : ∃ a, v = .ref a ∧ SqT K H a [.str s.1, .str s.2] := by
  obtain ⟨a, xs, rfl, h1, h2⟩ := dp_tup h
  obtain ⟨x, r, rfl, k1, k2⟩ := dpa_cons h2
  obtain ⟨y, r', rfl, k3, k4⟩ := dpa_cons k2
  cases dpa_nil k4
  cases dp_str k1
  cases dp_str k3
  exact ⟨a, rfl, h1⟩
theorem dp_dC {c : Cas} (h : Dp K H v (dC c)) : ∃ a t y, v = .ref a ∧ SqT K H a [.ref t, y] ∧ Dp K H (.ref t) (.tuple (c.1.map dT)) ∧ Dp K H y (dO c.2) := by
  obtain ⟨a, xs, rfl, h1, h2⟩ := dp_tup h
  obtain ⟨x, r, rfl, k1, k2⟩ := dpa_cons h2
  obtain ⟨y, r', rfl, k3, k4⟩ := dpa_cons k2
  cases dpa_nil k4
  obtain ⟨t, ys, rfl, m1, m2⟩ := dp_tup k1
  exact ⟨a, t, y, rfl, h1, .tup m1 m2, k3⟩
theorem dp_dV {w : List Str} (h : Dp K H v (dV w)) : ∃ a, v = .ref a ∧ SqT K H a (w.map V.str) := by
  obtain ⟨a, xs, rfl, h1, h2⟩ := dp_tup h
  rw [dp_strs h2] at h1
  exact ⟨a, rfl, h1⟩
theorem dV_dp {w : List Str} {a : Addr} (h : SqT K H a (w.map V.str)) : Dp K H (.ref a) (dV w) := .tup h (strs_dp w)
end
/-! fields as they stand: the options are tuples of which .index is asked -/
def FdAt (K : PySem.W.Frag) (H : Hp) (v : V) (f : Fld) : Prop := ∃ a o, v = .ref a ∧ SqT K H a [.str f.1, .ref o] ∧ SqP K H o (f.2.map V.str)
def FsAt (K : PySem.W.Frag) (H : Hp) (v : V) (fs : List Fld) : Prop := ∃ a xs, v = .ref a ∧ (SqL K H a xs ∨ SqT K H a xs) ∧ Paired (FdAt K H) xs fs
section
variable {K : PySem.W.Frag} {H H' : Hp} {v : V} {f : Fld} {fs : List Fld} {xs : List V}
theorem FdAt.mono (e : Same H H') (h : FdAt K H v f) : FdAt K H' v f := by
  obtain ⟨a, o, h1, h2, h3⟩ := h
  exact ⟨a, o, h1, Same.tup e h2, h3.mono e⟩
theorem fds_mono (e : Same H H') : ∀ {xs : List V} {fs : List Fld}, Paired (FdAt K H) xs fs → Paired (FdAt K H') xs fs
  | _, _, .nil => .nil
  | _, _, .cons h t => .cons (h.mono e) (fds_mono e t)
theorem FsAt.mono (e : Same H H') (h : FsAt K H v fs) : FsAt K H' v fs := by
  obtain ⟨a, xs, h1, h2, h3⟩ := h
  exact ⟨a, xs, h1, h2.imp e.seq (Same.tup e), fds_mono e h3⟩
theorem FdAt.dp (h : FdAt K H v f) : Dp K H v (dF f) := by
  obtain ⟨a, o, rfl, h2, h3⟩ := h
  exact .tup h2 (.cons (.str _) (.cons (.tup h3.sqT (strs_dp _)) .nil))
theorem fds_dp : ∀ {xs : List V} {fs : List Fld}, Paired (FdAt K H) xs fs → DpAll K H xs (fs.map dF)
  | _, _, .nil => .nil
  | _, _, .cons h t => .cons h.dp (fds_dp t)
theorem FsAt.dpS (h : FsAt K H v fs) : DpS K H v (fs.map dF) := by
  obtain ⟨a, xs, h1, h2, h3⟩ := h
  exact ⟨a, xs, h1, h2, fds_dp h3⟩
theorem fds_get : ∀ {xs : List V} {fs : List Fld} {i : Nat} {f : Fld}, Paired (FdAt K H) xs fs → fs[i]? = some f → ∃ x, xs[i]? = some x ∧ FdAt K H x f
  | _, _, _, _, .nil, e => by simp at e
  | _, _, 0, _, .cons h _, e => by
    simp at e
    subst e
    exact ⟨_, rfl, h⟩
  | _, _, i + 1, f, .cons _ t, e => by
    obtain ⟨x, h1, h2⟩ := fds_get (i := i) (f := f) t (by simpa using e)
    exact ⟨x, by simpa using h1, h2⟩
/-- fields[i][1], for the place i of a field x -/
theorem FsAt.opts {x : Str} (h : FsAt K H v fs) (hx : x ∈ fs.map (·.1)) : ∃ a xs t o, v = .ref a ∧ (SqL K H a xs ∨ SqT K H a xs) ∧ atI xs ((posOf fs x : Nat) : Int) = some (.ref t) ∧ SqT K H t [.str x, .ref o] ∧ SqP K H o ((optsOf fs x).map V.str) := by
  obtain ⟨a, xs, h1, h2, h3⟩ := h
  obtain ⟨f, k1, k2, k3⟩ := pos_at hx
  obtain ⟨y, m1, t, o, rfl, m2, m3⟩ := fds_get h3 k1
  rw [k2] at m2
  rw [k3] at m3
  exact ⟨a, xs, t, o, h1, h2, atI_nat m1, m2, m3⟩
end
/-! ### walks over a list or a tuple at a name -/
theorem iSeqV {K : PySem.W.Frag} {σ : L2.St} {H : Hp} {i : Nat} {a : Addr} {xs : List V} {R : It → Hp → Prop} (hσ : σ[i]? = some (some (.ref a))) (h : SqL K H a xs ∨ SqT K H a xs)
    (k : ∀ (J : It) (G : Hp → Prop), Walk J xs.length G (YAt xs) → (∀ H', Same H H' → G H') → R J H) : iSeq K (tVar i) σ H R := by
  rcases h with h | h
  · exact .inl ⟨.ref a, hσ, a, rfl, ⟨xs, h⟩, k _ _ walk_list fun H' e => e.seq h⟩
  · exact .inr ⟨.ref a, hσ, a, rfl, ⟨xs, h⟩, k _ _ walk_tup fun H' e => Same.tup e h⟩
end Bh
namespace Bh
open PySem PySem.Spec PyProof.Rows L2
theorem rIx_go {K : PySem.W.Frag} {H : Hp} {a : Addr} {xs : List V} {i : Int} {v : V} {Q : VK} (h : SqL K H a xs ∨ SqT K H a xs) (e : atI xs i = some v) (q : Q v H) : rIx K (.ref a) (.int i) H Q := by
  rcases h with h | h
  · exact .inl ⟨a, xs, i, v, rfl, rfl, h, e, q⟩
  · exact .inr (.inl ⟨a, xs, i, v, rfl, rfl, h, e, q⟩)
theorem dec_int {m n : Nat} : decide (V.int (m : Int) = V.int (n : Int)) = decide (m = n) := by
  refine decide_eq_decide.mpr ⟨fun h => ?_, fun h => by rw [h]⟩
  have e := V.int.inj h
  omega
theorem dec_lt {m n : Nat} : decide ((m : Int) < (n : Int)) = decide (m < n) := decide_eq_decide.mpr ⟨fun h => by omega, fun h => by omega⟩
theorem str_ne {a b : Str} (h : ¬ V.str a = V.str b) : a ≠ b := fun e => h (by rw [e])
end Bh

set_option Elab.async false
set_option linter.all false
set_option maxRecDepth 100000
namespace Bh
open PySem PySem.Spec PyProof.Rows L2
/-! ### what is drawn: names, options, fields, cases, programs -/
def pool : List Str := ["0", "1", "2", "10", "a", "b", "far", "x9", "zzzzzzzz", "7up"]
def tails : List Str := ["", "a", "qq", "xyz", "mmmmmmm"]
def letters : Str := "abcdefghijklmnopqrstuvwxyz"
theorem pool_nodup : pool.Nodup := by decide +kernel
theorem perm_strs {l : List Str} {ys : List V} (h : ys.Perm (l.map V.str)) : ∃ zs : List Str, zs.Perm l ∧ ys = zs.map V.str := by
  let g : V → Str := fun v => match v with
    | .str z => z
    | _ => Str.empty
  refine ⟨ys.map g, ?_, ?_⟩
  · have q := h.map g
    rw [List.map_map] at q
    have e : (g ∘ V.str) = id := by
      funext z
      rfl
    rw [e, List.map_id] at q
    exact q
  · rw [List.map_map]
    have q : ∀ v ∈ ys, (V.str ∘ g) v = v := fun v hv => by
      obtain ⟨z, _, rfl⟩ := List.mem_map.mp (h.mem_iff.mp hv)
      rfl
    rw [List.map_congr_left q, List.map_id']
/-- a name: one to eight lowercase letters -/
structure IsNm (w : Str) : Prop where
  lo : 1 ≤ w.length
  hi : w.length ≤ 8
  az : ∀ c ∈ w.cps.toList, 97 ≤ c ∧ c ≤ 122
def wordK (z : Str) (k c : Nat) : Str := cutS z none (some (k : Int)) ++ ⟨#[c]⟩ ++ cutS z (some (k : Int)) none
theorem cut_lo (z : Str) (k : Nat) : (cutS z none (some (k : Int))).cps.toList = z.cps.toList.take k := by
  unfold cutS
  rw [HT.sIx_none, HT.sIx_nat]
  show ((z.cps.toList.drop 0).take (min k z.length - 0)) = _
  rw [List.drop_zero, Nat.sub_zero]
  have e1 : z.cps.toList.length = z.cps.size := by simp
  have e2 : z.length = z.cps.size := rfl
  by_cases h : k ≤ z.length
  · rw [Nat.min_eq_left h]
  · rw [Nat.min_eq_right (by omega), List.take_of_length_le (by omega), List.take_of_length_le (by omega)]
theorem cut_hi (z : Str) (k : Nat) (h : k ≤ z.length) : (cutS z (some (k : Int)) none).cps.toList = z.cps.toList.drop k := by
  unfold cutS
  rw [HT.sIx_none, HT.sIx_nat, Nat.min_eq_left h]
  show ((z.cps.toList.drop k).take (z.length - k)) = _
  refine List.take_of_length_le ?_
  rw [List.length_drop]
  have : z.cps.toList.length = z.cps.size := by simp
  have : z.length = z.cps.size := rfl
  omega
theorem wordK_cps (z : Str) (k c : Nat) (h : k ≤ z.length) : (wordK z k c).cps.toList = z.cps.toList.take k ++ (c :: z.cps.toList.drop k) := by
  have e : (wordK z k c).cps = (cutS z none (some (k : Int))).cps ++ #[c] ++ (cutS z (some (k : Int)) none).cps := rfl
  rw [e, Array.toList_append, Array.toList_append, cut_lo, cut_hi z k h]
  simp
theorem wordK_length (z : Str) (k c : Nat) (h : k ≤ z.length) : (wordK z k c).length = z.length + 1 := by
  have e : (wordK z k c).length = (wordK z k c).cps.toList.length := by
    show (wordK z k c).cps.size = _
    simp
  rw [e, wordK_cps z k c h, List.length_append, List.length_take, List.length_cons, List.length_drop]
  have : z.cps.toList.length = z.cps.size := by simp
  have : z.length = z.cps.size := rfl
  omega
theorem wordK_inj {z : Str} {k c d : Nat} (h : k ≤ z.length) (e : wordK z k c = wordK z k d) : c = d := by
  have q := congrArg (fun s : Str => s.cps.toList) e
  simp only [wordK_cps z k _ h] at q
  have q2 := List.append_cancel_left q
  exact (List.cons.inj q2).1
theorem tails_ok : ∀ z ∈ tails, z.length ≤ 7 ∧ ∀ c ∈ z.cps.toList, 97 ≤ c ∧ c ≤ 122 := by
  decide +kernel
theorem wordK_nm {z : Str} (hz : z ∈ tails) {k c : Nat} (h : k ≤ z.length) (h1 : 97 ≤ c) (h2 : c ≤ 122) : IsNm (wordK z k c) := by
  obtain ⟨t1, t2⟩ := tails_ok z hz
  refine ⟨by rw [wordK_length z k c h]; omega, by rw [wordK_length z k c h]; omega, fun d hd => ?_⟩
  rw [wordK_cps z k c h] at hd
  rcases List.mem_append.mp hd with q | q
  · exact t2 d (List.mem_of_mem_take q)
  · rcases List.mem_cons.mp q with q | q
    · rw [q]
      exact ⟨h1, h2⟩
    · exact t2 d (List.mem_of_mem_drop q)
theorem letters_at {j : Int} (h0 : 0 ≤ j) (h1 : j < 26) : atI letters.cps.toList j = some (97 + j.toNat) := by
  have key : ∀ k : _root_.Fin 26, letters.cps.toList[k.val]? = some (97 + k.val) := by decide +kernel
  exact at_nn h0 (key ⟨j.toNat, by omega⟩)
def wordsOf (z : Str) (k : Nat) (s : Int) (n : Nat) : List Str := (List.range n).map fun (i : Nat) => wordK z k (97 + ((s + 5 * (i : Int)) % 26).toNat)
theorem wordsOf_nodup {z : Str} {k : Nat} {s : Int} {n : Nat} (h : k ≤ z.length) (hn : n ≤ 3) : (wordsOf z k s n).Nodup := by
  unfold wordsOf
  refine List.pairwise_map.mpr ((List.pairwise_lt_range (n := n)).imp_of_mem fun {a b} ha hb hab e => ?_)
  have h2 := List.mem_range.mp hb
  have q := wordK_inj h e
  omega
theorem wordsOf_nm {z : Str} (hz : z ∈ tails) {k : Nat} {s : Int} {n : Nat} (h : k ≤ z.length) : ∀ w ∈ wordsOf z k s n, IsNm w := fun w hw => by
  obtain ⟨i, _, rfl⟩ := List.mem_map.mp hw
  exact wordK_nm hz h (by omega) (by omega)
theorem wordsOf_len {z : Str} {k : Nat} {s : Int} {n : Nat} : (wordsOf z k s n).length = n := by
  unfold wordsOf
  rw [List.length_map, List.length_range]
/-- fields as the laws draw them -/
structure FsOk (fs : List Fld) : Prop where
  ne : 1 ≤ fs.length
  le : fs.length ≤ 3
  nd : (fs.map (·.1)).Nodup
  nm : ∀ f ∈ fs, IsNm f.1
  os : ∀ f ∈ fs, f.2.Nodup ∧ 2 ≤ f.2.length ∧ f.2.length ≤ 6 ∧ ∀ o ∈ f.2, o ∈ pool
theorem opts_of {fs : List Fld} (nd : (fs.map (·.1)).Nodup) {f : Fld} (h : f ∈ fs) : optsOf fs f.1 = f.2 := by
  obtain ⟨i, hi⟩ := List.mem_iff_getElem?.mp h
  have e : ix (fs.map (·.1)) f.1 = i := ix_at nd (by rw [List.getElem?_map, hi]; rfl)
  unfold optsOf posOf
  rw [e, hi]
  rfl
/-- signs of tests -/
def signs : List Str := ["=", "!", "<", ">"]
/-! ### promises of the defs that draw -/
def spAny (K : PySem.W.Frag) : Sp := fun vs H Q _ => ∃ (b l a : Addr) (G : Hp) (xs : List V), vs = [.ref b, .ref a] ∧ (SqL K G a xs ∨ SqT K G a xs) ∧ xs ≠ [] ∧ xs.length ≤ 100000 ∧ Wd b l G H ∧ ∀ x H', x ∈ xs → Wd b l G H' → Q x H'
def spMixed (K : PySem.W.Frag) : Sp := fun vs H Q _ => ∃ (b l a : Addr) (G : Hp) (xs : List V), vs = [.ref b, .ref a] ∧ SqL K G a xs ∧ xs.length ≤ 1000 ∧ Wd b l G H ∧
  ∀ (G' H' : Hp) (p : Addr) (ys : List V), Same G G' → Wd b l G' H' → G' p = some (.lst ys) → ys.Perm xs → Q (.ref p) H'
def spWords : Sp := fun vs H Q _ => ∃ (b l : Addr) (G : Hp) (n : Int), vs = [.ref b, .int n] ∧ 0 ≤ n ∧ n ≤ 3 ∧ Wd b l G H ∧
  ∀ (G' H' : Hp) (p : Addr) (ws : List Str), Same G G' → Wd b l G' H' → G' p = some (.lst (ws.map V.str)) → ws.length = n.toNat → ws.Nodup → (∀ w ∈ ws, IsNm w) → Q (.ref p) H'
def spOptions (K : PySem.W.Frag) : Sp := fun vs H Q _ => ∃ (b l : Addr) (G : Hp) (n : Int), vs = [.ref b, .int n] ∧ 2 ≤ n ∧ n ≤ 6 ∧ Wd b l G H ∧
  ∀ (G' H' : Hp) (p : Addr) (os : List Str), Same G G' → Wd b l G' H' → SqP K G' p (os.map V.str) → os.length = n.toNat → os.Nodup → (∀ o ∈ os, o ∈ pool) → Q (.ref p) H'
def spFields (K : PySem.W.Frag) : Sp := fun vs H Q _ => ∃ (b l : Addr) (G : Hp), vs = [.ref b, .int 24] ∧ Wd b l G H ∧
  ∀ (G' H' : Hp) (p : Addr) (xs : List V) (fs : List Fld), Same G G' → Wd b l G' H' → G' p = some (.lst xs) → Paired (FdAt K G') xs fs → FsOk fs → Q (.ref p) H'
def spCase (K : PySem.W.Frag) : Sp := fun vs H Q _ => ∃ (b l a : Addr) (G : Hp) (xs : List V) (fs : List Fld), vs = [.ref b, .ref a] ∧ SqL K G a xs ∧ Paired (FdAt K G) xs fs ∧ FsOk fs ∧ Wd b l G H ∧
  ∀ (G' H' : Hp) (y : V) (c : Cas), Same G G' → Wd b l G' H' → Dp K G' y (dC c) → FitC fs c → c.1.length ≤ 2 → (∀ ss, c.2 = some ss → ss.length ≤ 2) → (∀ t ∈ c.1, t.2.1 ∈ signs) → Q y H'
end Bh
namespace Bh
open PySem PySem.Spec PyProof.Rows L2
theorem cutV_take (xs : List V) {n : Int} (h : 0 ≤ n) : cutV xs none (some n) = xs.take n.toNat := by
  obtain ⟨k, rfl⟩ : ∃ m : Nat, n = (m : Int) := ⟨n.toNat, by omega⟩
  unfold cutV
  rw [HT.sIx_none, show HT.sIx xs.length xs.length (some (k : Int)) = min k xs.length from HT.sIx_nat _ _ k]
  show List.take (min k xs.length - 0) (List.drop 0 xs) = xs.take k
  rw [List.drop_zero, Nat.sub_zero]
  by_cases hk : k ≤ xs.length
  · rw [Nat.min_eq_left hk]
  · rw [Nat.min_eq_right (by omega), List.take_of_length_le (Nat.le_refl _), List.take_of_length_le (by omega)]
theorem fds_mem {K : PySem.W.Frag} {H : Hp} : ∀ {xs : List V} {fs : List Fld} {x : V}, Paired (FdAt K H) xs fs → x ∈ xs → ∃ f ∈ fs, FdAt K H x f
  | _, _, _, .nil, h => by cases h
  | _, _, x, .cons h t, hx => by
    rcases List.mem_cons.mp hx with e | hx
    · rw [e]
      exact ⟨_, List.mem_cons_self .., h⟩
    · obtain ⟨f, h1, h2⟩ := fds_mem t hx
      exact ⟨f, List.mem_cons_of_mem _ h1, h2⟩
theorem fds_len {K : PySem.W.Frag} {H : Hp} : ∀ {xs : List V} {fs : List Fld}, Paired (FdAt K H) xs fs → xs.length = fs.length
  | _, _, .nil => rfl
  | _, _, .cons _ t => congrArg Nat.succ (fds_len t)
theorem fds_snoc {K : PySem.W.Frag} {H : Hp} {x : V} {f : Fld} : ∀ {xs : List V} {fs : List Fld}, Paired (FdAt K H) xs fs → FdAt K H x f → Paired (FdAt K H) (xs ++ [x]) (fs ++ [f])
  | _, _, .nil, h => .cons h .nil
  | _, _, .cons k t, h => .cons k (fds_snoc t h)
theorem min_max_bound (z : Int) : 0 < (if (if z > 1 then z else 1) < 5 then (if z > 1 then z else 1) else 5) ∧ (if (if z > 1 then z else 1) < 5 then (if z > 1 then z else 1) else 5) ≤ (5 : Int) := by
  split <;> split <;> omega
end Bh
namespace Bh
open PySem PySem.Spec PyProof.Rows L2
theorem dpa_snoc {K : PySem.W.Frag} {H : Hp} {x : V} {d : PyData} {xs : List V} {ds : List PyData} (h : DpAll K H xs ds) (k : Dp K H x d) : DpAll K H (xs ++ [x]) (ds ++ [d]) := DpAll.append h (.cons k .nil)
end Bh
namespace Bh
open PySem PySem.Spec PyProof.Rows L2
theorem noL_dV (v : List Str) : noL (dV v) = true := noLs_map (fun _ => rfl) v
theorem noL_dT (t : Tst) : noL (dT t) = true := rfl
theorem noL_dS (s : Stp) : noL (dS s) = true := rfl
theorem noL_dO : ∀ o : Option (List Stp), noL (dO o) = true
  | none => rfl
  | some ss => noLs_map noL_dS ss
theorem noL_dC (c : Cas) : noL (dC c) = true := by
  show (noLs (c.1.map dT) && (noL (dO c.2) && true)) = true
  rw [noLs_map noL_dT, noL_dO]
  rfl
theorem FdAt.imm {K : PySem.W.Frag} {H H' : Hp} {v : V} {f : Fld} (e : Imm H H') (h : FdAt K H v f) : FdAt K H' v f := by
  obtain ⟨a, o, h1, h2, h3⟩ := h
  exact ⟨a, o, h1, e.tup h2, e.sqp h3⟩
theorem fds_imm {K : PySem.W.Frag} {H H' : Hp} (e : Imm H H') : ∀ {xs : List V} {fs : List Fld}, Paired (FdAt K H) xs fs → Paired (FdAt K H') xs fs
  | _, _, .nil => .nil
  | _, _, .cons h t => .cons (h.imm e) (fds_imm e t)
def spProg (K : PySem.W.Frag) : Sp := fun vs H Q _ => ∃ (b l a : Addr) (G : Hp) (n : Int) (xs : List V) (fs : List Fld), vs = [.ref b, .ref a, .int n] ∧ SqL K G a xs ∧ Paired (FdAt K G) xs fs ∧ FsOk fs ∧ 0 < n ∧ n ≤ 8 ∧ Wd b l G H ∧
  ∀ (G' H' : Hp) (y : V) (p : List Cas), Same G G' → Wd b l G' H' → Dp K G' y (.tuple (p.map dC)) → (∀ c ∈ p, FitC fs c ∧ c.1.length ≤ 2 ∧ (∀ ss, c.2 = some ss → ss.length ≤ 2) ∧ ∀ t ∈ c.1, t.2.1 ∈ signs) → 1 ≤ p.length → p.length ≤ 8 → Q y H'
/-! all values -/
def ext1 (acc : List (List Str)) (f : Fld) : List (List Str) := acc.flatMap fun v => f.2.map fun o => v ++ [o]
def vals (fs : List Fld) : List (List Str) := fs.foldl ext1 [[]]
theorem flat_len (os : List Str) : ∀ acc : List (List Str), (acc.flatMap fun v => os.map fun o => v ++ [o]).length = acc.length * os.length
  | [] => by simp
  | v :: r => by
    rw [List.flatMap_cons, List.length_append, List.length_map, flat_len os r, List.length_cons, Nat.succ_mul]
    omega
theorem vals_take {fs : List Fld} {i : Nat} {f : Fld} (h : fs[i]? = some f) : vals (fs.take (i + 1)) = ext1 (vals (fs.take i)) f := by
  unfold vals
  rw [List.take_add_one, h, List.foldl_append]
  rfl
theorem vals_len {fs : List Fld} (h : ∀ f ∈ fs, f.2.length ≤ 6) : ∀ i : Nat, (vals (fs.take i)).length ≤ 6 ^ i
  | 0 => by
    rw [List.take_zero]
    exact Nat.le_refl 1
  | i + 1 => by
    cases e : fs[i]? with
    | none =>
      have hl : fs.length ≤ i := List.getElem?_eq_none_iff.mp e
      rw [List.take_of_length_le (by omega), show fs = fs.take i from (List.take_of_length_le hl).symm]
      refine Nat.le_trans (vals_len h i) ?_
      rw [Nat.pow_succ]
      exact Nat.le_mul_of_pos_right _ (by decide)
    | some f =>
      rw [vals_take e]
      unfold ext1
      rw [flat_len, Nat.pow_succ]
      exact Nat.mul_le_mul (vals_len h i) (h f (List.mem_of_getElem? e))
theorem vals_fit : ∀ (fs done : List Fld) (acc : List (List Str)), (∀ v ∈ acc, FitV done v) → ∀ v ∈ fs.foldl ext1 acc, FitV (done ++ fs) v
  | [], done, acc, h, v, hv => by
    rw [List.append_nil]
    exact h v hv
  | f :: r, done, acc, h, v, hv => by
    have e : done ++ f :: r = (done ++ [f]) ++ r := by simp
    rw [e]
    refine vals_fit r (done ++ [f]) (ext1 acc f) (fun w hw => ?_) v hv
    obtain ⟨u, hu, hw2⟩ := List.mem_flatMap.mp hw
    obtain ⟨o, ho, rfl⟩ := List.mem_map.mp hw2
    obtain ⟨l1, l2⟩ := h u hu
    refine ⟨by rw [List.length_append, List.length_append, l1]; rfl, fun i g o' hg ho' => ?_⟩
    by_cases hi : i < done.length
    · rw [List.getElem?_append_left hi] at hg
      rw [List.getElem?_append_left (by omega)] at ho'
      exact l2 i g o' hg ho'
    · rw [List.getElem?_append_right (by omega)] at hg
      rw [List.getElem?_append_right (by omega), l1] at ho'
      have hz : i - done.length = 0 := by
        have := (List.getElem?_eq_some_iff.mp hg).1
        simp at this
        omega
      rw [hz] at hg ho'
      cases hg
      cases ho'
      exact ho
theorem vals_ok {fs : List Fld} : ∀ v ∈ vals fs, FitV fs v := by
  have q := vals_fit fs [] [[]] (fun v hv => by
    cases List.mem_singleton.mp hv
    exact ⟨rfl, fun i f o h => by simp at h⟩)
  show ∀ v ∈ fs.foldl ext1 [[]], FitV fs v
  simpa using q
def spVals (K : PySem.W.Frag) : Sp := fun vs H Q _ => ∃ (a : Addr) (xs : List V) (fs : List Fld), vs = [.ref a] ∧ SqL K H a xs ∧ Paired (FdAt K H) xs fs ∧ FsOk fs ∧
  ∀ (H' : Hp) (p : Addr) (ys : List V), Same H H' → H' p = some (.lst ys) → DpAll K H' ys ((vals fs).map dV) → Q (.ref p) H'
end Bh

set_option Elab.async false
set_option linter.all false
set_option maxRecDepth 100000
set_option maxHeartbeats 2000000
namespace Bh
open PySem PySem.Spec PyProof.Rows L2 LamX NdefX
/-! ### a lambda with parameters, handed to a def and called there -/
/-- its words, as those of a nested def without a body of statements -/
abbrev lamF (q : Str) (params : Arguments) (scope : Scope) (cl : List (Str × Addr)) (c : Addr) : NF := ⟨"<lambda>", q, params, [], scope, cl, c⟩
theorem CellsAt.un {cl : List (Str × Addr)} {fr : List Str} {ws : List (Option V)} {st : List Addr} {H HZ : Hp} {h h1 : Heap} (C : CellsAt cl fr ws h H) (un : Un st [] H HZ h h1) : CellsAt cl fr ws h1 HZ := by
  have kp : ∀ y c, cl.lookup y = some c → ∀ v, h.IsCell c v → h1.IsCell c v := fun y c e v ⟨o, ho, hd⟩ => by
    obtain ⟨sl, q⟩ := un.any ho (C.all y c e).1 (by simp)
    exact ⟨_, q, hd⟩
  refine ⟨C.len, fun y c e => ?_, C.inj, fun i y e => ?_⟩
  · obtain ⟨n, v, z⟩ := C.all y c e
    refine ⟨?_, v, kp y c e v z⟩
    obtain ⟨o, ho, _⟩ := z
    exact un.free c o ho n (by simp)
  · obtain ⟨c, hc, hv⟩ := C.has i y e
    refine ⟨c, hc, fun v ev => ?_⟩
    obtain ⟨u, r, z⟩ := hv v ev
    exact ⟨u, r, kp y c hc _ z⟩
section
variable {CX : CXT} {P : Program} {w : World} {K : PySem.W.Frag} {mg : Str → Option Value} {base : Heap} {N ps fr : List Str} {f c' : Addr} {k : Nat} {q : Str} {params : Arguments} {body : Expr} {scope : Scope} {cl : List (Str × Addr)}
/-- the lambda runs -/
theorem lam_run {A : Around} {outer : List Env} {s : Shared} {H : Hp} {us : List Value} {vs : List V} {ws : List (Option V)} {Q : VK} {E : XK} {pm ctv : Value} {tb : TE} (S : NScope N ps fr scope)
    (hb : ∀ (us : List Value), us.length = ps.length → bindArgs (PySem.W.kla_fn "<lambda>" q params body scope cl pm (.ref c') ctv) ⟨us, []⟩ = pure (ps.zip us))
    (hr : Room (k + 1) A) (e0 : Env0 P w K mg base A outer s H) (lim : s.heap.NoLimit) (of : s.heap.get? f = some (PySem.W.kla_obj "<lambda>" q params body scope cl pm c' ctv)) (hc : s.heap.CodeRec (.ref c') q)
    (C : CellsAt cl fr ws s.heap H) (r : Vals vs us) (hl : vs.length = ps.length)
    (hbody : Room k (A.deeper (envF (lamF q params scope cl c') f s.heap.objs.size)) → PE (ncx CX P w K mg base N (lamF q params scope cl c') f A outer s H E) body tb) (h : tb (startF N vs ws) H Q) :
    codeAny (model P w) A (.call (.ref f) ⟨us, []⟩) (CR CX outer P w H s Q E) s := by
  refine PySem.W.kla_callFunE hr.depth of rfl S.co S.gen rfl hc ?_
  rw [hb us (by rw [← r.length]; exact hl)]
  refine wpAny_pure (wpAny_newFunctionEnv S.nocell (fun ⟨n, _⟩ hy => S.par n (List.of_mem_zip hy).1) (fun h₁ hns hsb => ⟨lim.fresh _ hsb, ?_⟩) S.kind)
  show codeAny _ _ (.expr body (envF (lamF q params scope cl c') f s.heap.objs.size)) _ _
  have kp : ∀ b o, s.heap.get? b = some o → h₁.get? b = some o := fun b o e => hsb.extBut b o (Nat.ne_of_lt (Heap.lt_size e)) (Heap.get?_push_of_some _ e)
  have I : Inv (ncx CX P w K mg base N (lamF q params scope cl c') f A outer s H E) [] (startF N vs ws) H { s with heap := h₁, toks := s.toks + (ps.zip us).length } := inv_startN (F := lamF q params scope cl c') S hr.hd e0 hl r C hns kp
  refine PySem.W.kla_codeExpr (wpAny_mono ((hbody (hr.deeper _)).run [] _ (startF N vs ws) H Q I h) (fun v s' hq => ?_) fun e s' hq => hq)
  obtain ⟨w', H', J', rv, q⟩ := hq
  exact ⟨w', H', J'.os, J'.bare, J'.base, J'.hok, rv, q⟩
/-- f(e, ..), f a name of the callee that holds the lambda: Z is the callee's context, entered at s -/
def tLamAct (c' f : Addr) (q : Str) (i n : Nat) (N : List Str) (ws : List (Option V)) (tb : TE) (t : TA) : TE := fun σ H Q => σ[i]? = some (some (.ref f)) ∧ H c' = some (CodeO c' q) ∧
  t σ H fun vs H1 => H1 c' = some (CodeO c' q) ∧ vs.length = n ∧ tb (startF N vs ws) H1 Q
theorem pe_lamact {CXg : CXT} {Eg : XK} {Ng : List Str} {qg : Str} {sg : Scope} {g : Addr} {cdg pm ctv : Value} {A0 : Around} {st : List Env} {s : Shared} {H : Hp} {ws : List (Option V)} {tb : TE} {a : Str} {i : Nat} {e : Expr} {es : List Expr} {t : TA} {p1 p2 : Pos}
    (S : NScope N ps fr scope) (hb : ∀ (us : List Value), us.length = ps.length → bindArgs (PySem.W.kla_fn "<lambda>" q params body scope cl pm (.ref c') ctv) ⟨us, []⟩ = pure (ps.zip us))
    (of : s.heap.get? f = some (PySem.W.kla_obj "<lambda>" q params body scope cl pm c' ctv)) (hfn : H f = none) (hfr : f ∉ frs st) (C : CellsAt cl fr ws s.heap H)
    (hr : Room (k + 1) (A0.deeper (envOfC qg sg s.heap.objs.size g cdg)))
    (hbody : ∀ (A : Around) (outer : List Env) (s : Shared) (H : Hp), Room k (A.deeper (envF (lamF q params scope cl c') f s.heap.objs.size)) → PE (ncx C8.CX0 P w K mg base N (lamF q params scope cl c') f A outer s H C8.E0) body tb)
    (hN : Ng[i]? = some a) (hv : Vis sg a) (ha : PA (cxOf CXg P w K mg base Ng qg sg g cdg A0 st s H Eg).nox (e :: es) t)
    (hd : (a == ("__debug__" : Str)) = false := by decide) (hcd : (a == ("__classdict__" : Str)) = false := by decide)
    (he : starEach (e :: es) (cxOf CXg P w K mg base Ng qg sg g cdg A0 st s H Eg).nox.env = (false, eval e (cxOf CXg P w K mg base Ng qg sg g cdg A0 st s H Eg).nox.env) :: starEach es (cxOf CXg P w K mg base Ng qg sg g cdg A0 st s H Eg).nox.env := by rfl)
    (hpl : (backTo p2 (starEach es (cxOf CXg P w K mg base Ng qg sg g cdg A0 st s H Eg).nox.env)).any (·.1) = false := by rfl) :
    PE (cxOf CXg P w K mg base Ng qg sg g cdg A0 st s H Eg).nox (.Call (.Name a p1) (e :: es) [] p2) (tLamAct c' f q i ps.length N ws tb t) := by
  refine ⟨fun pinsZ sZ σZ HZ Q IZ h => ?_⟩
  obtain ⟨hs, hc, ht⟩ := h
  refine wpAny_Call_Name_kw (thn ((pe_var (pos := p1) (i := i) hN hv hd hcd).run pinsZ sZ σZ HZ (fun v H1 => v = .ref f ∧ H1 = HZ) IZ ⟨.ref f, hs, rfl, rfl⟩) fun u s1 ⟨v, H1, I1, r1, q1⟩ => ?_)
  obtain ⟨ev, eH⟩ := q1
  subst ev
  rw [eH] at I1
  obtain rfl : u = Value.ref f := r1
  have at_ : ∀ {pins σ HZ} {s1 : Shared}, Inv (cxOf CXg P w K mg base Ng qg sg g cdg A0 st s H Eg).nox pins σ HZ s1 → s1.heap.get? f = some (PySem.W.kla_obj "<lambda>" q params body scope cl pm c' ctv) := fun I1 => I1.base.keep f _ of hfn hfr (fun z => nomatch (show f ∈ ([] : List Addr) from z))
  refine PySem.W.callWith_F (first := []) ⟨_, _, _, _, at_ I1⟩ (thn (ha.run p2 pinsZ s1 σZ HZ _ I1 ht) fun us s2 ⟨vs, H2, I2, r, h1, h2, h3⟩ => ⟨⟨_, _, _, _, at_ I2⟩, ?_⟩) he hpl
  show wpAny _ _ (call (.ref f) us) _ _ _
  have un : Un (frs st) [] H H2 s.heap s2.heap := I2.base
  obtain ⟨⟨oc, vsc, tc, hoc, hdc, hvc⟩, _, _⟩ := I2.hok c' _ h1
  have rc := lam_run (Q := Q) (A := (cxOf CXg P w K mg base Ng qg sg g cdg A0 st s H Eg).nox.A) (outer := (cxOf CXg P w K mg base Ng qg sg g cdg A0 st s H Eg).nox.stack) S hb hr I2.env0 I2.nolimit (at_ I2) ⟨c', oc, vsc, tc, rfl, hoc, hdc, hvc⟩ (CellsAt.un C un) r h2 (fun hr2 => hbody _ _ s2 H2 hr2) h3
  refine wpAny_call (codeAny_mono rc fun r s' hq => ?_)
  cases r with
  | error e => exact (show False from hq).elim
  | ok fl =>
    cases fl with
    | ret u => exact I2.after hq
    | next => exact False.elim hq
    | brk => exact False.elim hq
    | cont => exact False.elim hq
end
end Bh
namespace Bh
open PySem PySem.Spec PyProof.Rows L2 LamX NdefX
/-- the def that calls what it got in its second place: what it makes (TT) of the lambda's reading -/
def GivesTo2 (X : Cx) (Ng : List Str) (x : Str) (sg : Scope) (g : Addr) (cdg : Value) (bg : List Stmt) (a : Str) (q : Str) (n : Nat) (TT : (List V → Hp → VK → Prop) → V → Hp → VK → Prop) : Prop :=
  ∀ (f c' : Addr) (s : Shared) (H : Hp) (Q : VK) (v1 : V) (N : List Str) (ws : List (Option V)) (tb : TE),
    (∀ (e : Expr) (es : List Expr) (t : TA) (p1 p2 : Pos), PA (cxOf C8.CX0 X.prog X.w X.K X.mg X.base Ng x sg g cdg X.A X.stack s H C8.E0).nox (e :: es) t →
      starEach (e :: es) (cxOf C8.CX0 X.prog X.w X.K X.mg X.base Ng x sg g cdg X.A X.stack s H C8.E0).nox.env = (false, eval e (cxOf C8.CX0 X.prog X.w X.K X.mg X.base Ng x sg g cdg X.A X.stack s H C8.E0).nox.env) :: starEach es (cxOf C8.CX0 X.prog X.w X.K X.mg X.base Ng x sg g cdg X.A X.stack s H C8.E0).nox.env →
      (backTo p2 (starEach es (cxOf C8.CX0 X.prog X.w X.K X.mg X.base Ng x sg g cdg X.A X.stack s H C8.E0).nox.env)).any (·.1) = false →
      PE (cxOf C8.CX0 X.prog X.w X.K X.mg X.base Ng x sg g cdg X.A X.stack s H C8.E0).nox (.Call (.Name a p1) (e :: es) [] p2) (tLamAct c' f q 1 n N ws tb t)) →
    H c' = some (CodeO c' q) → TT (fun vs H' Q' => tb (startF N vs ws) H' Q') v1 H Q →
    ∃ t, PSs (cxOf C8.CX0 X.prog X.w X.K X.mg X.base Ng x sg g cdg X.A X.stack s H C8.E0).nox bg t ∧ t { nx := fun _ H' => Q .non H', rt := Q } (L2.start Ng [v1, .ref f]) H
def tLam2 (T : List (Addr × Str)) (N : List Str) (js : List Nat) (TT : (List V → Hp → VK → Prop) → V → Hp → VK → Prop) (tb : TE) (t1 : TE) : TE := fun σ H Q => t1 σ H fun v1 H1 => Tabs T H1 ∧ ∀ H2, ExtN H1 H2 → Tabs T H2 → TT (fun vs H' Q' => tb (startF N vs (js.map (slotAt σ))) H' Q') v1 H2 Q
/-- x(e1, lambda ..: body) -/
theorem pe_lamcall2 {X : Cx} {T : List (Addr × Str)} {TT : (List V → Hp → VK → Prop) → V → Hp → VK → Prop} {x a1 a : Str} {g c P : Addr} {k : Nat} {pg : Arguments} {bg : List Stmt} {sg : Scope} {dV kV doc pm cdv ct oc : Value} {an od : Option Addr} {osl : Array (Option Value)} {Ng : List Str}
    {params : Arguments} {body : Expr} {scope : Scope} {N ps fr : List Str} {js : List Nat} {tb t1 : TE} {e1 : Expr} {p lpos pos : Pos} (hg : Gl X x) (hm : X.mg x = some (.ref g)) (hk : PySem.W.keepIn X.K (.ref g) = true)
    (lk : X.K.lookup g = some ⟨oc, od, .func (PySem.W.fnOf x x pg bg sg dV kV doc pm an cdv ct), osl⟩) (hcg : PySem.W.codeIn X.K cdv x = true) (hb : L2.Binds X.K (PySem.W.fnOf x x pg bg sg dV kV doc pm an cdv ct) [a1, a] []) (Sg : FnScope Ng [a1, a] sg) (hNg : Ng[1]? = some a) (hva : Vis sg a)
    (he1 : PE X e1 t1)
    (hG : GivesTo2 X Ng x sg g cdv bg a (X.env.qual ++ "<lambda>") ps.length TT)
    (TB : TabB X.base X.mg c P) (hcode : X.env.code = .ref c) (hmT : (P, X.env.qual ++ "<lambda>") ∈ T) (hu : ∀ p ∈ T, p.1 = P → p.2 = X.env.qual ++ "<lambda>") (hr : Room (k + 2) X.A) (hdef : defaultsOf params X.env = ([], []))
    (S : NScope N ps fr scope) (hfree : ∀ y ∈ scope.names, y.2 = .free → X.env.scope.names.lookup y.1 = some .cell ∨ X.env.scope.names.lookup y.1 = some .free) (hfr : ∀ y ∈ fr, (y, NameKind.free) ∈ scope.names) (hjs : js.map (fun j => X.N[j]?) = fr.map some)
    (hbind : ∀ (q : Str) (cl : List (Str × Addr)) (pm cv ctv : Value) (us : List Value), us.length = ps.length → bindArgs (PySem.W.kla_fn "<lambda>" q params body scope cl pm cv ctv) ⟨us, []⟩ = pure (ps.zip us))
    (hbody : ∀ (A : Around) (outer : List Env) (s : Shared) (H : Hp) (F : NF) (f : Addr), F.scope = scope → Room k (A.deeper (envF F f s.heap.objs.size)) → PE (ncx C8.CX0 X.prog X.w X.K X.mg X.base N F f A outer s H C8.E0) body tb)
    (hdb : (x == ("__debug__" : Str)) = false := by decide) (hd : (a == ("__debug__" : Str)) = false := by decide) (hcd : (a == ("__classdict__" : Str)) = false := by decide)
    (hs1 : starEach [e1, .Lambda params body scope lpos] X.env = (false, eval e1 X.env) :: starEach [.Lambda params body scope lpos] X.env := by rfl) (hpl : (backTo pos (starEach [.Lambda params body scope lpos] X.env)).any (·.1) = false := by rfl) :
    PE X (.Call (.Name x p) [e1, .Lambda params body scope lpos] [] pos) (tLam2 T N js TT tb t1) := by
  refine ⟨fun pins s σ H Q I h => ?_⟩
  refine wpAny_Call_Name_kw (ld_glob I hg hm ?_ hdb)
  refine PySem.W.callWith_K (h₀ := X.base) I.ok.mod.kin hk ?_ hs1 hpl
  rw [hs1]
  show wpAny _ _ (spliced ((false, eval e1 X.env) :: backTo pos (starEach [.Lambda params body scope lpos] X.env))) _ _ s
  refine Calls.spliced_cons (thn (he1.run pins s σ H _ I h) fun u1 s0 ⟨v1, H0, I0, r1, hT, h⟩ => ?_)
  have hfr' : ∀ y ∈ scope.names, y.2 = .free → ∃ c, X.env.cells.lookup y.1 = some c := fun y hy e => (hfree y hy e).elim (fun z => I0.ok.has _ (.inl z)) fun z => I0.ok.has _ (.inr z)
  show wpAny _ _ (spliced ((false, eval (.Lambda params body scope lpos) X.env) :: backTo pos (starEach [] X.env))) _ _ s0
  refine Calls.spliced_cons (lam_make2 I0 TB hcode hmT hu hT hdef hfr' fun f c' pm' ctv H1 s' I1 eN T1 hf hfn hfs hco => ?_)
  refine Calls.spliced_nil ⟨I1.kIn, ?_⟩
  have C := cells_of I1 (Caps.made (fr := fr) (js := js) I1.ok hfree hfr hjs)
  have rc : codeAny (model X.prog X.w) X.A (.call (.ref g) ⟨[u1, .ref f], []⟩) (CR C8.CX0 X.stack X.prog X.w H1 s' Q C8.E0) s' := by
    refine run_ofS (N := Ng) (ps := [a1, a]) (us := [u1, .ref f]) (vs := [v1, .ref f]) lk hcg Sg hr I1.env0 (hb s' [u1, .ref f] I1.kIn rfl) (.cons r1 (.cons rfl .nil)) rfl fun hr' => ?_
    refine (fun ⟨t, h1, h2⟩ => ⟨t, h1.nox, h2⟩) (hG f c' s' H1 Q v1 N (js.map (slotAt σ)) tb (fun e es t p1 p2 ha he hp => pe_lamact S (hbind _ _ _ _ _) hf hfn hfs C hr' (fun A outer s H hr2 => hbody A outer s H _ _ rfl hr2) hNg hva ha hd hcd he hp) hco (h H1 eN T1))
  refine wpAny_call (codeAny_mono rc fun r s2 hq => ?_)
  cases r with
  | error e => exact (show False from hq).elim
  | ok fl =>
    cases fl with
    | ret u => exact I1.after hq
    | next => exact False.elim hq
    | brk => exact False.elim hq
    | cont => exact False.elim hq
end Bh

set_option Elab.async false
set_option linter.all false
set_option maxRecDepth 100000
namespace Bh
open PySem PySem.Spec PyProof.Rows L2
/-! ### lines of cases: the mirror -/
def lettersD : Str := "abcdefghijklmnopqrstuvwxyz0123456789"
def wordB (w z : Str) : Bool := decide (1 ≤ w.length ∧ w.length ≤ 8) && (TL.tl w).all (fun c => decide (c ∈ TL.tl z))
def lineT (t : Tst) : Str := t.1 ++ t.2.1 ++ t.2.2
def lineS (s : Stp) : Str := if s.2 = "+" then s.1 ++ "+" else s.1 ++ ":" ++ s.2
def leftL (ts : List Tst) : Str := if ts = [] then "always" else Txt.join " and " (ts.map lineT)
def rightL : Option (List Stp) → Str
  | none => "drop"
  | some ss => if ss = [] then "keep" else Txt.join ", " (ss.map lineS)
def lineC (c : Cas) : Str := "when " ++ leftL c.1 ++ " do " ++ rightL c.2
def seqO {α : Type} : List (Option α) → Option (List α)
  | [] => some []
  | none :: _ => none
  | some x :: r => (seqO r).map (x :: ·)
def allR {α : Type} (l : List (Option α)) : Option (List α) := if l.length ≤ 6 then seqO l else none
def tryT (part s : Str) : Option Tst := if (wordB (Txt.partition part s).1 letters && wordB (Txt.partition part s).2.2 lettersD) = true then some ((Txt.partition part s).1, s, (Txt.partition part s).2.2) else none
def readT (part : Str) : Option Tst := signs.findSome? (tryT part)
def readS (part : Str) : Option Stp :=
  if Txt.endswith part "+" = true then (if wordB (Txt.removesuffix part "+") letters = true then some (Txt.removesuffix part "+", "+") else none)
  else if (wordB (Txt.partition part ":").1 letters && wordB (Txt.partition part ":").2.2 lettersD) = true then some ((Txt.partition part ":").1, (Txt.partition part ":").2.2) else none
def readTs (x : Str) : Option (List Tst) := if x = "always" then some [] else allR ((Txt.split x " and ").map readT)
def readSs (x : Str) : Option (List Stp) := if x = "keep" then some [] else allR ((Txt.split x ", ").map readS)
def readP (before behind : Str) : Option Cas := match readTs before with
  | none => none
  | some ts => if behind = "drop" then some (ts, none) else match readSs behind with
    | none => none
    | some ss => some (ts, some ss)
def readC (l : Str) : Option Cas := if Txt.startswith l "when " = true then readP (Txt.partition (Txt.removeprefix l "when ") " do ").1 (Txt.partition (Txt.removeprefix l "when ") " do ").2.2 else none
/-! what a case is -/
def OkT (t : Tst) : Prop := wordB t.1 letters = true ∧ t.2.1 ∈ signs ∧ wordB t.2.2 lettersD = true
def OkS (s : Stp) : Prop := wordB s.1 letters = true ∧ (s.2 = "+" ∨ wordB s.2 lettersD = true)
structure OkC (c : Cas) : Prop where
  n : c.1.length ≤ 6
  t : ∀ t ∈ c.1, OkT t
  m : ∀ ss, c.2 = some ss → ss.length ≤ 6
  s : ∀ ss, c.2 = some ss → ∀ s ∈ ss, OkS s
/-! words -/
theorem app_assoc (a b c : Str) : a ++ b ++ c = a ++ (b ++ c) := TL.ext_tl (by rw [TL.tl_append, TL.tl_append, TL.tl_append, TL.tl_append, List.append_assoc])
theorem word_len {w z : Str} (h : wordB w z = true) : 1 ≤ w.length ∧ w.length ≤ 8 := of_decide_eq_true (Bool.and_eq_true_iff.mp h).1
theorem word_mem {w z : Str} (h : wordB w z = true) : ∀ c ∈ TL.tl w, c ∈ TL.tl z := fun c hc => of_decide_eq_true (List.all_eq_true.mp (Bool.and_eq_true_iff.mp h).2 c hc)
theorem word_mk {w z : Str} (h1 : 1 ≤ w.length) (h2 : w.length ≤ 8) (h : ∀ c ∈ TL.tl w, c ∈ TL.tl z) : wordB w z = true :=
  Bool.and_eq_true_iff.mpr ⟨decide_eq_true ⟨h1, h2⟩, List.all_eq_true.mpr fun c hc => decide_eq_true (h c hc)⟩
theorem let_letD : ∀ c ∈ TL.tl letters, c ∈ TL.tl lettersD := by decide +kernel
theorem word_letD {w : Str} (h : wordB w letters = true) : wordB w lettersD = true := word_mk (word_len h).1 (word_len h).2 fun c hc => let_letD c (word_mem h c hc)
theorem word_free {w : Str} {c : Nat} (h : wordB w lettersD = true) (hc : c ∉ TL.tl lettersD) : c ∉ TL.tl w := fun z => hc (word_mem h c z)
theorem nm_word {w : Str} (h : IsNm w) : wordB w letters = true := word_mk h.lo h.hi fun c hc => by
  have key : ∀ k : _root_.Fin 26, 97 + k.val ∈ TL.tl letters := by decide +kernel
  obtain ⟨a, b⟩ := h.az c hc
  have q := key ⟨c - 97, by omega⟩
  rw [show 97 + (⟨c - 97, by omega⟩ : _root_.Fin 26).val = c by show 97 + (c - 97) = c; omega] at q
  exact q
theorem pool_word : ∀ o ∈ pool, wordB o lettersD = true := by decide +kernel
theorem empty_word (z : Str) : wordB Str.empty z = false := rfl
theorem nin (c : Nat) (h : c ∉ TL.tl lettersD) {a : Str} (ha : wordB a letters = true) : c ∉ TL.tl a := word_free (word_letD ha) h
/-! partition -/
theorem par_spec {S : List Nat} : ∀ {l acc a b : List Nat}, TL.par S acc l = some (a, b) → acc ++ l = a ++ (S ++ b)
  | [], acc, a, b, h => by cases h
  | c :: r, acc, a, b, h => by
    by_cases hp : TL.pre S (c :: r) = true
    · rw [TL.par_hit hp] at h
      cases h
      have e : (c :: r).take S.length = S := eq_of_beq hp
      conv =>
        lhs
        rw [← List.take_append_drop S.length (c :: r), e]
    · rw [TL.par_miss (Bool.eq_false_iff.mpr hp)] at h
      have q := par_spec h
      rw [← q, List.append_assoc]
      rfl
theorem part_cases (x y : Str) (hy : TL.tl y ≠ []) : (∃ a b, Txt.partition x y = (a, y, b) ∧ x = a ++ y ++ b) ∨ Txt.partition x y = (x, Str.empty, Str.empty) := by
  rw [TL.partition_par x y hy]
  cases h : TL.par (TL.tl y) [] (TL.tl x) with
  | none => exact .inr rfl
  | some p =>
    obtain ⟨a, b⟩ := p
    refine .inl ⟨_, _, rfl, TL.ext_tl ?_⟩
    have q := par_spec h
    rw [TL.tl_append, TL.tl_append, List.append_assoc]
    exact q
/-! prefixes, suffixes -/
theorem at0 {x y : Str} : Builtin.Str.subAt x y 0 = true ↔ (TL.tl x).take (TL.tl y).length = TL.tl y := by
  rw [StrLaws.subAt_eq, List.drop_zero, TL.len_tl y]
  exact ⟨fun h => eq_of_beq h, fun h => by rw [h]; exact beq_self_eq_true _⟩
theorem starts_app (y a : Str) : Txt.startswith (y ++ a) y = true := by
  unfold Txt.startswith
  rw [at0.mpr (by rw [TL.tl_append, List.take_left]), decide_eq_true (by rw [TL.len_tl, TL.len_tl, TL.tl_append, List.length_append]; omega)]
  rfl
theorem removeprefix_app (y a : Str) : Txt.removeprefix (y ++ a) y = a := by
  have h := starts_app y a
  unfold Txt.startswith at h
  rw [StrLaws.removeprefix_eq, if_pos h]
  refine TL.ext_tl ?_
  show List.take _ (List.drop _ (TL.tl (y ++ a))) = TL.tl a
  rw [TL.len_tl, TL.len_tl, TL.tl_append, List.drop_left, List.length_append]
  exact List.take_of_length_le (by omega)
theorem prefix_spec {x y : Str} (h : Txt.startswith x y = true) : x = y ++ Txt.removeprefix x y := by
  unfold Txt.startswith at h
  rw [StrLaws.removeprefix_eq, if_pos h]
  have h1 := at0.mp (Bool.and_eq_true_iff.mp h).2
  refine TL.ext_tl ?_
  rw [TL.tl_append]
  show _ = TL.tl y ++ List.take _ (List.drop _ (TL.tl x))
  rw [TL.len_tl, TL.len_tl, List.take_of_length_le (by rw [List.length_drop]; exact Nat.le_refl _)]
  conv =>
    lhs
    rw [← List.take_append_drop (TL.tl y).length (TL.tl x), h1]
theorem ends_app (a y : Str) : Txt.endswith (a ++ y) y = true := by
  unfold Txt.endswith
  have e : Builtin.Str.subAt (a ++ y) y ((a ++ y).length - y.length) = true := by
    rw [StrLaws.subAt_eq, TL.len_tl, TL.len_tl]
    show ((TL.tl (a ++ y)).drop _).take _ == TL.tl y
    rw [TL.tl_append, List.length_append, Nat.add_sub_cancel, List.drop_left, List.take_length]
    exact beq_self_eq_true _
  rw [e, decide_eq_true (by rw [TL.len_tl, TL.len_tl, TL.tl_append, List.length_append]; omega)]
  rfl
theorem removesuffix_app (a y : Str) : Txt.removesuffix (a ++ y) y = a := by
  have h := ends_app a y
  unfold Txt.endswith at h
  rw [StrLaws.removesuffix_eq, if_pos h]
  refine TL.ext_tl ?_
  show List.take _ (List.drop 0 (TL.tl (a ++ y))) = TL.tl a
  rw [TL.len_tl, TL.len_tl, TL.tl_append, List.drop_zero, List.length_append, Nat.add_sub_cancel, Nat.sub_zero, List.take_left]
theorem suffix_spec {x y : Str} (h : Txt.endswith x y = true) : x = Txt.removesuffix x y ++ y := by
  unfold Txt.endswith at h
  rw [StrLaws.removesuffix_eq, if_pos h]
  have h1 := (Bool.and_eq_true_iff.mp h).2
  rw [StrLaws.subAt_eq] at h1
  have h2 : (List.drop (x.length - y.length) (TL.tl x)).take y.length = TL.tl y := eq_of_beq h1
  have h3 : 0 + y.length ≤ x.length := of_decide_eq_true (Bool.and_eq_true_iff.mp h).1
  refine TL.ext_tl ?_
  rw [TL.tl_append]
  show _ = List.take _ (List.drop 0 (TL.tl x)) ++ TL.tl y
  rw [← h2, List.drop_zero, Nat.sub_zero, List.take_of_length_le (l := List.drop _ _) (by rw [List.length_drop, ← TL.len_tl]; omega), List.take_append_drop]
theorem mem_app {c : Nat} {a b : Str} : c ∈ TL.tl (a ++ b) ↔ c ∈ TL.tl a ∨ c ∈ TL.tl b := by rw [TL.tl_append]; exact List.mem_append
theorem ends_mem {x y : Str} {c : Nat} (h : Txt.endswith x y = true) (hc : c ∈ TL.tl y) : c ∈ TL.tl x := by
  rw [suffix_spec h]
  exact mem_app.mpr (.inr hc)
/-! one test, one step -/
theorem sign_nl : ∀ s ∈ signs, ∀ c ∈ TL.tl s, c ∉ TL.tl lettersD := by decide +kernel
theorem sign_one : ∀ s ∈ signs, ∃ c, TL.tl s = [c] := by
  intro s hs
  simp only [signs, List.mem_cons, List.not_mem_nil, or_false] at hs
  rcases hs with rfl | rfl | rfl | rfl <;> exact ⟨_, rfl⟩
theorem sign_ne : ∀ s ∈ signs, ∀ t ∈ signs, s ≠ t → ∀ c ∈ TL.tl s, c ∉ TL.tl t := by decide +kernel
theorem tryT_hit {t : Tst} (h : OkT t) : tryT (lineT t) t.2.1 = some t := by
  obtain ⟨h1, h2, h3⟩ := h
  obtain ⟨c, hc⟩ := sign_one _ h2
  have nl := sign_nl _ h2 c (by rw [hc]; exact List.mem_singleton.mpr rfl)
  have e : Txt.partition (lineT t) t.2.1 = (t.1, t.2.1, t.2.2) := TL.partition_app hc (nin c nl h1)
  unfold tryT
  rw [e]
  exact if_pos (Bool.and_eq_true_iff.mpr ⟨h1, h3⟩)
theorem tryT_miss {t : Tst} {s : Str} (h : OkT t) (hs : s ∈ signs) (ne : s ≠ t.2.1) : tryT (lineT t) s = none := by
  obtain ⟨h1, h2, h3⟩ := h
  obtain ⟨c, hc⟩ := sign_one _ hs
  have mc : c ∈ TL.tl s := by rw [hc]; exact List.mem_singleton.mpr rfl
  have nl := sign_nl _ hs c mc
  have nf : c ∉ TL.tl (lineT t) := fun z => by
    rcases mem_app.mp z with z | z
    · rcases mem_app.mp z with z | z
      · exact nin c nl h1 z
      · exact sign_ne _ hs _ h2 ne c mc z
    · exact word_free h3 nl z
  have e : Txt.partition (lineT t) s = (lineT t, Str.empty, Str.empty) := TL.partition_none hc nf
  unfold tryT
  rw [e]
  refine if_neg ?_
  rw [empty_word, Bool.and_false]
  exact Bool.false_ne_true
theorem find_one {α β : Type} (f : α → Option β) (y : β) : ∀ (l : List α) (x : α), x ∈ l → f x = some y → (∀ z ∈ l, z ≠ x → f z = none) → l.findSome? f = some y
  | [], x, h, _, _ => by cases h
  | a :: r, x, h, hx, hn => by
    by_cases e : a = x
    · rw [List.findSome?_cons, e, hx]
    · rw [List.findSome?_cons, hn a (List.mem_cons_self ..) e]
      rcases List.mem_cons.mp h with z | z
      · exact absurd z.symm e
      · exact find_one f y r x z hx fun w hw => hn w (List.mem_cons_of_mem _ hw)
theorem readT_line {t : Tst} (h : OkT t) : readT (lineT t) = some t := find_one _ _ signs t.2.1 h.2.1 (tryT_hit h) fun s hs ne => tryT_miss h hs ne
theorem readT_back {part : Str} {t : Tst} (h : readT part = some t) : lineT t = part ∧ OkT t := by
  obtain ⟨s, hs, e⟩ := List.exists_of_findSome?_eq_some h
  unfold tryT at e
  by_cases hw : (wordB (Txt.partition part s).1 letters && wordB (Txt.partition part s).2.2 lettersD) = true
  · rw [if_pos hw] at e
    cases e
    have hw2 := Bool.and_eq_true_iff.mp hw
    refine ⟨?_, hw2.1, hs, hw2.2⟩
    obtain ⟨c, hc⟩ := sign_one _ hs
    rcases part_cases part s (by rw [hc]; simp) with ⟨a, b, e1, e2⟩ | e1
    · rw [e1]
      exact e2.symm
    · rw [e1] at hw2
      exact absurd hw2.2 (by rw [empty_word]; exact Bool.false_ne_true)
  · rw [if_neg hw] at e
    cases e
theorem readS_line {s : Stp} (h : OkS s) : readS (lineS s) = some s := by
  obtain ⟨h1, h2⟩ := h
  obtain ⟨a, b⟩ := s
  by_cases e : b = "+"
  · subst e
    have el : lineS (a, "+") = a ++ "+" := if_pos rfl
    unfold readS
    rw [el, if_pos (ends_app a "+"), removesuffix_app]
    exact if_pos h1
  · have hb : wordB b lettersD = true := h2.resolve_left e
    have el : lineS (a, b) = a ++ ":" ++ b := if_neg e
    have nf : 43 ∉ TL.tl (a ++ ":" ++ b) := fun z => by
      rcases mem_app.mp z with z | z
      · rcases mem_app.mp z with z | z
        · exact nin 43 (by decide +kernel) h1 z
        · exact absurd z (by decide +kernel)
      · exact word_free hb (by decide +kernel) z
    have ne : ¬ Txt.endswith (a ++ ":" ++ b) "+" = true := fun z => nf (ends_mem z (by decide +kernel))
    have ep : Txt.partition (a ++ ":" ++ b) ":" = (a, (":" : Str), b) := TL.partition_app (y := ":") (s := 58) (S := []) rfl (nin 58 (by decide +kernel) h1)
    unfold readS
    rw [el, if_neg ne, ep]
    exact if_pos (Bool.and_eq_true_iff.mpr ⟨h1, hb⟩)
theorem readS_back {part : Str} {s : Stp} (h : readS part = some s) : lineS s = part ∧ OkS s := by
  unfold readS at h
  by_cases e : Txt.endswith part "+" = true
  · rw [if_pos e] at h
    by_cases hw : wordB (Txt.removesuffix part "+") letters = true
    · rw [if_pos hw] at h
      cases h
      refine ⟨?_, hw, .inl rfl⟩
      have q : lineS (Txt.removesuffix part "+", "+") = Txt.removesuffix part "+" ++ "+" := if_pos rfl
      rw [q]
      exact (suffix_spec e).symm
    · rw [if_neg hw] at h
      cases h
  · rw [if_neg e] at h
    by_cases hw : (wordB (Txt.partition part ":").1 letters && wordB (Txt.partition part ":").2.2 lettersD) = true
    · rw [if_pos hw] at h
      cases h
      have hw2 := Bool.and_eq_true_iff.mp hw
      refine ⟨?_, hw2.1, .inr hw2.2⟩
      have nb : (Txt.partition part ":").2.2 ≠ "+" := fun z => by
        rw [z] at hw2
        exact absurd hw2.2 (by decide +kernel)
      have q : lineS ((Txt.partition part ":").1, (Txt.partition part ":").2.2) = (Txt.partition part ":").1 ++ ":" ++ (Txt.partition part ":").2.2 := if_neg nb
      rw [q]
      rcases part_cases part ":" (by decide +kernel) with ⟨a, b, e1, e2⟩ | e1
      · rw [e1]
        exact e2.symm
      · rw [e1] at hw2
        exact absurd hw2.2 (by rw [empty_word]; exact Bool.false_ne_true)
    · rw [if_neg hw] at h
      cases h
/-! all of them -/
theorem seqO_some {α : Type} : ∀ l : List α, seqO (l.map some) = some l
  | [] => rfl
  | x :: r => by
    show (seqO (r.map some)).map (x :: ·) = _
    rw [seqO_some r]
    rfl
theorem seqO_back {α : Type} : ∀ {l : List (Option α)} {ys : List α}, seqO l = some ys → l = ys.map some
  | [], _, h => by cases h; rfl
  | none :: _, _, h => by cases h
  | some x :: r, ys, h => by
    have h' : (seqO r).map (x :: ·) = some ys := h
    cases e : seqO r with
    | none =>
      rw [e] at h'
      cases h'
    | some zs =>
      rw [e] at h'
      cases h'
      rw [seqO_back e]
      rfl
theorem allR_line {α : Type} {line : α → Str} {read : Str → Option α} {l : List α} (h : ∀ x ∈ l, read (line x) = some x) (n : l.length ≤ 6) : allR ((l.map line).map read) = some l := by
  have e : (l.map line).map read = l.map some := by
    rw [List.map_map]
    exact List.map_congr_left fun x hx => h x hx
  unfold allR
  rw [e, if_pos (by rw [List.length_map]; exact n), seqO_some]
theorem allR_back {α : Type} {line : α → Str} {read : Str → Option α} {Ok : α → Prop} {l : List Str} {ys : List α} (hb : ∀ p x, read p = some x → line x = p ∧ Ok x) (h : allR (l.map read) = some ys) : ys.map line = l ∧ ys.length ≤ 6 ∧ ∀ y ∈ ys, Ok y := by
  unfold allR at h
  by_cases hl : (l.map read).length ≤ 6
  · rw [if_pos hl] at h
    have q := seqO_back h
    have key : ∀ (l : List Str) (ys : List α), l.map read = ys.map some → ys.map line = l ∧ ∀ y ∈ ys, Ok y := by
      intro l
      induction l with
      | nil =>
        intro ys q
        cases ys with
        | nil => exact ⟨rfl, fun y hy => by cases hy⟩
        | cons y r => cases q
      | cons p r ih =>
        intro ys q
        cases ys with
        | nil => cases q
        | cons y ys =>
          rw [List.map_cons, List.map_cons] at q
          injection q with q1 q2
          obtain ⟨e1, e2⟩ := ih ys q2
          obtain ⟨f1, f2⟩ := hb p y q1
          refine ⟨by rw [List.map_cons, f1, e1], fun z hz => ?_⟩
          rcases List.mem_cons.mp hz with rfl | hz
          · exact f2
          · exact e2 z hz
    obtain ⟨e1, e2⟩ := key l ys q
    have hl2 : (ys.map some).length ≤ 6 := by
      rw [← q]
      exact hl
    rw [List.length_map] at hl2
    exact ⟨e1, hl2, e2⟩
  · rw [if_neg hl] at h
    cases h
theorem split_ne (x y : Str) : Txt.split x y ≠ [] := by
  unfold Txt.split
  split
  · simp
  · split
    · simp
    · intro h
      rw [StrLaws.partsBetween_eq] at h
      obtain ⟨p, q, e⟩ := StrLaws.partsFrom_ne x y.length 0 (Builtin.Str.occurrences x y 0 x.length (x.length + 1))
      rw [e] at h
      cases h
theorem join_mem {y : Str} {c : Nat} {p : Str} {r : List Str} (h : c ∈ TL.tl p) : c ∈ TL.tl (Txt.join y (p :: r)) := by
  rw [TL.join_eq]
  cases r with
  | nil => exact h
  | cons q r =>
    show c ∈ TL.tl (p ++ y ++ Str.join y (q :: r))
    exact mem_app.mpr (.inl (mem_app.mpr (.inl h)))

/-! the tests of a line, its steps -/
theorem lineT_free {t : Tst} (h : OkT t) : 32 ∉ TL.tl (lineT t) ∧ 3 ≤ (TL.tl (lineT t)).length := by
  obtain ⟨h1, h2, h3⟩ := h
  refine ⟨fun z => ?_, ?_⟩
  · rcases mem_app.mp z with z | z
    · rcases mem_app.mp z with z | z
      · exact nin 32 (by decide +kernel) h1 z
      · have key : ∀ s ∈ signs, 32 ∉ TL.tl s := by decide +kernel
        exact key _ h2 z
    · exact word_free h3 (by decide +kernel) z
  · obtain ⟨c, hc⟩ := sign_one _ h2
    have l1 := (word_len h1).1
    have l3 := (word_len h3).1
    rw [TL.len_tl] at l1 l3
    unfold lineT
    rw [TL.tl_append, TL.tl_append, hc, List.length_append, List.length_append]
    show 3 ≤ _ + 1 + _
    omega
theorem lineT_sign {t : Tst} (h : OkT t) : ∃ c ∈ ([61, 33, 60, 62] : List Nat), c ∈ TL.tl (lineT t) := by
  have key : ∀ s ∈ signs, ∃ c ∈ ([61, 33, 60, 62] : List Nat), c ∈ TL.tl s := by decide +kernel
  obtain ⟨c, h1, h2⟩ := key _ h.2.1
  exact ⟨c, h1, mem_app.mpr (.inl (mem_app.mpr (.inr h2)))⟩
theorem lineS_free {s : Stp} (h : OkS s) : 44 ∉ TL.tl (lineS s) ∧ 32 ∉ TL.tl (lineS s) ∧ ∃ c ∈ ([43, 58] : List Nat), c ∈ TL.tl (lineS s) := by
  obtain ⟨h1, h2⟩ := h
  obtain ⟨a, b⟩ := s
  by_cases e : b = "+"
  · subst e
    have el : lineS (a, "+") = a ++ "+" := if_pos rfl
    rw [el]
    refine ⟨fun z => ?_, fun z => ?_, 43, by decide, mem_app.mpr (.inr (by decide +kernel))⟩
    · rcases mem_app.mp z with z | z
      · exact nin 44 (by decide +kernel) h1 z
      · exact absurd z (by decide +kernel)
    · rcases mem_app.mp z with z | z
      · exact nin 32 (by decide +kernel) h1 z
      · exact absurd z (by decide +kernel)
  · have hb : wordB b lettersD = true := h2.resolve_left e
    have el : lineS (a, b) = a ++ ":" ++ b := if_neg e
    rw [el]
    refine ⟨fun z => ?_, fun z => ?_, 58, by decide, mem_app.mpr (.inl (mem_app.mpr (.inr (by decide +kernel))))⟩
    · rcases mem_app.mp z with z | z
      · rcases mem_app.mp z with z | z
        · exact nin 44 (by decide +kernel) h1 z
        · exact absurd z (by decide +kernel)
      · exact word_free hb (by decide +kernel) z
    · rcases mem_app.mp z with z | z
      · rcases mem_app.mp z with z | z
        · exact nin 32 (by decide +kernel) h1 z
        · exact absurd z (by decide +kernel)
      · exact word_free hb (by decide +kernel) z
theorem readTs_left {ts : List Tst} (h : ∀ t ∈ ts, OkT t) (n : ts.length ≤ 6) : readTs (leftL ts) = some ts := by
  unfold readTs leftL
  by_cases e : ts = []
  · subst e
    rfl
  · rw [if_neg e]
    have ne : Txt.join " and " (ts.map lineT) ≠ "always" := fun z => by
      cases ts with
      | nil => exact e rfl
      | cons t r =>
        obtain ⟨c, h1, h2⟩ := lineT_sign (h t (List.mem_cons_self ..))
        have q : c ∈ TL.tl (Txt.join " and " ((t :: r).map lineT)) := join_mem h2
        rw [z] at q
        have key : ∀ c ∈ ([61, 33, 60, 62] : List Nat), c ∉ TL.tl ("always" : Str) := by decide +kernel
        exact key c h1 q
    rw [if_neg ne, TL.split_join (y := " and ") (s := 32) (S := [97, 110, 100, 32]) (by decide +kernel) (by decide +kernel) (by simpa using e) (fun p hp => by
      obtain ⟨t, ht, rfl⟩ := List.mem_map.mp hp
      exact (lineT_free (h t ht)).1)]
    exact allR_line (fun t ht => readT_line (h t ht)) n
theorem readTs_back {x : Str} {ts : List Tst} (h : readTs x = some ts) : leftL ts = x ∧ ts.length ≤ 6 ∧ ∀ t ∈ ts, OkT t := by
  unfold readTs at h
  by_cases e : x = "always"
  · rw [if_pos e] at h
    cases h
    exact ⟨e.symm, by decide, fun t ht => by cases ht⟩
  · rw [if_neg e] at h
    obtain ⟨e1, e2, e3⟩ := allR_back (fun p t h => readT_back h) h
    refine ⟨?_, e2, e3⟩
    have ne : ts ≠ [] := fun z => by
      rw [z] at e1
      exact split_ne _ _ e1.symm
    unfold leftL
    rw [if_neg ne, e1, TL.join_eq, StrLaws.join_split]
theorem readSs_right {ss : List Stp} (h : ∀ s ∈ ss, OkS s) (n : ss.length ≤ 6) : readSs (rightL (some ss)) = some ss ∧ rightL (some ss) ≠ "drop" := by
  by_cases e : ss = []
  · subst e
    exact ⟨rfl, by decide +kernel⟩
  · have eR : rightL (some ss) = Txt.join ", " (ss.map lineS) := if_neg e
    rw [eR]
    have key : ∃ c ∈ ([43, 58] : List Nat), c ∈ TL.tl (Txt.join ", " (ss.map lineS)) := by
      cases ss with
      | nil => exact absurd rfl e
      | cons s r =>
        obtain ⟨_, _, c, h1, h2⟩ := lineS_free (h s (List.mem_cons_self ..))
        exact ⟨c, h1, join_mem h2⟩
    obtain ⟨c, h1, h2⟩ := key
    have nk : Txt.join ", " (ss.map lineS) ≠ "keep" := fun z => by
      rw [z] at h2
      have key : ∀ c ∈ ([43, 58] : List Nat), c ∉ TL.tl ("keep" : Str) := by decide +kernel
      exact key c h1 h2
    refine ⟨?_, fun z => ?_⟩
    · unfold readSs
      rw [if_neg nk, TL.split_join (y := ", ") (s := 44) (S := [32]) (by decide +kernel) (by decide +kernel) (by simpa using e) (fun p hp => by
        obtain ⟨s, hs, rfl⟩ := List.mem_map.mp hp
        exact (lineS_free (h s hs)).1)]
      exact allR_line (fun s hs => readS_line (h s hs)) n
    · rw [z] at h2
      have key : ∀ c ∈ ([43, 58] : List Nat), c ∉ TL.tl ("drop" : Str) := by decide +kernel
      exact key c h1 h2
theorem readSs_back {x : Str} {ss : List Stp} (h : readSs x = some ss) : rightL (some ss) = x ∧ ss.length ≤ 6 ∧ ∀ s ∈ ss, OkS s := by
  unfold readSs at h
  by_cases e : x = "keep"
  · rw [if_pos e] at h
    cases h
    exact ⟨e.symm, by decide, fun t ht => by cases ht⟩
  · rw [if_neg e] at h
    obtain ⟨e1, e2, e3⟩ := allR_back (fun p t h => readS_back h) h
    refine ⟨?_, e2, e3⟩
    have ne : ss ≠ [] := fun z => by
      rw [z] at e1
      exact split_ne _ _ e1.symm
    show (if ss = [] then ("keep" : Str) else Txt.join ", " (ss.map lineS)) = x
    rw [if_neg ne, e1, TL.join_eq, StrLaws.join_split]
/-! the whole line -/
theorem par_skip {s : Nat} {S : List Nat} : ∀ {p l acc : List Nat}, s ∉ p → TL.par (s :: S) acc (p ++ l) = TL.par (s :: S) (acc ++ p) l
  | [], l, acc, _ => by rw [List.append_nil]; rfl
  | c :: r, l, acc, h => by
    show TL.par (s :: S) acc (c :: (r ++ l)) = _
    rw [TL.par_miss (TL.pre_of_head S (r ++ l) fun z => h (by rw [z]; exact List.mem_cons_self ..)), par_skip fun z => h (List.mem_cons_of_mem _ z), List.append_assoc]
    rfl
theorem pre_do {q l : List Nat} (h : 32 ∉ q) (n : 3 ≤ q.length) : TL.pre [32, 100, 111, 32] (32 :: (q ++ l)) = false := by
  match q, h, n with
  | a :: b :: c :: r, h, _ =>
    refine Bool.eq_false_iff.mpr fun z => ?_
    have e : (32 :: (a :: b :: c :: r ++ l)).take 4 = [32, 100, 111, 32] := eq_of_beq z
    have e2 : [32, a, b, c] = [32, 100, 111, 32] := e
    injection e2 with _ e2
    injection e2 with _ e2
    injection e2 with _ e2
    injection e2 with e2 _
    exact h (by rw [e2]; simp)
theorem par_tests : ∀ {parts : List (List Nat)} {acc rest : List Nat}, parts ≠ [] → (∀ p ∈ parts, 32 ∉ p ∧ 3 ≤ p.length) →
    TL.par [32, 100, 111, 32] acc (TL.joinL [32, 97, 110, 100, 32] parts ++ ([32, 100, 111, 32] ++ rest)) = some (acc ++ TL.joinL [32, 97, 110, 100, 32] parts, rest)
  | [], _, _, h, _ => absurd rfl h
  | [p], acc, rest, _, h => TL.par_part1 (h p (List.mem_singleton.mpr rfl)).1
  | p :: q :: r, acc, rest, _, h => by
    have hp := h p (List.mem_cons_self ..)
    have hq := h q (List.mem_cons_of_mem _ (List.mem_cons_self ..))
    have ih := par_tests (parts := q :: r) (acc := acc ++ p ++ [32, 97, 110, 100, 32]) (rest := rest) (by simp) (fun z hz => h z (List.mem_cons_of_mem _ hz))
    have ej : TL.joinL [32, 97, 110, 100, 32] (p :: q :: r) = p ++ ([32, 97, 110, 100, 32] ++ TL.joinL [32, 97, 110, 100, 32] (q :: r)) := rfl
    have eq1 : ∃ t, TL.joinL [32, 97, 110, 100, 32] (q :: r) = q ++ t := by
      cases r with
      | nil => exact ⟨[], (List.append_nil _).symm⟩
      | cons z r => exact ⟨_, rfl⟩
    obtain ⟨t, et⟩ := eq1
    rw [ej, List.append_assoc, par_skip hp.1, List.append_assoc]
    show TL.par [32, 100, 111, 32] (acc ++ p) (32 :: 97 :: 110 :: 100 :: 32 :: (TL.joinL [32, 97, 110, 100, 32] (q :: r) ++ ([32, 100, 111, 32] ++ rest))) = _
    rw [TL.par_miss rfl, TL.par_miss (TL.pre_of_head _ _ (by decide)), TL.par_miss (TL.pre_of_head _ _ (by decide)), TL.par_miss (TL.pre_of_head _ _ (by decide)),
      TL.par_miss (by rw [et, List.append_assoc]; exact pre_do hq.1 hq.2)]
    have ea : acc ++ p ++ [32] ++ [97] ++ [110] ++ [100] ++ [32] = acc ++ p ++ [32, 97, 110, 100, 32] := by simp
    rw [ea, ih]
    simp
theorem part_line {ts : List Tst} (h : ∀ t ∈ ts, OkT t) (b : Str) : Txt.partition (leftL ts ++ " do " ++ b) " do " = (leftL ts, (" do " : Str), b) := by
  by_cases e : ts = []
  · subst e
    exact TL.partition_app (y := " do ") (s := 32) (S := [100, 111, 32]) (by decide +kernel) (by decide +kernel)
  · have el : leftL ts = Txt.join " and " (ts.map lineT) := if_neg e
    have et : TL.tl (leftL ts) = TL.joinL [32, 97, 110, 100, 32] (ts.map (fun t => TL.tl (lineT t))) := by
      rw [el, TL.join_eq, TL.tl_join, List.map_map]
      rfl
    have hd : TL.tl (" do " : Str) = [32, 100, 111, 32] := by decide +kernel
    rw [TL.partition_par _ _ (by rw [hd]; simp), TL.tl_append, TL.tl_append, List.append_assoc, hd, et]
    have hq : ∀ p ∈ ts.map (fun t => TL.tl (lineT t)), 32 ∉ p ∧ 3 ≤ p.length := fun p hp => by
      obtain ⟨t, ht, rfl⟩ := List.mem_map.mp hp
      exact lineT_free (h t ht)
    rw [par_tests (acc := []) (rest := TL.tl b) (by simpa using e) hq]
    show ((⟨([] ++ _ : List Nat).toArray⟩ : Str), _, (⟨(TL.tl b).toArray⟩ : Str)) = _
    rw [List.nil_append, ← et, TL.mk_tl, TL.mk_tl]
/-- the line of a case, read -/
theorem readC_line {c : Cas} (h : OkC c) : readC (lineC c) = some c := by
  have e : lineC c = "when " ++ (leftL c.1 ++ " do " ++ rightL c.2) := by
    unfold lineC
    rw [app_assoc, app_assoc, app_assoc]
  unfold readC
  rw [e, if_pos (starts_app _ _), removeprefix_app, part_line h.t]
  unfold readP
  show (match readTs (leftL c.1) with | none => none | some ts => _) = _
  rw [readTs_left h.t h.n]
  obtain ⟨ts, so⟩ := c
  cases so with
  | none => rfl
  | some ss =>
    obtain ⟨e1, e2⟩ := readSs_right (h.s ss rfl) (h.m ss rfl)
    show (if rightL (some ss) = "drop" then _ else match readSs (rightL (some ss)) with | none => none | some ss => some (ts, some ss)) = _
    rw [if_neg e2, e1]
/-- a line that is read is the line of the case -/
theorem readC_back {l : Str} {c : Cas} (h : readC l = some c) : lineC c = l ∧ OkC c := by
  unfold readC at h
  by_cases e : Txt.startswith l "when " = true
  · rw [if_pos e] at h
    have el := prefix_spec e
    have key : ∀ {x y : Str} {c : Cas}, readP x y = some c → leftL c.1 = x ∧ rightL c.2 = y ∧ OkC c := by
      intro x y c hr
      unfold readP at hr
      cases e1 : readTs x with
      | none =>
        rw [e1] at hr
        cases hr
      | some ts =>
        rw [e1] at hr
        obtain ⟨a1, a2, a3⟩ := readTs_back e1
        have hr' : (if y = "drop" then some (ts, none) else match readSs y with | none => none | some ss => some (ts, some ss)) = some c := hr
        by_cases e2 : y = "drop"
        · rw [if_pos e2] at hr'
          cases hr'
          exact ⟨a1, e2.symm, a2, a3, (fun ss z => by cases z), (fun ss z => by cases z)⟩
        · rw [if_neg e2] at hr'
          cases e3 : readSs y with
          | none =>
            rw [e3] at hr'
            cases hr'
          | some ss =>
            rw [e3] at hr'
            cases hr'
            obtain ⟨b1, b2, b3⟩ := readSs_back e3
            exact ⟨a1, b1, a2, a3, (fun ss z => by cases z; exact b2), (fun ss z => by cases z; exact b3)⟩
    obtain ⟨k1, k2, k3⟩ := key h
    refine ⟨?_, k3⟩
    rcases part_cases (Txt.removeprefix l "when ") " do " (by decide +kernel) with ⟨a, b, p1, p2⟩ | p1
    · rw [p1] at k1 k2
      unfold lineC
      rw [k1, k2, app_assoc, app_assoc, ← app_assoc a, ← p2]
      exact el.symm
    · rw [p1] at h
      have hx : readSs (Str.empty) = none := by decide +kernel
      have hy : ¬ (Str.empty : Str) = "drop" := by decide +kernel
      unfold readP at h
      cases e1 : readTs (Txt.removeprefix l "when ") with
      | none =>
        rw [e1] at h
        cases h
      | some ts =>
        rw [e1] at h
        have h' : (if (Str.empty : Str) = "drop" then some (ts, none) else match readSs Str.empty with | none => none | some ss => some (ts, some ss)) = some c := h
        rw [if_neg hy, hx] at h'
        cases h'
  · rw [if_neg e] at h
    cases h
end Bh

set_option Elab.async false
set_option linter.all false
set_option maxRecDepth 100000
namespace Bh
open PySem PySem.Spec PyProof.Rows L2
/-! ### the parts of a rulebook as data -/
/-- a statement that is never reached -/
theorem ps_dead {X : Cx} {st : Stmt} : PS X st (fun _ _ _ => False) := ⟨fun _ _ _ _ _ _ h => h.elim⟩
theorem pa_starK {X : Cx} {K : PySem.W.Frag} {e : Expr} {es : List Expr} {te : TE} {t : TA} {p : Pos} (hK : X.K = K) (he : PE X e te) (hr : PA X es t) (hs : starEach (.Starred e p :: es) X.env = (true, eval e X.env) :: starEach es X.env := by rfl) : PA X (.Starred e p :: es) (StX.tStar K te t) := by
  subst hK
  exact StX.pa_star he hr hs
theorem pe_dead {X : Cx} {e : Expr} : PE X e (fun _ _ _ => False) := ⟨fun _ _ _ _ _ _ h => h.elim⟩
theorem iteB {b : Bool} {A B : Prop} (h1 : b = true → A) (h2 : b = false → B) : if b = true then A else B := by
  cases b
  · exact h2 rfl
  · exact h1 rfl
/-- a walk, whatever is done at each turn -/
theorem walk_out {J : It} {n : Nat} {G : Hp → Prop} {Y : Nat → Hp → V → Hp → Prop} (w : Walk J n G Y) {B : V → Hp → (Hp → Prop) → Prop} {H0 : Hp} {Qd : Hp → Prop} (Pv : Nat → Hp → Prop) (h0 : Pv 0 H0) (hG : ∀ i H, i ≤ n → Pv i H → G H)
    (hs : ∀ i x H H', i < n → Pv i H → Y i H x H' → B x H' (Pv (i + 1))) (hd : ∀ H, Pv n H → Qd H) :
    ∃ W : Nat → Nat → Hp → Prop, (∃ m, W 0 m H0) ∧ ∀ i m H, W i m H → (J.stop i H ∧ Qd H) ∨ (J.go i H ∧ ∃ Nx : Hp → Prop, (∀ H', Nx H' → ∃ m', m' < m ∧ W (i + 1) m' H') ∧ ∀ x H', J.yld i H x H' → B x H' Nx) := by
  refine ⟨fun i m H => m + i = n ∧ Pv i H, ⟨n, by omega, h0⟩, ?_⟩
  rintro i m H ⟨em, p⟩
  by_cases hi : i < n
  · refine .inr ⟨w.goes i H hi (hG i H (by omega) p), Pv (i + 1), fun H' p' => ⟨m - 1, by omega, by omega, p'⟩, fun x H' y => hs i x H H' hi p (w.yields i H x H' hi (hG i H (by omega) p) y)⟩
  · obtain rfl : i = n := by omega
    exact .inl ⟨w.stops H (hG i H (Nat.le_refl _) p), hd H p⟩
/-- a comprehension of which all items come out true -/
theorem lc_trues {J : It} {n : Nat} {G : Hp → Prop} {xs : List V} (wk : Walk J n G (YAt xs)) {H : Hp} {D : Addr} {g : TG} {te : TE} {vs : List Nat} {σ : L2.St} {Qd : Hp → Prop} (nD : H D = none) (hn : n ≤ 100000) (hG : ∀ H', Same H H' → G H')
    (hs : ∀ (i : Nat) (x : V) (H' : Hp) (R : V → Hp → Prop) (R' : Hp → Prop), xs[i]? = some x → Same H H' → (∀ H4, Same H' H4 → R (.bl true) H4) → g x (wipe σ vs) H' fun σ2 H2 => wipe σ2 vs = wipe σ vs ∧ tYes σ2 H2 fun b H3 => if b = true then te σ2 H3 R else R' H3)
    (hd : ∀ H', Same H H' → H' D = some (.lst ((List.replicate n true).map V.bl)) → Qd H') :
    ∃ W : Nat → Nat → Hp → Prop, (∃ m, W 0 m (upd H D (.lst []))) ∧ ∀ i m H, W i m H →
      (J.stop i H ∧ Qd H) ∨ (J.go i H ∧ ∃ Nx : Hp → Prop, (∀ H', Nx H' → ∃ m', m' < m ∧ W (i + 1) m' H') ∧ ∀ x H', J.yld i H x H' → g x (wipe σ vs) H' fun σ2 H2 => wipe σ2 vs = wipe σ vs ∧ tYes σ2 H2 fun b H3 =>
        if b = true then te σ2 H3 fun y H4 => ∃ acc, H4 D = some (.lst acc) ∧ acc.length < sizeLine ∧ Nx (upd H4 D (.lst (acc ++ [y]))) else Nx H3) := by
  refine lc_it wk (fun i H' => Same H H' ∧ H' D = some (.lst ((List.replicate i true).map V.bl))) ⟨same_new nD, upd_same⟩ (fun i H' _ p => hG H' p.1) ?_ ?_
  · rintro i x H' H'' hi ⟨s1, hDl⟩ ⟨rfl, ey⟩
    refine hs i x H'' _ _ ey s1 fun H4 s4 => ⟨_, s4 _ _ hDl, ?_, same_mut (s1.trans s4) nD, ?_⟩
    · rw [List.length_map, List.length_replicate]
      exact lt_line (by omega)
    · rw [upd_same, List.replicate_succ', List.map_append]
      rfl
  · rintro H' ⟨s1, hDl⟩
    exact hd H' s1 hDl
/-- the same over pairs that the walk makes -/
theorem lc_truesP {J : It} {n : Nat} {G : Hp → Prop} {xs ys : Nat → Option V} (wk : Walk J n G (YPair xs ys)) {H : Hp} {D : Addr} {g : TG} {te : TE} {vs : List Nat} {σ : L2.St} {Qd : Hp → Prop} (nD : H D = none) (hn : n ≤ 100000) (hG : ∀ H', Same H H' → G H')
    (hs : ∀ (i : Nat) (x y : V) (T : Addr) (H' : Hp) (R : V → Hp → Prop) (R' : Hp → Prop), xs i = some x → ys i = some y → Same H H' → H' T = none → (∀ H4, Same (upd H' T (.tup [x, y])) H4 → R (.bl true) H4) →
      g (.ref T) (wipe σ vs) (upd H' T (.tup [x, y])) fun σ2 H2 => wipe σ2 vs = wipe σ vs ∧ tYes σ2 H2 fun b H3 => if b = true then te σ2 H3 R else R' H3)
    (hd : ∀ H', Same H H' → H' D = some (.lst ((List.replicate n true).map V.bl)) → Qd H') :
    ∃ W : Nat → Nat → Hp → Prop, (∃ m, W 0 m (upd H D (.lst []))) ∧ ∀ i m H, W i m H →
      (J.stop i H ∧ Qd H) ∨ (J.go i H ∧ ∃ Nx : Hp → Prop, (∀ H', Nx H' → ∃ m', m' < m ∧ W (i + 1) m' H') ∧ ∀ x H', J.yld i H x H' → g x (wipe σ vs) H' fun σ2 H2 => wipe σ2 vs = wipe σ vs ∧ tYes σ2 H2 fun b H3 =>
        if b = true then te σ2 H3 fun y H4 => ∃ acc, H4 D = some (.lst acc) ∧ acc.length < sizeLine ∧ Nx (upd H4 D (.lst (acc ++ [y]))) else Nx H3) := by
  refine lc_it wk (fun i H' => Same H H' ∧ H' D = some (.lst ((List.replicate i true).map V.bl))) ⟨same_new nD, upd_same⟩ (fun i H' _ p => hG H' p.1) ?_ ?_
  · rintro i z H' H'' hi ⟨s1, hDl⟩ ⟨T, x, y, rfl, nT, rfl, ex, ey⟩
    have sT : Same H' (upd H' T (.tup [x, y])) := same_new nT
    refine hs i x y T H' _ _ ex ey s1 nT fun H4 s4 => ⟨_, s4 _ _ (sT _ _ hDl), ?_, same_mut (s1.trans (sT.trans s4)) nD, ?_⟩
    · rw [List.length_map, List.length_replicate]
      exact lt_line (by omega)
    · rw [upd_same, List.replicate_succ', List.map_append]
      rfl
  · rintro H' ⟨s1, hDl⟩
    exact hd H' s1 hDl
/-- an item whose first part is the name n -/
def HdAt (K : PySem.W.Frag) (H : Hp) (v : V) (n : Str) : Prop := ∃ t r, v = .ref t ∧ SqT K H t (.str n :: r)
theorem HdAt.mono {K : PySem.W.Frag} {H H' : Hp} (e : Same H H') {v : V} {n : Str} (h : HdAt K H v n) : HdAt K H' v n := by
  obtain ⟨t, r, h1, h2⟩ := h
  exact ⟨t, r, h1, Same.tup e h2⟩
/-- a list or a tuple of items with these names -/
def HdS (K : PySem.W.Frag) (H : Hp) (v : V) (ns : List Str) : Prop := ∃ a xs, v = .ref a ∧ (SqL K H a xs ∨ SqT K H a xs) ∧ Paired (HdAt K H) xs ns
theorem HdS.mono {K : PySem.W.Frag} {H H' : Hp} (e : Same H H') {v : V} {ns : List Str} (h : HdS K H v ns) : HdS K H' v ns := by
  obtain ⟨a, xs, h1, h2, h3⟩ := h
  exact ⟨a, xs, h1, seq_mono e h2, h3.mono fun _ _ z => z.mono e⟩
/-- data whose first part is a name -/
def hdN : PyData → Str
  | .tuple (.str n :: _) => n
  | _ => ""
def Named (d : PyData) : Prop := ∃ n r, d = .tuple (.str n :: r)
theorem hdAt_of {K : PySem.W.Frag} {H : Hp} {v : V} {d : PyData} (h : Dp K H v d) (n : Named d) : HdAt K H v (hdN d) := by
  obtain ⟨n, r, rfl⟩ := n
  obtain ⟨a, xs, rfl, h1, h2⟩ := dp_tup h
  obtain ⟨x, y, rfl, h3, _⟩ := dpa_cons h2
  rw [dp_str h3] at h1
  exact ⟨a, y, rfl, h1⟩
theorem hds_of {K : PySem.W.Frag} {H : Hp} : ∀ {xs : List V} {ds : List PyData}, DpAll K H xs ds → (∀ d ∈ ds, Named d) → Paired (HdAt K H) xs (ds.map hdN)
  | _, _, .nil, _ => .nil
  | _, _, .cons h t, n => .cons (hdAt_of h (n _ (List.mem_cons_self ..))) (hds_of t fun d hd => n d (List.mem_cons_of_mem _ hd))
theorem HdS.of {K : PySem.W.Frag} {H : Hp} {v : V} {ds : List PyData} (h : DpS K H v ds) (n : ∀ d ∈ ds, Named d) : HdS K H v (ds.map hdN) := by
  obtain ⟨a, xs, h1, h2, h3⟩ := h
  exact ⟨a, xs, h1, h2, hds_of h3 n⟩
theorem named_dF (f : Fld) : Named (dF f) := ⟨_, _, rfl⟩
theorem IsNm.word {w : Str} (h : IsNm w) : wordB w letters = true := by
  unfold wordB
  rw [decide_eq_true (show 1 ≤ w.length ∧ w.length ≤ 8 from ⟨h.lo, h.hi⟩), Bool.true_and, List.all_eq_true]
  intro c hc
  have ⟨h1, h2⟩ := h.az c hc
  have key : ∀ c, 97 ≤ c → c ≤ 122 → c ∈ TL.tl letters := by
    intro c a b
    have : c = 97 ∨ c = 98 ∨ c = 99 ∨ c = 100 ∨ c = 101 ∨ c = 102 ∨ c = 103 ∨ c = 104 ∨ c = 105 ∨ c = 106 ∨ c = 107 ∨ c = 108 ∨ c = 109 ∨ c = 110 ∨ c = 111 ∨ c = 112 ∨ c = 113 ∨ c = 114 ∨ c = 115 ∨ c = 116 ∨ c = 117 ∨ c = 118 ∨ c = 119 ∨ c = 120 ∨ c = 121 ∨ c = 122 := by omega
    rcases this with rfl | rfl | rfl | rfl | rfl | rfl | rfl | rfl | rfl | rfl | rfl | rfl | rfl | rfl | rfl | rfl | rfl | rfl | rfl | rfl | rfl | rfl | rfl | rfl | rfl | rfl <;> decide +kernel
  exact decide_eq_true (key c h1 h2)
theorem in_strs (x : Str) (l : List Str) : inV (.str x) (l.map V.str) = decide (x ∈ l) := by
  unfold inV
  rw [List.any_map, Bool.eq_iff_iff, List.any_eq_true, decide_eq_true_iff]
  constructor
  · rintro ⟨y, hy, e⟩
    have e : eqV (.str y) (.str x) = true := e
    rw [eqV_str] at e
    rw [← of_decide_eq_true e]
    exact hy
  · intro h
    refine ⟨x, h, ?_⟩
    show eqV (.str x) (.str x) = true
    rw [eqV_str]
    exact decide_eq_true rfl
/-- ties, kinds -/
def dP (p : List Cas) : PyData := .tuple (p.map dC)
abbrev Tie := Str × List Cas
def dTie (t : Tie) : PyData := .tuple [.str t.1, dP t.2]
structure Knd where
  name : Str
  keys : List (Str × Str)
  taking : Option (List Cas)
  birth : Option (List Str)
def dKey (k : Str × Str) : PyData := .tuple [.str k.1, .str k.2]
def dOP : Option (List Cas) → PyData
  | none => .none
  | some p => dP p
def dKnd (k : Knd) : PyData := .tuple [.str k.name, .tuple (k.keys.map dKey), dOP k.taking, dH k.birth]
theorem named_dTie (t : Tie) : Named (dTie t) := ⟨_, _, rfl⟩
theorem named_dKnd (k : Knd) : Named (dKnd k) := ⟨_, _, rfl⟩
/-- a case as a rulebook asks it -/
structure OkCas (fs : List Fld) (c : Cas) : Prop where
  fit : FitC fs c
  nt : c.1.length ≤ 6
  ns : ∀ ss, c.2 = some ss → ss.length ≤ 6
  sg : ∀ t ∈ c.1, t.2.1 ∈ signs
structure OkPrg (fs : List Fld) (p : List Cas) : Prop where
  lo : 1 ≤ p.length
  hi : p.length ≤ 8
  all : ∀ c ∈ p, OkCas fs c
structure OkKeys (fs : List Fld) (ks : List (Str × Str)) : Prop where
  hi : ks.length ≤ fs.length
  nd : (ks.map (·.1)).Nodup
  all : ∀ k ∈ ks, k.1 ∈ fs.map (·.1) ∧ (k.2 = "+" ∨ k.2 = "-")
structure OkKnd (fs : List Fld) (k : Knd) : Prop where
  nm : IsNm k.name
  ks : OkKeys fs k.keys
  tk : ∀ p, k.taking = some p → OkPrg fs p
  bt : ∀ v, k.birth = some v → FitV fs v
end Bh

set_option Elab.async false
set_option linter.all false
set_option maxRecDepth 100000
namespace Bh
open PySem PySem.Spec PyProof.Rows L2
/-! ### a caught exception, known in the heap: what reads it may stand in another def -/
def exz (a : Addr) (cls : Value) (d : Option Addr) : HO := .ext fun h => ∃ (o : Obj) (vs : Array Value), h.get? a = some o ∧ Zc cls d o ∧ o.data = .fields vs
theorem exz_ok {P : Program} {w : World} {H : Hp} {h : Heap} {a : Addr} {cls : Value} {d : Option Addr} {o : Obj} {vs : Array Value} (e : h.get? a = some o) (z : Zc cls d o) (f : o.data = .fields vs) : ObjOk P w H h a (exz a cls d) :=
  ⟨⟨o, vs, e, z, f⟩, ⟨o, e⟩, fun _ _ y k => by
    obtain ⟨p, us, q, r⟩ := y
    exact ⟨p, us, k p q, r⟩⟩
theorem exz_at {P : Program} {w : World} {H : Hp} {h : Heap} {a : Addr} {cls : Value} {d : Option Addr} (ok : HOk P w H h) (e : H a = some (exz a cls d)) : ∃ (o : Obj) (vs : Array Value), h.get? a = some o ∧ Zc cls d o ∧ o.data = .fields vs := by
  have z : ObjOk P w H h a (.ext fun g => ∃ (o : Obj) (vs : Array Value), g.get? a = some o ∧ Zc cls d o ∧ o.data = .fields vs) := ok a _ e
  exact z.1
/-- e.n, e a caught exception that is known -/
def tXz (K : PySem.W.Frag) (n : Str) (te : TE) : TE := fun σ H Q => te σ H fun x H1 => ∃ (a C dd : Addr) (fs : List (Str × V)) (v : V), x = .ref a ∧ H1 a = some (exz a (.ref C) (some dd)) ∧ XfC K C ∧ PySem.W.findIn K (.ref C) n = some none ∧ H1 dd = some (.xd fs) ∧ fs.lookup n = some v ∧ Q v H1
theorem pe_xz {X : Cx} {e : Expr} {te : TE} {pos : Pos} {n : Str} (he : PE X e te) (hb : attributeBase e n X.env (eval e X.env) = eval e X.env := by rfl) : PE X (.Attribute e n pos) (tXz X.K n te) := by
  refine ⟨fun pins s σ H Q I h => attr_of hb (thn (he.run pins s σ H _ I h) fun u s1 hu => ?_)⟩
  obtain ⟨x, H1, J, rx, a, C, dd, fs, v, rfl, ea, xf, no, ed, lk, q⟩ := hu
  cases rx
  obtain ⟨o, vs, g, z, f⟩ := exz_at J.hok ea
  have kd : ObjOk X.prog X.w H1 s1.heap dd (.xd fs) := J.hok dd _ ed
  obtain ⟨m, ns, rel⟩ := kd
  obtain ⟨od, god, lo⟩ := lookIn_ns ns
  obtain ⟨y, hy, ry⟩ := RelO.some_of (v := v) (o := m n) (by rw [← lk]; exact rel n)
  have at_ : PySem.W.InstAt s1.heap a o C (some od) := by
    refine ⟨g, z.1, ?_, ?_⟩
    · unfold PySem.W.notCls
      rw [f] <;> rfl
    · rw [z.2]
      exact god
  have found : PySem.W.findObj X.K C (some od) n = some (.value y) := PySem.W.findObj_own xf.hdC no rfl (by rw [lo, hy])
  exact HandSPX.exc_get J.kIn at_ xf.ga xf.gg xf.exC found (handed_of ry) ⟨v, H1, J.tok _, ry, q⟩
/-! ### try: body, except (A, B) as n: suite, where all that the body raises is of one of both -/
section
variable {X : Cx} {pins : List (Addr × Obj)} {σ : L2.St} {H : Hp} {s0 s1 : Shared} {B : Heap} {a : Addr} {cls : Value} {d : Option Addr}
theorem hok_more {P : Program} {w : World} {h : Heap} {u : HO} (k : HOk P w H h) (na : H a = none) (new : ObjOk P w (upd H a u) h a u) : HOk P w (upd H a u) h := by
  intro b v q
  by_cases e : b = a
  · subst e
    rw [upd_same] at q
    cases q
    exact new
  · rw [upd_ne e] at q
    refine (k b v q).stay (fun _ _ _ r => r) (fun c r => ?_) (fun c xs r => ?_)
    · rw [upd_ne (ne_of_none r na)]
      exact r
    · rw [upd_ne (ne_of_none r na)]
      exact r
theorem Inv.seen (I : Inv X pins σ H s0) (nb : ∀ b o, s0.heap.get? b = some o → b ∉ frs X.stack → B.get? b = some o) (st : B.StaysIn s1.heap) (up : s0.heap.UpToSlots s1.heap) (os : s1.os = s0.os) (ag : AllBare s1.gens)
    (ha : s0.heap.get? a = none) (na : H a = none) {o : Obj} {vs : Array Value} (ga : s1.heap.get? a = some o) (z : Zc cls d o) (f : o.data = .fields vs) : Inv X pins σ (upd H a (exz a cls d)) s1 := by
  have fr : ∀ b ∈ frs X.stack, ∀ u, s0.heap.get? b = some u → ∃ sl, s1.heap.get? b = some { u with slots := sl } := by
    intro b hb u gu
    obtain ⟨_, u', gu', hd⟩ := I.stack.mem hb
    rw [gu] at gu'
    cases gu'
    exact up b u gu hd
  have ne : ∀ {b : Addr} {u : Obj}, s0.heap.get? b = some u → b ≠ a := by
    intro b u gu q
    rw [q, ha] at gu
    cases gu
  have old := Inv.landed (s' := s1) I nb st up os ag
  refine I.call' (ch := []) os ⟨?_, ?_, ?_, ?_, ?_, ?_, ?_⟩ (hok_more old.hok na (exz_ok ga z f)) ag (fun _ y => nomatch y)
  · exact fun b u gu _ hb _ => st b u (nb b u gu hb)
  · exact fun b u gu _ hb _ => fr b hb u gu
  · intro b u gu n _
    rw [upd_ne (ne gu)]
    exact n
  · intro b u gu _
    by_cases hb : b ∈ frs X.stack
    · obtain ⟨sl, q⟩ := fr b hb u gu
      exact ⟨_, q⟩
    · exact ⟨u, st b u (nb b u gu hb)⟩
  · intro b xs q
    rw [upd_ne (ne_of_none q na)]
    exact q
  · intro b u xs q
    rw [upd_ne (ne_of_none q na)]
    exact q
  · intro b ps q
    refine ⟨#[], ?_⟩
    rw [upd_ne (ne_of_none q na), q]
    simp
end
end Bh
namespace Bh
open PySem PySem.Spec PyProof.Rows L2
section
variable {X : Cx} {pins : List (Addr × Obj)} {σ : L2.St} {H : Hp} {s : Shared}
theorem Inv.inSuite (I : Inv X pins σ H s) (a : Addr) : Inv (X.suite a (X.pn ++ pins)) [] σ H s := by
  refine ⟨I.ok.suite _ _, I.os, I.bare, I.base, I.loc, I.cell, I.free, I.freeC, fun p hp => ?_, I.hok, I.len⟩
  rw [List.append_nil] at hp
  exact I.pin p hp
theorem Inv.offSuite {a : Addr} {more : List (Addr × Obj)} (I : Inv (X.suite a (X.pn ++ pins)) more σ H s) (ok : X.Ok) : Inv X pins σ H s :=
  ⟨ok, I.os, I.bare, I.base, I.loc, I.cell, I.free, I.freeC, fun p hp => I.pin p (List.mem_append_left _ hp), I.hok, I.len⟩
end
theorem flying_more {B h h' : Heap} {l : List Env} {a : Addr} {Z : Obj → Prop} (k : ∀ b o, h.get? b = some o → h'.get? b = some o) (f : HandSPX.FlyingZ B l a Z h) : HandSPX.FlyingZ B l a Z h' := by
  obtain ⟨f1, f2, f3, oe, vs, T, oT, ts, e1, e2, e3, e4, e5, e6, e7, e8, e9⟩ := f
  exact ⟨fun b o q => k b o (f1 b o q), f2, f3.of_keeps (fun b o q _ => ⟨o, k b o q, rfl⟩), oe, vs, T, oT, ts, k _ _ e1, e2, e3, e4, e5, e6, k _ _ e7, e8, e9⟩
/-- what the clause wishes of an exception of the body -/
def wTwo (K : PySem.W.Frag) (C1 C2 : Value) (i n : Nat) (ts : TS) (D : Ends) : WX := fun cls d σ H => PySem.W.exmAny K cls [C1, C2] = some true ∧ ∀ a, H a = none → σ.length = n →
  ts { nx := fun σ' H' => D.nx (σ'.set i none) H', rt := D.rt, bk := fun σ' H' => D.bk (σ'.set i none) H', ct := fun σ' H' => D.ct (σ'.set i none) H' } (σ.set i (some (.ref a))) (upd H a (exz a cls d))
section
variable {X : Cx} {x1 x2 n : Str} {C1 C2 : Addr} {i : Nat} {body suite : List Stmt} {b₀ : Stmt} {p1 p2 tpos pos pos' : Pos} {tb : WX → TS} {ts : TS} {kk : Nat}
theorem ps_try_two (hs : X.stack = X.env :: X.outer) (hf : X.env.frame = some X.env.locals) (hN : X.N.Nodup) (hi : X.N[i]? = some n) (hln : X.env.kindOf n = some .local)
    (g1 : Gl X x1) (m1 : X.mg x1 = some (.ref C1)) (g2 : Gl X x2) (m2 : X.mg x2 = some (.ref C2)) (d1 : (x1 == ("__debug__" : Str)) = false) (d2 : (x2 == ("__debug__" : Str)) = false)
    (hb : ∀ (W : WX) (pn : List (Addr × Obj)) (xe : Value → Shared → Prop), Takes (X.tr pn xe) W → PassesOwn (model X.prog X.w) X.A X.env xe → PSs (X.tr pn xe) body (tb W))
    (hsu : ∀ (a : Addr) (pn : List (Addr × Obj)), PSs (X.suite a pn) (b₀ :: suite) ts)
    (two : starEach [.Name x1 p1, .Name x2 p2] X.env = [(false, eval (.Name x1 p1) X.env), (false, eval (.Name x2 p2) X.env)] := by rfl) :
    PS X (.Try body [.ExceptHandler (some (.Tuple [.Name x1 p1, .Name x2 p2] kk tpos)) (some n) (b₀ :: suite) pos'] [] [] pos) (fun D σ H => tb (wTwo X.K (.ref C1) (.ref C2) i X.N.length ts D) D σ H) := by
  refine ⟨fun pins s σ H D I h => wpAny_Try_except ?_⟩
  have ok := I.ok
  have tops : X.A.frames = some (X.env :: X.outer) := ok.frames.trans (congrArg some hs)
  refine wpAny_mono ((hb (wTwo X.K (.ref C1) (.ref C2) i X.N.length ts D) (X.pn ++ pins) _ (fun u s1 air => ?caught) PassesOwn.looking).run [] s σ H D (I.toTry _) h) (fun f s1 e => ?ends) (fun _ _ e => e)
  case ends =>
    match f, e with
    | .next, ⟨σ1, H1, J, q⟩ => exact wpAny_execs_nil ⟨σ1, H1, J.ofTry ok, q⟩
    | .brk, ⟨σ1, H1, J, q⟩ => exact ⟨σ1, H1, J.ofTry ok, q⟩
    | .cont, ⟨σ1, H1, J, q⟩ => exact ⟨σ1, H1, J.ofTry ok, q⟩
    | .ret u, ⟨v, σ1, H1, J, r, q⟩ => exact ⟨v, σ1, H1, J.ofTry ok, r, q⟩
  case caught =>
    obtain ⟨a, B, s0, pins0, σ0, H0, cls, d, rfl, J0, nb, up, sky, na, os, ag, hm, go⟩ := air
    have J : Inv X pins σ0 H0 s0 := J0.ofTry ok
    rw [show (X.tr (X.pn ++ pins) _).stack = X.env :: X.outer from hs] at sky
    refine Sky.land Zc.steady tops hf sky fun h3 fl3 up3 => ?_
    obtain ⟨o3, v3, e3, z3, f3⟩ := fl3.there
    have noframe : a ∉ frs X.stack := by
      rw [hs]
      intro hm'
      obtain ⟨_, o', e', hd⟩ := fl3.2.2.1.mem hm'
      rw [e3] at e'
      cases e'
      exact hd _ f3
    have a0 : s0.heap.get? a = none := by
      cases q : s0.heap.get? a with
      | none => rfl
      | some o =>
        have z := nb a o q noframe
        rw [fl3.2.1] at z
        cases z
    have J3 := Inv.seen (s1 := { s1 with heap := h3 }) J nb fl3.1 (up.trans up3) os ag a0 na e3 z3 f3
    have S3 := Inv.inSuite J3 a
    refine wpAny_handleBy_cons (codeAny_handlers_test (wpAny_Tuple_spliced ?_)) (fun q => by cases q)
    rw [two]
    show wpAny _ _ (spliced [(false, eval (.Name x1 p1) X.env), (false, eval (.Name x2 p2) X.env)]) _ _ _
    refine Calls.spliced_cons (ld_glob S3 g1 m1 ?_ d1)
    refine Calls.spliced_cons (ld_glob S3 g2 m2 ?_ d2)
    refine Calls.spliced_nil ⟨(by show 2 ≤ sizeLine; decide), ?_⟩
    have more : ∀ b o, h3.get? b = some o → (h3.push { cls := .type "tuple", data := .seq [Value.ref C1, Value.ref C2].toArray }).get? b = some o := fun b o q => Heap.get?_push_of_some _ q
    have at_ : (h3.push { cls := .type "tuple", data := .seq [Value.ref C1, Value.ref C2].toArray }).get? h3.objs.size = some { cls := .type "tuple", data := .seq [Value.ref C1, Value.ref C2].toArray } := Heap.get?_push_size _ rfl
    have own : PySem.W.Looks (model X.prog X.w) (h3.push { cls := .type "tuple", data := .seq [Value.ref C1, Value.ref C2].toArray }) (typeOf (.ref a)) cls := fun A Q E s k q => wpAny_typeOf_ref (k _ _ (more _ _ e3)) (by rw [z3.1]; exact q)
    have hit := PySem.W.exm_tup2 (M := model X.prog X.w) (J3.kIn.keeps more) own at_ hm
    refine hit.here ?_
    refine codeAny_handlers_suite_as ?_
    have fl4 := flying_more more fl3
    refine HandSPX.lands_againZ fl4 fun h5 fl5 up5 => ?_
    obtain ⟨o5, v5, e5, z5, f5⟩ := fl5.there
    have J5 := Inv.seen (s1 := { s1 with heap := h5 }) J nb fl5.1 ((up.trans up3).trans ((Heap.UpToSlots.of_keeps more).trans up5)) os ag a0 na e5 z5 f5
    refine store_ok (X := X.suite a (X.pn ++ pins)) (v := .ref a) (Inv.inSuite J5 a) hN hi (.inl hln) rfl (fun s6 S6 => ?_) (.inr hln)
    refine wpAny_mono ((hsu a (X.pn ++ pins)).run [] s6 _ _ _ S6 (go a na J.len)) (fun f s7 e => ?_) (fun _ _ y => False.elim y)
    have leave : ∀ {σ7 : L2.St} {H7 : Hp} {R : Shared → Prop}, Inv (X.suite a (X.pn ++ pins)) [] σ7 H7 s7 → (∀ s8, Inv X pins (σ7.set i none) H7 s8 → R s8) →
        wpAny (model X.prog X.w) X.A (do bindName X.env n .none; unbindBehindTheSuite X.env n pos') (fun _ s8 => R s8) X.xe s7 := fun S7 r => gone_ok (Inv.offSuite S7 ok) hN hi hln r
    match f, e with
    | .next, ⟨σ7, H7, S7, q⟩ => exact leave S7 fun s8 J8 => ⟨_, _, J8, q⟩
    | .brk, ⟨σ7, H7, S7, q⟩ => exact leave S7 fun s8 J8 => ⟨_, _, J8, q⟩
    | .cont, ⟨σ7, H7, S7, q⟩ => exact leave S7 fun s8 J8 => ⟨_, _, J8, q⟩
    | .ret u, ⟨v, σ7, H7, S7, r, q⟩ => exact leave S7 fun s8 J8 => ⟨_, _, _, J8, r, q⟩
end
end Bh

set_option Elab.async false
set_option linter.all false
set_option maxRecDepth 100000
namespace Bh
open PySem PySem.Spec PyProof.Rows L2
/-! ### a def that runs while an exception is handled, and raises nothing -/
structure FnU (P : Program) (w : World) (K : PySem.W.Frag) (mg : Str → Option Value) (base : Heap) (k : Nat) (f : Addr) (fd : FuncData) (ps : List Str) (sp : Sp) : Prop where
  len : ∀ vs H Q E, sp vs H Q E → vs.length = ps.length
  run : ∀ (A : Around) (outer : List Env) (s : Shared) (H : Hp) (args : Args) (us : List Value) (vs : List V) (Q : VK) (E : XK), L2H.RoomH k A → Env0 P w K mg base A outer s H → BindsTo s fd args (ps.zip us) → Vals vs us → sp vs H Q E →
    codeAny (model P w) A (.call (.ref f) args) (CR CX0 outer P w H s Q E) s
def cxU (P : Program) (w : World) (K : PySem.W.Frag) (mg : Str → Option Value) (base : Heap) (N : List Str) (qual : Str) (scope : Scope) (f : Addr) (cd : Value) (A : Around) (outer : List Env) (s : Shared) (H : Hp) (E : XK) : Cx :=
  { cxOf CX0 P w K mg base N qual scope f cd A outer s H E with calm := false }
theorem start_u {P : Program} {w : World} {K : PySem.W.Frag} {mg : Str → Option Value} {base : Heap} {N ps : List Str} {qual : Str} {scope : Scope} {f : Addr} {cd : Value} {A : Around} {outer : List Env} {s s1 : Shared} {H : Hp} {E : XK} {us : List Value} {vs : List V}
    (S : FnScope N ps scope) (e0 : Env0 P w K mg base A outer s H) (hl : vs.length = ps.length) (r : Vals vs us)
    (x : InCallC s s.heap.objs.size (bindL (envOfC qual scope s.heap.objs.size f cd).kindOf (ps.zip us) fun _ => none) (cellsFrom (s.heap.objs.size + 1) scope.names []) (bindC (envOfC qual scope s.heap.objs.size f cd).kindOf (ps.zip us) fun _ => none) s1) :
    Inv (cxU P w K mg base N qual scope f cd A outer s H E) [] (L2.start N vs) H s1 := by
  have e1 : Env0 P w K mg base { A with handled := none } outer s H := ⟨e0.frames, e0.mod, e0.bs, e0.bsz, e0.funs, e0.frf, e0.hok, e0.bare⟩
  have I : Inv (cxOf CX0 P w K mg base N qual scope f cd { A with handled := none } outer s H E) [] (L2.start N vs) H s1 := inv_start S rfl e1 hl r x
  obtain ⟨o1, o2, o3, o4, o5, o6, o7, o8, _, _, o11, o12, o13, o14, o15, o16, o17, o18⟩ := I.ok
  exact ⟨⟨o1, o2, o3, o4, o5, o6, o7, o8, (fun z => Bool.noConfusion (show false = true from z)), Around.frames_deeper e0.frames, o11, o12, o13, o14, o15, o16, o17, o18⟩, I.os, I.bare, I.base, I.loc, I.cell, I.free, I.freeC, I.pin, I.hok, I.len⟩
theorem fun_u {P : Program} {w : World} {K : PySem.W.Frag} {mg : Str → Option Value} {base : Heap} {k : Nat} {f : Addr} {fd : FuncData} {x qual : Str} {st : Stmt} {N ps : List Str} {sp : Sp} (F : Fun K x qual st f fd) (S : FnScope N ps (defScope st))
    (len : ∀ vs H Q E, sp vs H Q E → vs.length = ps.length)
    (body : ∀ (cdv : Value) (A : Around) (outer : List Env) (s : Shared) (H : Hp) (vs : List V) (Q : VK) (E : XK), sp vs H Q E →
      ∃ t, PSs (cxU P w K mg base N qual (defScope st) f cdv A outer s H E) (defBody st) t ∧ t { nx := fun _ H' => Q .non H', rt := Q } (L2.start N vs) H) : FnU P w K mg base (k + 1) f fd ps sp := by
  obtain ⟨oc, od, kV, doc, pm, an, cdv, ct, osl, rfl, lk, hcd⟩ := F.ex
  refine ⟨len, fun A outer s H args us vs Q E hr e0 hb r h => ?_⟩
  have l1 := len _ _ _ _ h
  have X0 : K.In s.heap := e0.mod.kin.keeps fun b o e => (e0.bs b o e).1
  have nl : s.heap.NoLimit := e0.mod.nolimit.keeps fun b o e => (e0.bs b o e).1
  have kinds : ∀ y ∈ ps.zip us, (defScope st).names.lookup y.1 = some .local ∨ ((defScope st).names.lookup y.1 = some .cell ∧ ((cellsFrom (s.heap.objs.size + 1) (defScope st).names []).lookup y.1).isSome = true) := by
    rintro ⟨n, v⟩ hy
    exact (S.par n (List.of_mem_zip hy).1).imp id fun q => ⟨q, PySem.W.cellsFrom_some _ _ _ (.inl q)⟩
  refine codeAny_call_function hr.depth (X0 _ _ lk) rfl S.co S.gen rfl (PySem.W.codeRec_of X0 hcd) (hb _ _ _ _ (wpAny_newFunctionEnv_cells S.kind kinds fun env he s1 x => ?_))
  subst he
  obtain ⟨t, ht, hq⟩ := body cdv A outer s H vs Q E h
  refine ⟨nl.keeps x.toInCall.keep, codeAny_func (wpAny_mono (ht.run [] s1 (L2.start N vs) H _ (start_u S e0 l1 r x) hq) (fun fl s2 e => ?_) fun _ _ e => e)⟩
  match fl, e with
  | .next, ⟨σ2, H2, J, q⟩ => exact ⟨.non, H2, J.os, J.bare, J.base, J.hok, rfl, q⟩
  | .brk, ⟨_, _, _, q⟩ => exact q.elim
  | .cont, ⟨_, _, _, q⟩ => exact q.elim
  | .ret u, ⟨v, σ2, H2, J, rv, q⟩ => exact ⟨v, H2, J.os, J.bare, J.base, J.hok, rv, q⟩
theorem pe_callU {X : Cx} {k : Nat} {f : Addr} {fd : FuncData} {ps : List Str} {sp : Sp} {x : Str} {q pos : Pos} {e : Expr} {es : List Expr} {t : TA} (F : FnU X.prog X.w X.K X.mg X.base k f fd ps sp) (hr : L2H.RoomH k X.A) (hg : Gl X x) (hm : X.mg x = some (.ref f)) (hk : PySem.W.keepIn X.K (.ref f) = true) (hb : Binds X.K fd ps [])
    (ha : PA X (e :: es) t) (hdb : (x == ("__debug__" : Str)) = false := by decide) (hs : starEach (e :: es) X.env = (false, eval e X.env) :: starEach es X.env := by rfl) (hp : (backTo pos (starEach es X.env)).any (·.1) = false := by rfl) :
    PE X (.Call (.Name x q) (e :: es) [] pos) (fun σ H Q => t σ H fun vs H1 => sp vs H1 Q fun _ _ _ => False) := by
  refine ⟨fun pins s σ H Q I h => wpAny_Call_Name_kw (ld_glob I hg hm ?_ hdb)⟩
  refine PySem.W.callWith_K (h₀ := X.base) I.ok.mod.kin hk (thn (ha.run pos pins s σ H _ I h) fun us s1 hu => ?_) hs hp
  obtain ⟨vs, H1, J, rv, y⟩ := hu
  refine ⟨J.kIn, ?_⟩
  have n : us.length = ps.length := rv.length.symm.trans (F.len _ _ _ _ y)
  have bnd := hb s1 us J.kIn (by rw [List.append_nil]; exact n)
  rw [List.append_nil] at bnd
  refine wpAny_call (codeAny_mono (F.run X.A X.stack s1 H1 ⟨us, []⟩ us vs Q _ hr J.env0 bnd rv y) fun res s2 z => ?_)
  match res, z with
  | .error _, z => exact z.elim
  | .ok (.ret u), z => exact J.after z
  | .ok .next, z => exact z.elim
  | .ok .brk, z => exact z.elim
  | .ok .cont, z => exact z.elim
end Bh
namespace Bh
open PySem PySem.Spec PyProof.Rows L2
/-! ### the end of a law that makes a lambda: its table of code objects is told by the top -/
theorem walkT {l : PySem.W.OpenLaw} {n k : Nat} {q : Program} {loose : List Str} {XP : (Str → Option Value) → Heap → Prop} {YP : World → Heap → Prop} {d : DefRec} {CX : World → CXT} {x : Str}
    (hn : l.most = some n) (hn2 : n ≤ sizeLine) (hdf : d.params.defaults = []) (hr : Room k callerA)
    (F : ∀ (w : World) (mg mb : Str → Option Value) (fa : Addr) (h : Heap), (∀ (K : PySem.W.Frag), K.In h → ∀ (dd : DefRec) (y : Str) (c P : Addr), (recsOf q).find? (fun e => e.name == y) = some dd → PySem.W.tabIn K y = some (c, P) → PySem.W.CodeHd h c P ∧ h.get? P = some (PySem.W.tabObj #[])) → h.Ns mainGlobals mg → YP w h → mg d.name = some (.ref fa) → ∃ K : PySem.W.Frag, K.In h ∧ LamX.LawAtS l w K (CX w) k n x mg fa h)
    (hCX : ∀ (w : World) (H : Hp) (s : Shared) (e : Value) (s' : Shared), CX w [] H s (fun _ _ _ => False) e s' → False) :
    PySem.W.WalkO q loose XP YP l.row.toRowW d [] (fun f vs => PySem.call f vs) := by
  refine Att.attach_callB hn hdf fun w s0 s1 mg mb fa o pm cd doc a vs ns G Y _ _ _ hmg hobj hi hlen hbits hg => ?_
  obtain ⟨K, KX, fd, cs, sp, t1, t2, t3, bnd, hsp, ok⟩ := F w mg mb fa _ (fun K KX dd y c P h1 h2 => PySem.W.tab_of G.T KX h1 h2) G.T.g Y hmg
  refine LamX.law_callTs KX G.T.g G.T.b G.T.builtins G.T.nolimit hg t1 t2 t3 G.T.bmain hobj hi (Nat.le_trans hlen hn2) hr ok bnd ?_ ?_
  · exact fun H hH hS => hsp H a ns hlen hbits hH hS
  · exact fun H e s' => hCX w H s1 e s'
end Bh

set_option Elab.async false
set_option linter.all false
set_option maxRecDepth 100000
namespace Bh
open PySem PySem.Spec PyProof.Rows L2
/-! ### an own exception class over any built-in one, with an __init__ that is walked as a def -/
structure ExG (K : PySem.W.Frag) (C : Addr) : Prop where
  fam : ∃ (B newId initId : String) (bmB : List Value), ExcBaseFacts B newId initId bmB ∧ StoreFacts B bmB "object.__setattr__" "object" ∧ PySem.W.excOver K C bmB = true ∧
    ∃ nm q N bs bm sn sub ab col dd k0 k1 k2 k3 k5, K.lookup C = some (excClassObj nm q C N bs bm true sn sub ab col dd k0 k1 k2 k3 k5 newId) ∧ ∀ Y : String, bm.contains (.type Y) = bmB.contains (.type Y)
  sa : PySem.W.findIn K (.ref C) "__setattr__" = some (some (.builtin "object.__setattr__"))
  exC : PySem.W.subIn K (.ref C) (.type "BaseException") = some true
  tyC : PySem.W.typeIn K (.ref C) = some (.type "type")
  kC : PySem.W.keepIn K (.ref C) = true
  hdC : PySem.W.hasDictIn K C = true
theorem taker_no {K : PySem.W.Frag} {C : Addr} {n : Str} (h : PySem.W.findIn K (.ref C) n = some none) : PySem.W.takerIn K C n = some none := by
  unfold PySem.W.takerIn
  rw [h]
  rfl
section
variable {X : Cx} {pins : List (Addr × Obj)} {σ : L2.St} {H : Hp} {s : Shared} {a C dx : Addr} {f : Str} {y : V} {u : Value} {fs : List (Str × V)} {Q : Unit → Shared → Prop} {E : Value → Shared → Prop} {A : Around}
theorem setG_new (T : ExG X.K C) (I : Inv X pins σ H s) (e : H a = some (exo a C none)) (no : PySem.W.findIn X.K (.ref C) f = some none) (ry : RelV y u)
    (h : ∀ dx s', H dx = none → dx ≠ a → Inv X pins σ (upd (upd H dx (exd dx [(f, y)])) a (exo a C (some dx))) s' → Q () s') : wpAny (model X.prog X.w) A (setAttr (.ref a) f u) Q E s := by
  obtain ⟨B, newId, initId, bmB, FB, SF, ov, _⟩ := T.fam
  obtain ⟨t1, ga⟩ := exo_at I.hok e
  obtain ⟨hp, g, d, t, os⟩ := s
  have inst : PySem.W.InstAt hp a { cls := .ref C, dict := none, data := .fields #[.ref t1, .none, .none, .none, .bool false, .none] } C none := ⟨ga, rfl, rfl, trivial⟩
  refine PySem.W.set_plain I.kIn inst T.sa (PySem.W.osa_openX (od := none) SF I.kIn inst ov (taker_no no) fun b => ?_)
  obtain ⟨cd, hc, hd⟩ := PySem.W.any_some T.hdC
  refine wpAny_bind (wpAny_pure (wpAny_bind (PySem.W.instanceDict_exc (c2 := .none) ga (PySem.W.looks_clsIn I.kIn hc) hd ?_)))
  have na : a ≠ hp.objs.size := Nat.ne_of_lt (Heap.lt_size ga)
  refine HandSPX.store_in_new ?_ (fun h2 tk2 hn hs => ?_)
  · exact ⟨_, #[], _, (Heap.get?_update_ne _ _ _ _ na.symm).trans (Heap.get?_push_at rfl rfl), rfl, fun e he => absurd he (by simp), fun _ => rfl⟩
  have nx : H hp.objs.size = none := I.hok.fresh (Nat.le_refl _)
  have old : ∀ b o, b ≠ a → hp.get? b = some o → h2.get? b = some o := by
    intro b o hb ho
    refine (hs.2 b (Nat.ne_of_lt (Heap.lt_size ho))).trans ?_
    exact (Heap.get?_update_ne _ _ _ _ hb).trans (Heap.get?_push_of_some _ ho)
  have self2 : h2.get? a = some { cls := .ref C, dict := some hp.objs.size, data := .fields #[.ref t1, .none, .none, .none, .bool false, .none] } := by
    refine (hs.2 a na).trans ?_
    exact Heap.get?_update_self _ (Heap.get?_push_of_some _ ga) rfl
  have n1 : ∀ {b : Addr} {o : Obj}, hp.get? b = some o → b ≠ hp.objs.size := fun g => Nat.ne_of_lt (Heap.lt_size g)
  have n2 : ∀ {b : Addr}, H b = none → b ≠ a := by
    intro b hb z
    rw [z, e] at hb
    cases hb
  refine h hp.objs.size _ nx na.symm (I.un (t' := tk2) (h' := h2) ⟨?_, ?_, ?_, ?_, ?_, ?_, ?_⟩ fun b o q => ?_)
  · exact fun b o g n _ _ => old b o (n2 n) g
  · exact fun b o g n _ _ => ⟨o.slots, old b o (n2 n) g⟩
  · intro b o g n _
    rw [upd_ne (n2 n), upd_ne (n1 g)]
    exact n
  · intro b o g _
    by_cases hb : b = a
    · exact ⟨_, hb ▸ self2⟩
    · exact ⟨o, old b o hb g⟩
  · intro b xs q
    rw [upd_ne (at_ne e q exo_tup), upd_ne (ne_of_none q nx)]
    exact q
  · intro b o v q
    rw [upd_ne (at_ne e q exo_frz), upd_ne (ne_of_none q nx)]
    exact q
  · intro b ps q
    refine ⟨#[], ?_⟩
    rw [upd_ne (at_ne e q exo_tbl), upd_ne (ne_of_none q nx), q]
    simp
  · by_cases hb : b = a
    · subst hb
      rw [upd_same] at q
      cases q
      exact exo_ok self2
    rw [upd_ne hb] at q
    by_cases hd2 : b = hp.objs.size
    · subst hd2
      rw [upd_same] at q
      cases q
      exact exd_ok hn (relO_put (fs := []) ry fun _ => True.intro)
    rw [upd_ne hd2] at q
    have keepO : ∀ {c : Addr}, H c = some (.own b) → c ≠ a := fun k => at_ne e k exo_own
    refine (I.hok b o q).stay (fun c v hc z => old c v ?_ z) (fun c k => ?_) (fun c xs k => ?_)
    · rcases hc with hc | hc
      · rw [hc]
        exact hb
      · exact keepO hc
    · rw [upd_ne (at_ne e k exo_own), upd_ne (ne_of_none k nx)]
      exact k
    · rw [upd_ne (at_ne e k exo_tup), upd_ne (ne_of_none k nx)]
      exact k
theorem setG_old (T : ExG X.K C) (I : Inv X pins σ H s) (e : H a = some (exo a C (some dx))) (ed : H dx = some (exd dx fs)) (hl : fs.length ≤ 900) (no : PySem.W.findIn X.K (.ref C) f = some none) (ry : RelV y u)
    (h : ∀ s', Inv X pins σ (upd H dx (exd dx ((f, y) :: fs))) s' → Q () s') : wpAny (model X.prog X.w) A (setAttr (.ref a) f u) Q E s := by
  obtain ⟨B, newId, initId, bmB, FB, SF, ov, _⟩ := T.fam
  obtain ⟨t1, ga⟩ := exo_at I.hok e
  obtain ⟨m, ns, rel⟩ := exd_at I.hok ed
  have wi := within_of rel
  obtain ⟨hp, g, d, t, os⟩ := s
  obtain ⟨od, _, _, god, _, _⟩ := ns.count wi
  have inst : PySem.W.InstAt hp a { cls := .ref C, dict := some dx, data := .fields #[.ref t1, .none, .none, .none, .bool false, .none] } C (some od) := ⟨ga, rfl, rfl, god⟩
  refine PySem.W.set_plain I.kIn inst T.sa (PySem.W.osa_openX (od := some od) SF I.kIn inst ov (taker_no no) fun b => ?_)
  obtain ⟨cd, hc, hd⟩ := PySem.W.any_some T.hdC
  refine wpAny_bind (wpAny_pure (wpAny_bind (wpAny_bind (wpAny_loadPart ga (wpAny_bind ((PySem.W.looks_clsIn (M := model X.prog X.w) I.kIn hc).at ?_))))))
  rw [hd]
  refine wpAny_pure (a := some dx) ?_
  refine PySem.OEX.store_in_old ns wi (by rw [List.length_map]; omega) (fun h2 tk2 hn hs => ?_)
  have there : ∃ o, h2.get? dx = some o := by
    obtain ⟨o, _, _, k, _⟩ := hn
    exact ⟨o, k⟩
  exact h _ (I.write (t' := tk2) (x := dx) (e := dx) (o := exd dx ((f, y) :: fs)) (by rw [ed]; exact True.intro) (.inl rfl) (fun b o hb k => (hs.2 b hb).trans k) there (exd_ok hn (relO_put ry rel)))
end
end Bh
namespace Bh
open PySem PySem.Spec PyProof.Rows L2
/-- self.f = e, in the __init__ of such a class -/
def tSetG (K : PySem.W.Frag) (f : Str) (to te : TE) : TS := fun D σ H => te σ H fun y H1 => to σ H1 fun x H2 => ∃ a C : Addr, x = .ref a ∧ ExG K C ∧ PySem.W.findIn K (.ref C) f = some none ∧
  ((H2 a = some (exo a C none) ∧ ∀ dx, H2 dx = none → dx ≠ a → D.nx σ (upd (upd H2 dx (exd dx [(f, y)])) a (exo a C (some dx)))) ∨
    ∃ (dx : Addr) (fs : List (Str × V)), H2 a = some (exo a C (some dx)) ∧ H2 dx = some (exd dx fs) ∧ fs.length ≤ 900 ∧ D.nx σ (upd H2 dx (exd dx ((f, y) :: fs))))
theorem ps_setG {X : Cx} {o e : Expr} {to te : TE} {f : Str} {p pos : Pos} (ho : PE X o to) (he : PE X e te) (hs : swapsWith e (some (.Attribute o f p)) pos.line X.env = pure false := by rfl) : PS X (.Assign [.Attribute o f p] e pos) (tSetG X.K f to te) := by
  refine ⟨fun pins s σ H D I h => plainObj_wpAny_Assign_Attribute (thn (he.run pins s σ H _ I h) fun v s1 q => ?_) hs⟩
  obtain ⟨y, H1, I1, r1, q1⟩ := q
  refine thn (ho.run pins s1 σ H1 _ I1 q1) fun u s2 q => ?_
  obtain ⟨x, H2, I2, r2, a, C, rfl, T, no, q2⟩ := q
  cases r2
  rcases q2 with ⟨ea, k⟩ | ⟨dx, fs, ea, ed, hl, k⟩
  · exact setG_new T I2 ea no r1 fun dx s3 n ne J => ⟨σ, _, J, k dx n ne⟩
  · exact setG_old T I2 ea ed hl no r1 fun s3 J => ⟨σ, _, J, k⟩
/-! ### such an exception, made: as a value, and to be raised -/
/-- C(..) with C's own __init__ that keeps sp: known as exo, its dict as exd -/
def tMkG (C : Addr) (sp : Sp) (ta : TA) : TE := fun σ H Q => ta σ H fun vs H1 => vs.length ≤ 1000 ∧ ∀ a, H1 a = none → sp (.ref a :: vs) (upd H1 a (exo a C none)) (fun v H2 => v = .non ∧ Q (.ref a) H2) fun _ _ _ => False
theorem pe_mkG {X : Cx} {x : Str} {C fI : Addr} {k : Nat} {fd : FuncData} {ps : List Str} {sp : Sp} {e : Expr} {es : List Expr} {ta : TA} {p pos : Pos} (T : ExG X.K C) (iC : PySem.W.findIn X.K (.ref C) "__init__" = some (some (.ref fI))) (tI : PySem.W.typeIn X.K (.ref fI) = some (.type "function"))
    (F : FnOk X.prog X.w X.K X.mg X.base CX0 k fI fd ps sp) (hr : Room (k + 1) X.A) (hb : Binds X.K fd ps []) (hg : Gl X x) (hm : X.mg x = some (.ref C)) (ha : PA X (e :: es) ta)
    (hdb : (x == ("__debug__" : Str)) = false := by decide) (hs : starEach (e :: es) X.env = (false, eval e X.env) :: starEach es X.env := by rfl) (hp : (backTo pos (starEach es X.env)).any (·.1) = false := by rfl) :
    PE X (.Call (.Name x p) (e :: es) [] pos) (tMkG C sp ta) := by
  refine ⟨fun pins s σ H Q I h => wpAny_Call_Name_kw (ld_glob I hg hm ?_ hdb)⟩
  obtain ⟨B, newId, initId, bmB, FB, SF, ov, nm, q, N, bs, bm, sn, sub, ab, col, dd, k0, k1, k2, k3, k5, look, same⟩ := T.fam
  refine PySem.W.callWith_K (h₀ := X.base) I.ok.mod.kin T.kC (thn (ha.run pos pins s σ H _ I h) fun us s1 hu => ?_) hs hp
  obtain ⟨vs, H1, J, rv, hz, y⟩ := hu
  refine ⟨J.kIn, ?_⟩
  show wpAny _ _ (call (.ref C) us) _ _ _
  obtain ⟨hh, g, dr, tk, os⟩ := s1
  have n1 : H1 (hh.objs.size + 1) = none := J.hok.fresh (Nat.le_succ _)
  have yy := y (hh.objs.size + 1) n1
  have more : ∀ b o, hh.get? b = some o → ((hh.push (PySem.W.kdv_tup us)).push (PySem.HandSPX.excO C hh.objs.size)).get? b = some o := fun b o z => Heap.get?_push_of_some _ (Heap.get?_push_of_some _ z)
  have at_ : ((hh.push (PySem.W.kdv_tup us)).push (PySem.HandSPX.excO C hh.objs.size)).get? (hh.objs.size + 1) = some (PySem.HandSPX.excO C hh.objs.size) := by heap_get
  have J2 : Inv X pins σ (upd H1 (hh.objs.size + 1) (exo (hh.objs.size + 1) C none)) ⟨(hh.push (PySem.W.kdv_tup us)).push (PySem.HandSPX.excO C hh.objs.size), g, dr, tk, os⟩ := J.laid (t' := tk) more (Nat.le_succ _) (exo_ok at_)
  have rv2 : Vals (V.ref (hh.objs.size + 1) :: vs) (Value.ref (hh.objs.size + 1) :: us) := .cons rfl rv
  have ln : (Value.ref (hh.objs.size + 1) :: us).length = ps.length := rv2.length.symm.trans (F.len _ _ _ _ yy)
  have few : us.length ≤ sizeLine := by
    rw [← Paired.length rv, sizeLine_eq]
    omega
  have bnd := hb _ (Value.ref (hh.objs.size + 1) :: us) J2.kIn (by rw [List.append_nil]; exact ln)
  rw [List.append_nil] at bnd
  have body := F.run _ X.stack _ _ ⟨Value.ref (hh.objs.size + 1) :: us, []⟩ _ _ _ (fun _ _ _ => False) (hr.make C us []) (J2.env0.make C us []) bnd rv2 yy
  refine wpAny_call (PySem.HandSPX.call_own FB same (J.kIn _ _ look) (PySem.W.looks_findIn J.kIn iC) (fun self => PySem.W.bind_fn J.kIn self tI) few (codeAny_mono body fun r s2 z => ?_))
  cases r with
  | error _ => exact z.elim
  | ok fl =>
    cases fl with
    | ret w =>
      obtain ⟨v, H2, o2, b2, un2, ok2, rw2, ev, q2⟩ := z
      subst ev
      exact ⟨rw2, ⟨V.ref (hh.objs.size + 1), H2, J2.call' (ch := []) o2 un2 ok2 b2 (fun _ m => nomatch m), rfl, q2⟩⟩
    | next => exact z.elim
    | brk => exact z.elim
    | cont => exact z.elim
end Bh
namespace Bh
open PySem PySem.Spec PyProof.Rows L2
/-- the same, for raise -/
theorem pmk_mkG {X : Cx} {x : Str} {C fI : Addr} {k : Nat} {fd : FuncData} {ps : List Str} {sp : Sp} {e : Expr} {es : List Expr} {ta : TA} {p pos : Pos} (T : ExG X.K C) (iC : PySem.W.findIn X.K (.ref C) "__init__" = some (some (.ref fI))) (tI : PySem.W.typeIn X.K (.ref fI) = some (.type "function"))
    (F : FnOk X.prog X.w X.K X.mg X.base CX0 k fI fd ps sp) (hr : Room (k + 1) X.A) (hb : Binds X.K fd ps []) (hg : Gl X x) (hm : X.mg x = some (.ref C)) (ha : PA X (e :: es) ta)
    (hdb : (x == ("__debug__" : Str)) = false := by decide) (hs : starEach (e :: es) X.env = (false, eval e X.env) :: starEach es X.env := by rfl) (hp : (backTo pos (starEach es X.env)).any (·.1) = false := by rfl) :
    PMk X (.Call (.Name x p) (e :: es) [] pos) (tMkO C sp [] ta) := by
  intro pins s σ H Q I h
  refine wpAny_Call_Name_kw (ld_glob I hg hm ?_ hdb)
  obtain ⟨B, newId, initId, bmB, FB, SF, ov, nm, q, N, bs, bm, sn, sub, ab, col, dd, k0, k1, k2, k3, k5, look, same⟩ := T.fam
  refine PySem.W.callWith_K (h₀ := X.base) I.ok.mod.kin T.kC (thn (ha.run pos pins s σ H _ I h) fun us s1 hu => ?_) hs hp
  obtain ⟨vs, H1, J, rv, hz, y⟩ := hu
  refine ⟨J.kIn, ?_⟩
  show wpAny _ _ (call (.ref C) us) _ _ _
  obtain ⟨hh, g, dr, tk, os⟩ := s1
  have big : hh.objs.size ≤ hh.objs.size + 1 := Nat.le_succ _
  have yy := y (hh.objs.size + 1) (J.hok.fresh big)
  rw [List.append_nil] at yy
  have more : ∀ b o, hh.get? b = some o → ((hh.push (PySem.W.kdv_tup us)).push (PySem.HandSPX.excO C hh.objs.size)).get? b = some o := fun b o z => Heap.get?_push_of_some _ (Heap.get?_push_of_some _ z)
  have at_ : ((hh.push (PySem.W.kdv_tup us)).push (PySem.HandSPX.excO C hh.objs.size)).get? (hh.objs.size + 1) = some (PySem.HandSPX.excO C hh.objs.size) := by heap_get
  have J2 : Inv X pins σ (upd H1 (hh.objs.size + 1) (exo (hh.objs.size + 1) C none)) ⟨(hh.push (PySem.W.kdv_tup us)).push (PySem.HandSPX.excO C hh.objs.size), g, dr, tk, os⟩ := J.laid (t' := tk) more big (exo_ok at_)
  have rv2 : Vals (V.ref (hh.objs.size + 1) :: vs) (Value.ref (hh.objs.size + 1) :: us) := .cons rfl rv
  have ln : (Value.ref (hh.objs.size + 1) :: us).length = ps.length := rv2.length.symm.trans (F.len _ _ _ _ yy)
  have few : us.length ≤ sizeLine := by
    rw [← Paired.length rv, sizeLine_eq]
    omega
  have bnd := hb _ (Value.ref (hh.objs.size + 1) :: us) J2.kIn (by rw [List.append_nil]; exact ln)
  rw [List.append_nil] at bnd
  have body := F.run _ X.stack _ _ ⟨Value.ref (hh.objs.size + 1) :: us, []⟩ _ _ _ (fun _ _ _ => False) (hr.make C us []) (J2.env0.make C us []) bnd rv2 yy
  refine wpAny_call (PySem.HandSPX.call_own FB same (J.kIn _ _ look) (PySem.W.looks_findIn J.kIn iC) (fun self => PySem.W.bind_fn J.kIn self tI) few (codeAny_mono body fun r s2 z => ?_))
  cases r with
  | error _ => exact z.elim
  | ok fl =>
    cases fl with
    | ret w =>
      obtain ⟨v, H2, o2, b2, un2, ok2, rw2, ev, dx, fs, ea, ed, nd, q2⟩ := z
      subst ev
      obtain ⟨h2, g2, d2, t2, os2⟩ := s2
      exact ⟨rw2, mk_end (raises_own T.exC T.tyC) J big more un2 ok2 o2 b2 ea ed nd q2⟩
    | next => exact z.elim
    | brk => exact z.elim
    | cont => exact z.elim
/-- e.n, e such an exception that was not raised -/
def tXo (K : PySem.W.Frag) (n : Str) (te : TE) : TE := fun σ H Q => te σ H fun x H1 => ∃ (a C dd : Addr) (fs : List (Str × V)) (v : V), x = .ref a ∧ H1 a = some (exo a C (some dd)) ∧ XfC K C ∧ PySem.W.findIn K (.ref C) n = some none ∧ H1 dd = some (exd dd fs) ∧ fs.lookup n = some v ∧ Q v H1
theorem pe_xo {X : Cx} {e : Expr} {te : TE} {pos : Pos} {n : Str} (he : PE X e te) (hb : attributeBase e n X.env (eval e X.env) = eval e X.env := by rfl) : PE X (.Attribute e n pos) (tXo X.K n te) := by
  refine ⟨fun pins s σ H Q I h => attr_of hb (thn (he.run pins s σ H _ I h) fun u s1 hu => ?_)⟩
  obtain ⟨x, H1, J, rx, a, C, dd, fs, v, rfl, ea, xf, no, ed, lk, q⟩ := hu
  cases rx
  obtain ⟨t1, g⟩ := exo_at J.hok ea
  obtain ⟨m, ns, rel⟩ := exd_at J.hok ed
  obtain ⟨od, _, _, god, _, _⟩ := ns.count (within_of rel)
  obtain ⟨od2, god2, lo⟩ := lookIn_ns ns
  obtain ⟨y, hy, ry⟩ := RelO.some_of (v := v) (o := m n) (by rw [← lk]; exact rel n)
  have inst : PySem.W.InstAt s1.heap a { cls := .ref C, dict := some dd, data := .fields #[.ref t1, .none, .none, .none, .bool false, .none] } C (some od2) := ⟨g, rfl, rfl, god2⟩
  exact HandSPX.exc_get J.kIn inst xf.ga xf.gg xf.exC (PySem.W.findObj_own xf.hdC no rfl (by rw [lo, hy])) (handed_of ry) ⟨v, H1, J.tok _, ry, q⟩
end Bh
namespace Bh
open PySem PySem.Spec PyProof.Rows L2
/-- isinstance(e, c), e such an exception that was not raised -/
def rIsO (K : PySem.W.Frag) : List V → Hp → VK → Prop := fun xs H Q => ∃ (a D dd : Addr) (fs : List (Str × V)) (c : V) (cv : Value) (b : Bool), xs = [.ref a, c] ∧ ExcC K D ∧ H a = some (exo a D (some dd)) ∧ H dd = some (exd dd fs) ∧ (∀ u, RelV c u → u = cv) ∧ PySem.W.kitOne K (.ref D) cv = some b ∧ Q (.bl b) H
theorem call_isO {X : Cx} : CallR X (.builtin "isinstance") (rIsO X.K) := by
  intro pins s σ H xs us Q I r h
  obtain ⟨a, D, dd, fs, c, cv, b, rfl, F, ea, ed, hc, e, q⟩ := h
  obtain ⟨u1, u2, rfl, r1, r2⟩ := vals2 r
  cases r1
  obtain rfl := hc _ r2
  obtain ⟨t1, g⟩ := exo_at I.hok ea
  obtain ⟨m, ns, rel⟩ := exd_at I.hok ed
  obtain ⟨od, god, _⟩ := lookIn_ns ns
  have inst : PySem.W.InstAt s.heap a { cls := .ref D, dict := some dd, data := .fields #[.ref t1, .none, .none, .none, .bool false, .none] } D (some od) := ⟨g, rfl, rfl, god⟩
  have hcl : (PySem.W.clsIn X.K D).isSome = true := by
    obtain ⟨cd, k, _⟩ := PySem.W.any_some F.hd
    rw [k]
    rfl
  exact PySem.W.kia_one (PySem.W.kitx_exc hcl F.hg F.hk F.hs F.ha F.hn F.ht F.hm) I.kIn inst e (fun z => nomatch z) fun tk => ⟨.bl b, H, I.kept (t' := tk) fun _ _ z => z, rfl, q⟩
end Bh

set_option Elab.async false
set_option linter.all false
set_option maxRecDepth 100000
namespace Bh
open PySem PySem.Spec PyProof PyProof.Rows L2 HandSPX
/-! ### an own exception made by keyword -/
section
variable {prog : Program} {w : World} {A : Around} {E : Value → Shared → Prop} {R : Result → Shared → Prop} {h : Heap} {g : Array GenState} {d : Drawn} {t : Nat} {os : OsState}
variable {nm q : Str} {C N : Addr} {bs bm bmB : List Value} {hdct : Bool} {sn : List Str} {sub : List Value} {ab : Bool} {col : Option Bool} {dd : Option Addr} {k0 k1 k2 k3 k5 : Option Value} {B newId initId : String} {kk : Str} {kv : Value}
theorem kw_check {M : Model} (F : ExcBaseFacts B newId initId bmB) (hT : ∀ X : String, bm.contains (.type X) = bmB.contains (.type X)) {Q : Unit → Shared → Prop}
    (hC : h.get? C = some (excClassObj nm q C N bs bm hdct sn sub ab col dd k0 k1 k2 k3 k5 newId)) (hq : Q () ⟨h, g, d, t, os⟩) : wpAny M A (checkBuiltinCall newId ⟨[.ref C], [(kk, kv)]⟩) Q E ⟨h, g, d, t, os⟩ := by
  have c1 : (Value.ref C :: bm).contains (.type B) = true := by rw [List.contains_cons, hT, F.hasB, Bool.or_true]
  have c2 := F.noStar
  simp only [checkBuiltinCall, F.newKind, F.newSplit, F.newRow]
  repeat (first | refine wpAny_loadPart_at hC ?_ | (refine wpAny_isSubtype_exc hC ?_; rw [c1]) | refine wpAny_staticBase_exc hC ?_ | refine wpAny_madeBy_exc hC ?_ | simp only [bne_self_eq_false, Bool.false_eq_true, if_false] | wp_step)
  exact hq
theorem kw_new (F : ExcBaseFacts B newId initId bmB) (hT : ∀ X : String, bm.contains (.type X) = bmB.contains (.type X))
    (hC : h.get? C = some (excClassObj nm q C N bs bm hdct sn sub ab col dd k0 k1 k2 k3 k5 newId))
    (hq : R (.ok (.ret (.ref (h.objs.size + 1)))) ⟨(h.push (PySem.W.kdv_tup [])).push (excO C h.objs.size), g, d, t, os⟩) :
    codeAny (model prog w) A (.builtin newId ⟨[.ref C], [(kk, kv)]⟩) R ⟨h, g, d, t, os⟩ := by
  have ends := F.ends
  have c1 : (Value.ref C :: bm).contains (.type B) = true := by rw [List.contains_cons, hT, F.hasB, Bool.or_true]
  have c2 : (Value.ref C :: bm).contains (.type "AttributeError") = false := by rw [List.contains_cons, hT, F.noAttr]; rfl
  have c3 : (Value.ref C :: bm).contains (.type "NameError") = false := by rw [List.contains_cons, hT, F.noName]; rfl
  refine codeAny_builtinAt F.entry ?_
  unfold Builtin.«BaseException.__new__»
  refine PySem.wpAt_bind ?_
  show PySem.wpAt _ _ _ (stack >>= _) _ _ _
  refine PySem.wpAt_bind (PySem.wpAt_stack fun p below => PySem.wpAt_of_wpAny ?_)
  wp_walk
  refine PySem.wpAt_of_wpAny ?_
  rw [F.owner]
  repeat (first | with_reducible refine wpAny_madeHere_exc F.canon hC ?_ | with_reducible refine wpAny_loadPart_at hC ?_ | (with_reducible refine wpAny_isSubtype_exc hC ?_; first | rw [c1] | rw [c2] | rw [c3]) | wp_step)
  show R _ _
  rw [Heap.size_push]
  exact hq
theorem kw_type (F : ExcBaseFacts B newId initId bmB) (hT : ∀ X : String, bm.contains (.type X) = bmB.contains (.type X)) {fI : Addr} {Q : Fin → Shared → Prop}
    (hC : h.get? C = some (excClassObj nm q C N bs bm hdct sn sub ab col dd k0 k1 k2 k3 k5 newId))
    (hi : PySem.W.Looks (model prog w) h (typeLookup (.ref C) "__init__") (some (.ref fI))) (hb : ∀ self, PySem.W.Looks (model prog w) h (bindSpecial (.ref fI) self) (.ref fI, [self]))
    (hq : codeAny (model prog w) A (.call (.ref fI) ⟨[.ref (h.objs.size + 1)], [(kk, kv)]⟩)
      (fun r s' => match r with | .ok (.ret v) => v = .none ∧ Q (.done (.ret (.ref (h.objs.size + 1)))) s' | .ok _ => False | .error e => E e s')
      ⟨(h.push (PySem.W.kdv_tup [])).push (excO C h.objs.size), g, d, t, os⟩) :
    wpAny (model prog w) A (Builtin.«type.__call__» ⟨[.ref C], [(kk, kv)]⟩) Q E ⟨h, g, d, t, os⟩ := by
  repeat (first | with_reducible refine wpAny_loadPart_at hC ?_ | with_reducible refine wpAny_madeBy_exc hC ?_ | wp_step)
  refine codeAny_call_builtin_code (Code.quiet_builtin _ F.quiet) (kw_check F hT hC ?_)
  refine kw_new F hT hC ?_
  show wpAny _ _ _ _ _ _
  have k : ∀ b o, h.get? b = some o → ((h.push (PySem.W.kdv_tup [])).push (excO C h.objs.size)).get? b = some o := fun b o e => Heap.get?_push_of_some _ (Heap.get?_push_of_some _ e)
  have hC1 := k _ _ hC
  have hget : ((h.push (PySem.W.kdv_tup [])).push (excO C h.objs.size)).get? (h.objs.size + 1) = some (excO C h.objs.size) := by heap_get
  have hcC : (Value.ref C :: bm).contains (.ref C) = true := by simp
  have i1 := hi.keeps k
  have b1 := (hb (.ref (h.objs.size + 1))).keeps k
  unfold isInstance
  repeat (first | with_reducible refine wpAny_loadPart_at hget ?_ | (with_reducible refine wpAny_isSubtype_exc hC1 ?_; rw [hcC]) | wp_step)
  show wpAny _ _ (typeLookup (.ref C) _) _ _ _
  refine i1.at ?_
  refine wpAny_holding (wpAny_bind (b1.at ?_))
  refine wpAny_bind (wpAny_call (codeAny_mono hq fun r s' z => ?_))
  rcases r with e | (v | _ | _ | _) <;> first | exact z | exact z.elim | skip
  obtain ⟨rfl, z⟩ := z
  first
    | exact wpAny_pure (wpAny_pure z)
    | (wp_walk; exact z)
theorem kw_call (F : ExcBaseFacts B newId initId bmB) (hT : ∀ X : String, bm.contains (.type X) = bmB.contains (.type X)) {fI : Addr}
    (hC : h.get? C = some (excClassObj nm q C N bs bm hdct sn sub ab col dd k0 k1 k2 k3 k5 newId))
    (hi : PySem.W.Looks (model prog w) h (typeLookup (.ref C) "__init__") (some (.ref fI))) (hb : ∀ self, PySem.W.Looks (model prog w) h (bindSpecial (.ref fI) self) (.ref fI, [self]))
    (hq : codeAny (model prog w) (A.under (.builtin "type.__call__" ⟨[.ref C], [(kk, kv)]⟩)) (.call (.ref fI) ⟨[.ref (h.objs.size + 1)], [(kk, kv)]⟩) (PySem.W.InitBack (h.objs.size + 1) R)
      ⟨(h.push (PySem.W.kdv_tup [])).push (excO C h.objs.size), g, d, t, os⟩) :
    codeAny (model prog w) A (.call (.ref C) ⟨[], [(kk, kv)]⟩) R ⟨h, g, d, t, os⟩ := by
  have f1 := tc_lookup
  have f2 := tc_bind (.ref C)
  have hTy : (⟨h, g, d, t, os⟩ : Shared).TypeIs (.ref C) "type" := ⟨_, hC, rfl⟩
  refine codeAny_of_tree ?_
  show wpAny _ _ (callAny (.ref C) _) _ _ _
  repeat (any_goals (first | assumption | with_reducible refine wpAny_loadPart_at hC ?_ | wp_step))
  refine ⟨rfl, ?_⟩
  refine codeAny_call_builtin_at (Code.quiet_builtin _ (by decide +kernel)) entry_typeCall (wpAny_check_type_call_sub hC (kw_type F hT hC hi hb ?_))
  refine codeAny_mono hq fun r s' z => ?_
  rcases r with e | (v | _ | _ | _) <;> exact z
end
end Bh

set_option Elab.async false
set_option linter.all false
set_option maxRecDepth 100000
namespace Bh
open PySem PySem.Spec PyProof.Rows L2
/-- C() with C's own __init__ -/
theorem pe_mkG0 {X : Cx} {x : Str} {C fI : Addr} {k : Nat} {fd : FuncData} {ps : List Str} {sp : Sp} {p pos : Pos} (T : ExG X.K C) (iC : PySem.W.findIn X.K (.ref C) "__init__" = some (some (.ref fI))) (tI : PySem.W.typeIn X.K (.ref fI) = some (.type "function"))
    (F : FnOk X.prog X.w X.K X.mg X.base CX0 k fI fd ps sp) (hr : Room (k + 1) X.A) (hb : Binds X.K fd ps []) (hg : Gl X x) (hm : X.mg x = some (.ref C))
    (hdb : (x == ("__debug__" : Str)) = false := by decide) :
    PE X (.Call (.Name x p) [] [] pos) (tMkG C sp tNil) := by
  refine ⟨fun pins s σ H Q I h => wpAny_Call_Name_kw (ld_glob I hg hm ?_ hdb)⟩
  obtain ⟨B, newId, initId, bmB, FB, SF, ov, nm, q, N, bs, bm, sn, sub, ab, col, dd, k0, k1, k2, k3, k5, look, same⟩ := T.fam
  refine PySem.W.callWith_K0 I.kIn T.kC ?_
  obtain ⟨_, y⟩ := (h : _ ∧ _)
  obtain ⟨hh, g, dr, tk, os⟩ := s
  have n1 : H (hh.objs.size + 1) = none := I.hok.fresh (Nat.le_succ _)
  have yy := y (hh.objs.size + 1) n1
  have more : ∀ b o, hh.get? b = some o → ((hh.push (PySem.W.kdv_tup [])).push (PySem.HandSPX.excO C hh.objs.size)).get? b = some o := fun b o z => Heap.get?_push_of_some _ (Heap.get?_push_of_some _ z)
  have at_ : ((hh.push (PySem.W.kdv_tup [])).push (PySem.HandSPX.excO C hh.objs.size)).get? (hh.objs.size + 1) = some (PySem.HandSPX.excO C hh.objs.size) := by heap_get
  have J2 : Inv X pins σ (upd H (hh.objs.size + 1) (exo (hh.objs.size + 1) C none)) ⟨(hh.push (PySem.W.kdv_tup [])).push (PySem.HandSPX.excO C hh.objs.size), g, dr, tk, os⟩ := I.laid (t' := tk) more (Nat.le_succ _) (exo_ok at_)
  have rv2 : Vals [V.ref (hh.objs.size + 1)] [Value.ref (hh.objs.size + 1)] := .cons rfl .nil
  have ln : [Value.ref (hh.objs.size + 1)].length = ps.length := rv2.length.symm.trans (F.len _ _ _ _ yy)
  have bnd := hb _ [Value.ref (hh.objs.size + 1)] J2.kIn (by rw [List.append_nil]; exact ln)
  rw [List.append_nil] at bnd
  have body := F.run _ X.stack _ _ ⟨[Value.ref (hh.objs.size + 1)], []⟩ _ _ _ (fun _ _ _ => False) (hr.make C [] []) (J2.env0.make C [] []) bnd rv2 yy
  refine wpAny_call (PySem.HandSPX.call_own FB same (I.kIn _ _ look) (PySem.W.looks_findIn I.kIn iC) (fun self => PySem.W.bind_fn I.kIn self tI) (Nat.zero_le _) (codeAny_mono body fun r s2 z => ?_))
  cases r with
  | error _ => exact z.elim
  | ok fl =>
    cases fl with
    | ret w =>
      obtain ⟨v, H2, o2, b2, un2, ok2, rw2, ev, q2⟩ := z
      subst ev
      exact ⟨rw2, ⟨V.ref (hh.objs.size + 1), H2, J2.call' (ch := []) o2 un2 ok2 b2 (fun _ m => nomatch m), rfl, q2⟩⟩
    | next => exact z.elim
    | brk => exact z.elim
    | cont => exact z.elim
/-- C(k = e): kb is the promise of the binding of self and one keyword -/
theorem pe_mkGK {X : Cx} {x kk : Str} {C fI : Addr} {k : Nat} {fd : FuncData} {ps : List Str} {sp : Sp} {p pos : Pos} {kws : List Keyword} {tk : TA} {g : List Value → List Value → List Value} {gV : List V → List V → List V} (T : ExG X.K C) (iC : PySem.W.findIn X.K (.ref C) "__init__" = some (some (.ref fI))) (tI : PySem.W.typeIn X.K (.ref fI) = some (.type "function"))
    (F : FnOk X.prog X.w X.K X.mg X.base CX0 k fI fd ps sp) (hr : Room (k + 1) X.A) (hb : KBn X.K fd ps 1 [kk] g gV) (hg : Gl X x) (hm : X.mg x = some (.ref C)) (hkw : PK X kws tk)
    (hall : (backToKw pos (keywordEach kws X.env)).all (·.1.isSome) = true := by rfl) (hks : (backToKw pos (keywordEach kws X.env)).filterMap (·.1) = [kk] := by rfl)
    (hdb : (x == ("__debug__" : Str)) = false := by decide) (hpl : ((backTo pos (starEach [] X.env)).any (·.1) || (backToKw pos (keywordEach kws X.env)).any (·.1.isNone)) = false := by rfl) :
    PE X (.Call (.Name x p) [] kws pos) (fun σ H Q => tk σ H fun zs H1 => zs.length = 1 ∧ ∀ a, H1 a = none → sp (gV [.ref a] zs) (upd H1 a (exo a C none)) (fun v H2 => v = .non ∧ Q (.ref a) H2) fun _ _ _ => False) := by
  refine ⟨fun pins s σ H Q I h => wpAny_Call_Name_kw (ld_glob I hg hm ?_ hdb)⟩
  obtain ⟨B, newId, initId, bmB, FB, SF, ov, nm, q, N, bs, bm, sn, sub, ab, col, dd, k0, k1, k2, k3, k5, look, same⟩ := T.fam
  refine PySem.W.callWith_KW0 (h₀ := X.base) I.ok.mod.kin T.kC hall ?_ hpl
  refine thn (hkw.run pos pins s σ H _ I h) fun ws s2 ⟨zs, H1, J, rz, lz, y⟩ => ⟨J.kIn, ?_⟩
  rw [hks]
  obtain ⟨u, rfl⟩ : ∃ u, ws = [u] := by
    cases rz with
    | nil => cases lz
    | cons a b => cases b with
      | nil => exact ⟨_, rfl⟩
      | cons => cases lz
  show wpAny _ _ (call (.ref C) [] [(kk, u)]) _ _ _
  obtain ⟨hh, gg, dr, tk2, os⟩ := s2
  have n1 : H1 (hh.objs.size + 1) = none := J.hok.fresh (Nat.le_succ _)
  have yy := y (hh.objs.size + 1) n1
  have more : ∀ b o, hh.get? b = some o → ((hh.push (PySem.W.kdv_tup [])).push (PySem.HandSPX.excO C hh.objs.size)).get? b = some o := fun b o z => Heap.get?_push_of_some _ (Heap.get?_push_of_some _ z)
  have at_ : ((hh.push (PySem.W.kdv_tup [])).push (PySem.HandSPX.excO C hh.objs.size)).get? (hh.objs.size + 1) = some (PySem.HandSPX.excO C hh.objs.size) := by heap_get
  have J2 : Inv X pins σ (upd H1 (hh.objs.size + 1) (exo (hh.objs.size + 1) C none)) ⟨(hh.push (PySem.W.kdv_tup [])).push (PySem.HandSPX.excO C hh.objs.size), gg, dr, tk2, os⟩ := J.laid (t' := tk2) more (Nat.le_succ _) (exo_ok at_)
  have rv2 : Vals [V.ref (hh.objs.size + 1)] [Value.ref (hh.objs.size + 1)] := .cons rfl .nil
  have bnd := hb.to _ [Value.ref (hh.objs.size + 1)] [u] J2.kIn rfl rfl
  have body := F.run _ X.stack _ _ ⟨[Value.ref (hh.objs.size + 1)], [(kk, u)]⟩ _ _ _ (fun _ _ _ => False) (hr.make C [] [(kk, u)]) (J2.env0.make C [] [(kk, u)]) bnd (hb.rel rv2 rz) yy
  refine wpAny_call (kw_call FB same (J.kIn _ _ look) (PySem.W.looks_findIn J.kIn iC) (fun self => PySem.W.bind_fn J.kIn self tI) (codeAny_mono body fun r s2 z => ?_))
  cases r with
  | error _ => exact z.elim
  | ok fl =>
    cases fl with
    | ret w =>
      obtain ⟨v, H2, o2, b2, un2, ok2, rw2, ev, q2⟩ := z
      subst ev
      exact ⟨rw2, ⟨V.ref (hh.objs.size + 1), H2, J2.call' (ch := []) o2 un2 ok2 b2 (fun _ m => nomatch m), rfl, q2⟩⟩
    | next => exact z.elim
    | brk => exact z.elim
    | cont => exact z.elim
end Bh

set_option Elab.async false
set_option linter.all false
set_option maxRecDepth 100000
set_option maxHeartbeats 1000000
namespace Bh
open PySem PySem.Spec PyProof.Rows L2
/-! ### what is new -/
def newOf (H H' : Hp) : Hp := fun a => if H a = none then H' a else none
section
variable {H H1 H2 : Hp} {a p D : Addr} {o : HO} {u : HO}
theorem newOf_le : Same (newOf H H1) H1 := fun a u e => by
  unfold newOf at e
  by_cases h : H a = none
  · rw [if_pos h] at e
    exact e
  · rw [if_neg h] at e
    cases e
theorem newOf_at (h : H a = none) : newOf H H1 a = H1 a := if_pos h
theorem newOf_mono (s : Same H1 H2) : Same (newOf H H1) (newOf H H2) := fun a u e => by
  unfold newOf at e ⊢
  by_cases h : H a = none
  · rw [if_pos h] at e ⊢
    exact s _ _ e
  · rw [if_neg h] at e
    cases e
theorem newOf_trans (s : Same H H1) : Same (newOf H1 H2) (newOf H H2) := fun a u e => by
  unfold newOf at e ⊢
  by_cases h : H1 a = none
  · rw [if_pos h] at e
    rw [if_pos (s.free h)]
    exact e
  · rw [if_neg h] at e
    cases e
/-- new since, and not at D, which was there -/
theorem newOf_hid (s : Same H H1) (hD : H1 D = some u) : Same (newOf H1 H2) (hid D (newOf H (upd H2 D o))) := fun a v e => by
  have n : H1 a = none := by
    cases q : H1 a with
    | none => rfl
    | some w =>
      unfold newOf at e
      rw [if_neg (by rw [q]; exact fun z => nomatch z)] at e
      cases e
  have ne : a ≠ D := fun z => by
    rw [z, hD] at n
    cases n
  rw [newOf_at n] at e
  rw [hid_ne ne, newOf_at (s.free n), upd_ne ne]
  exact e
theorem hid_newOf (s : Same H1 H2) : Same (hid D (newOf H H1)) (hid D (newOf H (upd H2 D o))) := fun a v e => by
  by_cases ne : a = D
  · rw [ne] at e
    unfold hid at e
    rw [if_pos rfl] at e
    cases e
  rw [hid_ne ne] at e ⊢
  have k := newOf_mono (H := H) s _ _ e
  unfold newOf at k ⊢
  by_cases h : H a = none
  · rw [if_pos h] at k ⊢
    rw [upd_ne ne]
    exact k
  · rw [if_neg h] at k
    cases k
end
/-- the promise of copy_of (n: how deep, one more): the same data, all of its lists and tuples new -/
def spCp (K : PySem.W.Frag) : Nat → Sp
  | 0 => fun _ _ _ _ => False
  | n + 1 => fun vs H Q _ => ∃ (v : V) (d : PyData), vs = [v] ∧ Dp K H v d ∧ Sh n d ∧ ∀ H' r, Same H H' → Dp K (newOf H H') r d → Q r H'
structure ExR (K : PySem.W.Frag) (mg : Str → Option Value) (x q : Str) (st : Stmt) (ps at_ : List Str) : Type where
  c : Addr
  f : Addr
  fd : FuncData
  F : Fun K "__init__" q st f fd
  b : Binds K fd ps []
  g : mg x = some (.ref c)
  e : ExG K c
  i : PySem.W.findIn K (.ref c) "__init__" = some (some (.ref f))
  t : PySem.W.typeIn K (.ref f) = some (.type "function")
  n : ∀ y ∈ at_, PySem.W.findIn K (.ref c) y = some none
  x : XfC K c
  k : ExcC K c

/-- an own error's dict gets the code and, under f, a copy of d all of whose lists and tuples are new -/
def spIe (K : PySem.W.Frag) (C : Addr) (nm f : Str) (n : Nat) : Sp := fun vs H Q _ => ∃ (a : Addr) (v : V) (d : PyData), vs = [.ref a, v] ∧ H a = some (exo a C none) ∧ Dp K H v d ∧ Sh n d ∧
  ∀ (dx : Addr) (r : V) (H2 : Hp), H dx = none → dx ≠ a → H2 a = some (exo a C (some dx)) → H2 dx = some (exd dx [("code", .str nm), (f, r)]) → Same (hid a H) H2 → Dp K (hid dx (newOf H H2)) r d → Q .non H2
theorem ie_same {H H3 : Hp} {a dx : Addr} {o1 o2 o3 : HO} (s : Same H H3) (nd : H3 dx = none) : Same (hid a H) (upd (upd (upd H3 dx o1) a o2) dx o3) := fun b u e => by
  have ne : b ≠ a := fun z => by
    rw [z] at e
    unfold hid at e
    rw [if_pos rfl] at e
    cases e
  rw [hid_ne ne] at e
  have k := s _ _ e
  have ne2 : b ≠ dx := ne_of_none k nd
  rw [upd_ne ne2, upd_ne ne, upd_ne ne2]
  exact k
theorem ie_new {H H3 : Hp} {a dx : Addr} {o1 o2 o3 w : HO} (ea : H a = some w) (s : Same H H3) (nd : H3 dx = none) : Same (newOf H H3) (hid dx (newOf H (upd (upd (upd H3 dx o1) a o2) dx o3))) := fun b u e => by
  have n : H b = none := by
    cases q : H b with
    | none => rfl
    | some z =>
      unfold newOf at e
      rw [if_neg (by rw [q]; exact fun z => nomatch z)] at e
      cases e
  rw [newOf_at n] at e
  have ne : b ≠ a := fun z => by
    rw [z, ea] at n
    cases n
  have ne2 : b ≠ dx := ne_of_none e nd
  rw [hid_ne ne2, newOf_at n, upd_ne ne2, upd_ne ne, upd_ne ne2]
  exact e
/-- the error, raised: what its making leaves -/
theorem ie_raise {K : PySem.W.Frag} {H : Hp} {C a : Addr} {nm f : Str} {n : Nat} {v : V} {d : PyData} {Q : XK} (hd : Dp K H v d) (hs : Sh n d) (na : H a = none)
    (k : ∀ (dd : Addr) (r : V) (H2 : Hp), H dd = none → Same H H2 → H2 dd = some (.xd [("code", .str nm), (f, r)]) → Dp K (newOf H H2) r d → Q (.ref C) (some dd) H2) :
    spIe K C nm f n (V.ref a :: ([v] ++ [])) (upd H a (exo a C none)) (fun v H2 => v = .non ∧ ∃ (d : Addr) (fs : List (Str × V)), H2 a = some (exo a C (some d)) ∧ H2 d = some (exd d fs) ∧ H d = none ∧ Q (.ref C) (some d) (upd (del H2 a) d (.xd fs))) (fun _ _ _ => False) := by
  refine ⟨a, v, d, rfl, upd_same, Dp.mono (same_new na) hd, hs, fun dx r H2 nd ne e1 e2 s1 hr => ⟨rfl, dx, _, e1, e2, ?_, ?_⟩⟩
  · rw [upd_ne ne] at nd
    exact nd
  · rw [upd_ne ne] at nd
    refine k dx r _ nd (fun b u e => ?_) upd_same (Dp.mono (fun b u e => ?_) hr)
    · have b1 : b ≠ dx := ne_of_none e nd
      have b2 : b ≠ a := ne_of_none e na
      rw [upd_ne b1, del_ne b2]
      exact s1 _ _ (by rw [hid_ne b2, upd_ne b2]; exact e)
    · have b1 : b ≠ dx := fun z => by
        rw [z] at e
        unfold hid at e
        rw [if_pos rfl] at e
        cases e
      rw [hid_ne b1] at e
      have n : upd H a (exo a C none) b = none := by
        cases q : upd H a (exo a C none) b with
        | none => rfl
        | some z =>
          unfold newOf at e
          rw [if_neg (by rw [q]; exact fun z => nomatch z)] at e
          cases e
      have b2 : b ≠ a := fun z => by
        rw [z, upd_same] at n
        cases n
      rw [newOf_at n] at e
      rw [upd_ne b2] at n
      rw [newOf_at n, upd_ne b1, del_ne b2]
      exact e
/-- what an except suite is to know of a raised error -/
structure ErC (K : PySem.W.Frag) (cBE cMS C : Addr) (nm f : Str) : Prop where
  x : XfC K C
  n1 : PySem.W.findIn K (.ref C) "code" = some none
  n2 : PySem.W.findIn K (.ref C) f = some none
  ex : PySem.W.exmAny K (.ref C) [.ref cBE, .ref cMS] = some true
theorem pe_weak {X : Cx} {e : Expr} {t : TE} (h : PE X e t) : PE X e (fun σ H Q => ∃ Q0, t σ H Q0 ∧ ∀ v H2, Q0 v H2 → Q v H2) :=
  ⟨fun pins s σ H Q I ⟨Q0, h0, m⟩ => wpAny_mono (h.run pins s σ H Q0 I h0) (fun u s1 ⟨v, H1, J, r, q⟩ => ⟨v, H1, J, r, m v H1 q⟩) (fun _ _ x => x)⟩
theorem pe_xz_K {X : Cx} {K : PySem.W.Frag} (hK : X.K = K) {e : Expr} {te : TE} {pos : Pos} {n : Str} (he : PE X e te) (hb : attributeBase e n X.env (eval e X.env) = eval e X.env := by rfl) : PE X (.Attribute e n pos) (tXz K n te) := by
  subst hK
  exact pe_xz he hb
/-- what _law_try makes of a question -/
def TTryE (K : PySem.W.Frag) (cBE cMS : Addr) (pairs : List (Str × Str)) : (XK → Hp → VK → Prop) → Hp → VK → Prop := fun tl H Q => ∃ (Ech : XK) (Q0 : VK), tl Ech H Q0 ∧
  (∀ cls d H2, Ech cls d H2 → ∃ (C dd : Addr) (nm f : Str) (v : V), cls = .ref C ∧ d = some dd ∧ H2 dd = some (.xd [("code", .str nm), (f, v)]) ∧ ErC K cBE cMS C nm f ∧ (nm, f) ∈ pairs ∧ ∀ H3 p, Same H2 H3 → H3 p = some (.tup [.str nm, v]) → Q (.ref p) H3) ∧
  ∀ v H2, Q0 v H2 → ∀ p, H2 p = none → Q (.ref p) (upd H2 p (.tup [.str "value", v]))
/-- what _law_given tells of a caught error -/
def spGivenE (K : PySem.W.Frag) (cBE cMS : Addr) (pairs : List (Str × Str)) : Sp := fun vs H Q _ => ∃ (a C dd : Addr) (nm f : Str) (v : V), vs = [.ref a] ∧ H a = some (exz a (.ref C) (some dd)) ∧ H dd = some (.xd [("code", .str nm), (f, v)]) ∧ ErC K cBE cMS C nm f ∧ (nm, f) ∈ pairs ∧ ∀ H', Same H H' → Q v H'
theorem op_inDK {X : Cx} {K : PySem.W.Frag} (hK : X.K = K) (hu : X.A.units + 65 < cLine) : OpR X (compareOp .In) (rInD K) := by
  subst hK
  exact op_inD hu
theorem op_notInDK {X : Cx} {K : PySem.W.Frag} (hK : X.K = K) (hu : X.A.units + 65 < cLine) : OpR X (compareOp .NotIn) (rNotInD K) := by
  subst hK
  exact op_notInD hu
theorem r65 {k : Nat} {A : Around} (r : Room k A) : A.units + 65 < cLine := by
  have := r.un
  omega
theorem eqv_strs (a b : Str) : PyData.eqv (.str a) (.str b) = decide (a = b) := by
  first | rfl | (simp [PyData.eqv])
end Bh

set_option Elab.async false
set_option linter.all false
set_option maxRecDepth 100000
set_option maxHeartbeats 2000000
namespace Bh
open PySem PySem.Spec PyProof.Rows L2
/-! ### own == and repr -/
/-- x == y by the class's own __eq__; y an instance of the class, or a tuple -/
def rEqIns (K : PySem.W.Frag) (C : Addr) (sp : Sp) : R2 := fun x y H Q => ∃ (a dx : Addr) (fs : List (Str × V)), x = .ref a ∧ H a = some (.ins C dx fs) ∧
  ((∃ (b dy : Addr) (gs : List (Str × V)), y = .ref b ∧ H b = some (.ins C dy gs)) ∨ ∃ (b : Addr) (zs : List V), y = .ref b ∧ SqT K H b zs) ∧ sp [x, y] H (fun v H' => (∃ r, v = .bl r) ∧ Q v H') C8.E0
section
variable {X : Cx} {C f : Addr} {fd : FuncData} {k : Nat} {sp : Sp} {p1 p2 : Str}
/-- the def f called with two values by the interpreter itself -/
theorem own_two (F : FnOk X.prog X.w X.K X.mg X.base C8.CX0 k f fd [p1, p2] sp) (hb : Binds X.K fd [p1, p2] []) {A : Around} (hr : Room k A) (fr : A.frames = X.A.frames) {pins : List (Addr × Obj)} {s : Shared} {σ : L2.St} {H : Hp} {x y : V} {u v : Value} {Q : VK} {E : Value → Shared → Prop}
    (I : Inv X pins σ H s) (rx : RelV x u) (ry : RelV y v) (h : sp [x, y] H Q C8.E0) : wpAny (model X.prog X.w) A (call (.ref f) [u, v]) (EP X pins σ Q) E s := by
  have en := I.env0
  have e0 : Env0 X.prog X.w X.K X.mg X.base A X.stack s H := ⟨by rw [fr]; exact en.frames, en.mod, en.bs, en.bsz, en.funs, en.frf, en.hok, en.bare⟩
  have bnd := hb s [u, v] I.kIn rfl
  rw [List.append_nil] at bnd
  refine wpAny_call (codeAny_mono (F.run A X.stack s H ⟨[u, v], []⟩ [u, v] [x, y] Q C8.E0 hr e0 bnd (.cons rx (.cons ry .nil)) h) fun r s2 z => ?_)
  cases r with
  | error e => exact (show False from z).elim
  | ok fl =>
    cases fl with
    | ret w => exact I.after z
    | next => exact z.elim
    | brk => exact z.elim
    | cont => exact z.elim
theorem op_eqIns (F : FnOk X.prog X.w X.K X.mg X.base C8.CX0 k f fd [p1, p2] sp) (hs : PySem.W.findIn X.K (.ref C) "__eq__" = some (some (.ref f))) (hf : PySem.W.isFn X.K (.ref f) = true) (hb : Binds X.K fd [p1, p2] []) (hr : Room k X.A)
    (ht : PySem.W.subIn X.K (.type "tuple") (.ref C) = some false) : OpR X (compareOp .Eq) (rEqIns X.K C sp) := by
  intro pins s σ H x y v u Q I rx ry h
  obtain ⟨a, dx, fs, rfl, ha, hy, hsp⟩ := h
  cases rx
  obtain ⟨mA, J, _⟩ := ins_get I.hok ha
  obtain ⟨od, J, _⟩ := J.look
  obtain ⟨m, hF⟩ := I.fr
  have body := own_two F hb hr rfl (E := X.xe) I (x := .ref a) (y := y) (u := .ref a) (v := u) rfl ry hsp
  show wpAny (model X.prog X.w) X.A (richCompare .Eq (.ref a) u) (EP X pins σ Q) X.xe s
  have go : ∀ tb, PySem.W.Looks (model X.prog X.w) s.heap (typeOf u) tb → PySem.W.notFirst X.K C tb = true → wpAny (model X.prog X.w) X.A (richCompare .Eq (.ref a) u) (EP X pins σ Q) X.xe s := fun tb h1 h2 => by
    refine PySem.W.cmp_K (op := .Eq) (tb := tb) hr.units0 hF I.ok.mod.kin J h1 h2 hs hf (wpAny_mono body (fun w s' z => ?_) fun _ _ e => e)
    obtain ⟨vr, H', I', rv, ⟨r, rfl⟩, q⟩ := z
    cases rv
    exact ⟨.bl r, H', I', rfl, q⟩
  rcases hy with ⟨b, dy, gs, rfl, hb'⟩ | ⟨b, zs, rfl, hz⟩
  · cases ry
    obtain ⟨mB, J', _⟩ := ins_get I.hok hb'
    obtain ⟨od', J', _⟩ := J'.look
    exact go _ J'.type (by simp [PySem.W.notFirst])
  · cases ry
    obtain ⟨its, _, pl, _⟩ := I.tuple hz
    obtain ⟨ob, ho, hc, _⟩ := id pl
    exact go (.type "tuple") (hc ▸ (PySem.W.Looks.ld ho).andThen .now) (by unfold PySem.W.notFirst; rw [ht]; rfl)
/-- repr(x) by the class's own __repr__ -/
def rReprIns (C : Addr) (sp : Sp) : List V → Hp → VK → Prop := fun xs H Q => ∃ (a dx : Addr) (fs : List (Str × V)), xs = [.ref a] ∧ H a = some (.ins C dx fs) ∧ sp xs H (fun v H' => (∃ r, v = .str r) ∧ Q v H') C8.E0
theorem own_one (F : FnOk X.prog X.w X.K X.mg X.base C8.CX0 k f fd [p1] sp) (hb : Binds X.K fd [p1] []) {A : Around} (hr : Room k A) (fr : A.frames = X.A.frames) {pins : List (Addr × Obj)} {s : Shared} {σ : L2.St} {H : Hp} {x : V} {u : Value} {Q : VK} {E : Value → Shared → Prop}
    (I : Inv X pins σ H s) (rx : RelV x u) (h : sp [x] H Q C8.E0) : wpAny (model X.prog X.w) A (call (.ref f) [u]) (EP X pins σ Q) E s := by
  have en := I.env0
  have e0 : Env0 X.prog X.w X.K X.mg X.base A X.stack s H := ⟨by rw [fr]; exact en.frames, en.mod, en.bs, en.bsz, en.funs, en.frf, en.hok, en.bare⟩
  have bnd := hb s [u] I.kIn rfl
  rw [List.append_nil] at bnd
  refine wpAny_call (codeAny_mono (F.run A X.stack s H ⟨[u], []⟩ [u] [x] Q C8.E0 hr e0 bnd (.cons rx .nil) h) fun r s2 z => ?_)
  cases r with
  | error e => exact (show False from z).elim
  | ok fl =>
    cases fl with
    | ret w => exact I.after z
    | next => exact z.elim
    | brk => exact z.elim
    | cont => exact z.elim
theorem call_reprIns (F : FnOk X.prog X.w X.K X.mg X.base C8.CX0 k f fd [p1] sp) (hs : PySem.W.findIn X.K (.ref C) "__repr__" = some (some (.ref f))) (hf : PySem.W.isFn X.K (.ref f) = true) (hb : Binds X.K fd [p1] []) (hr : Room (k + 1) X.A) : CallR X (.builtin "repr") (rReprIns C sp) := by
  intro pins s σ H xs us Q I r h
  obtain ⟨a, dx, fs, rfl, ha, hsp⟩ := h
  obtain ⟨u, rfl, rx⟩ := vals1 r
  cases rx
  obtain ⟨mA, J, _⟩ := ins_get I.hok ha
  obtain ⟨od, J, _⟩ := J.look
  obtain ⟨m, hF⟩ := I.fr
  have body := own_one F hb hr.in1 rfl (E := X.xe) I (x := .ref a) (u := .ref a) rfl hsp
  refine PySem.W.repr_K hr.in1.units0 hF I.ok.mod.kin J hs hf (wpAny_mono body (fun w s' z => ?_) fun _ _ e => e)
  obtain ⟨vr, H', I', rv, ⟨r, rfl⟩, q⟩ := z
  obtain ⟨t, rfl⟩ := rv
  exact ⟨.str r, H', I', ⟨t, rfl⟩, q⟩
/-- the class's own names: its __eq__, no __ne__ -/
def nsB (K : PySem.W.Frag) (N f : Addr) : Bool := match K.lookup N with
  | some ⟨_, _, .dict es _, _⟩ => (es.toList.all fun e => match e.key with
      | .str _ _ => true
      | _ => false) && (decide (nsFind es "__eq__" = some (.ref f)) && decide (nsFind es "__ne__" = none))
  | _ => false
/-- a class over object alone -/
structure NeC (K : PySem.W.Frag) (C f : Addr) : Prop where
  lk : ∃ nm q N bs hdct sn sub ab col dd k0 k1 k2 k3 k5 newId, K.lookup C = some (excClassObj nm q C N bs [.type "object"] hdct sn sub ab col dd k0 k1 k2 k3 k5 newId) ∧ nsB K N f = true
  fn : ∃ o : Obj, K.lookup f = some o ∧ o.cls = .type "function"
theorem NeC.own {K : PySem.W.Frag} {C f x : Addr} {h : Heap} {ox : Obj} (c : NeC K C f) (X : K.In h) (hx : h.get? x = some ox) (hc : ox.cls = .ref C) : h.OwnEqNoNe x C f "object" [.type "object"] := by
  obtain ⟨nm, q, N, bs, hdct, sn, sub, ab, col, dd, k0, k1, k2, k3, k5, newId, lk, hn⟩ := c.lk
  obtain ⟨of, lf, cf⟩ := c.fn
  unfold nsB at hn
  cases e : K.lookup N with
  | none => rw [e] at hn; cases hn
  | some o =>
    obtain ⟨oc, od, dt, osl⟩ := o
    rw [e] at hn
    cases dt with
    | dict es ep =>
      have hn : ((es.toList.all fun e => match e.key with
        | .str _ _ => true
        | _ => false) && (decide (nsFind es "__eq__" = some (.ref f)) && decide (nsFind es "__ne__" = none))) = true := hn
      rw [Bool.and_eq_true, Bool.and_eq_true, decide_eq_true_eq, decide_eq_true_eq] at hn
      obtain ⟨n1, n2, n3⟩ := hn
      have sk : StrKeys es := fun u hu => by
        have z := List.all_eq_true.mp n1 u (Array.mem_toList_iff.mpr hu)
        cases ek : u.key with
        | str a b => exact ⟨a, b, rfl⟩
        | _ => rw [ek] at z; cases z
      exact ⟨ox, of, nm, q, N, bs, hdct, sn, sub, ab, col, dd, k0, k1, k2, k3, k5, newId, nsFind es, _, hx, hc, X _ _ lk, ⟨_, es, ep, X _ _ e, rfl, sk, fun _ => rfl⟩, n2, X _ _ lf, cf, F.cmp_object.mro, F.cmp_object.eq.lookup, n3⟩
    | _ => cases hn
/-- x != y of two instances of a class with its own __eq__ -/
def rNeIns (C : Addr) (sp : Sp) : R2 := fun x y H Q => ∃ (a dx : Addr) (fs : List (Str × V)) (b dy : Addr) (gs : List (Str × V)), x = .ref a ∧ H a = some (.ins C dx fs) ∧ y = .ref b ∧ H b = some (.ins C dy gs) ∧ sp [x, y] H (fun v H' => ∃ r, v = .bl r ∧ Q (.bl (!r)) H') C8.E0
theorem op_neIns (F : FnOk X.prog X.w X.K X.mg X.base C8.CX0 k f fd [p1, p2] sp) (c : NeC X.K C f) (hb : Binds X.K fd [p1, p2] []) (hr : Room (k + 1) X.A) : OpR X (compareOp .NotEq) (rNeIns C sp) := by
  intro pins s σ H x y v u Q I rx ry h
  obtain ⟨a, dx, fs, b, dy, gs, rfl, ha, rfl, hb', hsp⟩ := h
  cases rx
  cases ry
  obtain ⟨mA, J, _⟩ := ins_get I.hok ha
  obtain ⟨od, J, _⟩ := J.look
  obtain ⟨mB, J', _⟩ := ins_get I.hok hb'
  obtain ⟨od', J', _⟩ := J'.look
  have body := own_two F hb hr.in1 rfl (E := X.xe) I (x := .ref a) (y := .ref b) (u := .ref a) (v := .ref b) rfl rfl hsp
  refine compareOp_ne_ownEq PySem.F.cmp_object (c.own I.kIn J.at_ J.cls) J'.at_ J'.cls (by have := hr.units; omega) (wpAny_mono body (fun w s' z => ?_) fun _ _ e => e)
  obtain ⟨vr, H', I', rv, r, rfl, q⟩ := z
  cases rv
  exact ⟨r, rfl, .bl (!r), H', I', rfl, q⟩
end
end Bh

set_option Elab.async false
set_option linter.all false
set_option maxRecDepth 100000
set_option maxHeartbeats 2000000
set_option autoImplicit false
namespace Bh
open PySem PySem.Spec PyProof.Rows L2
/-! ### dicts whose keys are tuples: del d[t], a comprehension -/
theorem paired_filter {α β : Type} {F : α → β → Prop} {p : α → Bool} {q : β → Bool} (e : ∀ a b, F a b → p a = q b) : ∀ {as : List α} {bs : List β}, Paired F as bs → Paired F (as.filter p) (bs.filter q)
  | _, _, .nil => .nil
  | _, _, .cons h t => by
    have ih := paired_filter e t
    simp only [List.filter_cons, e _ _ h]
    split
    · exact .cons h ih
    · exact ih
theorem KT_without {H : Hp} (k : List L2.Key) {kvs : List (List L2.Key × V)} {xs : List (List L2.Key × Addr × Value)} (r : KT H kvs xs) : KT H (dropK kvs k) (withoutH xs k) :=
  paired_filter (fun a b h => by rw [h.1]) r
section
variable {X : Cx} {pins : List (Addr × Obj)} {σ : L2.St} {H : Hp} {s : Shared} {E : Value → Shared → Prop} {a b D : Addr} {kvs : List (List L2.Key × V)} {k : List L2.Key} {v : V} {r : Value}
/-- another table of tuples at a -/
theorem dt_back {h' : Heap} {t' : Nat} {kvs' : List (List L2.Key × V)} {xs' : List (List L2.Key × Addr × Value)} (I : Inv X pins σ H s) (e : H a = some (.dT kvs)) (r : KT H kvs' xs') (few : kvs'.length ≤ sizeLine) (d : h'.DictOfH (tupleKind (mixKind X.prog X.w)) a xs') (sb : Heap.SameBut a s.heap h') :
    Inv X pins σ (upd H a (.dT kvs')) { s with heap := h', toks := t' } := by
  have nm := (dt_of I.hok e).2.1
  have ks : KT (upd H a (.dT kvs')) kvs' xs' := KT.keeps r fun c ys ec => (upd_ne (ne_of ec e (fun z => nomatch z))).trans ec
  obtain ⟨o, es, ep, g, x, da, en, _, nd⟩ := d
  exact d_write I (by rw [e]; exact True.intro) sb ⟨o, g⟩ ⟨few, nm, xs', ks, o, es, ep, g, x, da, en, nd⟩
theorem d_delT {A : Around} {Q : Unit → Shared → Prop} (hu : A.units + 1 < cLine) (I : Inv X pins σ H s) (e : H a = some (.dT kvs)) (eb : H b = some (.tup (k.map kV))) (l : (valV kvs k).isSome = true) (h : ∀ s', Inv X pins σ (upd H a (.dT (dropK kvs k))) s' → Q () s') :
    wpAny (model X.prog X.w) A (delItem (.ref a) (.ref b)) Q E s := by
  obtain ⟨few, nm, xs, r, d⟩ := dt_of I.hok e
  obtain ⟨p, hp⟩ : ∃ p, atKey xs k = some p := by
    have q := (r.val k).isSome_eq
    rw [Option.isSome_map, l] at q
    exact Option.isSome_iff_exists.mp q.symm
  exact wpAny_delItem_heap (hsz := Nat.le_trans (Nat.le_of_eq (Paired.length r).symm) few) (tupleKind_room_in1 hu) (key_of I.hok eb) nm d hp fun h' d' sb => h _ (dt_back I e (KT_without k r) (Nat.le_trans (dropK_le kvs k) few) d' sb)
theorem d_dictSetT {Q : Unit → Shared → Prop} (hu : X.A.units + 1 < cLine) (I : Inv X pins σ H s) (e : H D = some (.dT kvs)) (eb : H b = some (.tup (k.map kV))) (hl : kvs.length < sizeLine)
    (rv : RelV v r) (h : ∀ s', Inv X pins σ (upd H D (.dT (putK kvs k v))) s' → Q () s') : wpAny (model X.prog X.w) X.A (dictSet D (.ref b) r) Q E s := by
  obtain ⟨few, nm, xs, rel, d⟩ := dt_of I.hok e
  exact wpAny_dictSet_heap (hsz := Nat.le_trans (Nat.le_of_eq (Paired.length rel).symm) few) (show (tupleKind (mixKind X.prog X.w)).room X.A from Nat.lt_of_succ_lt hu) (key_of I.hok eb) d fun h' d' sb => h _ (dt_back I e (rel.put k eb rv) (Nat.le_trans (length_putK kvs k v) hl) d' sb)
end
/-- del d[y], y a tuple -/
def sDDelT (td ty : TE) : TS := fun D σ H => td σ H fun x H1 => ty σ H1 fun y H2 => ∃ (a b : Addr) (kvs : List (List L2.Key × V)) (k : List L2.Key), x = .ref a ∧ y = .ref b ∧ H2 a = some (.dT kvs) ∧ H2 b = some (.tup (k.map kV)) ∧ (valV kvs k).isSome = true ∧ D.nx σ (upd H2 a (.dT (dropK kvs k)))
section
variable {X : Cx} {o i : Expr} {pos tpos : Pos} {td ty : TE}
theorem ps_ddelT (hu : X.A.units + 1 < cLine) (ho : PE X o td) (hi : PE X i ty) : PS X (.Delete [.Subscript o i tpos] pos) (sDDelT td ty) := by
  refine ⟨fun pins s σ H D I h => ?_⟩
  refine wpAny_Delete (wpAny_deleteEach_cons (wpAny_delete_Subscript (thn (ho.run pins s σ H _ I h) fun u s1 ⟨x, H1, I1, rx, q1⟩ => thn (hi.run pins s1 σ H1 _ I1 q1) fun iv s2 ⟨y, H2, I2, ry, a, b, kvs, k, ex, ey, e, eb, l, q2⟩ => ?_)))
  subst ex ey
  obtain rfl : u = Value.ref a := rx
  obtain rfl : iv = Value.ref b := ry
  exact d_delT hu I2 e eb l fun s3 I3 => wpAny_deleteEach_nil ⟨σ, _, I3, q2⟩
end
/-! ### {t: v for target in iter if ..}, the keys tuples -/
def tDcT (wi : TI) (g : TG) (tt : TT) (tk tv : TE) (vs : List Nat) : TE := fun σ H Q => wi σ H fun J H1 => ∀ D, H1 D = none → ∃ W : Nat → Nat → Hp → Prop, (∃ m, W 0 m (upd H1 D (.dT []))) ∧ ∀ i m h0, W i m h0 →
  (J.stop i h0 ∧ Q (.ref D) h0) ∨ (J.go i h0 ∧ ∃ Nx : Hp → Prop, (∀ h1, Nx h1 → ∃ m', m' < m ∧ W (i + 1) m' h1) ∧ ∀ x h1, J.yld i h0 x h1 → g x (wipe σ vs) h1 fun σ2 h2 => wipe σ2 vs = wipe σ vs ∧ tt σ2 h2 fun b h3 =>
    if b = true then tk σ2 h3 fun y h4 => tv σ2 h4 fun z h5 => ∃ (kvs : List (List L2.Key × V)) (k : List L2.Key) (q : Addr), y = .ref q ∧ h5 q = some (.tup (k.map kV)) ∧ h5 D = some (.dT kvs) ∧ kvs.length < sizeLine ∧ Nx (upd h5 D (.dT (putK kvs k z))) else Nx h3)
section
variable {X : Cx}
theorem pe_dcT {kx vx tg iter : Expr} {ifs : List Expr} {scope : Scope} {own : List (Str × Nat)} {pos : Pos} {wi : TI} {g : TG} {tt : TT} {tk tv : TE} (hu : X.A.units + 1 < cLine) (calm : X.calm = true) (nd : X.N.Nodup) (hi : PI X tg iter wi) (blk : BlkOk X.N X.env.scope scope own)
    (hg : ∀ s H C cl fp, PG (X.blk s H scope (compEnvC scope cl C X.env) fp) tg g) (ht : ∀ s H C cl fp, PTs (X.blk s H scope (compEnvC scope cl C X.env) fp) ifs tt)
    (hk : ∀ s H C cl fp, PE (X.blk s H scope (compEnvC scope cl C X.env) fp) kx tk) (hv : ∀ s H C cl fp, PE (X.blk s H scope (compEnvC scope cl C X.env) fp) vx tv) (hs : ∀ x, foldedSetIterable iter X.env x = pure x := by intro _; rfl) :
    PE X (.DictComp kx vx [⟨tg, iter, ifs, 0⟩] scope pos) (tDcT wi g tt tk tv (own.map (·.2))) := by
  constructor
  intro pins s σ H Q I h
  rw [arm_eval_DictComp]
  have caught : ∀ y ∈ scope.names, y.2 = .free → ∃ c, X.env.cells.lookup y.1 = some c := fun y hy e => (blk.free y hy e).elim (fun k => I.ok.has _ (.inl k)) fun k => I.ok.has _ (.inr k)
  apply wpAny_comprehension_free (use := none) rfl hs (closure_ok caught) blk.kind (fun y hy e => (blk.uniq y hy).trans (congrArg some e))
  refine thn (hi.run pins s σ H _ I h) fun w1 t1 k1 => thn k1 fun w2 t2 k2 => ?_
  obtain ⟨it, fp, tn, J, Ha, rfl, Ia, T, sta, fa, q⟩ := k2
  refine wpAny_newObj_type (newEnv_comp ?_)
  obtain ⟨D, hD⟩ : ∃ D, D = t2.heap.objs.size := ⟨_, rfl⟩
  have freeD : Ha D = none := Ia.hok.fresh (Nat.le_of_eq hD.symm)
  obtain ⟨W, ⟨m0, w0⟩, turn⟩ := q D freeD
  rw [← hD]
  obtain ⟨t3, h3⟩ : ∃ t3 : Shared, t3 = { t2 with heap := t2.heap.push { cls := .type "dict", data := .dict #[] } } := ⟨_, rfl⟩
  obtain ⟨Hb, hb⟩ : ∃ Hb, Hb = upd Ha D (.dT []) := ⟨_, rfl⟩
  have keep3 : ∀ b o, t2.heap.get? b = some o → t3.heap.get? b = some o := fun b o e => by subst h3; exact Heap.get?_push_of_some _ e
  have Ib : Inv X pins σ Hb t3 := by
    subst h3 hb
    exact Ia.laid (t' := t2.toks) (fun b o e => Heap.get?_push_of_some _ e) (Nat.le_of_eq hD.symm) (by rw [hD]; exact dt_empty t2.heap Ia.big)
  have low : ∀ b ∈ fp, b < t2.heap.objs.size := fun b m => (T.obj _ _ sta b m).elim fun o e => Heap.lt_size e.1
  have size3 : t3.heap.objs.size = t2.heap.objs.size + 1 := by subst h3; exact Heap.size_push _ _
  have fb : ∀ b ∈ fp, FpOk X pins Hb b ∧ b < t3.heap.objs.size := fun b m => by
    have l := low b m
    refine ⟨⟨?_, (fa b m).2⟩, Nat.lt_of_lt_of_le l (by rw [size3]; exact Nat.le_succ _)⟩
    subst hb
    rw [upd_ne (by rw [hD]; exact Nat.ne_of_lt l)]
    exact (fa b m).1
  have Ic := block_start Ib blk nd fb
  have nofp : ∀ b ∈ fp, Hb b = none := fun b m => (fb b m).1.1
  rw [show ({ t2 with heap := t2.heap.push { cls := .type "dict", data := .dict #[] } } : Shared) = t3 from h3.symm]
  obtain ⟨cells, hcells⟩ : ∃ l, l = cellsFrom (t3.heap.objs.size + 1) scope.names (cloFrom X.env.cells scope.names []) := ⟨_, rfl⟩
  rw [← hcells] at Ic ⊢
  have runG := hg t3 Hb t3.heap.objs.size cells fp
  have runT := ht t3 Hb t3.heap.objs.size cells fp
  have runK := hk t3 Hb t3.heap.objs.size cells fp
  have runV := hv t3 Hb t3.heap.objs.size cells fp
  obtain ⟨ce, hce⟩ : ∃ ce, ce = compEnvC scope cells t3.heap.objs.size X.env := ⟨_, rfl⟩
  have ceL : ce.locals = t3.heap.objs.size := by subst hce; rfl
  show codeAny _ _ (.compStart (.DictComp kx vx [⟨tg, iter, ifs, 0⟩] scope pos) 0 (.ref it) (.ref D) (compEnvC scope cells t3.heap.objs.size X.env)) (compPost (model X.prog X.w) X.A X.xe none (EP X pins σ Q) (.ref D) t3.heap.objs.size) { t3 with heap := pushCells (t3.heap.push { cls := .type "dict", data := .dict #[] }) scope.names }
  rw [← hce] at Ic runG runT runK runV ⊢
  rw [← hb] at w0
  obtain ⟨t4, h4⟩ : ∃ t4 : Shared, t4 = { t3 with heap := pushCells (t3.heap.push { cls := .type "dict", data := .dict #[] }) scope.names } := ⟨_, rfl⟩
  rw [← h4] at Ic ⊢
  have st3 : tn 0 t3.heap := T.keep _ _ _ sta fun b _ o e => keep3 b o e
  have st4 : tn 0 t4.heap := T.keep _ _ _ st3 fun b _ o e => by subst h4; exact pushCells_keeps _ _ _ _ (Heap.get?_push_of_some _ e)
  have own' : ∀ {σ' : L2.St} {H' : Hp} {s' : Shared}, Inv (X.blk t3 Hb scope ce fp) [] σ' H' s' → (∀ b ∈ fp, H' b = none) → ∀ b ∈ fp, FpOk (X.blk t3 Hb scope ce fp) [] H' b := fun J' n b m =>
    ⟨n b m, (J'.ok.exf b m).1, J'.ok.exfs b m, .inl m, fun x c e => (J'.ok.exf b m).2 x c e, fun p hp => by cases (show p ∈ ([] : List (Addr × Obj)) from hp)⟩
  have loop : codeAny (model X.prog X.w) X.A (.compLoop (.DictComp kx vx [⟨tg, iter, ifs, 0⟩] scope pos) 0 (.ref it) (.ref D) ce) (compPost (model X.prog X.w) X.A X.xe none (EP X pins σ Q) (.ref D) t3.heap.objs.size) t4 := by
    apply compLoop_anyD (fun n s' => ∃ i H', Inv (X.blk t3 Hb scope ce fp) [] (wipe σ (own.map (·.2))) H' s' ∧ tn i s'.heap ∧ (∀ b ∈ fp, H' b = none) ∧ W i n H') ?_ m0 ⟨0, Hb, Ic, st4, nofp, w0⟩
    intro n s5 ⟨i, H5, I5, st5, n5, w5⟩
    rcases turn i n H5 w5 with ⟨stop, fin⟩ | ⟨go, Nx, more, step⟩
    · refine thnF (T.done (X.blk t3 Hb scope ce fp) rfl rfl rfl calm i [] s5 _ H5 (fun _ _ => False) I5 (own' I5 n5) st5 stop) fun r s6 k6 => ?_
      obtain ⟨rfl, I6⟩ := k6
      have back : Inv X pins σ H5 s6 := Ib.call' (ch := fp) I6.os I6.base I6.hok I6.bare fun b m => ⟨(fb b m).1.2.2.2.1, (fb b m).1.2.1, (fb b m).1.2.2.2.2.1, (fb b m).1.2.2.2.2.2⟩
      have gone : H5 t3.heap.objs.size = none := ceL ▸ (show H5 ce.locals = none from I6.free)
      obtain ⟨m, ns, _⟩ := I6.loc
      have ns : s6.heap.Ns t3.heap.objs.size m := ceL ▸ (show s6.heap.Ns ce.locals m from ns)
      obtain ⟨f0, f1, f2, f3, f4, f5⟩ := Ib.fpOk (H' := H5) (Nat.le_refl _) gone
      exact ⟨m, ns, fun h'' sb => ⟨.ref D, H5, back.turned (t' := s6.toks) (fun b o hb e => (sb.2 b hb).trans e) f0 f1 f3 f4 f5, rfl, fin⟩⟩
    · refine thnF (T.item (X.blk t3 Hb scope ce fp) rfl rfl rfl calm i [] s5 _ H5 (fun _ _ => False) I5 (own' I5 n5) st5 go) fun r s6 k6 => ?_
      obtain ⟨u, rfl, k6⟩ := k6
      refine thnF k6 fun _ s7 k7 => ?_
      obtain ⟨x, H7, I7, r7, y7, st7, n7⟩ := k7
      have held := T.obj _ _ st7
      have turnEnd : ∀ {σ8 : L2.St} {H' : Hp} {s' : Shared}, wipe σ8 (own.map (·.2)) = wipe σ (own.map (·.2)) → Inv (X.blk t3 Hb scope ce fp) ([] ++ pinsAt fp s7.heap) σ8 H' s' → Nx H' →
          ∃ m, m < n ∧ ∃ i H', Inv (X.blk t3 Hb scope ce fp) [] (wipe σ (own.map (·.2))) H' s' ∧ tn i s'.heap ∧ (∀ b ∈ fp, H' b = none) ∧ W i m H' := by
        intro σ8 H' s' e8 J' nx
        obtain ⟨m', lt, w'⟩ := more H' nx
        have still : ∀ b ∈ fp, ∀ o, s7.heap.get? b = some o → s'.heap.get? b = some o ∧ H' b = none := fun b hb o e => by
          obtain ⟨z1, z2, _⟩ := J'.pin (b, o) (List.mem_append_right _ (List.mem_append_right _ (mem_pinsAt hb e)))
          exact ⟨z1, z2⟩
        have J2 : Inv (X.blk t3 Hb scope ce fp) [] σ8 H' s' := J'.unpinned (pins := [])
        refine ⟨m', lt, i + 1, H', J2.weak (by rw [← e8, wipe_length]) (fun j v e => (wipe_some (vs := own.map (·.2)) (by rw [e8]; exact e)).1), T.keep _ _ _ st7 fun b hb o e => (still b hb o e).1, fun b hb => ?_, w'⟩
        obtain ⟨o, e, _⟩ := held b hb
        exact (still b hb o e).2
      refine thnF (runG.run _ s7 _ H7 x u _ (I7.pinned (own' I7 n7) held) r7 (step x H7 y7)) fun _ s8 k8 => ?_
      obtain ⟨σ8, H8, I8, e8, q8⟩ := k8
      refine thnF (runT.run _ s8 σ8 H8 _ I8 q8) fun b s9 k9 => ?_
      obtain ⟨H9, I9, q9⟩ := k9
      by_cases kept : b = true
      · rw [if_pos kept] at q9 ⊢
        refine thnF (runK.run _ s9 σ8 H9 _ I9 q9) fun z s10 k10 => ?_
        obtain ⟨y, H10, I10, r10, q10⟩ := k10
        refine thnF (runV.run _ s10 σ8 H10 _ I10 q10) fun z2 s11 k11 => ?_
        obtain ⟨y2, H11, I11, r11, kvs, k, qa, rfl, eq, eD, few, nx⟩ := k11
        cases r10
        exact d_dictSetT (X := X.blk t3 Hb scope ce fp) hu I11 eD eq few r11 fun s12 I12 => turnEnd e8 I12 nx
      · rw [if_neg kept] at q9 ⊢
        exact turnEnd e8 I9 q9
  exact codeAny_compStart_dict loop (T.self _ 0 _ _ _ st4 loop)
end
/-- it over a walk -/
theorem dcT_it {J : It} {n : Nat} {G : Hp → Prop} {Y : Nat → Hp → V → Hp → Prop} (w : Walk J n G Y) {g : TG} {tt : TT} {tk tv : TE} {vs : List Nat} {σ : L2.St} {H1 : Hp} {D : Addr} {Qd : Hp → Prop} (Pv : Nat → Hp → Prop) (h0 : Pv 0 (upd H1 D (.dT []))) (hG : ∀ i H, i ≤ n → Pv i H → G H)
    (hs : ∀ i x H H', i < n → Pv i H → Y i H x H' → g x (wipe σ vs) H' fun σ2 h2 => wipe σ2 vs = wipe σ vs ∧ tt σ2 h2 fun b h3 =>
      if b = true then tk σ2 h3 fun y h4 => tv σ2 h4 fun z h5 => ∃ (kvs : List (List L2.Key × V)) (k : List L2.Key) (q : Addr), y = .ref q ∧ h5 q = some (.tup (k.map kV)) ∧ h5 D = some (.dT kvs) ∧ kvs.length < sizeLine ∧ Pv (i + 1) (upd h5 D (.dT (putK kvs k z))) else Pv (i + 1) h3) (hd : ∀ H, Pv n H → Qd H) :
    ∃ W : Nat → Nat → Hp → Prop, (∃ m, W 0 m (upd H1 D (.dT []))) ∧ ∀ i m h0, W i m h0 →
      (J.stop i h0 ∧ Qd h0) ∨ (J.go i h0 ∧ ∃ Nx : Hp → Prop, (∀ h1, Nx h1 → ∃ m', m' < m ∧ W (i + 1) m' h1) ∧ ∀ x h1, J.yld i h0 x h1 → g x (wipe σ vs) h1 fun σ2 h2 => wipe σ2 vs = wipe σ vs ∧ tt σ2 h2 fun b h3 =>
        if b = true then tk σ2 h3 fun y h4 => tv σ2 h4 fun z h5 => ∃ (kvs : List (List L2.Key × V)) (k : List L2.Key) (q : Addr), y = .ref q ∧ h5 q = some (.tup (k.map kV)) ∧ h5 D = some (.dT kvs) ∧ kvs.length < sizeLine ∧ Nx (upd h5 D (.dT (putK kvs k z))) else Nx h3) := by
  refine ⟨fun i m h => i ≤ n ∧ m + i = n ∧ Pv i h, ⟨n, Nat.zero_le _, rfl, h0⟩, fun i m h z => ?_⟩
  obtain ⟨le, em, p⟩ := z
  have gd := hG i h le p
  rcases Nat.lt_or_ge i n with lt | ge
  · exact .inr ⟨w.goes i h lt gd, Pv (i + 1), fun h1 p1 => ⟨m - 1, by omega, lt, by omega, p1⟩, fun x h1 y => hs i x h h1 lt p (w.yields i h x h1 lt gd y)⟩
  · have e : i = n := Nat.le_antisymm le ge
    rw [e] at p ⊢
    exact .inl ⟨w.stops h gd, hd h p⟩
end Bh

set_option Elab.async false
set_option linter.all false
set_option maxRecDepth 100000
set_option maxHeartbeats 2000000
set_option autoImplicit false
namespace Bh
open PySem PySem.Spec PyProof.Rows L2
/-! ### a class's own in, len, [] and []= -/
section
variable {X : Cx} {C f : Addr} {fd : FuncData} {k : Nat} {sp : Sp} {ps : List Str} {CX : CXT} {EX : XK}
/-- the interpreter itself calls the def f -/
theorem own_call (F : FnOk X.prog X.w X.K X.mg X.base CX k f fd ps sp) (hb : Binds X.K fd ps []) (hx : Passes CX X EX) {A : Around} (hr : Room k A) (fr : A.frames = X.A.frames) {pins : List (Addr × Obj)} {s : Shared} {σ : L2.St} {H : Hp} {vs : List V} {us : List Value} {Q : VK}
    (I : Inv X pins σ H s) (r : Vals vs us) (h : sp vs H Q EX) : wpAny (model X.prog X.w) A (call (.ref f) us) (EP X pins σ Q) X.xe s := by
  have en := I.env0
  have e0 : Env0 X.prog X.w X.K X.mg X.base A X.stack s H := ⟨by rw [fr]; exact en.frames, en.mod, en.bs, en.bsz, en.funs, en.frf, en.hok, en.bare⟩
  have hl := F.len _ _ _ _ h
  have bnd := hb s us I.kIn (by rw [List.append_nil, ← r.length]; exact hl)
  rw [List.append_nil] at bnd
  refine wpAny_call (codeAny_mono (F.run A X.stack s H ⟨us, []⟩ us vs Q EX hr e0 bnd r h) fun r s2 z => ?_)
  match r, z with
  | .error e, z => exact hx pins σ H s e s2 I z
  | .ok (.ret w), z => exact I.after z
/-- y in x, y not in x: x an instance of the class at C -/
def rInIns (C : Addr) (sp : Sp) (EX : XK) (neg : Bool) : R2 := fun y x H Q => ∃ (a dx : Addr) (fs : List (Str × V)), x = .ref a ∧ H a = some (.ins C dx fs) ∧ sp [x, y] H (fun v H' => ∃ b, v = .bl b ∧ Q (.bl (b != neg)) H') EX
theorem op_inIns (F : FnOk X.prog X.w X.K X.mg X.base CX k f fd ps sp) (hs : PySem.W.findIn X.K (.ref C) "__contains__" = some (some (.ref f))) (hf : PySem.W.isFn X.K (.ref f) = true) (hb : Binds X.K fd ps []) (hx : Passes CX X EX) (hr : Room k X.A) :
    OpR X (compareOp .In) (rInIns C sp EX false) := by
  intro pins s σ H y x v u Q I ry rx h
  obtain ⟨a, dx, fs, rfl, ha, hsp⟩ := h
  cases rx
  obtain ⟨mA, J, _⟩ := ins_get I.hok ha
  obtain ⟨od, J, _⟩ := J.look
  obtain ⟨m, hF⟩ := I.fr
  refine PySem.W.in_K hF I.ok.mod.kin J hs hf (wpAny_mono (own_call F hb hx hr rfl I (vs := [.ref a, y]) (us := [.ref a, v]) (.cons rfl (.cons ry .nil)) hsp) (fun w s' z => ?_) fun _ _ e => e)
  obtain ⟨vr, H', I', rv, b, rfl, q⟩ := z
  cases rv
  refine wpAny_truthy_bool ?_
  rw [Bool.bne_false] at q
  exact ⟨.bl b, H', I', rfl, q⟩
theorem op_notInIns (F : FnOk X.prog X.w X.K X.mg X.base CX k f fd ps sp) (hs : PySem.W.findIn X.K (.ref C) "__contains__" = some (some (.ref f))) (hf : PySem.W.isFn X.K (.ref f) = true) (hb : Binds X.K fd ps []) (hx : Passes CX X EX) (hr : Room k X.A) :
    OpR X (compareOp .NotIn) (rInIns C sp EX true) := by
  intro pins s σ H y x v u Q I ry rx h
  obtain ⟨a, dx, fs, rfl, ha, hsp⟩ := h
  cases rx
  obtain ⟨mA, J, _⟩ := ins_get I.hok ha
  obtain ⟨od, J, _⟩ := J.look
  obtain ⟨m, hF⟩ := I.fr
  refine PySem.W.notIn_K hF I.ok.mod.kin J hs hf (wpAny_mono (own_call F hb hx hr rfl I (vs := [.ref a, y]) (us := [.ref a, v]) (.cons rfl (.cons ry .nil)) hsp) (fun w s' z => ?_) fun _ _ e => e)
  obtain ⟨vr, H', I', rv, b, rfl, q⟩ := z
  cases rv
  refine wpAny_truthy_bool ?_
  rw [Bool.bne_true] at q
  exact ⟨.bl (!b), H', I', rfl, q⟩
/-- len(x) -/
def rLenIns (C : Addr) (sp : Sp) (EX : XK) : List V → Hp → VK → Prop := fun xs H Q => ∃ (a dx : Addr) (fs : List (Str × V)), xs = [.ref a] ∧ H a = some (.ins C dx fs) ∧ sp xs H (fun v H' => ∃ n : Nat, v = .int n ∧ n ≤ sizeLine ∧ Q v H') EX
theorem call_lenIns (F : FnOk X.prog X.w X.K X.mg X.base CX k f fd ps sp) (hs : PySem.W.findIn X.K (.ref C) "__len__" = some (some (.ref f))) (hf : PySem.W.isFn X.K (.ref f) = true) (hb : Binds X.K fd ps []) (hx : Passes CX X EX) (hr : Room (k + 1) X.A) :
    CallR X (.builtin "len") (rLenIns C sp EX) := by
  intro pins s σ H xs us Q I r h
  obtain ⟨a, dx, fs, rfl, ha, hsp⟩ := h
  obtain ⟨u, rfl, rx⟩ := vals1 r
  cases rx
  obtain ⟨mA, J, _⟩ := ins_get I.hok ha
  obtain ⟨od, J, _⟩ := J.look
  obtain ⟨m, hF⟩ := I.fr
  refine PySem.W.len_K hF I.ok.mod.kin J hs hf (wpAny_mono (own_call F hb hx hr.in1 rfl I (vs := [.ref a]) (us := [.ref a]) (.cons rfl .nil) hsp) (fun w s' z => ?_) fun _ _ e => e)
  obtain ⟨vr, H', I', rv, n, rfl, le, q⟩ := z
  obtain ⟨t, rfl⟩ := rv
  exact ⟨⟨by omega, by have := line63; omega⟩, .int n, H', I'.tok _, ⟨_, rfl⟩, q⟩
/-- x[y] -/
def rIxIns (C : Addr) (sp : Sp) (EX : XK) : R2 := fun x y H Q => ∃ (a dx : Addr) (fs : List (Str × V)), x = .ref a ∧ H a = some (.ins C dx fs) ∧ sp [x, y] H Q EX
theorem ix_ins (F : FnOk X.prog X.w X.K X.mg X.base CX k f fd ps sp) (hs : PySem.W.findIn X.K (.ref C) "__getitem__" = some (some (.ref f))) (hf : PySem.W.isFn X.K (.ref f) = true) (hfn : PySem.W.fnIn X.K f = true) (hb : Binds X.K fd ps []) (hx : Passes CX X EX) (hr : Room (k + 1) X.A)
    {value slice : Expr} {pos : Pos} {ta tb : TE} (ha : PE X value ta) (hi : PE X slice tb) (hsl : ∀ (a : Addr) (i : Value), subscripted slice true (.ref a) i = runValue (.builtin "lifetime.subscript" ⟨[.ref a, i], []⟩)) : PE X (.Subscript value slice pos) (tOp (rIxIns C sp EX) ta tb) := by
  refine ⟨fun pins s σ H Q I h => Subscript_ (binT ha hi I h fun v u s2 x y H2 I2 rx ry q => ?_)⟩
  obtain ⟨a, dx, fs, rfl, hA, hsp⟩ := q
  cases rx
  obtain ⟨mA, J, _⟩ := ins_get I2.hok hA
  obtain ⟨od, J, _⟩ := J.look
  obtain ⟨m, hF⟩ := I2.fr
  exact PySem.W.sub_K hF I2.ok.mod.kin J hs hfn hf (own_call F hb hx hr.in1 rfl I2 (vs := [.ref a, y]) (us := [.ref a, u]) (.cons rfl (.cons ry .nil)) hsp) (hsl a u)
/-- x[y] = v -/
def rSetIns (C : Addr) (sp : Sp) (EX : XK) : V → V → V → Hp → (Hp → Prop) → Prop := fun x y v H Q => ∃ (a dx : Addr) (fs : List (Str × V)), x = .ref a ∧ H a = some (.ins C dx fs) ∧ sp [x, y, v] H (fun _ H' => Q H') EX
theorem set_ins (F : FnOk X.prog X.w X.K X.mg X.base CX k f fd ps sp) (hq : PySem.W.noSeq X.K C = true) (hs : PySem.W.findIn X.K (.ref C) "__setitem__" = some (some (.ref f))) (hf : PySem.W.isFn X.K (.ref f) = true) (hb : Binds X.K fd ps []) (hx : Passes CX X EX) (hr : Room k X.A) :
    PSet X (rSetIns C sp EX) := by
  intro pins s σ H o i v ov iv u Q I ro ri rv h
  obtain ⟨a, dx, fs, rfl, ha, hsp⟩ := h
  cases ro
  obtain ⟨mA, J, _⟩ := ins_get I.hok ha
  obtain ⟨od, J, _⟩ := J.look
  obtain ⟨m, hF⟩ := I.fr
  refine PySem.W.ksp_setItem hF I.ok.mod.kin J hq hs hf (wpAny_mono (own_call F hb hx hr rfl I (vs := [.ref a, i, v]) (us := [.ref a, iv, u]) (.cons rfl (.cons ri (.cons rv .nil))) hsp) (fun w s' z => ?_) fun _ _ e => e)
  obtain ⟨vr, H', I', _, q⟩ := z
  exact ⟨H', I', q⟩
end
theorem u1 {k : Nat} {A : Around} (r : Room k A) : A.units + 1 < cLine := by
  have := r.un
  omega
section
variable {X : Cx}
/-- y in d, y not in d -/
def rInD (neg : Bool) : R2 := fun y x H Q => ∃ (a : Addr) (o : Option V), x = .ref a ∧ DGet H a y o ∧ Q (.bl (o.isSome != neg)) H
theorem op_inD (hu : X.A.units + 1 < cLine) : OpR X (compareOp .In) (rInD false) := by
  intro pins s σ H y x v u Q I ry rx h
  obtain ⟨a, o, rfl, g, q⟩ := h
  cases rx
  rw [Bool.bne_false] at q
  exact d_in hu I g ry fun s2 I2 => ⟨.bl o.isSome, H, I2, rfl, q⟩
theorem op_notInD (hu : X.A.units + 1 < cLine) : OpR X (compareOp .NotIn) (rInD true) := by
  intro pins s σ H y x v u Q I ry rx h
  obtain ⟨a, o, rfl, g, q⟩ := h
  cases rx
  rw [Bool.bne_true] at q
  exact d_notIn hu I g ry fun s2 I2 => ⟨.bl (!o.isSome), H, I2, rfl, q⟩
end
end Bh

set_option Elab.async false
set_option linter.all false
set_option maxRecDepth 100000
set_option maxHeartbeats 2000000
set_option autoImplicit false
namespace Bh
open PySem PySem.Spec PyProof.Rows L2
/-! ### == of two dicts whose keys are tuples and whose values are all True -/
section
variable {prog : Program} {w : World} {κ : Type} [DecidableEq κ] {knd : HeapKind prog w κ} {A : Around} {E : Value → Shared → Prop} {s : Shared}
theorem eq_truths {Q : Bool → Shared → Prop} (h : Q true s) : wpAny (model prog w) A (eqBool (.bool true) (.bool true)) Q E s := by
  have z : SeqAt.EqAt A s (.bool true) (.bool true) true := SeqAt.EqAt.same _
  exact z _ _ _ _ h
theorem samePairsT {nm : String} {a b : Addr} {xa xb : List (κ × Addr × Value)} {Q : Bool → Shared → Prop} (hu : knd.room A) (la : (a == sysModules) = false) (lb : (b == sysModules) = false) (da : s.heap.DictOfH knd a xa) (db : s.heap.DictOfH knd b xb)
    (va : ∀ x ∈ xa, x.2.2 = .bool true) (vb : ∀ x ∈ xb, x.2.2 = .bool true) (h : Q (xa.length == xb.length && xa.all fun x => (atKey xb x.1).isSome) s) : wpAny (model prog w) A (Builtin.Dict.samePairs nm a b) Q E s := by
  obtain ⟨oa, es, ep, ga, _, ea, la', ka, _⟩ := da
  obtain ⟨ob, fs, eq, gb, _, eb, lb', kb, nb⟩ := db
  have za := size_of_entries la'
  have zb := size_of_entries lb'
  unfold Builtin.Dict.samePairs Builtin.Dict.showsAll
  rw [la, lb]
  refine wpAny_bind (wpAny_pure (wpAny_bind (wpAny_pure (wpAny_bind (wpAny_dictEntries ga ea (wpAny_bind (wpAny_dictEntries gb eb ?_)))))))
  rw [za, zb]
  by_cases n : xa.length = xb.length
  · have c1 : ¬ (xa.length != xb.length) = true := by simp [n]
    have c2 : (xa.length == xb.length) = true := by simp [n]
    rw [c2, Bool.true_and] at h
    rw [if_neg c1]
    refine wpAny_bind (wpAny_dictEpoch ga ea ?_)
    refine wpAny_bind ?_
    refine SeqAt.wpAny_forIn_span 0 xa.length _ (fun i c s' => s' = s ∧ c = (none, ()) ∧ (xa.all fun x => (atKey xb x.1).isSome) = ((xa.drop i).all fun x => (atKey xb x.1).isSome)) _ ?_ ?_ _ ⟨rfl, rfl, rfl⟩
    · rintro i c s' - lt ⟨rfl, rfl, e⟩
      refine wpAny_bind (wpAny_dictEntries ga ea ?_)
      have ei : es[i]? = some (entryOfKey knd xa[i]) := by rw [entry_at la', List.getElem?_eq_getElem lt]; rfl
      rw [ei]
      have mi : xa[i] ∈ xa := List.getElem_mem lt
      rw [List.drop_eq_getElem_cons lt, List.all_cons] at e
      dsimp only
      refine wpAny_bind (wpAny_holding (wpAny_bind ?_))
      refine wpAny_dictFind_heap hu (ka _ mi) gb eb lb' kb nb (fun no => ?_) fun j p ej => ?_
      · have nn : atKey xb xa[i].1 = none := by
          unfold atKey
          rw [Option.map_eq_none_iff, List.find?_eq_none]
          intro x hx hd
          obtain ⟨j, hj⟩ := List.mem_iff_getElem?.mp hx
          have e1 := of_decide_eq_true hd
          exact no j x.2 (by rw [hj, ← e1])
        rw [nn] at e
        dsimp only
        rw [e] at h
        exact wpAny_pure (wpAny_pure (wpAny_pure h))
      · have mj : (xa[i].1, p) ∈ xb := List.mem_of_getElem? ej
        have ns : (atKey xb xa[i].1).isSome = true := by
          unfold atKey
          rw [Option.isSome_map, List.find?_isSome]
          exact ⟨_, mj, decide_eq_true rfl⟩
        rw [ns, Bool.true_and] at e
        dsimp only
        refine wpAny_bind (wpAny_dictEntries gb eb ?_)
        have ej' : fs[j]? = some (entryOfKey knd (xa[i].1, p)) := by rw [entry_at lb', ej]; rfl
        rw [ej']
        dsimp only
        have v1 : (entryOfKey knd xa[i]).val = .bool true := va _ mi
        have v2 : (entryOfKey knd (xa[i].1, p)).val = .bool true := vb _ mj
        rw [v1, v2]
        refine wpAny_holding (eq_truths ?_)
        rw [if_neg (by decide)]
        refine wpAny_bind (wpAny_dictEpoch ga ea ?_)
        rw [if_neg (by simp)]
        exact wpAny_pure ⟨rfl, rfl, e⟩
    · rintro c s' ⟨rfl, rfl, e⟩
      have e2 : max 0 xa.length = xa.length := Nat.max_eq_right (Nat.zero_le _)
      rw [e2, List.drop_length] at e
      rw [e] at h
      exact wpAny_pure h
  · have c1 : (xa.length != xb.length) = true := by simp [n]
    have c2 : (xa.length == xb.length) = false := by simp [n]
    rw [c2, Bool.false_and] at h
    rw [if_pos c1]
    exact wpAny_bind (wpAny_rule (wpAny_pure h))
end
theorem kt_truths {H : Hp} : ∀ {ks : List (List L2.Key × V)} {xs : List (List L2.Key × Addr × Value)}, KT H ks xs → (∀ p ∈ ks, p.2 = .bl true) → ∀ x ∈ xs, x.2.2 = .bool true
  | _, _, .nil, _, x, m => nomatch m
  | _, _, .cons (a := p) (b := q) h t, a, x, m => by
    rcases List.mem_cons.mp m with rfl | m
    · have z := h.2.2
      rw [a p List.mem_cons_self] at z
      exact z
    · exact kt_truths t (fun p' m' => a p' (List.mem_cons_of_mem _ m')) x m
theorem kt_all {H : Hp} {ls : List (List L2.Key × V)} {ys : List (List L2.Key × Addr × Value)} (r : KT H ls ys) : ∀ {ks : List (List L2.Key × V)} {xs : List (List L2.Key × Addr × Value)}, KT H ks xs → (xs.all fun x => (atKey ys x.1).isSome) = ks.all fun p => (valV ls p.1).isSome
  | _, _, .nil => rfl
  | _, _, .cons (a := p) (b := q) h t => by
    have e := (r.val p.1).isSome_eq
    rw [Option.isSome_map] at e
    rw [List.all_cons, List.all_cons, kt_all r t, ← h.1, e]
section
variable {X : Cx}
/-- == of two dicts of tuples to True -/
def rEqT : R2 := fun x y H Q => ∃ (a b : Addr) (ks ls : List (List L2.Key × V)), x = .ref a ∧ y = .ref b ∧ H a = some (.dT ks) ∧ H b = some (.dT ls) ∧ (∀ p ∈ ks, p.2 = .bl true) ∧ (∀ p ∈ ls, p.2 = .bl true) ∧
  Q (.bl (ks.length == ls.length && ks.all fun p => (valV ls p.1).isSome)) H
theorem op_eqT (hu : X.A.units + 1 < cLine) : OpR X (compareOp .Eq) rEqT := by
  intro pins s σ H x y v u Q I rx ry h
  obtain ⟨a, b, ks, ls, rfl, rfl, ea, eb, ta, tb, q⟩ := h
  cases rx
  cases ry
  obtain ⟨_, ma, xs, ra, da⟩ := dt_of I.hok ea
  obtain ⟨_, mb, ys, rb, db⟩ := dt_of I.hok eb
  refine wpAny_richCompare_same_room (op := .Eq) da.typeIs db.typeIs PySem.F.slot_dict_eq (wpAny_call_entry PySem.F.slot_dict_eq da.typeIs PySem.F.entry_dict_eq ?_ (PySem.F.args_dict_eq_2 _ _)) (Nat.lt_of_succ_lt hu)
  refine wpAny_bind (m := Builtin.Dict.dictSlotArgs _ _) ?_
  unfold Builtin.Dict.dictSlotArgs
  refine wpAny_bind (wpAny_notOrdered_dict da.typeIs ?_)
  refine wpAny_pure (wpAny_bind (wpAny_isInstance (T := "dict") db.typeIs PySem.F.sub_dict_dict ?_))
  rw [if_neg (by decide)]
  refine wpAny_bind (wpAny_pure (wpAny_bind (wpAny_pure (wpAny_bind (samePairsT (show (tupleKind (mixKind X.prog X.w)).room X.A.in1 from hu) ma mb da db (kt_truths ra ta) (kt_truths rb tb) ?_)))))
  refine wpAny_pure ⟨_, rfl, (fun z => nomatch (show Value.bool _ = Value.notImplemented from z)), ?_⟩
  rw [(by intro b; cases b <;> rfl : ∀ b : Bool, (b == true) = b), ← Paired.length ra, ← Paired.length rb, kt_all rb ra]
  exact ⟨.bl _, H, I, rfl, q⟩
end
end Bh

set_option Elab.async false
set_option linter.all false
set_option maxRecDepth 100000
set_option maxHeartbeats 2000000
set_option autoImplicit false
namespace Bh
open PySem PySem.Spec PyProof.Rows L2
/-! ### text.endswith(tuple of texts) -/
section
variable {prog : Program} {w : World} {A : Around} {E : Value → Shared → Prop} {s : Shared}
theorem ends_loop {z : Str} {a : Addr} {its : List Value} {ps : List Str} {Q : Value → Shared → Prop} (r : Vals (ps.map V.str) its) (ht : IsTup s.heap a its.toArray) (h : Q (.bool (ps.any fun p => Txt.endswith z p)) s) (t : Tok) :
    wpAny (model prog w) A (Builtin.«str.endswith» ⟨[.str z t, .ref a], []⟩) (fun fin s' => ∃ v, fin = .done (.ret v) ∧ Q v s') E s := by
  obtain ⟨o, ho, hc, n, hd⟩ := ht
  have hT : s.TypeIs (.ref a) "tuple" := ⟨o, ho, hc⟩
  unfold Builtin.«str.endswith» Builtin.Str.affixEntry
  refine wpAny_bind (m := Builtin.Str.strSomeArgs _ _ _ _) (wpAny_pure ?_)
  refine wpAny_bind (m := Builtin.Str.searchRange _ _) (wpAny_pure ?_)
  refine wpAny_bind ?_
  refine PySem.W.KPt.asStr_ref ho hd ?_
  dsimp only
  refine wpAny_bind (wpAny_isInstance (T := "tuple") hT PySem.W.KPt.sub_tt ?_)
  rw [if_pos rfl]
  refine wpAny_bind (wpAny_rule ?_)
  refine wpAny_bind (wpAny_seqItems ho hd ?_)
  dsimp only
  refine wpAny_bind ?_
  refine wpAny_forIn_array' _ (fun rest st s' => s' = s ∧ ∃ qs : List Str, Vals (qs.map V.str) rest ∧ (ps.any fun p => Txt.endswith z p) = (qs.any fun p => Txt.endswith z p) ∧ st = (none, ())) _ ?_ ?_ _ _ ⟨rfl, ps, by simpa using r, rfl, rfl⟩
  · rintro x rest b s' ⟨rfl, qs, rq, eq, rfl⟩
    cases qs with
    | nil => cases rq
    | cons p qs =>
      rw [List.map_cons] at rq
      cases rq with
      | cons rx rq =>
        obtain ⟨u, rfl⟩ := rx
        refine wpAny_bind (m := asStr? _) (wpAny_pure ?_)
        dsimp only
        have e1 : (decide (Int.toNat 0 + p.length ≤ min ((z.length : Nat) : Int).toNat z.length) && Builtin.Str.subAt z p (min ((z.length : Nat) : Int).toNat z.length - p.length)) = Txt.endswith z p := by
          rw [Int.toNat_natCast, Nat.min_self]; rfl
        rw [List.any_cons] at eq
        cases hb : Txt.endswith z p with
        | true =>
          rw [hb, Bool.true_or] at eq
          rw [if_pos (e1.trans hb)]
          rw [eq] at h
          exact wpAny_bind (m := ret _) (wpAny_pure (wpAny_pure (wpAny_pure ⟨_, rfl, h⟩)))
        | false =>
          rw [hb, Bool.false_or] at eq
          rw [if_neg (by rw [e1, hb]; decide)]
          exact wpAny_pure ⟨rfl, qs, rq, eq, rfl⟩
  · rintro b s' ⟨rfl, qs, rq, eq, rfl⟩
    have e0 : qs = [] := by
      cases qs with
      | nil => rfl
      | cons _ _ => cases rq
    rw [e0] at eq
    rw [eq] at h
    exact wpAny_pure ⟨_, rfl, h⟩
end
section
variable {X : Cx}
/-- also one text -/
def rEndsT (K : PySem.W.Frag) : V → List V → Hp → VK → Prop := fun x xs H Q => ∃ (z : Str) (a : Addr) (ps : List Str), x = .str z ∧ xs = [.ref a] ∧ SqT K H a (ps.map V.str) ∧ Q (.bl (ps.any fun p => Txt.endswith z p)) H
theorem mt_endsT : MtR X "str.endswith" (rEndsT X.K) := by
  intro pins s σ H x xs v us Q I rx rxs h
  obtain ⟨z, a, ps, rfl, rfl, hq, q⟩ := h
  obtain ⟨t, rfl⟩ := rx
  obtain ⟨u, rfl, ru⟩ := vals1 rxs
  cases ru
  obtain ⟨its, rv, pl, hz⟩ := I.tuple hq
  refine wpAny_call_entry PySem.F.slot_str_endswith (typeIs_str s z t) PySem.F.entry_str_endswith (ends_loop rv pl ⟨.bl _, H, I, rfl, q⟩ t) (PySem.F.args_str_endswith_2 _ _)
theorem mt_endsT_K {K : PySem.W.Frag} (e : X.K = K) : MtR X "str.endswith" (rEndsT K) := by
  subst e
  exact mt_endsT
end
end Bh

set_option Elab.async false
set_option linter.all false
set_option maxRecDepth 100000
set_option maxHeartbeats 1000000
namespace Bh
open PySem PySem.Spec PyProof.Rows L2
structure Top (K : PySem.W.Frag) (mg : Str → Option Value) : Type where
  a_copy_of : Addr
  fd_copy_of : FuncData
  d_copy_of : Df K mg "copy_of" s_copy_of ["value"] a_copy_of fd_copy_of
  a_is_name : Addr
  fd_is_name : FuncData
  d_is_name : Df K mg "is_name" s_is_name ["value"] a_is_name fd_is_name
  a_is_word : Addr
  fd_is_word : FuncData
  d_is_word : Df K mg "_is_word" s_is_word ["value", "characters"] a_is_word fd_is_word
  a_kinds_of : Addr
  fd_kinds_of : FuncData
  d_kinds_of : Df K mg "_kinds_of" s_kinds_of ["cells"] a_kinds_of fd_kinds_of
  a_ties_between : Addr
  fd_ties_between : FuncData
  d_ties_between : Df K mg "_ties_between" s_ties_between ["kinds", "ties"] a_ties_between fd_ties_between
  a_check_cell : Addr
  fd_check_cell : FuncData
  d_check_cell : Df K mg "_check_cell" s_check_cell ["kinds", "name", "kind"] a_check_cell fd_check_cell
  a_check_tie : Addr
  fd_check_tie : FuncData
  d_check_tie : Df K mg "_check_tie" s_check_tie ["kinds", "ties", "tie", "source", "target"] a_check_tie fd_check_tie
  a_is_kind : Addr
  fd_is_kind : FuncData
  d_is_kind : Df K mg "_is_kind" s_is_kind ["value"] a_is_kind fd_is_kind
  a_l_bag : Addr
  fd_l_bag : FuncData
  d_l_bag : Df K mg "_law_bag" s_l_bag ["_law_script"] a_l_bag fd_l_bag
  a_l_draw : Addr
  fd_l_draw : FuncData
  d_l_draw : Df K mg "_law_draw" s_l_draw ["_law_bag_here", "_law_many"] a_l_draw fd_l_draw
  a_l_any : Addr
  fd_l_any : FuncData
  d_l_any : Df K mg "_law_any" s_l_any ["_law_bag_here", "_law_row"] a_l_any fd_l_any
  a_l_mixed : Addr
  fd_l_mixed : FuncData
  d_l_mixed : Df K mg "_law_mixed" s_l_mixed ["_law_bag_here", "_law_row"] a_l_mixed fd_l_mixed
  a_l_like : Addr
  fd_l_like : FuncData
  d_l_like : Df K mg "_law_like" s_l_like ["_law_found", "_law_due"] a_l_like fd_l_like
  a_l_given : Addr
  fd_l_given : FuncData
  d_l_given : Df K mg "_law_given" s_l_given ["_law_e"] a_l_given fd_l_given
  a_l_try : Addr
  fd_l_try : FuncData
  d_l_try : Df K mg "_law_try" s_l_try ["_law_ask"] a_l_try fd_l_try
  a_l_words : Addr
  fd_l_words : FuncData
  d_l_words : Df K mg "_law_words" s_l_words ["_law_bag_here", "_law_many"] a_l_words fd_l_words
  a_l_web : Addr
  fd_l_web : FuncData
  d_l_web : Df K mg "_law_web" s_l_web ["_law_net"] a_l_web fd_l_web
  a_l_net_of : Addr
  fd_l_net_of : FuncData
  d_l_net_of : Df K mg "_law_net_of" s_l_net_of ["_law_web_here"] a_l_net_of fd_l_net_of
  a_l_drawn_web : Addr
  fd_l_drawn_web : FuncData
  d_l_drawn_web : Df K mg "_law_drawn_web" s_l_drawn_web ["_law_bag_here", "_law_names", "_law_words_here"] a_l_drawn_web fd_l_drawn_web
  a_l_compared : Addr
  fd_l_compared : FuncData
  d_l_compared : Df K mg "_law_compared" s_l_compared ["_law_one", "_law_two", "_law_a", "_law_b"] a_l_compared fd_l_compared
  a_l_put_in : Addr
  fd_l_put_in : FuncData
  d_l_put_in : Df K mg "_law_put_in" s_l_put_in ["_law_one", "_law_two", "_law_a"] a_l_put_in fd_l_put_in
  a_l_put_in_so : Addr
  fd_l_put_in_so : FuncData
  d_l_put_in_so : Df K mg "_law_put_in_so" s_l_put_in_so ["_law_one", "_law_two", "_law_due", "_law_b"] a_l_put_in_so fd_l_put_in_so
  b_all : mg "all" = none
  b_dict : mg "dict" = none
  b_isinstance : mg "isinstance" = none
  b_len : mg "len" = none
  b_list : mg "list" = none
  b_range : mg "range" = none
  b_sorted : mg "sorted" = none
  b_tuple : mg "tuple" = none
  b_int : mg "int" = none
  b_zip : mg "zip" = none
  b_bool : mg "bool" = none
  b_str : mg "str" = none
  g_LETTERS : ∃ t, mg "LETTERS" = some (Value.str "abcdefghijklmnopqrstuvwxyz" t)
  g_LONGEST : ∃ t, mg "LONGEST" = some (Value.int 8 t)
  a_NUMBERS : Addr
  g_NUMBERS : mg "NUMBERS" = some (.ref a_NUMBERS)
  k_NUMBERS : ∀ H : Hp, SqT K H a_NUMBERS [V.str ".0", V.str ".1", V.str ".2"]
  r_KindsDiffer : ExR K mg "KindsDiffer" "KindsDiffer.__init__" s_KindsDiffer__init ["self", "name"] ["code", "name"]
  cBE : Addr
  cMS : Addr
  gBE : mg "BestError" = some (.ref cBE)
  gMS : mg "Missing" = some (.ref cMS)
  x_KindsDiffer : PySem.W.exmOne K (.ref r_KindsDiffer.c) (.ref cBE) = some true
  e_KindsDiffer : ErC K cBE cMS r_KindsDiffer.c "KindsDiffer" "name"
section
variable {P : Program} {w : World} {K : PySem.W.Frag} {mg : Str → Option Value} {base : Heap}
theorem cut63 (ns : List Int) (h : ns.length ≤ 63) : cutV (ns.map V.int) none (some 63) = ns.map V.int := by
  unfold cutV
  rw [HT.sIx_none, show HT.sIx (ns.map V.int).length (ns.map V.int).length (some 63) = min 63 (ns.map V.int).length from HT.sIx_nat _ _ 63, List.length_map, Nat.min_eq_right h]
  show List.take (ns.length - 0) (List.drop 0 (ns.map V.int)) = _
  rw [List.drop_zero, Nat.sub_zero]
  exact List.take_of_length_le (by rw [List.length_map]; exact Nat.le_refl _)
theorem ok_bag (T : Top K mg) : FnOk P w K mg base CX0 1 T.a_l_bag T.fd_l_bag ["_law_script"] (spBag K) := by
  refine T.d_l_bag.F.ok sc_l_bag (fun vs H Q E h => ?_) (fun cdv A outer s H vs Q E hr h => ?_)
  · obtain ⟨a, ns, rfl, _⟩ := h
    rfl
  obtain ⟨a, ns, rfl, hS, h63, q⟩ := h
  refine ⟨_, (pss_cons (ps_set (i := 1) sc_l_bag.nd rfl (Or.inl rfl) (pe_op op_add pe_int (pe_op op_mul pe_int (pe_callB (call_len_seq_K (K := K) (by rfl)) (by rfl) T.b_len PySem.boot_len (pa_cons (pe_slice (sl_list_K (K := K) (by rfl)) (pv 0) po_none (po_some pe_int)) pa_nil)))))
    (pss_cons (ps_for PassesOwn.never rfl (pi_list_K (K := K) (by rfl) (pe_slice (sl_list_K (K := K) (by rfl)) (pv 0) po_none (po_some pe_int))) (pg_name (i := 2) sc_l_bag.nd rfl (Or.inl rfl))
      (pss_one (ps_set (i := 1) sc_l_bag.nd rfl (Or.inl rfl) (pe_op op_mod (pe_callTy call_int1 (by rfl) T.b_int (by decide +kernel) (pa_cons (pe_op op_add (pe_op op_add (pe_op op_mul (pv 1) pe_int) (pe_op op_mod (pe_callTy call_int1 (by rfl) T.b_int (by decide +kernel) (pa_cons (pv 2) pa_nil)) pe_int)) pe_int) pa_nil)) pe_int))))
    (pss_one (ps_ret (pe_lst (pa_cons (pe_callTy (call_list_of_K (K := K) (by rfl)) (by rfl) T.b_list (by decide +kernel) (pa_cons (pe_slice (sl_list_K (K := K) (by rfl)) (pv 0) po_none (po_some pe_int)) pa_nil)) (pa_cons pe_int (pa_cons pe_int (pa_cons (pv 1) pa_nil))))))))), ?_⟩
  refine ⟨_, rfl, _, rfl, _, _, rfl, hS, fun p1 n1 => ?_⟩
  rw [cut63 ns h63]
  refine ⟨_, _, rfl, .inl (SqL.of upd_same), _, _, rfl, rfl, .inl ⟨by decide, by decide⟩, _, _, rfl, rfl, ?_⟩
  have e1 : Same H (upd H p1 (.lst (ns.map V.int))) := same_new n1
  refine ⟨_, rfl, _, rfl, _, _, rfl, e1.seq hS, fun p2 n2 => ?_⟩
  rw [cut63 ns h63]
  have e2 := e1.trans (same_new (o := .lst (ns.map V.int)) n2)
  refine ⟨p2, rfl, ⟨_, SqL.of upd_same⟩, for_list (K := K) (a := p2) (xs := ns.map V.int) (fun i σ H' => ∃ (z : Int) (v : Option V), σ = [some (.ref a), some (.int z), v] ∧ (0 < i → 0 ≤ z ∧ z < 2147483647) ∧ (z < 100000 ∨ 0 < i) ∧ 0 ≤ z ∧ H' = (upd (upd H p1 (.lst (ns.map V.int))) p2 (.lst (ns.map V.int))))
    ⟨_, none, rfl, fun z => absurd z (Nat.lt_irrefl _), .inl ?_, ?_, rfl⟩ (fun i σ H' _ ⟨_, _, _, _, _, _, e⟩ => by rw [e]; exact SqL.of upd_same) ?_ ?_⟩
  · rw [List.length_map]
    omega
  · rw [List.length_map]
    omega
  · rintro i y σ H' hi ⟨z, v, rfl, z1, z2, z0, rfl⟩
    obtain ⟨u, _, rfl⟩ := get_map hi
    refine ⟨_, rfl, _, _, rfl, rfl, .inr ⟨by decide, by decide⟩, _, rfl, .inl ⟨_, rfl, _, _, rfl, rfl, p31, _, _, rfl, rfl, _, _, rfl, rfl, .inl ⟨_, rfl, _, _, rfl, rfl, p31, ?_⟩⟩⟩
    refine ⟨_, _, rfl, fun _ => ⟨?_, ?_⟩, .inr (Nat.succ_pos i), ?_, rfl⟩ <;> omega
  · rintro σ H' ⟨z, v, rfl, z1, z2, z0, rfl⟩
    refine ⟨_, rfl, _, rfl, _, _, rfl, e2.seq hS, fun p3 n3 => ?_⟩
    rw [cut63 ns h63]
    refine ⟨_, _, rfl, .inl (SqL.of upd_same), fun l nl => ?_⟩
    have e3 := e2.trans (same_new (o := .lst (ns.map V.int)) n3)
    have e4 := e3.trans (same_new (o := .lst (ns.map V.int)) nl)
    refine ⟨_, rfl, (by show 4 ≤ sizeLine; decide), fun b nb => ?_⟩
    have e5 := e4.trans (same_new (o := .lst [.ref l, .int 0, .int 0, .int z]) nb)
    refine q b l _ (e4.free nb) (e3.free nl) e5 ⟨ns, 0, 0, z, upd_same, ?_, h63, by omega, by omega, by omega, z0, by omega⟩
    rw [upd_ne (ne_of_none upd_same nb), upd_same]
theorem ok_draw (T : Top K mg) : FnOk P w K mg base CX0 1 T.a_l_draw T.fd_l_draw ["_law_bag_here", "_law_many"] spDraw := by
  refine T.d_l_draw.F.ok sc_l_draw (fun vs H Q E h => ?_) (fun cdv A outer s H vs Q E hr h => ?_)
  · obtain ⟨b, l, G, n, rfl, _⟩ := h
    rfl
  obtain ⟨b, l, G, n, rfl, n0, n1, wd, q⟩ := h
  refine ⟨_, (Evl.pss_cut (ps_if (PW.pt (pw_and (pt_cmpR op_eq (pe_ix (ix_list_K (K := K) (by rfl)) (pv 0) pe_int (fun _ _ => rfl)) pe_int (nomark _)) (pw_and1 (pt_cmpR op_lt (pe_ix (ix_list_K (K := K) (by rfl)) (pv 0) pe_int (fun _ _ => rfl)) (pe_callB (call_len_seq_K (K := K) (by rfl)) (by rfl) T.b_len PySem.boot_len (pa_cons (pe_ix (ix_list_K (K := K) (by rfl)) (pv 0) pe_int (fun _ _ => rfl)) pa_nil)) (nomark _))))) (pss_cons (ps_set (i := 2) sc_l_draw.nd rfl (Or.inl rfl) (pe_ix (ix_list_K (K := K) (by rfl)) (pe_ix (ix_list_K (K := K) (by rfl)) (pv 0) pe_int (fun _ _ => rfl)) (pe_ix (ix_list_K (K := K) (by rfl)) (pv 0) pe_int (fun _ _ => rfl)) (fun _ _ => rfl)))
      (pss_cons (ps_asg (pe_op op_add (pe_ix (ix_list_K (K := K) (by rfl)) (pv 0) pe_int (fun _ _ => rfl)) pe_int) (pg_sub (pv 0) pe_int set_list))
      (pss_one (ps_if (pt_cmpR op_ge (pv 2) (pe_op op_pow pe_int pe_int) (nomark _)) (pss_one (ps_asg (pv 2) (pg_sub (pv 0) pe_int set_list))) (pss_one (ps_asg (pe_op op_mod (pe_callTy call_int1 (by rfl) T.b_int (by decide +kernel) (pa_cons (pe_op op_add (pe_op op_add (pe_op op_mul (pe_ix (ix_list_K (K := K) (by rfl)) (pv 0) pe_int (fun _ _ => rfl)) pe_int) (pe_op op_mul (pe_op op_mod (pe_callTy call_int1 (by rfl) T.b_int (by decide +kernel) (pa_cons (pv 2) pa_nil)) pe_int) pe_int)) (pe_ix (ix_list_K (K := K) (by rfl)) (pv 0) pe_int (fun _ _ => rfl))) pa_nil)) pe_int) (pg_sub (pv 0) pe_int set_list))))))) pss_nil)
    (pss_cons (ps_if (pt_cmpR op_gt (pe_ix (ix_list_K (K := K) (by rfl)) (pv 0) pe_int (fun _ _ => rfl)) pe_int (nomark _)) (pss_cons (ps_set (i := 3) sc_l_draw.nd rfl (Or.inl rfl) (pe_op op_mod (pe_callTy call_int1 (by rfl) T.b_int (by decide +kernel) (pa_cons (pe_ix (ix_list_K (K := K) (by rfl)) (pv 0) pe_int (fun _ _ => rfl)) pa_nil)) (pv 1)))
      (pss_cons (ps_asg (pe_op op_fdiv (pe_ix (ix_list_K (K := K) (by rfl)) (pv 0) pe_int (fun _ _ => rfl)) (pv 1)) (pg_sub (pv 0) pe_int set_list))
      (pss_one (ps_ret (pv 3))))) pss_nil)
    (pss_cons (ps_set (i := 4) sc_l_draw.nd rfl (Or.inl rfl) (pe_ix (ix_list_K (K := K) (by rfl)) (pv 0) pe_int (fun _ _ => rfl)))
    (pss_cons (ps_asg (pe_op op_mod (pe_callTy call_int1 (by rfl) T.b_int (by decide +kernel) (pa_cons (pe_op op_add (pe_op op_add (pe_op op_mul (pv 4) (pv 4)) (pe_op op_mul (pv 4) pe_int)) pe_int) pa_nil)) pe_int) (pg_sub (pv 0) pe_int set_list))
    (pss_one (ps_ret (pe_op op_mod (pe_callTy call_int1 (by rfl) T.b_int (by decide +kernel) (pa_cons (pe_op op_add (pe_op op_fdiv (pe_ix (ix_list_K (K := K) (by rfl)) (pv 0) pe_int (fun _ _ => rfl)) pe_int) (pe_op op_mul (pe_op op_mod (pe_callTy call_int1 (by rfl) T.b_int (by decide +kernel) (pa_cons (pe_ix (ix_list_K (K := K) (by rfl)) (pv 0) pe_int (fun _ _ => rfl)) pa_nil)) pe_int) pe_int)) pa_nil)) (pv 1)))))))), ?_⟩
  obtain ⟨ns, i, c, s, hb, hl, h63, i0, i1, c0, s0, s1⟩ := id wd.bag
  have lb : l ≠ b := ne_of hl hb (by intro z; cases ns with | nil => cases z | cons x r => cases r with | nil => cases z | cons => cases z)
  have B := SqL.of (K := K) hb
  refine ⟨fun σ' H' => ∃ v, σ' = [some (.ref b), some (.int n), v, none, none] ∧ Wd b l G H', ?_, ?_⟩
  · refine ⟨_, rfl, _, _, _, _, rfl, rfl, B, rfl, rfl, _, rfl, ?_⟩
    refine ite2 (fun _ => ?_) (fun _ => ?_)
    · refine ⟨_, rfl, _, _, _, _, rfl, rfl, B, rfl, _, rfl, _, _, _, _, rfl, rfl, B, rfl, _, _, rfl, .inl (SqL.of hl), _, _, rfl, rfl, _, rfl, ?_⟩
      refine ite2 (fun c1 => ?_) (fun _ => ?_)
      · have c2 := of_decide_eq_true c1
        rw [List.length_map] at c2
        have c3 : i.toNat < ns.length := by omega
        refine ⟨_, rfl, _, _, _, _, rfl, rfl, B, rfl, _, rfl, _, _, _, _, rfl, rfl, B, rfl, _, _, _, .int ns[i.toNat], rfl, rfl, SqL.of hl, at_nn i0 (by rw [List.getElem?_map, List.getElem?_eq_getElem c3]; rfl), ?_⟩
        refine ⟨_, rfl, _, _, _, _, rfl, rfl, B, rfl, _, _, rfl, rfl, _, rfl, _, _, _, 1, rfl, rfl, hb, rfl, ?_⟩
        refine ⟨_, rfl, _, _, rfl, rfl, ⟨by decide, by decide, by decide⟩, _, _, rfl, rfl, _, rfl, ?_⟩
        refine ite2 (fun g1 => ?_) (fun _ => ?_)
        · have g2 := of_decide_eq_true g1
          refine ⟨_, rfl, _, rfl, _, _, _, 2, rfl, rfl, upd_same, rfl, ?_⟩
          refine ⟨_, rfl, ?_⟩
          rw [upd_upd]
          exact wd.bagged ⟨ns, i + 1, _, s, upd_same, by rw [upd_ne lb]; exact hl, h63, by omega, by omega, Int.le_trans (by decide) g2, s0, s1⟩
        · refine ⟨_, rfl, _, _, _, _, rfl, rfl, SqL.of upd_same, rfl, _, _, rfl, rfl, .inr ⟨by decide, by decide⟩, _, rfl, .inl ⟨_, rfl, _, _, rfl, rfl, p31, _, _, rfl, rfl, .inr ⟨by decide, by decide⟩, _, _, rfl, rfl, _, rfl, _, _, _, _, rfl, rfl, SqL.of upd_same, rfl, _, _, rfl, rfl, .inl ⟨_, rfl, _, _, rfl, rfl, p31, ?_⟩⟩⟩
          refine ⟨_, rfl, _, _, _, 3, rfl, rfl, upd_same, rfl, ?_⟩
          refine ⟨_, rfl, ?_⟩
          rw [upd_upd]
          exact wd.bagged ⟨ns, i + 1, c, _, upd_same, by rw [upd_ne lb]; exact hl, h63, by omega, by omega, c0, Int.emod_nonneg _ (by decide), Int.emod_lt_of_pos _ (by decide)⟩
      · exact ⟨_, rfl, wd⟩
    · exact ⟨_, rfl, wd⟩
  · rintro σ' H' ⟨v, rfl, wd⟩
    obtain ⟨ns, i, c, s, hb, hl, h63, i0, i1, c0, s0, s1⟩ := id wd.bag
    have lb : l ≠ b := ne_of hl hb (by intro z; cases ns with | nil => cases z | cons x r => cases r with | nil => cases z | cons => cases z)
    have B := SqL.of (K := K) hb
    refine ⟨_, rfl, _, _, _, _, rfl, rfl, B, rfl, _, _, rfl, rfl, _, rfl, ?_⟩
    refine ite2 (fun g1 => ?_) (fun _ => ?_)
    · refine ⟨_, rfl, _, _, _, _, rfl, rfl, B, rfl, .inl ⟨_, rfl, _, rfl, _, _, rfl, rfl, n0, ?_⟩⟩
      refine ⟨_, rfl, _, _, _, _, rfl, rfl, B, rfl, _, rfl, _, _, rfl, rfl, ⟨n0, n1⟩, _, rfl, _, _, _, 2, rfl, rfl, hb, rfl, ?_⟩
      refine ⟨_, rfl, ?_⟩
      exact q _ _ (Int.emod_nonneg _ (by omega)) (Int.emod_lt_of_pos _ n0) (wd.bagged ⟨ns, i, c / n, s, upd_same, by rw [upd_ne lb]; exact hl, h63, i0, i1, Int.ediv_nonneg c0 (by omega), s0, s1⟩)
    · refine ⟨_, rfl, _, _, _, _, rfl, rfl, B, rfl, ?_⟩
      refine ⟨_, rfl, _, rfl, _, _, rfl, rfl, .inl ⟨by omega, by omega⟩, _, rfl, _, _, rfl, rfl, .inr ⟨by decide, by decide⟩, _, _, rfl, rfl, _, _, rfl, rfl, .inl ⟨_, rfl, _, _, rfl, rfl, p31, ?_⟩⟩
      refine ⟨_, rfl, _, _, _, 3, rfl, rfl, hb, rfl, ?_⟩
      refine ⟨_, rfl, _, _, _, _, rfl, rfl, SqL.of upd_same, rfl, _, _, rfl, rfl, ⟨by decide, by decide⟩, _, rfl, _, _, _, _, rfl, rfl, SqL.of upd_same, rfl, .inl ⟨_, rfl, _, _, rfl, rfl, p8117, _, _, rfl, rfl, .inr ⟨by decide, by decide⟩, _, _, rfl, rfl, .inl ⟨_, rfl, _, rfl, _, _, rfl, rfl, n0, ?_⟩⟩⟩
      exact q _ _ (Int.emod_nonneg _ (by omega)) (Int.emod_lt_of_pos _ n0) (wd.bagged ⟨ns, i, c, _, upd_same, by rw [upd_ne lb]; exact hl, h63, i0, i1, c0, Int.emod_nonneg _ (by decide), Int.emod_lt_of_pos _ (by decide)⟩)
end
end Bh

set_option Elab.async false
set_option linter.all false
set_option maxRecDepth 100000
set_option maxHeartbeats 1000000
namespace Bh
open PySem PySem.Spec PyProof.Rows L2
def spWord : Sp := fun vs H Q _ => ∃ (w z : Str), vs = [.str w, .str z] ∧ w.length ≤ 100000 ∧ ∀ H', Same H H' → Q (.bl (wordB w z)) H'
def spNm (z : Str) : Sp := fun vs H Q _ => ∃ (w : Str), vs = [.str w] ∧ w.length ≤ 100000 ∧ ∀ H', Same H H' → Q (.bl (wordB w z)) H'
/-- the ends that mark a kind -/
def ends3 : List Str := [".0", ".1", ".2"]
def kindB (v : Str) : Bool := if (ends3.any fun p => Txt.endswith v p) = true then wordB (cutS v none (some (-2))) letters else wordB v letters
def spIsKind : Sp := fun vs H Q _ => ∃ (v : Str), vs = [.str v] ∧ v.length ≤ 100000 ∧ ∀ H', Same H H' → Q (.bl (kindB v)) H'
section
variable {P : Program} {w : World} {K : PySem.W.Frag} {mg : Str → Option Value} {base : Heap}
theorem ok_word (T : Top K mg) : FnOk P w K mg base CX0 1 T.a_is_word T.fd_is_word ["value", "characters"] spWord := by
  refine T.d_is_word.F.ok sc_is_word (fun vs H Q E h => ?_) (fun cdv A outer s H vs Q E hr h => ?_)
  · obtain ⟨v, z, rfl, _⟩ := h
    rfl
  obtain ⟨v, z, rfl, hl, q⟩ := h
  refine ⟨_, (pss_cons (ps_if (pt_not (pt_val (pe_callB (call_isi_K (K := K) (by rfl)) (by rfl) T.b_isinstance (by decide +kernel) (pa_cons (pv 0) (pa_cons (pe_tyN "str" (by rfl) T.b_str (by decide +kernel)) pa_nil))))) (pss_one (ps_ret pe_bl)) pss_nil)
    (pss_one (ps_ret (pe_and (pe_chain op_le op_le pe_int (pe_callB call_len_str (by rfl) T.b_len PySem.boot_len (pa_cons (pv 0) pa_nil)) (pe_gI rfl T.g_LONGEST)) (pe_one (pe_callB (cr_all_K (K := K) (by rfl) rfl) (by rfl) T.b_all (by decide +kernel) (pa_cons (pe_lc (own := [("character", 2)]) rfl sc_is_word.nd (pi_str (pv 0)) (blkOk_by (own := [("character", 2)]) (N := ["value", "characters", "character"]) (sc := defScope s_is_word) (by decide +kernel)) (fun _ _ _ _ _ => by exact (pg_name (i := 2) sc_is_word.nd rfl (Or.inl rfl))) (fun _ _ _ _ _ => by exact pts_nil) (fun _ _ _ _ _ => by exact (pe_cmpR op_in_sign (pv 2) (pv 1) (by rfl)))) pa_nil))))))), ?_⟩
  refine ⟨_, rfl, _, _, _, _, true, rfl, .ty _, .base (.str v), kit_ty (by decide +kernel), _, rfl, ?_⟩
  refine iteF ?_
  refine ⟨_, rfl, v, rfl, le_line hl, _, _, rfl, rfl, _, rfl, ?_⟩
  have no : ¬ (1 ≤ v.length ∧ v.length ≤ 8) → Q (.bl false) H := fun z => by
    have k := q H (Same.refl _)
    unfold wordB at k
    rw [decide_eq_false z] at k
    exact k
  refine ite3 (fun h1 => ?_) (fun h1 => ⟨false, rfl, iteF (no (by omega))⟩)
  refine ⟨_, _, rfl, rfl, _, rfl, ite3 (fun h2 => ?_) (fun h2 => no (by omega))⟩
  refine ⟨_, rfl, v, rfl, fun D nD => ?_⟩
  refine lc_it walk_str (fun i H' => Same H H' ∧ H' D = some (.lst ((((TL.tl v).map fun c => decide (c ∈ TL.tl z)).take i).map V.bl))) ⟨same_new nD, upd_same⟩ (fun _ _ _ _ => True.intro) ?_ ?_
  · rintro i y H' H'' hi ⟨s1, hDl⟩ ⟨rfl, c, ec, rfl⟩
    have ec' : (TL.tl v)[i]? = some c := by rw [← ec]; exact Array.getElem?_toList
    refine ⟨rfl, _, rfl, _, rfl, c, z, rfl, rfl, _, hDl, ?_, same_mut s1 nD, ?_⟩
    · rw [List.length_map, List.length_take]
      have : i < v.length := hi
      exact lt_line (by omega)
    · rw [upd_same, List.take_add_one, List.getElem?_map, ec', List.map_append]
      rfl
  · rintro H' ⟨s1, hDl⟩
    rw [List.take_of_length_le (by rw [List.length_map, ← TL.len_tl]; exact Nat.le_refl _)] at hDl
    refine ⟨D, _, rfl, SqL.of hDl, ?_⟩
    have k := q _ s1
    unfold wordB at k
    rw [decide_eq_true (show 1 ≤ v.length ∧ v.length ≤ 8 by omega)] at k
    rw [List.all_map]
    exact k
theorem ok_name (T : Top K mg) : FnOk P w K mg base CX0 2 T.a_is_name T.fd_is_name ["value"] (spNm letters) := by
  have G_is_word := ok_word (P := P) (w := w) (base := base) T
  refine T.d_is_name.F.ok sc_is_name (fun vs H Q E h => ?_) (fun cdv A outer s H vs Q E hr h => ?_)
  · obtain ⟨v, rfl, _⟩ := h
    rfl
  obtain ⟨v, rfl, hl, q⟩ := h
  refine ⟨_, (pss_one (ps_ret (pe_call G_is_word (hr.mono (by decide)) (by rfl) T.d_is_word.g T.d_is_word.kp T.d_is_word.b .nil pass0 (pa_cons (pv 0) (pa_cons (pe_gS rfl T.g_LETTERS) pa_nil))))), ?_⟩
  exact ⟨_, rfl, v, letters, rfl, hl, q⟩
theorem ok_iskind (T : Top K mg) : FnOk P w K mg base CX0 3 T.a_is_kind T.fd_is_kind ["value"] spIsKind := by
  have G_is_name := ok_name (P := P) (w := w) (base := base) T
  refine T.d_is_kind.F.ok sc_is_kind (fun vs H Q E h => ?_) (fun cdv A outer s H vs Q E hr h => ?_)
  · obtain ⟨v, rfl, _⟩ := h
    rfl
  obtain ⟨v, rfl, hl, q⟩ := h
  refine ⟨_, (pss_cons (ps_if (PW.pt (pw_and (pt_val (pe_callB (call_isi_K (K := K) (by rfl)) (by rfl) T.b_isinstance (by decide +kernel) (pa_cons (pv 0) (pa_cons (pe_tyN "str" (by rfl) T.b_str (by decide +kernel)) pa_nil)))) (pw_and1 (pt_val (pe_m1 PySem.F.slot_str_endswith PySem.F.type_str_endswith (mt_endsT_K (K := K) (by rfl)) (pv 0) (pe_gR rfl T.g_NUMBERS)))))) (pss_one (ps_ret (pe_call G_is_name (hr.mono (by decide)) (by rfl) T.d_is_name.g T.d_is_name.kp T.d_is_name.b .nil pass0 (pa_cons (pe_slice sl_str (pv 0) po_none (po_some (pe_un un_neg pe_int))) pa_nil)))) pss_nil)
    (pss_one (ps_ret (pe_call G_is_name (hr.mono (by decide)) (by rfl) T.d_is_name.g T.d_is_name.kp T.d_is_name.b .nil pass0 (pa_cons (pv 0) pa_nil))))), ?_⟩
  refine ⟨_, rfl, _, _, _, _, true, rfl, .ty _, .base (.str v), kit_ty (by decide +kernel), _, rfl, ?_⟩
  refine ⟨_, rfl, ⟨v, rfl⟩, v, _, ends3, rfl, rfl, T.k_NUMBERS _, _, rfl, iteB (fun e => ?_) (fun e => ?_)⟩
  · have := cutS_length v none (some (-2))
    refine ⟨_, rfl, 2, rfl, (-2 : Int), rfl, v, rfl, le_line hl, _, rfl, by omega, fun H' s => ?_⟩
    have k := q H' s
    unfold kindB at k
    rw [if_pos e] at k
    exact k
  · refine ⟨_, rfl, v, rfl, hl, fun H' s => ?_⟩
    have k := q H' s
    unfold kindB at k
    rw [if_neg (by rw [e]; decide)] at k
    exact k
end
end Bh

set_option Elab.async false
set_option linter.all false
set_option maxRecDepth 100000
set_option maxHeartbeats 1000000
set_option autoImplicit false
namespace Bh
open PySem PySem.Spec PyProof.Rows L2
/-- a for over a list or a tuple in a name -/
theorem for_sq {K : PySem.W.Frag} {j : Nat} {a : Addr} {xs : List V} {g : TG} {tb : TS} {D : Ends} {σ : L2.St} {H0 H : Hp} (hv : ∀ Q : VK, Q (.ref a) H → tVar j σ H Q) (hS : SqL K H0 a xs ∨ SqT K H0 a xs) (h00 : Same H0 H) (Pv : Nat → L2.St → Hp → Prop) (h0 : Pv 0 σ H) (hG : ∀ i σ H', i ≤ xs.length → Pv i σ H' → Same H0 H')
    (hs : ∀ i x σ H', i < xs.length → Pv i σ H' → xs[i]? = some x → g x σ H' fun σ2 H2 => tb { D with nx := Pv (i + 1), ct := Pv (i + 1), bk := D.nx } σ2 H2) (hd : ∀ σ H', Pv xs.length σ H' → D.nx σ H') : tFor (iSeq K (tVar j)) g tb D σ H := by
  rcases hS with hS | hS
  · exact .inl (hv _ ⟨a, rfl, ⟨_, h00.seq hS⟩, for_it walk_list Pv h0 (fun i σ H' l p => (hG i σ H' l p).seq hS) (fun i x σ H' H'' hi p y => by
      obtain ⟨rfl, e⟩ := y
      exact hs i x σ _ hi p e) hd⟩)
  · exact .inr (hv _ ⟨a, rfl, ⟨_, Same.tup h00 hS⟩, for_it walk_tup Pv h0 (fun i σ H' l p => Same.tup (hG i σ H' l p) hS) (fun i x σ H' H'' hi p y => by
      obtain ⟨rfl, e⟩ := y
      exact hs i x σ _ hi p e) hd⟩)
/-! ### cells and ties as the two dicts hold them -/
abbrev Cl := Str × Str
abbrev Ti := Str × Str × Str
def eC (c : Cl) : L2.Key × V := (.inr c.1, .str c.2)
def kT (t : Ti) : List L2.Key := [.inr t.1, .inr t.2.1, .inr t.2.2]
def eT (t : Ti) : List L2.Key × V := (kT t, .bl true)
def dCell (c : Cl) : PyData := .tuple [.str c.1, .str c.2]
def dTi (t : Ti) : PyData := .tuple [.str t.1, .str t.2.1, .str t.2.2]
theorem kT_inj {a b : Ti} (h : kT a = kT b) : a = b := by
  obtain ⟨a1, a2, a3⟩ := a
  obtain ⟨b1, b2, b3⟩ := b
  have h : ([.inr a1, .inr a2, .inr a3] : List L2.Key) = [.inr b1, .inr b2, .inr b3] := h
  injection h with h1 h
  injection h with h2 h
  injection h with h3 _
  injection h1 with h1
  injection h2 with h2
  injection h3 with h3
  rw [h1, h2, h3]
def kindAt (cs : List Cl) (n : Str) : Option Str := (cs.find? fun c => decide (c.1 = n)).map (·.2)
theorem val_cells (n : Str) : ∀ cs : List Cl, valV (cs.map eC) (.inr n) = (kindAt cs n).map V.str
  | [] => rfl
  | c :: cs => by
    have ih := val_cells n cs
    rw [List.map_cons]
    by_cases h : c.1 = n
    · rw [valV_pos (by show (Sum.inr c.1 : L2.Key) = Sum.inr n; rw [h])]
      unfold kindAt
      rw [List.find?_cons, decide_eq_true h]
      rfl
    · rw [valV_neg (fun z => h (by have z : (Sum.inr c.1 : L2.Key) = Sum.inr n := z; injection z)), ih]
      unfold kindAt
      rw [List.find?_cons, decide_eq_false h]
theorem kindAt_some {n : Str} {cs : List Cl} (h : n ∈ cs.map (·.1)) : ∃ k, kindAt cs n = some k ∧ (n, k) ∈ cs := by
  obtain ⟨c, hc, rfl⟩ := List.mem_map.mp h
  have : (cs.find? fun d => decide (d.1 = c.1)).isSome = true := List.find?_isSome.mpr ⟨c, hc, by simp⟩
  obtain ⟨d, hd⟩ := Option.isSome_iff_exists.mp this
  have e0 := List.find?_some (p := fun d : Cl => decide (d.1 = c.1)) hd
  have e : d.1 = c.1 := of_decide_eq_true e0
  refine ⟨d.2, by unfold kindAt; rw [hd]; rfl, ?_⟩
  rw [← e]
  exact List.mem_of_find?_eq_some hd
theorem kindAt_none {n : Str} {cs : List Cl} (h : n ∉ cs.map (·.1)) : kindAt cs n = none := by
  unfold kindAt
  rw [Option.map_eq_none_iff, List.find?_eq_none]
  intro c hc z
  exact h (List.mem_map.mpr ⟨c, hc, of_decide_eq_true z⟩)
theorem kindAt_isSome {n : Str} {cs : List Cl} : (kindAt cs n).isSome = decide (n ∈ cs.map (·.1)) := by
  by_cases h : n ∈ cs.map (·.1)
  · obtain ⟨k, e, _⟩ := kindAt_some h
    rw [e, decide_eq_true h]
    rfl
  · rw [kindAt_none h, decide_eq_false h]
    rfl
theorem cells_in {n : Str} {cs : List Cl} : (valV (cs.map eC) (.inr n)).isSome = decide (n ∈ cs.map (·.1)) := by
  rw [val_cells, Option.isSome_map, kindAt_isSome]
theorem val_ties (t : Ti) : ∀ ts : List Ti, valV (ts.map eT) (kT t) = if t ∈ ts then some (.bl true) else none
  | [] => rfl
  | c :: ts => by
    have ih := val_ties t ts
    rw [List.map_cons]
    by_cases h : c = t
    · rw [valV_pos (by rw [h]; rfl), if_pos (by rw [h]; exact List.mem_cons_self)]
      rfl
    · rw [valV_neg (fun z => h (kT_inj z)), ih]
      by_cases m : t ∈ ts
      · rw [if_pos m, if_pos (List.mem_cons_of_mem _ m)]
      · rw [if_neg m, if_neg (fun z => (List.mem_cons.mp z).elim (fun e => h e.symm) m)]
theorem ties_in {t : Ti} {ts : List Ti} : (valV (ts.map eT) (kT t)).isSome = decide (t ∈ ts) := by
  rw [val_ties]
  by_cases m : t ∈ ts
  · rw [if_pos m, decide_eq_true m]
    rfl
  · rw [if_neg m, decide_eq_false m]
    rfl
theorem put_cell {cs : List Cl} {n k : Str} (h : n ∉ cs.map (·.1)) : putK (cs.map eC) (.inr n) (.str k) = (cs ++ [(n, k)]).map eC := by
  rw [putK_new _ (by rw [val_cells, kindAt_none h]; rfl), List.map_append]
  rfl
theorem put_tie {ts : List Ti} {t : Ti} (h : t ∉ ts) : putK (ts.map eT) (kT t) (.bl true) = (ts ++ [t]).map eT := by
  rw [putK_new _ (by rw [val_ties, if_neg h]), List.map_append]
  rfl
/-- one cell's kind -/
def setKind (cs : List Cl) (n k : Str) : List Cl := cs.map fun c => if c.1 = n then (c.1, k) else c
theorem put_kind {cs : List Cl} {n k : Str} (h : n ∈ cs.map (·.1)) : putK (cs.map eC) (.inr n) (.str k) = (setKind cs n k).map eC := by
  unfold putK
  rw [valV_any, cells_in, decide_eq_true h, if_pos rfl]
  unfold setKind
  rw [List.map_map, List.map_map]
  refine List.map_congr_left fun c _ => ?_
  show (if (eC c).1 = Sum.inr n then ((eC c).1, V.str k) else eC c) = eC (if c.1 = n then (c.1, k) else c)
  by_cases e : c.1 = n
  · rw [if_pos e, if_pos (by show (Sum.inr c.1 : L2.Key) = _; rw [e])]
    rfl
  · rw [if_neg e, if_neg (fun z => e (by have z : (Sum.inr c.1 : L2.Key) = Sum.inr n := z; injection z))]
theorem drop_cell {cs : List Cl} {n : Str} : dropK (cs.map eC) (.inr n) = (cs.filter fun c => decide (c.1 ≠ n)).map eC := by
  unfold dropK
  rw [List.filter_map]
  congr 1
  refine List.filter_congr fun c _ => ?_
  show decide ((Sum.inr c.1 : L2.Key) ≠ Sum.inr n) = decide (c.1 ≠ n)
  by_cases e : c.1 = n
  · rw [e]
    simp
  · rw [decide_eq_true (show c.1 ≠ n from e), decide_eq_true (show (Sum.inr c.1 : L2.Key) ≠ Sum.inr n from fun z => e (by injection z))]
theorem drop_tie {ts : List Ti} {t : Ti} : dropK (ts.map eT) (kT t) = (ts.filter fun c => decide (c ≠ t)).map eT := by
  unfold dropK
  rw [List.filter_map]
  congr 1
  refine List.filter_congr fun c _ => ?_
  show decide (kT c ≠ kT t) = decide (c ≠ t)
  by_cases e : c = t
  · rw [e]
    simp
  · rw [decide_eq_true (show c ≠ t from e), decide_eq_true (show kT c ≠ kT t from fun z => e (kT_inj z))]
theorem inCells {neg : Bool} {H : Hp} {d : Addr} {cs : List Cl} {n : Str} {Q : VK} (h : H d = some (.dK (cs.map eC))) (q : Q (.bl (decide (n ∈ cs.map (·.1)) != neg)) H) : rInD neg (.str n) (.ref d) H Q :=
  ⟨d, _, rfl, DGet.k (k := .inr n) h, by rw [cells_in]; exact q⟩
theorem inTies {neg : Bool} {H : Hp} {d p : Addr} {ts : List Ti} {t : Ti} {Q : VK} (h : H d = some (.dT (ts.map eT))) (hp : H p = some (.tup [.str t.1, .str t.2.1, .str t.2.2])) (q : Q (.bl (decide (t ∈ ts) != neg)) H) : rInD neg (.ref p) (.ref d) H Q :=
  ⟨d, _, rfl, DGet.t (k := kT t) h hp, by rw [ties_in]; exact q⟩
end Bh

set_option Elab.async false
set_option linter.all false
set_option maxRecDepth 100000
set_option maxHeartbeats 1000000
set_option autoImplicit false
namespace Bh
open PySem PySem.Spec PyProof.Rows L2
/-- a name of a cell or a tie -/
def NmOk (n : Str) : Prop := wordB n letters = true ∧ n.length ≤ 1000
def KdOk (k : Str) : Prop := kindB k = true ∧ k.length ≤ 1000
structure CsOk (cs : List Cl) : Prop where
  nd : (cs.map (·.1)).Nodup
  nm : ∀ c ∈ cs, NmOk c.1 ∧ KdOk c.2
  few : cs.length ≤ 1000
structure TsOk (cs : List Cl) (ts : List Ti) : Prop where
  nd : ts.Nodup
  nm : ∀ t ∈ ts, NmOk t.1 ∧ t.2.1 ∈ cs.map (·.1) ∧ t.2.2 ∈ cs.map (·.1)
  few : ts.length ≤ 1000
def spChkCell : Sp := fun vs H Q _ => ∃ (d : Addr) (cs : List Cl) (n k : Str), vs = [.ref d, .str n, .str k] ∧ H d = some (.dK (cs.map eC)) ∧ NmOk n ∧ KdOk k ∧ n ∉ cs.map (·.1) ∧ ∀ H', Same H H' → Q .non H'
def spChkTie : Sp := fun vs H Q _ => ∃ (d e : Addr) (cs : List Cl) (ts : List Ti) (t : Ti), vs = [.ref d, .ref e, .str t.1, .str t.2.1, .str t.2.2] ∧ H d = some (.dK (cs.map eC)) ∧ H e = some (.dT (ts.map eT)) ∧ NmOk t.1 ∧ t.2.1 ∈ cs.map (·.1) ∧ t.2.2 ∈ cs.map (·.1) ∧ t ∉ ts ∧ ∀ H', Same H H' → Q .non H'
def spKindsOf (K : PySem.W.Frag) : Sp := fun vs H Q _ => ∃ (v : V) (cs : List Cl), vs = [v] ∧ DpS K H v (cs.map dCell) ∧ CsOk cs ∧ ∀ (p : Addr) (H' : Hp), H p = none → Same H H' → H' p = some (.dK (cs.map eC)) → Q (.ref p) H'
def spTiesBetween (K : PySem.W.Frag) : Sp := fun vs H Q _ => ∃ (d : Addr) (v : V) (cs : List Cl) (ts : List Ti), vs = [.ref d, v] ∧ H d = some (.dK (cs.map eC)) ∧ DpS K H v (ts.map dTi) ∧ TsOk cs ts ∧ ∀ (p : Addr) (H' : Hp), H p = none → Same H H' → H' p = some (.dT (ts.map eT)) → Q (.ref p) H'
theorem dp_cell {K : PySem.W.Frag} {H : Hp} {xs : List V} {cs : List Cl} {i : Nat} {x : V} (h : DpAll K H xs (cs.map dCell)) (e : xs[i]? = some x) : ∃ (c : Cl) (a : Addr), cs[i]? = some c ∧ x = .ref a ∧ SqT K H a [.str c.1, .str c.2] := by
  obtain ⟨d, hd, hx⟩ := DpAll.get h e
  rw [List.getElem?_map] at hd
  obtain ⟨c, hc, rfl⟩ := Option.map_eq_some_iff.mp hd
  obtain ⟨a, ys, rfl, ht, hy⟩ := dp_tup hx
  exact ⟨c, a, hc, rfl, by rw [dp_strs (zs := [c.1, c.2]) hy] at ht; exact ht⟩
theorem dp_ti {K : PySem.W.Frag} {H : Hp} {xs : List V} {ts : List Ti} {i : Nat} {x : V} (h : DpAll K H xs (ts.map dTi)) (e : xs[i]? = some x) : ∃ (t : Ti) (a : Addr), ts[i]? = some t ∧ x = .ref a ∧ SqT K H a [.str t.1, .str t.2.1, .str t.2.2] := by
  obtain ⟨d, hd, hx⟩ := DpAll.get h e
  rw [List.getElem?_map] at hd
  obtain ⟨c, hc, rfl⟩ := Option.map_eq_some_iff.mp hd
  obtain ⟨a, ys, rfl, ht, hy⟩ := dp_tup hx
  exact ⟨c, a, hc, rfl, by rw [dp_strs (zs := [c.1, c.2.1, c.2.2]) hy] at ht; exact ht⟩
theorem take_notMem {α : Type} {xs : List α} {i : Nat} {x : α} (nd : xs.Nodup) (e : xs[i]? = some x) : x ∉ xs.take i := fun m => by
  obtain ⟨j, hj⟩ := List.mem_iff_getElem?.mp m
  obtain ⟨lt, _⟩ := List.getElem?_eq_some_iff.mp hj
  rw [List.length_take] at lt
  rw [List.getElem?_take_of_lt (by omega)] at hj
  obtain ⟨li, _⟩ := List.getElem?_eq_some_iff.mp e
  have := (List.getElem?_inj (by omega) nd).mp (hj.trans e.symm)
  omega
theorem take_next {α : Type} {xs : List α} {i : Nat} {x : α} (e : xs[i]? = some x) : xs.take (i + 1) = xs.take i ++ [x] := by
  rw [List.take_add_one, e]
  rfl
section
variable {P : Program} {w : World} {K : PySem.W.Frag} {mg : Str → Option Value} {base : Heap}
theorem ok_chkcell (T : Top K mg) : FnOk P w K mg base CX0 4 T.a_check_cell T.fd_check_cell ["kinds", "name", "kind"] spChkCell := by
  have G_is_name := ok_name (P := P) (w := w) (base := base) T
  have G_is_kind := ok_iskind (P := P) (w := w) (base := base) T
  refine T.d_check_cell.F.ok sc_check_cell (fun vs H Q E h => ?_) (fun cdv A outer s H vs Q E hr h => ?_)
  · obtain ⟨d, cs, n, k, rfl, _⟩ := h
    rfl
  obtain ⟨d, cs, n, k, rfl, hd, ⟨n1, n2⟩, ⟨k1, k2⟩, nin, q⟩ := h
  refine ⟨_, (pss_cons (ps_if (pt_not (pt_val (pe_call G_is_name (hr.mono (by decide)) (by rfl) T.d_is_name.g T.d_is_name.kp T.d_is_name.b .nil pass0 (pa_cons (pv 1) pa_nil)))) (pss_one ps_dead) pss_nil)
    (pss_cons (ps_if (pt_cmpR (op_inD (by exact (u1 hr))) (pv 1) (pv 0) (by rfl)) (pss_one ps_dead) pss_nil)
    (pss_one (ps_if (pt_not (pt_val (pe_call G_is_kind (hr.mono (by decide)) (by rfl) T.d_is_kind.g T.d_is_kind.kp T.d_is_kind.b .nil pass0 (pa_cons (pv 2) pa_nil)))) (pss_one ps_dead) pss_nil)))), ?_⟩
  refine ⟨_, rfl, n, rfl, by omega, fun H1 s1 => ⟨_, rfl, ?_⟩⟩
  rw [n1]
  refine iteF ?_
  refine ⟨_, rfl, _, rfl, inCells (s1 _ _ hd) ⟨_, rfl, ?_⟩⟩
  rw [decide_eq_false nin]
  refine iteF ?_
  refine ⟨_, rfl, k, rfl, by omega, fun H2 s2 => ⟨_, rfl, ?_⟩⟩
  rw [k1]
  exact iteF (q _ (s1.trans s2))
theorem ok_chktie (T : Top K mg) : FnOk P w K mg base CX0 4 T.a_check_tie T.fd_check_tie ["kinds", "ties", "tie", "source", "target"] spChkTie := by
  have G_is_name := ok_name (P := P) (w := w) (base := base) T
  refine T.d_check_tie.F.ok sc_check_tie (fun vs H Q E h => ?_) (fun cdv A outer s H vs Q E hr h => ?_)
  · obtain ⟨d, e, cs, ts, t, rfl, _⟩ := h
    rfl
  obtain ⟨d, e, cs, ts, ⟨t1, t2, t3⟩, rfl, hd, he, ⟨n1, n2⟩, m1, m2, nin, q⟩ := h
  refine ⟨_, (pss_cons (ps_if (pt_not (pt_val (pe_call G_is_name (hr.mono (by decide)) (by rfl) T.d_is_name.g T.d_is_name.kp T.d_is_name.b .nil pass0 (pa_cons (pv 2) pa_nil)))) (pss_one ps_dead) pss_nil)
    (pss_cons (ps_for PassesOwn.never rfl (pi_tup_K (K := K) (by rfl) (pe_tup (pa_cons (pv 3) (pa_cons (pv 4) pa_nil)))) (pg_name (i := 5) sc_check_tie.nd rfl (Or.inl rfl))
      (pss_one (ps_if (PW.pt (pw_or (pt_not (pt_val (pe_callB (call_isi_K (K := K) (by rfl)) (by rfl) T.b_isinstance (by decide +kernel) (pa_cons (pv 5) (pa_cons (pe_tyN "str" (by rfl) T.b_str (by decide +kernel)) pa_nil))))) (pw_or1 (pt_cmpR (op_notInD (by exact (u1 hr))) (pv 5) (pv 0) (by rfl))))) (pss_one ps_dead) pss_nil)))
    (pss_one (ps_if (pt_cmpR (op_inD (by exact (u1 hr))) (pe_tup (pa_cons (pv 2) (pa_cons (pv 3) (pa_cons (pv 4) pa_nil)))) (pv 1) (by rfl)) (pss_one ps_dead) pss_nil)))), ?_⟩
  refine ⟨_, rfl, t1, rfl, by have : t1.length ≤ 1000 := n2; omega, fun H1 s1 => ⟨_, rfl, ?_⟩⟩
  have n1 : wordB t1 letters = true := n1
  rw [n1]
  refine iteF ?_
  refine ⟨_, rfl, _, rfl, (by show 2 ≤ sizeLine; decide), fun p np => ?_⟩
  have s2 := s1.trans (same_new (o := .tup [.str t2, .str t3]) np)
  refine ⟨p, rfl, ⟨[.str t2, .str t3], .inl (.inl upd_same)⟩, ?_⟩
  refine for_it walk_tup (fun i σ H' => ∃ v, σ = [some (.ref d), some (.ref e), some (.str t1), some (.str t2), some (.str t3), v] ∧ H' = upd H1 p (.tup [.str t2, .str t3])) ⟨none, rfl, rfl⟩ (fun i σ H' _ ⟨_, _, e⟩ => by rw [e]; exact .inl (.inl upd_same)) ?_ ?_
  · rintro i x σ H' H'' hi ⟨v, rfl, rfl⟩ ⟨rfl, ex⟩
    obtain ⟨z, rfl, hz⟩ : ∃ z, x = V.str z ∧ z ∈ cs.map (·.1) := by
      match i, ex with
      | 0, ex => exact ⟨t2, (Option.some.inj ex).symm, m1⟩
      | 1, ex => exact ⟨t3, (Option.some.inj ex).symm, m2⟩
    refine ⟨_, rfl, _, _, _, _, true, rfl, .ty _, .base (.str z), kit_ty (by decide +kernel), _, rfl, ?_⟩
    refine ⟨_, rfl, _, rfl, inCells (s2 _ _ hd) ⟨_, rfl, ?_⟩⟩
    rw [decide_eq_true hz]
    exact iteF ⟨_, rfl, rfl⟩
  · rintro σ H' ⟨v, rfl, rfl⟩
    refine ⟨_, rfl, _, rfl, _, rfl, (by show 3 ≤ sizeLine; decide), fun p3 np3 => ⟨_, rfl, inTies (t := (t1, t2, t3)) ((s2.trans (same_new np3)) _ _ he) upd_same ⟨_, rfl, ?_⟩⟩⟩
    rw [decide_eq_false nin]
    exact iteF (q _ (s2.trans (same_new np3)))
theorem ok_kindsof (T : Top K mg) : FnOk P w K mg base CX0 5 T.a_kinds_of T.fd_kinds_of ["cells"] (spKindsOf K) := by
  have G_check_cell := ok_chkcell (P := P) (w := w) (base := base) T
  refine T.d_kinds_of.F.ok sc_kinds_of (fun vs H Q E h => ?_) (fun cdv A outer s H vs Q E hr h => ?_)
  · obtain ⟨v, cs, rfl, _⟩ := h
    rfl
  obtain ⟨v, cs, rfl, ⟨a, xs, rfl, hS, hp⟩, ok, q⟩ := h
  refine ⟨_, (pss_cons (ps_set (i := 1) sc_kinds_of.nd rfl (Or.inl rfl) pe_dnewK)
    (pss_cons (ps_for PassesOwn.never rfl (pi_seq_K (K := K) (by rfl) (pv 0)) (pg_tup_K (K := K) (by rfl) (n := 2) (by rfl) (pgs_cons (pg_name (i := 2) sc_kinds_of.nd rfl (Or.inl rfl)) (pgs_cons (pg_name (i := 3) sc_kinds_of.nd rfl (Or.inl rfl)) pgs_nil)))
      (pss_cons (ps_expr (pe_call G_check_cell (hr.mono (by decide)) (by rfl) T.d_check_cell.g T.d_check_cell.kp T.d_check_cell.b .nil pass0 (pa_cons (pv 1) (pa_cons (pv 2) (pa_cons (pv 3) pa_nil)))))
      (pss_one (ps_dput (u1 hr) (pv 1) (pv 2) (pv 3) rfl))))
    (pss_one (ps_ret (pv 1))))), ?_⟩
  refine fun p np => ?_
  have lx := DpAll.length hp
  rw [List.length_map] at lx
  have few := ok.few
  refine for_sq (fun Q h => ⟨_, rfl, h⟩) hS (same_new np) (fun i σ H' => ∃ v2 v3, σ = [some (.ref a), some (.ref p), v2, v3] ∧ Same H H' ∧ H' p = some (.dK ((cs.take i).map eC))) ⟨none, none, rfl, same_new np, upd_same⟩ ?_ ?_ ?_
  · rintro i σ H' _ ⟨_, _, _, s1, _⟩
    exact s1
  · rintro i x σ H' hi ⟨v2, v3, rfl, s1, h1⟩ ex
    obtain ⟨c, ca, hc, rfl, ht⟩ := dp_cell hp ex
    have mc := List.mem_of_getElem? hc
    have fresh : c.1 ∉ (cs.take i).map (·.1) := by
      rw [List.map_take]
      exact take_notMem (i := i) ok.nd (by rw [List.getElem?_map, hc]; rfl)
    refine ⟨ca, _, rfl, Same.tup s1 ht, rfl, ?_⟩
    refine ⟨_, _, rfl, _, _, rfl, rfl, ?_⟩
    refine ⟨_, rfl, _, rfl, _, rfl, p, cs.take i, c.1, c.2, rfl, h1, (ok.nm c mc).1, (ok.nm c mc).2, fresh, fun H2 s2 => ?_⟩
    refine ⟨_, rfl, _, rfl, _, rfl, p, _, rfl, DPut.k (k := .inr c.1) (s2 _ _ h1) (by rw [List.length_map, List.length_take]; exact lt_line (by omega)), _, _, rfl, same_mut (s1.trans s2) np, ?_⟩
    rw [upd_same, take_next hc, put_cell fresh]
  · rintro σ H' ⟨v2, v3, rfl, s1, h1⟩
    rw [lx, List.take_length] at h1
    exact ⟨_, rfl, q p H' np s1 h1⟩
theorem ok_tiesbetween (T : Top K mg) : FnOk P w K mg base CX0 5 T.a_ties_between T.fd_ties_between ["kinds", "ties"] (spTiesBetween K) := by
  have G_check_tie := ok_chktie (P := P) (w := w) (base := base) T
  refine T.d_ties_between.F.ok sc_ties_between (fun vs H Q E h => ?_) (fun cdv A outer s H vs Q E hr h => ?_)
  · obtain ⟨d, v, cs, ts, rfl, _⟩ := h
    rfl
  obtain ⟨d, v, cs, ts, rfl, hd, ⟨a, xs, rfl, hS, hp⟩, ok, q⟩ := h
  refine ⟨_, (pss_cons (ps_set (i := 2) sc_ties_between.nd rfl (Or.inl rfl) pe_dnewT)
    (pss_cons (ps_for PassesOwn.never rfl (pi_seq_K (K := K) (by rfl) (pv 1)) (pg_tup_K (K := K) (by rfl) (n := 3) (by rfl) (pgs_cons (pg_name (i := 3) sc_ties_between.nd rfl (Or.inl rfl)) (pgs_cons (pg_name (i := 4) sc_ties_between.nd rfl (Or.inl rfl)) (pgs_cons (pg_name (i := 5) sc_ties_between.nd rfl (Or.inl rfl)) pgs_nil))))
      (pss_cons (ps_expr (pe_call G_check_tie (hr.mono (by decide)) (by rfl) T.d_check_tie.g T.d_check_tie.kp T.d_check_tie.b .nil pass0 (pa_cons (pv 0) (pa_cons (pv 2) (pa_cons (pv 3) (pa_cons (pv 4) (pa_cons (pv 5) pa_nil)))))))
      (pss_one (ps_dput (u1 hr) (pv 2) (pe_tup (pa_cons (pv 3) (pa_cons (pv 4) (pa_cons (pv 5) pa_nil)))) pe_bl rfl))))
    (pss_one (ps_ret (pv 2))))), ?_⟩
  refine fun p np => ?_
  have lx := DpAll.length hp
  rw [List.length_map] at lx
  have few := ok.few
  refine for_sq (fun Q h => ⟨_, rfl, h⟩) hS (same_new np) (fun i σ H' => ∃ v3 v4 v5, σ = [some (.ref d), some (.ref a), some (.ref p), v3, v4, v5] ∧ Same H H' ∧ H' p = some (.dT ((ts.take i).map eT))) ⟨none, none, none, rfl, same_new np, upd_same⟩ ?_ ?_ ?_
  · rintro i σ H' _ ⟨_, _, _, _, s1, _⟩
    exact s1
  · rintro i x σ H' hi ⟨v3, v4, v5, rfl, s1, h1⟩ ex
    obtain ⟨⟨t1, t2, t3⟩, ta, hc, rfl, ht⟩ := dp_ti hp ex
    have mc := List.mem_of_getElem? hc
    have fresh := take_notMem ok.nd hc
    obtain ⟨m1, m2, m3⟩ := ok.nm _ mc
    refine ⟨ta, _, rfl, Same.tup s1 ht, rfl, ?_⟩
    refine ⟨_, _, rfl, _, _, rfl, _, _, rfl, rfl, ?_⟩
    refine ⟨_, rfl, _, rfl, _, rfl, _, rfl, _, rfl, d, p, cs, ts.take i, (t1, t2, t3), rfl, s1 _ _ hd, h1, m1, m2, m3, fresh, fun H2 s2 => ?_⟩
    refine ⟨_, rfl, _, rfl, _, rfl, _, rfl, (by show 3 ≤ sizeLine; decide), fun b nb => ?_⟩
    have s3 := s2.trans (same_new (o := .tup [.str t1, .str t2, .str t3]) nb)
    refine ⟨p, _, rfl, DPut.t (k := kT (t1, t2, t3)) (s3 _ _ h1) upd_same (by rw [List.length_map, List.length_take]; exact lt_line (by omega)), _, _, _, rfl, same_mut (s1.trans s3) np, ?_⟩
    rw [upd_same, take_next hc, put_tie fresh]
  · rintro σ H' ⟨v3, v4, v5, rfl, s1, h1⟩
    rw [lx, List.take_length] at h1
    exact ⟨_, rfl, q p H' np s1 h1⟩
end
end Bh

set_option Elab.async false
set_option linter.all false
set_option maxRecDepth 100000
namespace Bh
open PySem PySem.Spec PyProof.Rows L2
/-! ### an instance called; a method called by keywords alone -/
section
variable {X : Cx} {CX : CXT} {k : Nat} {C f : Addr} {fd : FuncData} {ps ks : List Str} {sp : Sp} {E : XK} {fe e o : Expr} {es : List Expr} {pos apos : Pos} {tf to : TE} {t tk : TA} {m : Str} {kws : List Keyword} {g : List Value → List Value → List Value} {gV : List V → List V → List V}
/-- x(e, ..), x an instance of C -/
def tCallI (C : Addr) (sp : Sp) (E : XK) (tf : TE) (t : TA) : TE := fun σ H Q => tf σ H fun y H1 => ∃ a, y = V.ref a ∧ t σ H1 fun vs H2 => (∃ dx fs, H2 a = some (.ins C dx fs)) ∧ sp (V.ref a :: vs) H2 Q E
theorem pe_callI (hf : PE X fe tf) (c : StX.CallO X.K C f) (F : FnOk X.prog X.w X.K X.mg X.base CX k f fd ps sp) (hr : Room k X.A) (hb : Binds X.K fd ps []) (hx : Passes CX X E) (ha : PA X (e :: es) t)
    (ht : eval (.Call fe (e :: es) [] pos) X.env = (do callWith pos (← eval fe X.env) [] (backTo pos (starEach (e :: es) X.env)) (backToKw pos (keywordEach [] X.env))) := by rfl)
    (he : starEach (e :: es) X.env = (false, eval e X.env) :: starEach es X.env := by rfl) (hpl : (backTo pos (starEach es X.env)).any (·.1) = false := by rfl) : PE X (.Call fe (e :: es) [] pos) (tCallI C sp E tf t) := by
  refine ⟨fun pins s σ H Q I h => ?_⟩
  refine Call_ (thn (hf.run pins s σ H _ I h) fun u s1 ⟨y, H1, I1, ry, a, ey, q⟩ => ?_) ht
  subst ey
  obtain rfl : u = Value.ref a := ry
  refine StX.callO_with (thn (ha.run pos pins s1 σ H1 _ I1 q) fun us s2 ⟨vs, H2, I2, r, hi, q2⟩ => ?_) he hpl
  obtain ⟨ox, od, J, hd⟩ := StX.insC_at I2 (.inr hi)
  refine ⟨⟨C, ox, od, J, hd⟩, ?_⟩
  have l := F.len _ _ _ _ q2
  have bnd := hb s2 (.ref a :: us) I2.kIn (by rw [List.append_nil, ← l, List.length_cons, List.length_cons, r.length])
  rw [List.append_nil] at bnd
  refine wpAny_call (PySem.W.kco_code I2.kIn J hd c.at_ c.fn c.fi (codeAny_mono (F.run X.A X.stack s2 H2 ⟨.ref a :: us, []⟩ (.ref a :: us) (.ref a :: vs) Q E hr I2.env0 bnd (.cons rfl r) q2) fun res s3 z => ?_))
  cases res with
  | error err => exact hx pins σ H2 s2 err s3 I2 z
  | ok fl =>
    cases fl with
    | ret u => exact I2.after z
    | next => exact z.elim
    | brk => exact z.elim
    | cont => exact z.elim
/-- o.m(k = v, ..) -/
def tMethN (C : Addr) (m : Str) (n : Nat) (sp : Sp) (gV : List V → List V → List V) (E : XK) (to : TE) (tk : TA) : TE := fun σ H Q => to σ H fun x H1 => ∃ a dx fs, x = .ref a ∧ H1 a = some (.ins C dx fs) ∧ fs.lookup m = none ∧ tk σ H1 fun zs H2 => zs.length = n ∧ sp (gV [x] zs) H2 Q E
theorem pe_methN {pl : Sem Bool} (he : PE X o to) (c : Cls X.K C) (hm : Meth X.K C m f) (F : FnOk X.prog X.w X.K X.mg X.base CX k f fd ps sp) (hr : Room k X.A) (hb : KBn X.K fd ps 1 ks g gV) (hx : Passes CX X E) (hkw : PK X kws tk)
    (hall : (backToKw pos (keywordEach kws X.env)).all (·.1.isSome) = true := by rfl) (hks : (backToKw pos (keywordEach kws X.env)).filterMap (·.1) = ks := by rfl)
    (hpl : ((backTo pos (starEach [] X.env)).any (·.1) || (backToKw pos (keywordEach kws X.env)).any (·.1.isNone)) = false := by rfl)
    (ht : eval (.Call (.Attribute o m apos) [] kws pos) X.env = (do
      let ov ← eval o X.env
      standAt apos.atName
      let (f, first) ← holding [ov] (getMethod ov m pl)
      callWith pos f first (backTo pos (starEach [] X.env)) (backToKw pos (keywordEach kws X.env))) := by rfl) :
    PE X (.Call (.Attribute o m apos) [] kws pos) (tMethN C m ks.length sp gV E to tk) := by
  refine ⟨fun pins s σ H Q I h => ?_⟩
  refine PySem.W.methodCall_KW (pl := pl) (thn (he.run pins s σ H _ I h) fun u s1 ⟨x, H1, I1, rx, a, dx, fs, ex, ea, l, q⟩ => ?_) ht
  subst ex
  obtain rfl : u = Value.ref a := rx
  refine getmeth_ok I1 ea c hm l ?_
  refine PySem.W.callWith_KW0 (first := [.ref a]) (h₀ := X.base) I.ok.mod.kin hm.kp hall ?_ hpl
  refine thn (hkw.run pos pins s1 σ H1 _ I1 q) fun ws s2 ⟨zs, H2, I2, rz, l2, q2⟩ => ⟨I2.kIn, ?_⟩
  rw [hks]
  exact run_fnN (us := [.ref a]) (vs := [.ref a]) F hr hb hx I2 (.cons rfl .nil) rz rfl l2 q2
end
end Bh

set_option Elab.async false
set_option linter.all false
set_option maxRecDepth 100000
set_option maxHeartbeats 1000000
set_option autoImplicit false
namespace Bh
open PySem PySem.Spec PyProof.Rows L2
/-- a method of the class at C -/
structure Mt (K : PySem.W.Frag) (C : Addr) (m qual : Str) (st : Stmt) (ps : List Str) : Type where
  f : Addr
  fd : FuncData
  F : Fun K m qual st f fd
  M : Meth K C m f
  b : Binds K fd ps []
/-- the class Network -/
structure NtC (K : PySem.W.Frag) (mg : Str → Option Value) : Type where
  C : Addr
  g : mg "Network" = some (.ref C)
  cl : Cls K C
  n1 : NoAttr K C "_cells"
  n2 : NoAttr K C "_ties"
  ha : PySem.W.findIn K (.ref C) "__class__" = some (some (.builtin "object.__class__"))
  hn : PySem.W.specialIn K (.builtin "object.__class__") "__get__" = some (some (.builtin "getset_descriptor.__get__"))
  ht : PySem.W.takesIn K (.builtin "object.__class__") = some true
  hm : PySem.W.mroIn K C (.type "object") = some true
  k1 : PySem.W.kitOne K (.ref C) (.ref C) = some true
  nq : PySem.W.noSeq K C = true
  t2 : PySem.W.subIn K (.type "tuple") (.ref C) = some false
  t3 : PySem.W.subIn K (.type "str") (.ref C) = some false
  kt : PySem.W.kitOne K (.type "tuple") (.ref C) = some false
  ks : PySem.W.kitOne K (.type "str") (.ref C) = some false
/-- .. with all that is called of it -/
structure NtM (K : PySem.W.Frag) (mg : Str → Option Value) (R : NtC K mg) : Type where
  fI : Addr
  fdI : FuncData
  z1 : Addr
  z2 : Addr
  e1 : ∀ H : Hp, SqT K H z1 []
  e2 : ∀ H : Hp, SqT K H z2 []
  FI : FunD K "__init__" "Network.__init__" (defArgs s_Network__init) (defBody s_Network__init) (defScope s_Network__init) [] [("cells", .ref z1), ("ties", .ref z2)] fI fdI
  mkr : Mk K R.C fI
  add_cell : Mt K R.C "add_cell" "Network.add_cell" s_Network_add_cell ["self", "name", "kind"]
  add_tie : Mt K R.C "add_tie" "Network.add_tie" s_Network_add_tie ["self", "tie", "source", "target"]
  cells : Mt K R.C "cells" "Network.cells" s_Network_cells ["self"]
  ties : Mt K R.C "ties" "Network.ties" s_Network_ties ["self"]
  getitem : Mt K R.C "__getitem__" "Network.__getitem__" s_Network__getitem ["self", "name"]
  gi : PySem.W.fnIn K getitem.f = true
  contains : Mt K R.C "__contains__" "Network.__contains__" s_Network__contains ["self", "name"]
  eq : Mt K R.C "__eq__" "Network.__eq__" s_Network__eq ["self", "other"]
  check_known : Mt K R.C "_check_known" "Network._check_known" s_Network_check_known ["self", "name"]
  check_kinds : Mt K R.C "_check_kinds" "Network._check_kinds" s_Network_check_kinds ["self", "other"]
  part : Mt K R.C "is_part_of" "Network.is_part_of" s_Network_is_part_of ["self", "other"]
  or_ : Mt K R.C "__or__" "Network.__or__" s_Network__or ["self", "other"]
  ior : Mt K R.C "__ior__" "Network.__ior__" s_Network__ior ["self", "other"]
  clone : Mt K R.C "clone" "Network.clone" s_Network_clone ["self"]
  text : Mt K R.C "text" "Network.text" s_Network_text ["self"]
  oo : PySem.W.findIn K (.ref R.C) (PySem.dunder "or") = some (some (.ref or_.f))
  oi : PySem.W.findIn K (.ref R.C) (PySem.dunderI "or") = some (some (.ref ior.f))
  sf : PySem.W.selfFirst K R.C = true
  ne : NeC K R.C eq.f
abbrev ntF (dc dt : Addr) : List (Str × V) := [("_cells", .ref dc), ("_ties", .ref dt)]
/-- the network x with its dicts -/
def NetA (H : Hp) (C x dc dt : Addr) (cs : List Cl) (ts : List Ti) : Prop := ∃ dx : Addr, H x = some (.ins C dx (ntF dc dt)) ∧ H dc = some (.dK (cs.map eC)) ∧ H dt = some (.dT (ts.map eT))
theorem NetA.mono {H H' : Hp} {C x dc dt : Addr} {cs : List Cl} {ts : List Ti} (s : Same H H') (h : NetA H C x dc dt cs ts) : NetA H' C x dc dt cs ts := by
  obtain ⟨dx, h0, h1, h2⟩ := h
  exact ⟨dx, s _ _ h0, s _ _ h1, s _ _ h2⟩
theorem kb_ties_cells {K : PySem.W.Frag} {mg : Str → Option Value} {R : NtC K mg} (M : NtM K mg R) : KBn K M.fdI ["self", "cells", "ties"] 1 ["ties", "cells"] (fun us ws => us ++ ws.reverse) (fun vs zs => vs ++ zs.reverse) := by
  obtain ⟨oc, od, dV, kV, doc, pm, an, cdv, ct, osl, e, lk, hcd, hD, hK⟩ := M.FI.ex
  rw [e]
  rcases hD with ⟨_, rfl⟩ | ⟨z, _⟩
  · exact ⟨fun s us ws _ l1 l2 => match us, ws, l1, l2 with
      | [_], [_, _], _, _ => .of_eq rfl, fun r1 r2 => r1.append r2.reverse⟩
  · exact absurd rfl z
theorem kb_cells_ties {K : PySem.W.Frag} {mg : Str → Option Value} {R : NtC K mg} (M : NtM K mg R) : KBn K M.fdI ["self", "cells", "ties"] 1 ["cells", "ties"] (fun us ws => us ++ ws) (fun vs zs => vs ++ zs) := by
  obtain ⟨oc, od, dV, kV, doc, pm, an, cdv, ct, osl, e, lk, hcd, hD, hK⟩ := M.FI.ex
  rw [e]
  rcases hD with ⟨_, rfl⟩ | ⟨z, _⟩
  · exact ⟨fun s us ws _ l1 l2 => match us, ws, l1, l2 with
      | [_], [_, _], _, _ => .of_eq rfl, fun r1 r2 => r1.append r2⟩
  · exact absurd rfl z
theorem kb_none {K : PySem.W.Frag} {mg : Str → Option Value} {R : NtC K mg} (M : NtM K mg R) : ∃ ds, Vals [V.ref M.z1, V.ref M.z2] ds ∧ Binds K M.fdI ["self", "cells", "ties"] ds :=
  M.FI.binds0 (n := 1) (by simp) rfl fun D doc pm an cdv ct us ks l1 l2 => match us, ks, l1, l2 with
    | [_], [_, _], _, _ => by
      refine ⟨_, _, _, _, _, _, rfl, rfl, ?_⟩
      refine ⟨_, _, _, _, _, _, rfl, rfl, ?_⟩
      exact rfl
end Bh

set_option Elab.async false
set_option linter.all false
set_option maxRecDepth 100000
set_option maxHeartbeats 2000000
set_option autoImplicit false
namespace Bh
open PySem PySem.Spec PyProof.Rows L2
/-! ### a class's own | and |=, its own == with any other thing -/
/-- x | y of two instances of the class: the answer is an object -/
def rOrIns (C : Addr) (sp : Sp) (EX : XK) : R2 := fun x y H Q => ∃ (a dx : Addr) (fs : List (Str × V)) (b dy : Addr) (gs : List (Str × V)), x = .ref a ∧ H a = some (.ins C dx fs) ∧ y = .ref b ∧ H b = some (.ins C dy gs) ∧ sp [x, y] H (fun v H' => (∃ r, v = .ref r) ∧ Q v H') EX
section
variable {X : Cx} {C f : Addr} {fd : FuncData} {k : Nat} {sp : Sp} {ps : List Str} {CX : CXT} {EX : XK}
theorem op_orIns (F : FnOk X.prog X.w X.K X.mg X.base CX k f fd ps sp) (hs : PySem.W.findIn X.K (.ref C) (PySem.dunder "or") = some (some (.ref f))) (hf : PySem.W.isFn X.K (.ref f) = true) (sf : PySem.W.selfFirst X.K C = true) (hb : Binds X.K fd ps []) (hx : Passes CX X EX) (hr : Room k X.A) :
    OpR X (binaryOp .BitOr) (rOrIns C sp EX) := by
  intro pins s σ H x y v u Q I rx ry h
  obtain ⟨a, dx, fs, b, dy, gs, rfl, ha, rfl, hB, hsp⟩ := h
  cases rx
  cases ry
  obtain ⟨mA, J, _⟩ := ins_get I.hok ha
  obtain ⟨od, J, _⟩ := J.look
  obtain ⟨mB, J', _⟩ := ins_get I.hok hB
  obtain ⟨od', J', _⟩ := J'.look
  obtain ⟨m, hF⟩ := I.fr
  refine PySem.W.binop_K (op := .BitOr) hF I.ok.mod.kin J J'.type sf hs hf (wpAny_mono (own_call F hb hx hr rfl I (vs := [.ref a, .ref b]) (us := [.ref a, .ref b]) (.cons rfl (.cons rfl .nil)) hsp) (fun w s' z => ?_) fun _ _ e => e)
  obtain ⟨vr, H', I', rv, ⟨r, rfl⟩, q⟩ := z
  cases rv
  exact ⟨.ref r, H', I', rfl, q⟩
theorem ip_orIns (F : FnOk X.prog X.w X.K X.mg X.base CX k f fd ps sp) (hs : PySem.W.findIn X.K (.ref C) (PySem.dunderI "or") = some (some (.ref f))) (hf : PySem.W.isFn X.K (.ref f) = true) (sf : PySem.W.selfFirst X.K C = true) (hb : Binds X.K fd ps []) (hx : Passes CX X EX) (hr : Room k X.A) :
    PIp X .BitOr (rOrIns C sp EX) := by
  intro pins s σ H x y v u Q I rx ry h
  obtain ⟨a, dx, fs, b, dy, gs, rfl, ha, rfl, hB, hsp⟩ := h
  cases rx
  cases ry
  obtain ⟨mA, J, _⟩ := ins_get I.hok ha
  obtain ⟨od, J, _⟩ := J.look
  obtain ⟨m, hF⟩ := I.fr
  refine PySem.W.ksp_inplace (op := .BitOr) hF I.ok.mod.kin J sf hs hf (wpAny_mono (own_call F hb hx hr rfl I (vs := [.ref a, .ref b]) (us := [.ref a, .ref b]) (.cons rfl (.cons rfl .nil)) hsp) (fun w s' z => ?_) fun _ _ e => e)
  obtain ⟨vr, H', I', rv, ⟨r, rfl⟩, q⟩ := z
  cases rv
  exact ⟨.ref r, H', I', rfl, q⟩
end
/-- x == y by the class's own __eq__; y an instance of the class, a tuple or a text -/
def rEqX (K : PySem.W.Frag) (C : Addr) (sp : Sp) : R2 := fun x y H Q => ∃ (a dx : Addr) (fs : List (Str × V)), x = .ref a ∧ H a = some (.ins C dx fs) ∧
  ((∃ (b dy : Addr) (gs : List (Str × V)), y = .ref b ∧ H b = some (.ins C dy gs)) ∨ (∃ (b : Addr) (zs : List V), y = .ref b ∧ SqT K H b zs) ∨ ∃ z, y = .str z) ∧ sp [x, y] H (fun v H' => (∃ r, v = .bl r) ∧ Q v H') C8.E0
section
variable {X : Cx} {C f : Addr} {fd : FuncData} {k : Nat} {sp : Sp} {p1 p2 : Str}
theorem op_eqX (F : FnOk X.prog X.w X.K X.mg X.base C8.CX0 k f fd [p1, p2] sp) (hs : PySem.W.findIn X.K (.ref C) "__eq__" = some (some (.ref f))) (hf : PySem.W.isFn X.K (.ref f) = true) (hb : Binds X.K fd [p1, p2] []) (hr : Room k X.A)
    (ht : PySem.W.subIn X.K (.type "tuple") (.ref C) = some false) (ht2 : PySem.W.subIn X.K (.type "str") (.ref C) = some false) : OpR X (compareOp .Eq) (rEqX X.K C sp) := by
  intro pins s σ H x y v u Q I rx ry h
  obtain ⟨a, dx, fs, rfl, ha, hy, hsp⟩ := h
  cases rx
  obtain ⟨mA, J, _⟩ := ins_get I.hok ha
  obtain ⟨od, J, _⟩ := J.look
  obtain ⟨m, hF⟩ := I.fr
  have body := own_two F hb hr rfl (E := X.xe) I (x := .ref a) (y := y) (u := .ref a) (v := u) rfl ry hsp
  show wpAny (model X.prog X.w) X.A (richCompare .Eq (.ref a) u) (EP X pins σ Q) X.xe s
  have go : ∀ tb, PySem.W.Looks (model X.prog X.w) s.heap (typeOf u) tb → PySem.W.notFirst X.K C tb = true → wpAny (model X.prog X.w) X.A (richCompare .Eq (.ref a) u) (EP X pins σ Q) X.xe s := fun tb h1 h2 => by
    refine PySem.W.cmp_K (op := .Eq) (tb := tb) hr.units0 hF I.ok.mod.kin J h1 h2 hs hf (wpAny_mono body (fun w s' z => ?_) fun _ _ e => e)
    obtain ⟨vr, H', I', rv, ⟨r, rfl⟩, q⟩ := z
    cases rv
    exact ⟨.bl r, H', I', rfl, q⟩
  rcases hy with ⟨b, dy, gs, rfl, hb'⟩ | ⟨b, zs, rfl, hz⟩ | ⟨z, rfl⟩
  · cases ry
    obtain ⟨mB, J', _⟩ := ins_get I.hok hb'
    obtain ⟨od', J', _⟩ := J'.look
    exact go _ J'.type (by simp [PySem.W.notFirst])
  · cases ry
    obtain ⟨its, _, pl, _⟩ := I.tuple hz
    obtain ⟨ob, ho, hc, _⟩ := id pl
    exact go (.type "tuple") (hc ▸ (PySem.W.Looks.ld ho).andThen .now) (by unfold PySem.W.notFirst; rw [ht]; rfl)
  · obtain ⟨t, rfl⟩ := ry
    exact go (.type "str") .now (by unfold PySem.W.notFirst; rw [ht2]; rfl)
end
/-- o.f, .. = .. : an attribute as a target -/
def gFld (K : PySem.W.Frag) (ta : TE) (f : Str) : TG := fun v σ H Q => ta σ H fun x H2 => ∃ (a C dx : Addr) (fs : List (Str × V)), x = .ref a ∧ H2 a = some (.ins C dx fs) ∧ Cls K C ∧ NoAttr K C f ∧ fs.length < 1000 ∧ Q σ (upd H2 a (.ins C dx (putF f v fs)))
theorem pg_fld_K {X : Cx} {K : PySem.W.Frag} (hK : X.K = K) {o : Expr} {f : Str} {pos : Pos} {ta : TE} (ha : PE X o ta) : PG X (.Attribute o f pos) (gFld K ta f) := by
  subst hK
  refine ⟨fun pins s σ H v u Q I r h => ?_⟩
  rw [assign_Attribute]
  refine wpAny_bind (wpAny_holding (thn (ha.run pins s σ H _ I h) fun ov s2 ⟨x, H2, I2, rx, a, C, dx, fs, ex, ea, c, n, l, q2⟩ => ?_))
  subst ex
  obtain rfl : ov = Value.ref a := rx
  refine wpAny_bind (wpAny_standAt (wpAny_bind (wpAny_holding (setattr_ok I2 ea c n l r fun s3 I3 => ?_))))
  exact wpAny_release ⟨σ, _, I3, q2⟩
/-- a statement that only leaves (a raise), while the dict at d is locked: it leaves unlocked -/
def tUnl (H0 : Hp) (t : TS) : TS := fun _ σ H => ∃ (d : Addr) (od : Obj) (u : HO), H d = some (.frz od u) ∧ (∀ o' u', H0 d ≠ some (.frz o' u')) ∧ t { nx := fun _ _ => False, rt := fun _ _ => False } σ (upd H d u)
theorem ps_unl {X : Cx} {st : Stmt} {t : TS} (h : PS X st t) : PS X st (tUnl X.H_0 t) := by
  refine ⟨fun pins s σ H D I hw => ?_⟩
  obtain ⟨d, od, u, hd, hn, hw⟩ := hw
  refine thn (h.run pins s σ _ _ (I.unlock hd hn) hw) fun f s1 q => ?_
  cases f with
  | next => obtain ⟨_, _, _, z⟩ := q; exact z.elim
  | brk => obtain ⟨_, _, _, z⟩ := q; exact z.elim
  | cont => obtain ⟨_, _, _, z⟩ := q; exact z.elim
  | ret v => obtain ⟨_, _, _, _, _, z⟩ := q; exact z.elim
/-! ### == of two dicts whose values are texts -/
theorem hits_strs {A : Around} {s : Shared} {ls : List (L2.Key × V)} {vb : List (L2.Key × Value)} (rb : KV ls vb) (sb : ∀ p ∈ ls, ∃ z, p.2 = V.str z) {ks : List (L2.Key × V)} {va : List (L2.Key × Value)} (ra : KV ks va) :
    (∀ p ∈ ks, ∃ z, p.2 = V.str z) → PySem.W.KeqHits A s vb va (ks.all fun p => decide (valV ls p.1 = some p.2)) := by
  unfold KV at ra
  induction ra with
  | nil => intro _; exact .nil
  | @cons p q ps qs h t ih =>
    intro hp
    obtain ⟨h1, h2⟩ := h
    obtain ⟨z, ez⟩ := hp p List.mem_cons_self
    obtain ⟨k, v⟩ := q
    have h1' : p.1 = k := h1
    have rr := rb.val p.1
    have ih' := ih fun p' hm => hp p' (List.mem_cons_of_mem _ hm)
    rw [List.all_cons]
    cases e : valV ls p.1 with
    | none =>
      rw [e] at rr
      have hy : valueAt vb k = none := by
        rw [← h1']
        cases ey : valueAt vb p.1 with
        | none => rfl
        | some y => rw [ey] at rr; exact rr.elim
      rw [decide_eq_false (fun z => nomatch z), Bool.false_and]
      exact .miss hy
    | some x =>
      rw [e] at rr
      obtain ⟨y, hy, ry⟩ := rr.some_of
      obtain ⟨zx, ex⟩ : ∃ zx, x = V.str zx := by
        unfold valV at e
        obtain ⟨p', hp', rfl⟩ := Option.map_eq_some_iff.mp e
        exact sb p' (List.mem_of_find?_eq_some hp')
      rw [h1'] at hy
      rw [ex] at ry
      rw [ez] at h2
      obtain ⟨t1, rfl⟩ := ry
      obtain ⟨t2, rfl⟩ : ∃ t2, v = Value.str z t2 := h2
      have eb : decide (some x = some p.2) = (z == zx) := by
        rw [ex, ez]
        by_cases c : z = zx
        · rw [c]; simp
        · rw [decide_eq_false (fun w => c (by injection w with w; injection w with w; exact w.symm))]
          exact (beq_eq_false_iff_ne.mpr c).symm
      rw [eb]
      exact .hit hy (SeqAt.EqAt.str_str z t2 zx t1) ih'
def rEqKS : R2 := fun x y H Q => ∃ (a b : Addr) (ks ls : List (L2.Key × V)), x = .ref a ∧ y = .ref b ∧ H a = some (.dK ks) ∧ H b = some (.dK ls) ∧ (∀ p ∈ ks, ∃ z, p.2 = V.str z) ∧ (∀ p ∈ ls, ∃ z, p.2 = V.str z) ∧
  Q (.bl (ks.length == ls.length && ks.all fun p => decide (valV ls p.1 = some p.2))) H
theorem op_eqKS {X : Cx} (hu : X.A.units < cLine) : OpR X (compareOp .Eq) rEqKS := by
  intro pins s σ H x y v u Q I rx ry h
  obtain ⟨a, b, ks, ls, rfl, rfl, ea, eb, sa, sb, q⟩ := h
  cases rx
  cases ry
  obtain ⟨_, ya, va, ra, da⟩ := (show ObjOk X.prog X.w H s.heap a (.dK ks) from I.hok a _ ea)
  obtain ⟨_, yb, vb, rb, db⟩ := (show ObjOk X.prog X.w H s.heap b (.dK ls) from I.hok b _ eb)
  exact PySem.W.keq_eq (knd := mixKind X.prog X.w) ya yb da db hu (fun _ => hits_strs rb sb ra sa) (fin_bl I q (by rw [Paired.length ra, Paired.length rb]))
/-- o.f, over a named K (within a comprehension's block) -/
theorem pe_fld_K {X : Cx} {K : PySem.W.Frag} (hK : X.K = K) {e : Expr} {f : Str} {pos : Pos} {ta : TE} (he : PE X e ta) (hb : attributeBase e f X.env (eval e X.env) = eval e X.env) : PE X (.Attribute e f pos) (tFld K ta f) := by
  subst hK
  exact pe_fld he hb
/-! ### steps of a reading -/
theorem gn_step {i : Nat} {v : V} {σ : L2.St} {H : Hp} {Q : L2.St → Hp → Prop} (h : Q (σ.set i (some v)) H) : gName i v σ H Q := h
theorem sq_asg {te : TE} {g : TG} {B : TS} {D : Ends} {σ : L2.St} {H : Hp} (h : te σ H fun x H1 => g x σ H1 (B D)) : tSeq (tAsg te g) B D σ H := h
theorem cons_step {ta : TE} {t : TA} {σ : L2.St} {H : Hp} {Q : List V → Hp → Prop} (h : ta σ H fun x H1 => t σ H1 fun xs H2 => Q (x :: xs) H2) : tCons ta t σ H Q := h
theorem lst_step {t : TA} {σ : L2.St} {H : Hp} {Q : VK} (h : t σ H fun xs H1 => xs.length ≤ sizeLine ∧ ∀ p, H1 p = none → Q (.ref p) (upd H1 p (.lst xs))) : tLst t σ H Q := h
theorem tup_step {t : TA} {σ : L2.St} {H : Hp} {Q : VK} (h : t σ H fun xs H1 => xs.length ≤ sizeLine ∧ ∀ p, H1 p = none → Q (.ref p) (upd H1 p (.tup xs))) : tTup t σ H Q := h
theorem pair_at {α β : Type} {F : α → β → Prop} : ∀ {xs : List α} {ys : List β}, Paired F xs ys → ∀ {i : Nat} {x : α}, xs[i]? = some x → ∃ y, ys[i]? = some y ∧ F x y
  | _, _, .nil, _, _, e => nomatch e
  | _, _, .cons h t, 0, _, e => ⟨_, rfl, by cases e; exact h⟩
  | _, _, .cons h t, i + 1, _, e => pair_at t e
end Bh

set_option Elab.async false
set_option linter.all false
set_option maxRecDepth 100000
set_option maxHeartbeats 1000000
namespace Bh
open PySem PySem.Spec PyProof.Rows L2
section
variable {P : Program} {w : World} {K : PySem.W.Frag} {mg : Str → Option Value} {base : Heap}
theorem copy_step (T : Top K mg) (n : Nat) (G_copy_of : FnOk P w K mg base CX0 n T.a_copy_of T.fd_copy_of ["value"] (spCp K n)) : FnOk P w K mg base CX0 (n + 1) T.a_copy_of T.fd_copy_of ["value"] (spCp K (n + 1)) := by
  refine T.d_copy_of.F.ok sc_copy_of (fun vs H Q E h => ?_) (fun cdv A outer s H vs Q E hr h => ?_)
  · obtain ⟨v, d, rfl, _⟩ := h
    rfl
  obtain ⟨v, d, rfl, hd, hs, q⟩ := h
  refine ⟨_, (pss_cons (ps_if (pt_val (pe_callB (call_isi_K (K := K) (by rfl)) (by rfl) T.b_isinstance (by decide +kernel) (pa_cons (pv 0) (pa_cons (pe_tyN "list" (by rfl) T.b_list (by decide +kernel)) pa_nil)))) (pss_one (ps_ret (pe_lc (own := [("item", 1)]) rfl sc_copy_of.nd (pi_seq_K (K := K) (by rfl) (pv 0)) (blkOk_by (own := [("item", 1)]) (N := ["value", "item", "key", "worth"]) (sc := defScope s_copy_of) (by decide +kernel)) (fun _ _ _ _ _ => by exact (pg_name (i := 1) sc_copy_of.nd rfl (Or.inl rfl))) (fun _ _ _ _ _ => by exact pts_nil) (fun _ _ _ _ _ => by exact (pe_call G_copy_of hr (by rfl) T.d_copy_of.g T.d_copy_of.kp T.d_copy_of.b .nil pass0 (pa_cons (pv 1) pa_nil)))))) pss_nil)
    (pss_cons (ps_if (pt_val (pe_callB (call_isi_K (K := K) (by rfl)) (by rfl) T.b_isinstance (by decide +kernel) (pa_cons (pv 0) (pa_cons (pe_tyN "tuple" (by rfl) T.b_tuple (by decide +kernel)) pa_nil)))) (pss_one (ps_ret (pe_callTy (call_tuple_of_P (K := K) (by rfl)) (by rfl) T.b_tuple (by decide +kernel) (pa_cons (pe_lc (own := [("item", 1)]) rfl sc_copy_of.nd (pi_seq_K (K := K) (by rfl) (pv 0)) (blkOk_by (own := [("item", 1)]) (N := ["value", "item", "key", "worth"]) (sc := defScope s_copy_of) (by decide +kernel)) (fun _ _ _ _ _ => by exact (pg_name (i := 1) sc_copy_of.nd rfl (Or.inl rfl))) (fun _ _ _ _ _ => by exact pts_nil) (fun _ _ _ _ _ => by exact (pe_call G_copy_of hr (by rfl) T.d_copy_of.g T.d_copy_of.kp T.d_copy_of.b .nil pass0 (pa_cons (pv 1) pa_nil)))) pa_nil)))) pss_nil)
    (pss_cons (ps_if (pt_val (pe_callB (call_isi_K (K := K) (by rfl)) (by rfl) T.b_isinstance (by decide +kernel) (pa_cons (pv 0) (pa_cons (pe_tyN "dict" (by rfl) T.b_dict (by decide +kernel)) pa_nil)))) (pss_one ps_never) pss_nil)
    (pss_one (ps_ret (pv 0)))))), ?_⟩
  cases hd with
  | non => exact ⟨_, rfl, _, _, _, _, false, rfl, .ty _, .base .non, kit_ty (by decide +kernel), _, rfl, iteF ⟨_, rfl, _, _, _, _, false, rfl, .ty _, .base .non, kit_ty (by decide +kernel), _, rfl, iteF ⟨_, rfl, _, _, _, _, false, rfl, .ty _, .base .non, kit_ty (by decide +kernel), _, rfl, iteF ⟨_, rfl, q _ _ (Same.refl _) .non⟩⟩⟩⟩
  | bl b => exact ⟨_, rfl, _, _, _, _, false, rfl, .ty _, .base (.bl b), kit_ty (by decide +kernel), _, rfl, iteF ⟨_, rfl, _, _, _, _, false, rfl, .ty _, .base (.bl b), kit_ty (by decide +kernel), _, rfl, iteF ⟨_, rfl, _, _, _, _, false, rfl, .ty _, .base (.bl b), kit_ty (by decide +kernel), _, rfl, iteF ⟨_, rfl, q _ _ (Same.refl _) (.bl b)⟩⟩⟩⟩
  | int i => exact ⟨_, rfl, _, _, _, _, false, rfl, .ty _, .base (.int i), kit_ty (by decide +kernel), _, rfl, iteF ⟨_, rfl, _, _, _, _, false, rfl, .ty _, .base (.int i), kit_ty (by decide +kernel), _, rfl, iteF ⟨_, rfl, _, _, _, _, false, rfl, .ty _, .base (.int i), kit_ty (by decide +kernel), _, rfl, iteF ⟨_, rfl, q _ _ (Same.refl _) (.int i)⟩⟩⟩⟩
  | str z => exact ⟨_, rfl, _, _, _, _, false, rfl, .ty _, .base (.str z), kit_ty (by decide +kernel), _, rfl, iteF ⟨_, rfl, _, _, _, _, false, rfl, .ty _, .base (.str z), kit_ty (by decide +kernel), _, rfl, iteF ⟨_, rfl, _, _, _, _, false, rfl, .ty _, .base (.str z), kit_ty (by decide +kernel), _, rfl, iteF ⟨_, rfl, q _ _ (Same.refl _) (.str z)⟩⟩⟩⟩
  | @lst a xs ds h1 h2 =>
    cases hs with
    | @lst m _ hl hall =>
    have lx := DpAll.length h2
    refine ⟨_, rfl, _, _, _, _, true, rfl, .ty _, tyL h1, kit_ty (by decide +kernel), _, rfl, iteT (.inl ⟨_, rfl, a, rfl, ⟨_, h1⟩, fun D nD => ?_⟩)⟩
    refine lc_it walk_list (fun i H' => ∃ ys, Same H H' ∧ H' D = some (.lst ys) ∧ DpAll K (hid D (newOf H H')) ys (ds.take i)) ⟨[], same_new nD, upd_same, .nil⟩ (fun i H' _ ⟨_, e, _⟩ => e.seq h1) ?_ ?_
    · rintro i y H' H'' hi ⟨ys, s1, hD, hY⟩ ⟨rfl, ey⟩
      obtain ⟨d, e1, e2⟩ := DpAll.get h2 ey
      refine ⟨rfl, _, rfl, y, d, rfl, Dp.mono s1 e2, hall d (List.mem_of_getElem? e1), fun H3 r s3 hr3 => ⟨ys, s3 _ _ hD, ?_, ys ++ [r], same_mut (s1.trans s3) nD, upd_same, ?_⟩⟩
      · rw [DpAll.length hY, List.length_take]
        exact lt_line (by omega)
      · rw [List.take_add_one, e1]
        exact DpAll.append (DpAll.mono (hid_newOf s3) hY) (.cons (Dp.mono (newOf_hid s1 hD) hr3) .nil)
    · rintro H' ⟨ys, s1, hD, hY⟩
      rw [lx, List.take_length] at hY
      exact q _ _ s1 (.lst (SqL.of ((newOf_at nD).trans hD)) (DpAll.mono hid_le hY))
  | @tup a xs ds h1 h2 =>
    cases hs with
    | @tup m _ hl hall =>
    have lx := DpAll.length h2
    refine ⟨_, rfl, _, _, _, _, false, rfl, .ty _, tyT h1, kit_ty (by decide +kernel), _, rfl, iteF ?_⟩
    refine ⟨_, rfl, _, _, _, _, true, rfl, .ty _, tyT h1, kit_ty (by decide +kernel), _, rfl, iteT ?_⟩
    refine .inr ⟨_, rfl, a, rfl, ⟨_, h1⟩, fun D nD => ?_⟩
    refine lc_it walk_tup (fun i H' => ∃ ys, Same H H' ∧ H' D = some (.lst ys) ∧ DpAll K (hid D (newOf H H')) ys (ds.take i)) ⟨[], same_new nD, upd_same, .nil⟩ (fun i H' _ ⟨_, e, _⟩ => Same.tup e h1) ?_ ?_
    · rintro i y H' H'' hi ⟨ys, s1, hD, hY⟩ ⟨rfl, ey⟩
      obtain ⟨d, e1, e2⟩ := DpAll.get h2 ey
      refine ⟨rfl, _, rfl, y, d, rfl, Dp.mono s1 e2, hall d (List.mem_of_getElem? e1), fun H3 r s3 hr3 => ⟨ys, s3 _ _ hD, ?_, ys ++ [r], same_mut (s1.trans s3) nD, upd_same, ?_⟩⟩
      · rw [DpAll.length hY, List.length_take]
        exact lt_line (by omega)
      · rw [List.take_add_one, e1]
        exact DpAll.append (DpAll.mono (hid_newOf s3) hY) (.cons (Dp.mono (newOf_hid s1 hD) hr3) .nil)
    · rintro H' ⟨ys, s1, hD, hY⟩
      rw [lx, List.take_length] at hY
      refine ⟨D, ys, rfl, .inl ⟨SqL.of hD, fun p o np hd => ?_⟩⟩
      have s2 := same_new (o := .frz o (.tup ys)) np
      have hp : newOf H (upd H' p (.frz o (.tup ys))) p = some (.frz o (.tup ys)) := by
        rw [newOf_at (s1.free np)]
        exact upd_same
      exact q _ _ (s1.trans s2) (.tup (.inl (.inr ⟨o, hp⟩)) (DpAll.mono (newOf_mono s2) (DpAll.mono hid_le hY)))
theorem ok_copy (T : Top K mg) : ∀ n : Nat, FnOk P w K mg base CX0 n T.a_copy_of T.fd_copy_of ["value"] (spCp K n)
  | 0 => ⟨fun _ _ _ _ h => h.elim, fun _ _ _ _ _ _ _ _ _ _ _ _ _ h => h.elim⟩
  | n + 1 => copy_step T n (ok_copy T n)
theorem in_KindsDiffer (T : Top K mg) (n : Nat) : FnOk P w K mg base CX0 (n + 2) T.r_KindsDiffer.f T.r_KindsDiffer.fd ["self", "name"] (spIe K T.r_KindsDiffer.c "KindsDiffer" "name" n) := by
  have G_copy_of := ok_copy (P := P) (w := w) (base := base) T (n + 1)
  refine T.r_KindsDiffer.F.ok sc_KindsDiffer__init (fun vs H Q E h => ?_) (fun cdv A outer s H vs Q E hr h => ?_)
  · obtain ⟨a, v, d, rfl, _⟩ := h
    rfl
  obtain ⟨a, v, d, rfl, ea, hd, n, q⟩ := h
  refine ⟨_, (pss_cons (ps_setG (pv 0) (pe_call G_copy_of hr (by rfl) T.d_copy_of.g T.d_copy_of.kp T.d_copy_of.b .nil pass0 (pa_cons (pv 1) pa_nil)))
    (pss_one (ps_setG (pv 0) pe_str))), ?_⟩
  refine ⟨_, rfl, v, d, rfl, hd, n, fun H3 r s3 hr3 => ⟨_, rfl, a, T.r_KindsDiffer.c, rfl, T.r_KindsDiffer.e, T.r_KindsDiffer.n _ (by decide), .inl ⟨s3 _ _ ea, fun dx nd ne => ?_⟩⟩⟩
  refine ⟨_, rfl, a, T.r_KindsDiffer.c, rfl, T.r_KindsDiffer.e, T.r_KindsDiffer.n _ (by decide), .inr ⟨dx, _, upd_same, (upd_ne ne).trans upd_same, (by show 1 ≤ 900; decide), ?_⟩⟩
  refine q dx r _ (s3.free nd) ne ?_ upd_same (ie_same s3 nd) (Dp.mono (ie_new ea s3 nd) hr3)
  rw [upd_ne ne.symm]
  exact upd_same
end
end Bh

set_option Elab.async false
set_option linter.all false
set_option maxRecDepth 100000
set_option maxHeartbeats 1000000
set_option autoImplicit false
namespace Bh
open PySem PySem.Spec PyProof.Rows L2
/-- a value that is no text -/
def NotStr (K : PySem.W.Frag) (H : Hp) (v : V) : Prop := ∃ t : Value, TyX K H v t ∧ PySem.W.kitOne K t (.type "str") = some false
def spHas (K : PySem.W.Frag) (C : Addr) : Sp := fun vs H Q _ => ∃ (x dc dt : Addr) (cs : List Cl) (ts : List Ti) (v : V) (b : Bool), vs = [.ref x, v] ∧ NetA H C x dc dt cs ts ∧ ((∃ n : Str, v = .str n ∧ b = decide (n ∈ cs.map (·.1))) ∨ (NotStr K H v ∧ b = false)) ∧ Q (.bl b) H
def spKnown (C : Addr) : Sp := fun vs H Q _ => ∃ (x dc dt : Addr) (cs : List Cl) (ts : List Ti) (n : Str), vs = [.ref x, .str n] ∧ NetA H C x dc dt cs ts ∧ n ∈ cs.map (·.1) ∧ Q .non H
def spCells (C : Addr) : Sp := fun vs H Q _ => ∃ (x dc dt : Addr) (cs : List Cl) (ts : List Ti), vs = [.ref x] ∧ NetA H C x dc dt cs ts ∧ ∀ p, H p = none → Q (.ref p) (upd H p (.lst (cs.map fun c => .str c.1)))
/-- a tie's own tuple -/
def TiA (H : Hp) (v : V) (t : Ti) : Prop := ∃ b : Addr, v = .ref b ∧ H b = some (.tup [.str t.1, .str t.2.1, .str t.2.2])
theorem tia_mono {H H' : Hp} (k : ∀ b xs, H b = some (.tup xs) → H' b = some (.tup xs)) {ys : List V} {ts : List Ti} (h : Paired (TiA H) ys ts) : Paired (TiA H') ys ts :=
  Paired.mapP h fun _ _ ⟨b, e, z⟩ => ⟨b, e, k _ _ z⟩
theorem tia_upd {H : Hp} {a : Addr} {o o' : HO} (h : H a = some o) (n : ∀ xs, o ≠ .tup xs) {ys : List V} {ts : List Ti} (p : Paired (TiA H) ys ts) : Paired (TiA (upd H a o')) ys ts :=
  tia_mono (fun b xs e => by
    rw [upd_ne (fun z => by rw [z, h] at e; exact n _ (Option.some.inj e))]
    exact e) p
theorem tia_dp {K : PySem.W.Frag} {H : Hp} : ∀ {ys : List V} {ts : List Ti}, Paired (TiA H) ys ts → DpAll K H ys (ts.map dTi)
  | _, _, .nil => .nil
  | _, _, .cons (b := t) ⟨b, e, z⟩ r => by
    rw [e]
    exact .cons (.tup (.inl (.inl z)) (strs_dp [t.1, t.2.1, t.2.2])) (tia_dp r)
/-- a new list of these ties -/
def spTies (C : Addr) : Sp := fun vs H Q _ => ∃ (x dc dt : Addr) (cs : List Cl) (ts : List Ti), vs = [.ref x] ∧ NetA H C x dc dt cs ts ∧ ∀ p H' ys, H p = none → Same H H' → H' p = some (.lst ys) → Paired (TiA H') ys ts → Q (.ref p) H'
def spKindAt (C : Addr) : Sp := fun vs H Q _ => ∃ (x dc dt : Addr) (cs : List Cl) (ts : List Ti) (n k : Str), vs = [.ref x, .str n] ∧ NetA H C x dc dt cs ts ∧ kindAt cs n = some k ∧ Q (.str k) H
/-- the two dicts of networks compared -/
def eqNet (cs ds : List Cl) (ts us : List Ti) : Bool := (cs.length == ds.length && cs.all fun c => decide (kindAt ds c.1 = some c.2)) && (ts.length == us.length && ts.all fun t => decide (t ∈ us))
def partNet (cs ds : List Cl) (ts us : List Ti) : Bool := (cs.all fun c => decide (kindAt ds c.1 = some c.2)) && ts.all fun t => decide (t ∈ us)
def spEq (K : PySem.W.Frag) (C : Addr) : Sp := fun vs H Q _ => ∃ (x dc dt : Addr) (cs : List Cl) (ts : List Ti) (v : V), vs = [.ref x, v] ∧ NetA H C x dc dt cs ts ∧
  ((∃ (y ec et : Addr) (ds : List Cl) (us : List Ti), v = .ref y ∧ NetA H C y ec et ds us ∧ Q (.bl (eqNet cs ds ts us)) H) ∨ (∃ (b : Addr) (zs : List V), v = .ref b ∧ SqT K H b zs ∧ Q (.bl false) H) ∨ ∃ z, v = .str z ∧ Q (.bl false) H)
theorem len_add (a b : Str) : (a ++ b).length = a.length + b.length := by
  show (a.cps ++ b.cps).size = _
  rw [Array.size_append]
  rfl
theorem int_text : ∀ n < 1001, (toString ((n : Nat) : Int) : Str).length ≤ 10 := by decide +kernel
theorem int_log : ∀ n < 1001, (((n : Nat) : Int)).natAbs.log2 < 1920 := by decide +kernel
theorem keys_tia {H : Hp} : ∀ {ts : List Ti} {bs : List Addr}, IsKeys H (ts.map eT) bs → Paired (TiA H) (bs.map V.ref) ts
  | [], _, h => by
    cases h
    exact .nil
  | t :: ts, _, h => by
    rw [List.map_cons] at h
    cases h with
    | cons a r => exact .cons ⟨_, rfl, a⟩ (keys_tia r)
theorem kind_nodup {cs : List Cl} (nd : (cs.map (·.1)).Nodup) {c : Cl} (h : c ∈ cs) : kindAt cs c.1 = some c.2 := by
  obtain ⟨k, e, m⟩ := kindAt_some (List.mem_map.mpr ⟨c, h, rfl⟩ : c.1 ∈ cs.map (·.1))
  rw [e]
  obtain ⟨i, hi⟩ := List.mem_iff_getElem?.mp h
  obtain ⟨j, hj⟩ := List.mem_iff_getElem?.mp m
  have li := (List.getElem?_eq_some_iff.mp hi).1
  have q : (cs.map (·.1))[i]? = (cs.map (·.1))[j]? := by rw [List.getElem?_map, List.getElem?_map, hi, hj]; rfl
  have eij := (List.getElem?_inj (by rw [List.length_map]; exact li) nd).mp q
  rw [eij, hj] at hi
  rw [← Option.some.inj hi]
theorem all_ties (ts : List Ti) : (ts.map eT).all (fun p => (valV (ts.map eT) p.1).isSome) = true := by
  rw [List.all_eq_true]
  intro p hp
  obtain ⟨t, ht, rfl⟩ := List.mem_map.mp hp
  show (valV (ts.map eT) (kT t)).isSome = true
  rw [ties_in, decide_eq_true ht]
section
variable {P : Program} {w : World} {K : PySem.W.Frag} {mg : Str → Option Value} {base : Heap} {R : NtC K mg}
theorem ok_mcontains (T : Top K mg) (M : NtM K mg R) : FnOk P w K mg base CX0 1 M.contains.f M.contains.fd ["self", "name"] (spHas K R.C) := by
  refine M.contains.F.ok sc_Network__contains (fun vs H Q E h => ?_) (fun cdv A outer s H vs Q E hr h => ?_)
  · obtain ⟨x, dc, dt, cs, ts, v, b, rfl, _⟩ := h
    rfl
  obtain ⟨x, dc, dt, cs, ts, v, b, rfl, ⟨dx, h0, h1, h2⟩, hv, q⟩ := h
  refine ⟨_, (pss_one (ps_ret (pe_and (pe_callB (call_isi_K (K := K) (by rfl)) (by rfl) T.b_isinstance (by decide +kernel) (pa_cons (pv 1) (pa_cons (pe_tyN "str" (by rfl) T.b_str (by decide +kernel)) pa_nil))) (pe_one (pe_cmpR (op_inD (by exact (u1 hr))) (pv 1) (pe_fld (pv 0) (by rfl)) (by rfl)))))), ?_⟩
  rcases hv with ⟨n, rfl, rfl⟩ | ⟨⟨t, ty, kt⟩, rfl⟩
  · refine ⟨_, rfl, _, _, _, _, true, rfl, .ty _, .base (.str n), kit_ty (by decide +kernel), _, rfl, ?_⟩
    refine ⟨_, rfl, _, rfl, x, R.C, dx, _, .ref dc, rfl, h0, R.cl, R.n1, rfl, inCells h1 ?_⟩
    rw [Bool.bne_false]
    exact q
  · refine ⟨_, rfl, _, _, _, _, false, rfl, .ty _, ty, kt, _, rfl, ?_⟩
    exact q
theorem ok_mknown (T : Top K mg) (M : NtM K mg R) : FnOk P w K mg base CX0 2 M.check_known.f M.check_known.fd ["self", "name"] (spKnown R.C) := by
  have G_m_contains := ok_mcontains (P := P) (w := w) (base := base) T M
  refine M.check_known.F.ok sc_Network_check_known (fun vs H Q E h => ?_) (fun cdv A outer s H vs Q E hr h => ?_)
  · obtain ⟨x, dc, dt, cs, ts, n, rfl, _⟩ := h
    rfl
  obtain ⟨x, dc, dt, cs, ts, n, rfl, ⟨dx, h0, h1, h2⟩, hn, q⟩ := h
  refine ⟨_, (pss_one (ps_if (pt_cmpR (op_notInIns G_m_contains M.contains.M.at_ M.contains.M.fn M.contains.b pass0 (hr.mono (by decide))) (pv 1) (pv 0) (by rfl)) (pss_one ps_dead) pss_nil)), ?_⟩
  refine ⟨_, rfl, _, rfl, x, dx, _, rfl, h0, x, dc, dt, cs, ts, .str n, true, rfl, ⟨dx, h0, h1, h2⟩, .inl ⟨n, rfl, (decide_eq_true hn).symm⟩, true, rfl, _, rfl, ?_⟩
  exact iteF q
theorem ok_mcells (T : Top K mg) (M : NtM K mg R) : FnOk P w K mg base CX0 1 M.cells.f M.cells.fd ["self"] (spCells R.C) := by
  refine M.cells.F.ok sc_Network_cells (fun vs H Q E h => ?_) (fun cdv A outer s H vs Q E hr h => ?_)
  · obtain ⟨x, dc, dt, cs, ts, rfl, _⟩ := h
    rfl
  obtain ⟨x, dc, dt, cs, ts, rfl, ⟨dx, h0, h1, h2⟩, q⟩ := h
  refine ⟨_, (pss_one (ps_ret (pe_callTy (call_listD rfl) (by rfl) T.b_list (by decide +kernel) (pa_cons (pe_fld (pv 0) (by rfl)) pa_nil)))), ?_⟩
  refine ⟨_, rfl, x, R.C, dx, _, .ref dc, rfl, h0, R.cl, R.n1, rfl, dc, _, rfl, .inl h1, fun p np => ?_⟩
  rw [List.map_map]
  exact q p np
theorem ok_mties (T : Top K mg) (M : NtM K mg R) : FnOk P w K mg base CX0 1 M.ties.f M.ties.fd ["self"] (spTies R.C) := by
  refine M.ties.F.ok sc_Network_ties (fun vs H Q E h => ?_) (fun cdv A outer s H vs Q E hr h => ?_)
  · obtain ⟨x, dc, dt, cs, ts, rfl, _⟩ := h
    rfl
  obtain ⟨x, dc, dt, cs, ts, rfl, ⟨dx, h0, h1, h2⟩, q⟩ := h
  refine ⟨_, (pss_one (ps_ret (pe_callTy (call_list_dT rfl) (by rfl) T.b_list (by decide +kernel) (pa_cons (pe_fld (pv 0) (by rfl)) pa_nil)))), ?_⟩
  refine ⟨_, rfl, x, R.C, dx, _, .ref dt, rfl, h0, R.cl, R.n2, rfl, dt, _, rfl, .inl h2, fun p bs np ks => ?_⟩
  exact q p _ _ np (same_new np) upd_same (keys_tia (Paired.mapP ks fun _ _ z => same_new np _ _ z))
theorem ok_mgetitem (T : Top K mg) (M : NtM K mg R) : FnOk P w K mg base CX0 3 M.getitem.f M.getitem.fd ["self", "name"] (spKindAt R.C) := by
  have G_m_check_known := ok_mknown (P := P) (w := w) (base := base) T M
  refine M.getitem.F.ok sc_Network__getitem (fun vs H Q E h => ?_) (fun cdv A outer s H vs Q E hr h => ?_)
  · obtain ⟨x, dc, dt, cs, ts, n, k, rfl, _⟩ := h
    rfl
  obtain ⟨x, dc, dt, cs, ts, n, k, rfl, ⟨dx, h0, h1, h2⟩, hk, q⟩ := h
  refine ⟨_, (pss_cons (ps_expr (pe_meth (pv 0) R.cl M.check_known.M G_m_check_known (hr.mono (by decide)) M.check_known.b .nil pass0 (pa_cons (pv 1) pa_nil)))
    (pss_one (ps_ret (pe_dget (u1 hr) (pe_fld (pv 0) (by rfl)) (pv 1) (fun _ _ => rfl))))), ?_⟩
  have mn : n ∈ cs.map (·.1) := by
    have z := kindAt_isSome (n := n) (cs := cs)
    rw [hk] at z
    exact of_decide_eq_true z.symm
  refine ⟨_, rfl, x, dx, _, rfl, h0, rfl, _, rfl, x, dc, dt, cs, ts, n, rfl, ⟨dx, h0, h1, h2⟩, mn, ?_⟩
  refine ⟨_, rfl, x, R.C, dx, _, .ref dc, rfl, h0, R.cl, R.n1, rfl, _, rfl, dc, .str k, rfl, ?_, q⟩
  have z := DGet.k (k := .inr n) h1
  rw [val_cells, hk] at z
  exact z
theorem cells_eq (cs ds : List Cl) : ((cs.map eC).all fun p => decide (valV (ds.map eC) p.1 = some p.2)) = cs.all fun c => decide (kindAt ds c.1 = some c.2) := by
  rw [List.all_map]
  congr 1
  funext c
  show decide (valV (ds.map eC) (.inr c.1) = some (.str c.2)) = decide (kindAt ds c.1 = some c.2)
  rw [val_cells]
  congr 1
  cases kindAt ds c.1 with
  | none => simp
  | some k => simp
theorem ties_eq (ts us : List Ti) : ((ts.map eT).all fun p => (valV (us.map eT) p.1).isSome) = ts.all fun t => decide (t ∈ us) := by
  rw [List.all_map]
  congr 1
  funext t
  exact ties_in
theorem ok_meq (T : Top K mg) (M : NtM K mg R) : FnOk P w K mg base CX0 1 M.eq.f M.eq.fd ["self", "other"] (spEq K R.C) := by
  refine M.eq.F.ok sc_Network__eq (fun vs H Q E h => ?_) (fun cdv A outer s H vs Q E hr h => ?_)
  · obtain ⟨x, dc, dt, cs, ts, v, rfl, _⟩ := h
    rfl
  obtain ⟨x, dc, dt, cs, ts, v, rfl, ⟨dx, h0, h1, h2⟩, hv⟩ := h
  refine ⟨_, (pss_cons (ps_if (pt_not (pt_val (pe_callB (call_isi_K (K := K) (by rfl)) (by rfl) T.b_isinstance (by decide +kernel) (pa_cons (pv 1) (pa_cons (pe_glob (v := .ref R.C) rfl R.g rfl) pa_nil))))) (pss_one (ps_ret pe_bl)) pss_nil)
    (pss_one (ps_ret (pe_and (pe_cmpR (op_eqKS (Nat.lt_of_succ_lt (u1 hr))) (pe_fld (pv 0) (by rfl)) (pe_fld (pv 1) (by rfl)) (nomark _)) (pe_one (pe_cmpR (op_eqT (u1 hr)) (pe_fld (pv 0) (by rfl)) (pe_fld (pv 1) (by rfl)) (nomark _))))))), ?_⟩
  rcases hv with ⟨y, ec, et, ds, us, rfl, ⟨dy, g0, g1, g2⟩, q⟩ | ⟨b, zs, rfl, hz, q⟩ | ⟨z, rfl, q⟩
  · refine ⟨_, rfl, _, _, _, _, true, rfl, .own _, .base (.ins g0 R.cl R.ha R.hn R.ht R.hm), R.k1, _, rfl, iteF ?_⟩
    refine ⟨_, rfl, x, R.C, dx, _, .ref dc, rfl, h0, R.cl, R.n1, rfl, _, rfl, y, R.C, dy, _, .ref ec, rfl, g0, R.cl, R.n1, rfl, dc, ec, _, _, rfl, rfl, h1, g1, ?_, ?_, ?_⟩
    · intro p hp
      obtain ⟨c, _, rfl⟩ := List.mem_map.mp hp
      exact ⟨_, rfl⟩
    · intro p hp
      obtain ⟨c, _, rfl⟩ := List.mem_map.mp hp
      exact ⟨_, rfl⟩
    rw [cells_eq, List.length_map, List.length_map]
    unfold eqNet at q
    refine ⟨_, rfl, iteB (fun c => ?_) (fun c => ?_)⟩
    · rw [c, Bool.true_and] at q
      refine ⟨_, rfl, x, R.C, dx, _, .ref dt, rfl, h0, R.cl, R.n2, rfl, _, rfl, y, R.C, dy, _, .ref et, rfl, g0, R.cl, R.n2, rfl, dt, et, _, _, rfl, rfl, h2, g2, ?_, ?_, ?_⟩
      · intro p hp
        obtain ⟨c, hc, rfl⟩ := List.mem_map.mp hp
        rfl
      · intro p hp
        obtain ⟨c, hc, rfl⟩ := List.mem_map.mp hp
        rfl
      · rw [ties_eq, List.length_map, List.length_map]
        exact q
    · rw [c, Bool.false_and] at q
      exact q
  · exact ⟨_, rfl, _, _, _, _, false, rfl, .own _, tyT hz, R.kt, _, rfl, iteT q⟩
  · exact ⟨_, rfl, _, _, _, _, false, rfl, .own _, .base (.str z), R.ks, _, rfl, iteT q⟩
end
end Bh

set_option Elab.async false
set_option linter.all false
set_option maxRecDepth 100000
set_option maxHeartbeats 1000000
set_option autoImplicit false
namespace Bh
open PySem PySem.Spec PyProof.Rows L2
/-- all but these three -/
def h3 (x d e : Addr) (H : Hp) : Hp := fun a => if a = x ∨ a = d ∨ a = e then none else H a
theorem h3_le {x d e : Addr} {H : Hp} : Same (h3 x d e H) H := fun a o k => by
  unfold h3 at k
  split at k
  · cases k
  · exact k
theorem h3_ne {x d e a : Addr} {H : Hp} (n1 : a ≠ x) (n2 : a ≠ d) (n3 : a ≠ e) : h3 x d e H a = H a := if_neg (by rintro (z | z | z); exact n1 z; exact n2 z; exact n3 z)
theorem h3_some {x d e a : Addr} {H : Hp} {o : HO} (k : h3 x d e H a = some o) : a ≠ x ∧ a ≠ d ∧ a ≠ e ∧ H a = some o := by
  unfold h3 at k
  split at k
  · cases k
  · rename_i n
    exact ⟨fun z => n (.inl z), fun z => n (.inr (.inl z)), fun z => n (.inr (.inr z)), k⟩
theorem h3_upd {x d e a : Addr} {H H' : Hp} {o : HO} (s : Same (h3 x d e H) H') (h : a = x ∨ a = d ∨ a = e ∨ H a = none) : Same (h3 x d e H) (upd H' a o) := fun b u k => by
  obtain ⟨n1, n2, n3, kb⟩ := h3_some k
  rw [upd_ne (fun z => by
    rcases h with h | h | h | h
    · exact n1 (z.trans h)
    · exact n2 (z.trans h)
    · exact n3 (z.trans h)
    · rw [z, h] at kb; cases kb)]
  exact s _ _ k
theorem NetA.ne {H : Hp} {C x dc dt : Addr} {cs : List Cl} {ts : List Ti} (h : NetA H C x dc dt cs ts) : dc ≠ x ∧ dt ≠ x ∧ dt ≠ dc := by
  obtain ⟨dx, h0, h1, h2⟩ := h
  refine ⟨fun z => ?_, fun z => ?_, fun z => ?_⟩
  · rw [z, h0] at h1; cases h1
  · rw [z, h0] at h2; cases h2
  · rw [z, h1] at h2; cases h2
theorem NetA.putC {H : Hp} {C x dc dt : Addr} {cs cs' : List Cl} {ts : List Ti} (h : NetA H C x dc dt cs ts) : NetA (upd H dc (.dK (cs'.map eC))) C x dc dt cs' ts := by
  obtain ⟨n1, n2, n3⟩ := h.ne
  obtain ⟨dx, h0, h1, h2⟩ := h
  exact ⟨dx, by rw [upd_ne (Ne.symm n1)]; exact h0, upd_same, by rw [upd_ne n3]; exact h2⟩
theorem NetA.putT {H : Hp} {C x dc dt : Addr} {cs : List Cl} {ts ts' : List Ti} (h : NetA H C x dc dt cs ts) : NetA (upd H dt (.dT (ts'.map eT))) C x dc dt cs ts' := by
  obtain ⟨n1, n2, n3⟩ := h.ne
  obtain ⟨dx, h0, h1, h2⟩ := h
  exact ⟨dx, by rw [upd_ne (Ne.symm n2)]; exact h0, by rw [upd_ne (Ne.symm n3)]; exact h1, upd_same⟩
/-- the network is now this one, all else stays -/
def NetTo (H : Hp) (C x dc dt : Addr) (cs : List Cl) (ts : List Ti) (Q : Hp → Prop) : Prop := ∀ (H' : Hp) (dt' : Addr), (dt' = dt ∨ H dt' = none) → Same (h3 x dc dt H) H' → NetA H' C x dc dt' cs ts → Q H'
def spAddCell (C : Addr) : Sp := fun vs H Q _ => ∃ (x dc dt : Addr) (cs : List Cl) (ts : List Ti) (n k : Str), vs = [.ref x, .str n, .str k] ∧ NetA H C x dc dt cs ts ∧ NmOk n ∧ KdOk k ∧ n ∉ cs.map (·.1) ∧ cs.length < 1000 ∧ NetTo H C x dc dt (cs ++ [(n, k)]) ts fun H' => Q .non H'
def spAddTie (C : Addr) : Sp := fun vs H Q _ => ∃ (x dc dt : Addr) (cs : List Cl) (ts : List Ti) (t : Ti), vs = [.ref x, .str t.1, .str t.2.1, .str t.2.2] ∧ NetA H C x dc dt cs ts ∧ NmOk t.1 ∧ t.2.1 ∈ cs.map (·.1) ∧ t.2.2 ∈ cs.map (·.1) ∧ t ∉ ts ∧ ts.length < 1000 ∧ NetTo H C x dc dt cs (ts ++ [t]) fun H' => Q .non H'
def spNetInit (K : PySem.W.Frag) (C : Addr) : Sp := fun vs H Q _ => ∃ (x dx : Addr) (v1 v2 : V) (cs : List Cl) (ts : List Ti), vs = [.ref x, v1, v2] ∧ H x = some (.ins C dx []) ∧ DpS K (hid x H) v1 (cs.map dCell) ∧ DpS K (hid x H) v2 (ts.map dTi) ∧ CsOk cs ∧ TsOk cs ts ∧
  ∀ (H' : Hp) (dc dt : Addr), H dc = none → H dt = none → Same (hid x H) H' → NetA H' C x dc dt cs ts → Q .non H'
theorem hid_in {x a : Addr} {H : Hp} {o : HO} (k : hid x H a = some o) : a ≠ x ∧ H a = some o := by
  unfold hid at k
  split at k
  · cases k
  · rename_i n
    exact ⟨n, k⟩
theorem hid_put {x : Addr} {H H' : Hp} {o : HO} (s : Same (hid x H) H') : Same (hid x H) (upd H' x o) := fun a u k => by
  rw [upd_ne (hid_in k).1]
  exact s _ _ k
/-- a locked thing is let go -/
theorem thaw {d D : Addr} {H H' : Hp} {u o : HO} (h : H d = some u) (s : Same (upd H d o) H') : Same H (upd H' d u) := fun a v e => by
  by_cases z : a = d
  · rw [z, h] at e
    rw [z, upd_same]
    exact e
  · rw [upd_ne z]
    exact s _ _ (by rw [upd_ne z]; exact e)
theorem str_dec (a b : Str) : decide (V.str a = V.str b) = decide (a = b) := by
  by_cases h : a = b
  · rw [decide_eq_true h, decide_eq_true (by rw [h])]
  · rw [decide_eq_false h, decide_eq_false (fun z => h (by injection z))]
theorem tie_at {ts : List Ti} {i : Nat} {k : List L2.Key} {v : V} (e : (ts.map eT)[i]? = some (k, v)) : ∃ t, ts[i]? = some t ∧ k = kT t := by
  rw [List.getElem?_map] at e
  obtain ⟨t, ht, e⟩ := Option.map_eq_some_iff.mp e
  exact ⟨t, ht, congrArg Prod.fst e.symm⟩
theorem filter_next {α : Type} {xs : List α} {i : Nat} {x : α} (p : α → Bool) (e : xs[i]? = some x) : (xs.take (i + 1)).filter p = if p x = true then (xs.take i).filter p ++ [x] else (xs.take i).filter p := by
  rw [take_next e, List.filter_append, List.filter_cons]
  split
  · rfl
  · rw [List.filter_nil, List.append_nil]
section
variable {P : Program} {w : World} {K : PySem.W.Frag} {mg : Str → Option Value} {base : Heap} {R : NtC K mg}
theorem ok_maddcell (T : Top K mg) (M : NtM K mg R) : FnOk P w K mg base CX0 5 M.add_cell.f M.add_cell.fd ["self", "name", "kind"] (spAddCell R.C) := by
  have G_check_cell := ok_chkcell (P := P) (w := w) (base := base) T
  refine M.add_cell.F.ok sc_Network_add_cell (fun vs H Q E h => ?_) (fun cdv A outer s H vs Q E hr h => ?_)
  · obtain ⟨x, dc, dt, cs, ts, n, k, rfl, _⟩ := h
    rfl
  obtain ⟨x, dc, dt, cs, ts, n, k, rfl, na, hn, hk, nin, few, q⟩ := h
  obtain ⟨dx, h0, h1, h2⟩ := id na
  refine ⟨_, (pss_cons (ps_expr (pe_call G_check_cell (hr.mono (by decide)) (by rfl) T.d_check_cell.g T.d_check_cell.kp T.d_check_cell.b .nil pass0 (pa_cons (pe_fld (pv 0) (by rfl)) (pa_cons (pv 1) (pa_cons (pv 2) pa_nil)))))
    (pss_one (ps_dput (u1 hr) (pe_fld (pv 0) (by rfl)) (pv 1) (pv 2) rfl))), ?_⟩
  refine ⟨_, rfl, x, R.C, dx, _, .ref dc, rfl, h0, R.cl, R.n1, rfl, _, rfl, _, rfl, dc, cs, n, k, rfl, h1, hn, hk, nin, fun H1 s1 => ?_⟩
  refine ⟨_, rfl, _, rfl, x, R.C, dx, _, .ref dc, rfl, s1 _ _ h0, R.cl, R.n1, rfl, _, rfl, dc, _, rfl, DPut.k (k := .inr n) (s1 _ _ h1) (by rw [List.length_map]; exact lt_line (by omega)), ?_⟩
  rw [put_cell nin]
  exact q _ dt (.inl rfl) (h3_upd (fun a o e => s1 _ _ (h3_le _ _ e)) (.inr (.inl rfl))) (na.mono s1).putC
theorem ok_maddtie (T : Top K mg) (M : NtM K mg R) : FnOk P w K mg base CX0 5 M.add_tie.f M.add_tie.fd ["self", "tie", "source", "target"] (spAddTie R.C) := by
  have G_check_tie := ok_chktie (P := P) (w := w) (base := base) T
  refine M.add_tie.F.ok sc_Network_add_tie (fun vs H Q E h => ?_) (fun cdv A outer s H vs Q E hr h => ?_)
  · obtain ⟨x, dc, dt, cs, ts, t, rfl, _⟩ := h
    rfl
  obtain ⟨x, dc, dt, cs, ts, ⟨t1, t2, t3⟩, rfl, na, hn, m1, m2, nin, few, q⟩ := h
  obtain ⟨dx, h0, h1, h2⟩ := id na
  refine ⟨_, (pss_cons (ps_expr (pe_call G_check_tie (hr.mono (by decide)) (by rfl) T.d_check_tie.g T.d_check_tie.kp T.d_check_tie.b .nil pass0 (pa_cons (pe_fld (pv 0) (by rfl)) (pa_cons (pe_fld (pv 0) (by rfl)) (pa_cons (pv 1) (pa_cons (pv 2) (pa_cons (pv 3) pa_nil)))))))
    (pss_one (ps_dput (u1 hr) (pe_fld (pv 0) (by rfl)) (pe_tup (pa_cons (pv 1) (pa_cons (pv 2) (pa_cons (pv 3) pa_nil)))) pe_bl rfl))), ?_⟩
  refine ⟨_, rfl, x, R.C, dx, _, .ref dc, rfl, h0, R.cl, R.n1, rfl, _, rfl, x, R.C, dx, _, .ref dt, rfl, h0, R.cl, R.n2, rfl, _, rfl, _, rfl, _, rfl, dc, dt, cs, ts, (t1, t2, t3), rfl, h1, h2, hn, m1, m2, nin, fun H1 s1 => ?_⟩
  refine ⟨_, rfl, x, R.C, dx, _, .ref dt, rfl, s1 _ _ h0, R.cl, R.n2, rfl, _, rfl, _, rfl, _, rfl, (by show 3 ≤ sizeLine; decide), fun p np => ?_⟩
  have s2 := s1.trans (same_new (o := .tup [.str t1, .str t2, .str t3]) np)
  refine ⟨dt, _, rfl, DPut.t (k := kT (t1, t2, t3)) (s2 _ _ h2) upd_same (by rw [List.length_map]; exact lt_line (by omega)), ?_⟩
  rw [put_tie nin]
  exact q _ dt (.inl rfl) (h3_upd (fun a o e => s2 _ _ (h3_le _ _ e)) (.inr (.inr (.inl rfl)))) (na.mono s2).putT
theorem ok_mnetinit (T : Top K mg) (M : NtM K mg R) : FnOk P w K mg base CX0 6 M.fI M.fdI ["self", "cells", "ties"] (spNetInit K R.C) := by
  have G_kinds_of := ok_kindsof (P := P) (w := w) (base := base) T
  have G_ties_between := ok_tiesbetween (P := P) (w := w) (base := base) T
  refine M.FI.ok sc_Network__init (fun vs H Q E h => ?_) (fun cdv A outer s H vs Q E hr h => ?_)
  · obtain ⟨x, dx, v1, v2, cs, ts, rfl, _⟩ := h
    rfl
  obtain ⟨x, dx, v1, v2, cs, ts, rfl, h0, d1, d2, okc, okt, q⟩ := h
  refine ⟨_, (pss_cons (ps_fld (pv 0) (pe_call G_kinds_of (hr.mono (by decide)) (by rfl) T.d_kinds_of.g T.d_kinds_of.kp T.d_kinds_of.b .nil pass0 (pa_cons (pv 1) pa_nil)) (by rfl))
    (pss_one (ps_fld (pv 0) (pe_call G_ties_between (hr.mono (by decide)) (by rfl) T.d_ties_between.g T.d_ties_between.kp T.d_ties_between.b .nil pass0 (pa_cons (pe_fld (pv 0) (by rfl)) (pa_cons (pv 2) pa_nil))) (by rfl)))), ?_⟩
  refine ⟨_, rfl, v1, cs, rfl, d1.mono hid_le, okc, fun dc H1 nc s1 hc => ?_⟩
  have h0' := s1 _ _ h0
  have ndc : dc ≠ x := fun z => by rw [z, h0] at nc; cases nc
  refine ⟨_, rfl, x, R.C, dx, _, rfl, h0', R.cl, R.n1, by decide, ?_⟩
  have s2 : Same (hid x H) (upd H1 x (.ins R.C dx (putF "_cells" (.ref dc) []))) := hid_put fun a u k => s1 _ _ (hid_in k).2
  refine ⟨_, rfl, x, R.C, dx, _, .ref dc, rfl, upd_same, R.cl, R.n1, rfl, _, rfl, dc, v2, cs, ts, rfl, by rw [upd_ne ndc]; exact hc, d2.mono s2, okt, fun dt H2 nt s3 ht => ?_⟩
  have hx2 := s3 _ _ upd_same
  have ndt : dt ≠ x := fun z => by rw [z, upd_same] at nt; cases nt
  have nt1 : H1 dt = none := by rw [upd_ne ndt] at nt; exact nt
  have ntH : H dt = none := s1.free nt1
  refine ⟨_, rfl, x, R.C, dx, _, rfl, hx2, R.cl, R.n2, (by show 1 < 1000; decide), ?_⟩
  refine q _ dc dt nc ntH (hid_put (s2.trans s3)) ⟨dx, upd_same, ?_, ?_⟩
  · rw [upd_ne ndc]
    exact s3 _ _ (by rw [upd_ne ndc]; exact hc)
  · rw [upd_ne ndt]
    exact ht
end
end Bh

set_option Elab.async false
set_option linter.all false
set_option maxRecDepth 100000
namespace Bh
open PySem PySem.Spec PyProof.Rows L2
/-! ### ends of the law of programs -/
theorem at_last {α : Type} {xs : List α} {v : α} (h : xs.getLast? = some v) : atI xs (-1) = some v := by
  cases xs with
  | nil => cases h
  | cons x r =>
    have e : (x :: r).getLast? = (x :: r)[(x :: r).length - 1]? := List.getLast?_eq_getElem?
    unfold atI ixN
    rw [if_neg (by decide), if_pos (by rw [List.length_cons]; omega)]
    show (x :: r)[(-1 + ((x :: r).length : Int)).toNat]? = some v
    rw [show (-1 + ((x :: r).length : Int)).toNat = (x :: r).length - 1 by rw [List.length_cons]; omega, ← e]
    exact h
theorem vals_first : ∀ (fs : List Fld) (acc : List (List Str)) (h : List Str), acc[0]? = some h → (∀ f ∈ fs, f.2 ≠ []) → ∃ t : List Str, (fs.foldl ext1 acc)[0]? = some (h ++ t) ∧ ∀ f r, fs = f :: r → t[0]? = f.2[0]?
  | [], acc, h, h0, _ => ⟨[], by rw [List.append_nil]; exact h0, fun f r e => by cases e⟩
  | f :: r, acc, h, h0, hn => by
    cases ho : f.2 with
    | nil => exact absurd ho (hn f (List.mem_cons_self ..))
    | cons o os =>
      cases acc with
      | nil => cases h0
      | cons a as =>
        have eh : a = h := Option.some.inj h0
        subst eh
        have e1 : (ext1 (a :: as) f)[0]? = some (a ++ [o]) := by
          unfold ext1
          rw [List.flatMap_cons, ho]
          rfl
        obtain ⟨t, e2, _⟩ := vals_first r (ext1 (a :: as) f) (a ++ [o]) e1 (fun g hg => hn g (List.mem_cons_of_mem _ hg))
        refine ⟨o :: t, ?_, fun g r' e => ?_⟩
        · show (r.foldl ext1 (ext1 (a :: as) f))[0]? = _
          rw [e2, List.append_assoc]
          rfl
        · cases e
          rw [ho]
          rfl
theorem vals_zero {f : Fld} {r : List Fld} (hn : ∀ g ∈ f :: r, g.2 ≠ []) : ∃ v : List Str, (vals (f :: r))[0]? = some v ∧ v[0]? = f.2[0]? := by
  obtain ⟨t, e1, e2⟩ := vals_first (f :: r) [[]] [] rfl hn
  exact ⟨t, e1, e2 f r rfl⟩
theorem plus_steps {f : Fld} {r : List Fld} (nd : f.2.Nodup) : ∀ (m k : Nat) (v : List Str) (o : Str), v[0]? = some o → f.2[k]? = some o → (stepped (f :: r) (List.replicate m ((f.1, "+") : Stp)) v)[0]? = f.2[min (k + m) (f.2.length - 1)]?
  | 0, k, v, o, hv, hk => by
    have hl := (List.getElem?_eq_some_iff.mp hk).1
    show v[0]? = _
    rw [hv, Nat.add_zero, show min k (f.2.length - 1) = k by omega, hk]
  | m + 1, k, v, o, hv, hk => by
    have hl := (List.getElem?_eq_some_iff.mp hk).1
    have hp : posOf (f :: r) f.1 = 0 := by
      show ix (f.1 :: r.map (·.1)) f.1 = 0
      unfold ix
      rw [if_pos rfl]
    have ho : optsOf (f :: r) f.1 = f.2 := by
      unfold optsOf
      rw [hp]
      rfl
    have hlv : 0 < v.length := (List.getElem?_eq_some_iff.mp hv).1
    have hk2 : f.2[min (k + 1) (f.2.length - 1)]? = some (nextO f.2 o) := by
      have q := (next_mem (List.mem_of_getElem? hk)).1
      rw [ix_at nd hk] at q
      exact q
    have hv2 : (stepO (f :: r) v ((f.1, "+") : Stp))[0]? = some (nextO f.2 o) := by
      unfold stepO
      show (v.set (posOf (f :: r) f.1) _)[0]? = _
      rw [hp, List.getElem?_set_self hlv, if_pos rfl, ho, List.getD_eq_getElem?_getD, hv]
      rfl
    rw [List.replicate_succ]
    show (stepped (f :: r) (List.replicate m ((f.1, "+") : Stp)) (stepO (f :: r) v ((f.1, "+") : Stp)))[0]? = _
    rw [plus_steps nd m _ _ _ hv2 hk2]
    congr 1
    omega
def perm3 {α : Type} : List α → List α
  | [a, b, c] => [a, c, b]
  | _ => []
theorem perm3_rel {vs : List V} {us : List Value} (h : Vals vs us) : Vals (perm3 vs) (perm3 us) := by
  cases h with
  | nil => exact .nil
  | cons a h =>
    cases h with
    | nil => exact .nil
    | cons b h =>
      cases h with
      | nil => exact .nil
      | cons c h =>
        cases h with
        | nil => exact .cons a (.cons c (.cons b .nil))
        | cons d h => exact .nil
theorem Sh.strs (n : Nat) (zs : List Str) (h : zs.length ≤ 100000) : Sh (n + 1) (.tuple (zs.map PyData.str)) :=
  .tup (by rw [List.length_map]; exact h) fun d hd => by
    obtain ⟨z, _, rfl⟩ := List.mem_map.mp hd
    exact .str
end Bh

set_option Elab.async false
set_option linter.all false
set_option maxRecDepth 100000
set_option maxHeartbeats 1000000
namespace Bh
open PySem PySem.Spec PyProof.Rows L2
theorem wordsOf_nodup4 {z : Str} {k : Nat} {s : Int} {n : Nat} (h : k ≤ z.length) (hn : n ≤ 7) : (wordsOf z k s n).Nodup := by
  unfold wordsOf
  refine List.pairwise_map.mpr ((List.pairwise_lt_range (n := n)).imp_of_mem fun {a b} ha hb hab e => ?_)
  have h2 := List.mem_range.mp hb
  have q := wordK_inj h e
  omega
theorem tails_no4 : ∀ z ∈ tails, z.length ≠ 4 := by decide +kernel
theorem wordsOf_no {z : Str} (hz : z ∈ tails) {k : Nat} {s : Int} {n : Nat} (h : k ≤ z.length) : ∀ w ∈ wordsOf z k s n, w ≠ "other" := fun w hw e => by
  obtain ⟨i, _, rfl⟩ := List.mem_map.mp hw
  have l1 := wordK_length z k (97 + ((s + 5 * (i : Int)) % 26).toNat) h
  rw [e] at l1
  have l2 : ("other" : Str).length = 5 := by decide +kernel
  rw [l2] at l1
  exact tails_no4 z hz (by omega)
def spWords5 : Sp := fun vs H Q _ => ∃ (b l : Addr) (G : Hp) (n : Int), vs = [.ref b, .int n] ∧ 0 ≤ n ∧ n ≤ 7 ∧ Wd b l G H ∧
  ∀ (G' H' : Hp) (p : Addr) (ws : List Str), Same G G' → Wd b l G' H' → G' p = some (.lst (ws.map V.str)) → ws.length = n.toNat → ws.Nodup → (∀ w ∈ ws, IsNm w ∧ w ≠ "other") → Q (.ref p) H'
section
variable {P : Program} {w : World} {K : PySem.W.Frag} {mg : Str → Option Value} {base : Heap}
theorem ok_any (T : Top K mg) : FnOk P w K mg base CX0 2 T.a_l_any T.fd_l_any ["_law_bag_here", "_law_row"] (spAny K) := by
  have G_l_draw := ok_draw (P := P) (w := w) (base := base) T
  refine T.d_l_any.F.ok sc_l_any (fun vs H Q E h => ?_) (fun cdv A outer s H vs Q E hr h => ?_)
  · obtain ⟨b, l, a, G, xs, rfl, _⟩ := h
    rfl
  obtain ⟨b, l, a, G, xs, rfl, hS, ne, hl, wd, q⟩ := h
  refine ⟨_, (pss_one (ps_ret (pe_ix (ix_seq_K (K := K) (by rfl)) (pv 1) (pe_call G_l_draw (hr.mono (by decide)) (by rfl) T.d_l_draw.g T.d_l_draw.kp T.d_l_draw.b .nil pass0 (pa_cons (pv 0) (pa_cons (pe_callB (call_len_seq_K (K := K) (by rfl)) (by rfl) T.b_len PySem.boot_len (pa_cons (pv 1) pa_nil)) pa_nil))) (fun _ _ => rfl)))), ?_⟩
  have hp : 0 < xs.length := List.length_pos_iff.mpr ne
  refine ⟨_, rfl, _, rfl, _, rfl, a, xs, rfl, seq_mono wd.sm hS, b, l, G, _, rfl, by omega, by omega, wd, fun r H1 r0 r1 w1 => ?_⟩
  obtain ⟨v, e, hm⟩ := at_lt r0 r1
  exact rIx_go (seq_mono w1.sm hS) e (q v H1 hm w1)
theorem ok_mixed (T : Top K mg) : FnOk P w K mg base CX0 2 T.a_l_mixed T.fd_l_mixed ["_law_bag_here", "_law_row"] (spMixed K) := by
  have G_l_draw := ok_draw (P := P) (w := w) (base := base) T
  refine T.d_l_mixed.F.ok sc_l_mixed (fun vs H Q E h => ?_) (fun cdv A outer s H vs Q E hr h => ?_)
  · obtain ⟨b, l, a, G, xs, rfl, _⟩ := h
    rfl
  obtain ⟨b, l, a, G, xs, rfl, hS, hl, wd, q⟩ := h
  refine ⟨_, (pss_cons (ps_set (i := 2) sc_l_mixed.nd rfl (Or.inl rfl) (pe_lst pa_nil))
    (pss_cons (ps_for PassesOwn.never rfl (pi_list_K (K := K) (by rfl) (pv 1)) (pg_name (i := 3) sc_l_mixed.nd rfl (Or.inl rfl))
      (pss_one (ps_expr (pe_bm_K (K := K) (by rfl) PySem.F.plainAttrs_list PySem.F.slot_list_insert PySem.F.type_list_insert mt_insert (pv 2) (pa_cons (pe_call G_l_draw (hr.mono (by decide)) (by rfl) T.d_l_draw.g T.d_l_draw.kp T.d_l_draw.b .nil pass0 (pa_cons (pv 0) (pa_cons (pe_op op_add (pe_callB (call_len_seq_K (K := K) (by rfl)) (by rfl) T.b_len PySem.boot_len (pa_cons (pv 2) pa_nil)) pe_int) pa_nil))) (pa_cons (pv 3) pa_nil))))))
    (pss_one (ps_ret (pv 2))))), ?_⟩
  refine ⟨Nat.zero_le _, fun p np => ?_⟩
  have gp : G p = none := wd.free np
  refine ⟨_, rfl, a, rfl, ⟨_, (wd.sm.trans (same_new np)).seq hS⟩, for_it walk_list (fun i σ H' => ∃ v3 G' ys, σ = [some (.ref b), some (.ref a), some (.ref p), v3] ∧ Same G G' ∧ Wd b l G' H' ∧ G' p = some (.lst ys) ∧ ys.Perm (xs.take i))
    ⟨none, _, [], rfl, same_new gp, wd.new np, upd_same, .nil⟩ (fun i σ H' _ ⟨_, _, _, _, e, w', _⟩ => (e.trans w'.sm).seq hS) ?_ ?_⟩
  · rintro i x σ H' H'' hi ⟨v3, G', ys, rfl, sg, w1, hp, pm⟩ ⟨rfl, ex⟩
    have ly : ys.length = i := by
      rw [pm.length_eq, List.length_take]
      omega
    refine ⟨_, rfl, .inl ⟨rfl, _, SqL.of (w1.sm _ _ hp)⟩, _, rfl, _, rfl, p, ys, rfl, .inl (SqL.of (w1.sm _ _ hp)), _, _, rfl, rfl, b, l, G', _, rfl, by omega, by omega, w1, fun r H1 r0 r1 w2 => ?_⟩
    refine ⟨_, rfl, p, ys, r, x, rfl, rfl, w2.sm _ _ hp, lt_line (by omega), r0, by omega, ?_⟩
    refine ⟨_, _, ys.take r.toNat ++ [x] ++ ys.drop r.toNat, rfl, same_mut sg gp, w2.mut hp, upd_same, ?_⟩
    have e : xs.take (i + 1) = xs.take i ++ [x] := by rw [List.take_add_one, ex]; rfl
    rw [e]
    have k : (ys.take r.toNat ++ [x] ++ ys.drop r.toNat).Perm (ys.take r.toNat ++ ys.drop r.toNat ++ [x]) := by
      rw [List.append_assoc, List.append_assoc]
      exact List.Perm.append_left _ List.perm_append_comm
    rw [List.take_append_drop] at k
    exact k.trans (pm.append_right [x])
  · rintro σ H' ⟨v3, G', ys, rfl, sg, w1, hp, pm⟩
    rw [List.take_length] at pm
    exact ⟨_, rfl, q G' H' p ys sg w1 hp pm⟩
theorem ok_words (T : Top K mg) : FnOk P w K mg base CX0 3 T.a_l_words T.fd_l_words ["_law_bag_here", "_law_many"] spWords5 := by
  have G_l_draw := ok_draw (P := P) (w := w) (base := base) T
  have G_l_any := ok_any (P := P) (w := w) (base := base) T
  refine T.d_l_words.F.ok sc_l_words (fun vs H Q E h => ?_) (fun cdv A outer s H vs Q E hr h => ?_)
  · obtain ⟨b, l, G, n, rfl, _⟩ := h
    rfl
  obtain ⟨b, l, G, n, rfl, n0, n3, wd, q⟩ := h
  refine ⟨_, (pss_cons (ps_set (i := 2) sc_l_words.nd rfl (Or.inr rfl) (pe_call G_l_any (hr.mono (by decide)) (by rfl) T.d_l_any.g T.d_l_any.kp T.d_l_any.b .nil pass0 (pa_cons (pv 0) (pa_cons (pe_lst (pa_cons pe_str (pa_cons pe_str (pa_cons pe_str (pa_cons pe_str (pa_cons pe_str pa_nil)))))) pa_nil))))
    (pss_cons (ps_asg (pe_tup (pa_cons (pe_call G_l_draw (hr.mono (by decide)) (by rfl) T.d_l_draw.g T.d_l_draw.kp T.d_l_draw.b .nil pass0 (pa_cons (pv 0) (pa_cons (pe_op op_add (pe_callB call_len_str (by rfl) T.b_len PySem.boot_len (pa_cons (pv 2) pa_nil)) pe_int) pa_nil))) (pa_cons (pe_call G_l_draw (hr.mono (by decide)) (by rfl) T.d_l_draw.g T.d_l_draw.kp T.d_l_draw.b .nil pass0 (pa_cons (pv 0) (pa_cons pe_int pa_nil))) pa_nil))) (pg_tup_K (K := K) (by rfl) (n := 2) (by rfl) (pgs_cons (pg_name (i := 3) sc_l_words.nd rfl (Or.inr rfl)) (pgs_cons (pg_name (i := 4) sc_l_words.nd rfl (Or.inr rfl)) pgs_nil))))
    (pss_cons (ps_set (i := 5) sc_l_words.nd rfl (Or.inr rfl) pe_str)
    (pss_one (ps_ret (pe_lc (own := [("_law_k", 6)]) rfl sc_l_words.nd (pi_range1 rfl T.b_range (pa_cons (pv 1) pa_nil)) (blkOk_by (own := [("_law_k", 6)]) (N := ["_law_bag_here", "_law_many", "_law_tail", "_law_at", "_law_start", "_law_letters", "_law_k"]) (sc := defScope s_l_words) (by decide +kernel)) (fun _ _ _ _ _ => by exact (pg_name (i := 6) sc_l_words.nd rfl (Or.inl rfl))) (fun _ _ _ _ _ => by exact pts_nil) (fun _ _ _ _ _ => by exact (pe_op op_add_str (pe_op op_add_str (pe_slice sl_str (pv 2) po_none (po_some (pv 3))) (pe_ix ix_str (pv 5) (pe_op op_mod (pe_callTy call_int1 (by rfl) T.b_int (by decide +kernel) (pa_cons (pe_op op_add (pv 4) (pe_op op_mul pe_int (pv 6))) pa_nil)) pe_int) (fun _ _ => rfl))) (pe_slice sl_str (pv 2) (po_some (pv 3)) po_none))))))))), ?_⟩
  refine ⟨_, rfl, (by show 5 ≤ sizeLine; decide), fun p np => ?_⟩
  refine ⟨b, l, p, upd G p (.lst (tails.map V.str)), tails.map V.str, rfl, .inl (SqL.of upd_same), (fun z => by cases z), by decide, wd.new np, fun x H1 hx w1 => ?_⟩
  have s1 : Same G (upd G p (.lst (tails.map V.str))) := wd.sameG np
  obtain ⟨z, hz, rfl⟩ := List.mem_map.mp hx
  obtain ⟨z1, z2⟩ := tails_ok z hz
  refine ⟨_, rfl, _, rfl, z, rfl, le_line (by omega), _, _, rfl, rfl, b, l, _, _, rfl, by omega, by omega, w1, fun k H2 k0 k1 w2 => ?_⟩
  refine ⟨_, rfl, b, l, _, 26, rfl, by decide, by decide, w2, fun st H3 t0 t1 w3 => ?_⟩
  refine ⟨(by show 2 ≤ sizeLine; decide), fun t nt => ?_⟩
  have w4 := w3.new (o := .tup [.int k, .int st]) nt
  have s2 := s1.trans (w3.sameG (o := .tup [.int k, .int st]) nt)
  refine ⟨t, _, rfl, .inl (.inl upd_same), rfl, _, _, rfl, _, _, rfl, rfl, ?_⟩
  obtain ⟨kn, rfl⟩ : ∃ m : Nat, k = (m : Int) := ⟨k.toNat, by omega⟩
  have hk : kn ≤ z.length := by omega
  refine ⟨_, rfl, n, rfl, by omega, by omega, fun D nD => ?_⟩
  have gD := w4.free nD
  refine lc_it walk_range (fun i H' => ∃ G', Same G G' ∧ Wd b l G' H' ∧ G' D = some (.lst ((wordsOf z kn st i).map V.str))) ⟨_, s2.trans (w4.sameG nD), w4.new nD, upd_same⟩ (fun _ _ _ _ => True.intro) ?_ ?_
  · rintro i v H' H'' hi ⟨G', sg, w5, hD⟩ ⟨rfl, rfl⟩
    refine ⟨rfl, ?_⟩
    have a0 : (0 : Int) + (i : Int) = (i : Int) := by omega
    have ln1 : (cutS z none (some (kn : Int))).length ≤ z.length := cutS_length z _ _
    have ln2 : (cutS z (some (kn : Int)) none).length ≤ z.length := cutS_length z _ _
    have m0 := Int.emod_nonneg (st + 5 * ((0 : Int) + (i : Int))) (show (26 : Int) ≠ 0 by decide)
    have m1 := Int.emod_lt_of_pos (st + 5 * ((0 : Int) + (i : Int))) (show (0 : Int) < 26 by decide)
    refine ⟨_, rfl, _, rfl, _, rfl, z, rfl, le_line (by omega), _, rfl, _, rfl, _, rfl, _, _, rfl, rfl, .inl ⟨by decide, by decide⟩, _, _, rfl, rfl, .inl ⟨_, rfl, _, _, rfl, rfl, (show (0 : Int) < 26 by decide), letters, _, _, rfl, rfl, le_line (by decide +kernel), letters_at m0 m1, ?_⟩⟩
    refine ⟨_, _, rfl, rfl, ?_, _, rfl, _, rfl, _, rfl, z, rfl, le_line (by omega), _, _, rfl, rfl, ?_, _, w5.sm _ _ hD, ?_, ?_⟩
    · exact le_line (by show _ + 1 ≤ _; omega)
    · refine le_line ?_
      have e : (cutS z none (some (kn : Int)) ++ (⟨#[97 + ((st + 5 * ((0 : Int) + (i : Int))) % 26).toNat]⟩ : Str)).length = (cutS z none (some (kn : Int))).length + 1 := by
        show ((cutS z none (some (kn : Int))).cps ++ #[_]).size = _
        rw [Array.size_append]
        rfl
      rw [e]
      omega
    · rw [List.length_map, wordsOf_len]
      exact lt_line (by omega)
    · refine ⟨_, same_mut sg (s2.free gD), w5.mut hD, ?_⟩
      rw [upd_same]
      have e : wordsOf z kn st (i + 1) = wordsOf z kn st i ++ [wordK z kn (97 + ((st + 5 * (i : Int)) % 26).toNat)] := by
        unfold wordsOf
        rw [List.range_succ, List.map_append]
        rfl
      rw [e, List.map_append, a0]
      rfl
  · rintro H' ⟨G', sg, w5, hD⟩
    exact q G' H' D _ sg w5 hD wordsOf_len (wordsOf_nodup4 hk (by omega)) fun w hw => ⟨wordsOf_nm hz hk w hw, wordsOf_no hz hk w hw⟩
end
end Bh

set_option Elab.async false
set_option linter.all false
set_option maxRecDepth 100000
set_option maxHeartbeats 1000000
set_option autoImplicit false
namespace Bh
open PySem PySem.Spec PyProof.Rows L2
structure Good (ns : List Str) (cs : List Cl) (ts : List Ti) : Prop where
  c : CsOk cs
  t : TsOk cs ts
  m : ∀ c ∈ cs, c.1 ∈ ns
theorem good_cell {ns : List Str} {cs : List Cl} {ts : List Ti} {n k : Str} (g : Good ns cs ts) (hn : n ∈ ns) (nm : NmOk n) (kd : KdOk k) (nin : n ∉ cs.map (·.1)) (few : cs.length < 1000) : Good ns (cs ++ [(n, k)]) ts := by
  refine ⟨⟨?_, ?_, ?_⟩, ⟨g.t.nd, fun t ht => ?_, g.t.few⟩, ?_⟩
  · rw [List.map_append, List.nodup_append]
    refine ⟨g.c.nd, by simp, fun a ha b hb => ?_⟩
    have e : b = n := by simpa using hb
    rw [e]
    exact fun z => nin (z ▸ ha)
  · intro c hc
    rcases List.mem_append.mp hc with h | h
    · exact g.c.nm c h
    · have e : c = (n, k) := by simpa using h
      rw [e]
      exact ⟨nm, kd⟩
  · rw [List.length_append]; exact few
  · obtain ⟨a, b, d⟩ := g.t.nm t ht
    rw [List.map_append]
    exact ⟨a, List.mem_append_left _ b, List.mem_append_left _ d⟩
  · intro c hc
    rcases List.mem_append.mp hc with h | h
    · exact g.m c h
    · have e : c = (n, k) := by simpa using h
      rw [e]
      exact hn
theorem good_tie {ns : List Str} {cs : List Cl} {ts : List Ti} {t : Ti} (g : Good ns cs ts) (nm : NmOk t.1) (m1 : t.2.1 ∈ cs.map (·.1)) (m2 : t.2.2 ∈ cs.map (·.1)) (nin : t ∉ ts) (few : ts.length < 1000) : Good ns cs (ts ++ [t]) := by
  refine ⟨g.c, ⟨?_, fun u hu => ?_, ?_⟩, g.m⟩
  · rw [List.nodup_append]
    refine ⟨g.t.nd, by simp, fun a ha b hb => ?_⟩
    have e : b = t := by simpa using hb
    rw [e]
    exact fun z => nin (z ▸ ha)
  · rcases List.mem_append.mp hu with h | h
    · exact g.t.nm u h
    · have e : u = t := by simpa using h
      rw [e]
      exact ⟨nm, m1, m2⟩
  · rw [List.length_append]; exact few
theorem good_cut {ns : List Str} {cs : List Cl} {ts : List Ti} (p : Ti → Bool) (g : Good ns cs ts) : Good ns cs (ts.filter p) :=
  ⟨g.c, ⟨g.t.nd.sublist List.filter_sublist, fun u hu => g.t.nm u (List.mem_filter.mp hu).1, Nat.le_trans (List.length_filter_le _ _) g.t.few⟩, g.m⟩
/-- what stays of a known world behind a change of the network -/
theorem wd_net {b l x dc dt : Addr} {G H H' : Hp} {C dt' : Addr} {cs cs' : List Cl} {ts ts' : List Ti} (w : Wd b l G H) (na : NetA G C x dc dt cs ts) (hd : dt' = dt ∨ H dt' = none) (s : Same (h3 x dc dt H) H') (na' : NetA H' C x dc dt' cs' ts') :
    ∃ G', Wd b l G' H' ∧ NetA G' C x dc dt' cs' ts' ∧ Same (h3 x dc dt G) G' ∧ ∀ a o, G' a = some o → G a = none → a = dt' := by
  obtain ⟨dx, h0, h1, h2⟩ := na'
  obtain ⟨dy, g0, g1, g2⟩ := na
  have bx : b ≠ x := fun z => by rw [← z, w.nb] at g0; cases g0
  have bc : b ≠ dc := fun z => by rw [← z, w.nb] at g1; cases g1
  have bt : b ≠ dt := fun z => by rw [← z, w.nb] at g2; cases g2
  have lx : l ≠ x := fun z => by rw [← z, w.nl] at g0; cases g0
  have lc : l ≠ dc := fun z => by rw [← z, w.nl] at g1; cases g1
  have lt : l ≠ dt := fun z => by rw [← z, w.nl] at g2; cases g2
  have bd : b ≠ dt' := fun z => by
    rcases hd with e | e
    · exact bt (z.trans e)
    · exact absurd e (by rw [← z]; obtain ⟨o, k⟩ := w.bag.b_some; rw [k]; exact fun y => nomatch y)
  have ld : l ≠ dt' := fun z => by
    rcases hd with e | e
    · exact lt (z.trans e)
    · exact absurd e (by rw [← z]; obtain ⟨o, k⟩ := w.bag.l_some; rw [k]; exact fun y => nomatch y)
  let G' : Hp := fun a => if a = x ∨ a = dc ∨ a = dt ∨ a = dt' then H' a else G a
  have gx : ∀ a, (a = x ∨ a = dc ∨ a = dt ∨ a = dt') → G' a = H' a := fun a h => if_pos h
  have gn : ∀ a, ¬ (a = x ∨ a = dc ∨ a = dt ∨ a = dt') → G' a = G a := fun a h => if_neg h
  have nb : G' b = none := (gn b (by rintro (z | z | z | z); exact bx z; exact bc z; exact bt z; exact bd z)).trans w.nb
  have nl : G' l = none := (gn l (by rintro (z | z | z | z); exact lx z; exact lc z; exact lt z; exact ld z)).trans w.nl
  have sm : Same G' H' := fun a o e => by
    by_cases h : a = x ∨ a = dc ∨ a = dt ∨ a = dt'
    · rw [gx a h] at e
      exact e
    · rw [gn a h] at e
      refine s a o ?_
      rw [h3_ne (fun z => h (.inl z)) (fun z => h (.inr (.inl z))) (fun z => h (.inr (.inr (.inl z))))]
      exact w.sm _ _ e
  have bag : BagAt b l H' := by
    obtain ⟨ns, i, c, z, k1, k2, k3⟩ := w.bag
    refine ⟨ns, i, c, z, s _ _ ?_, s _ _ ?_, k3⟩
    · rw [h3_ne bx bc bt]; exact k1
    · rw [h3_ne lx lc lt]; exact k2
  refine ⟨G', ⟨nb, nl, sm, bag⟩, ⟨dx, (gx x (.inl rfl)).trans h0, (gx dc (.inr (.inl rfl))).trans h1, (gx dt' (.inr (.inr (.inr rfl)))).trans h2⟩, fun a o e => ?_, fun a o e n => ?_⟩
  · obtain ⟨n1, n2, n3, k⟩ := h3_some e
    by_cases z : a = dt'
    · rcases hd with y | y
      · exact absurd (z.trans y) n3
      · rw [z] at k
        rw [w.sm _ _ k] at y
        cases y
    · rw [gn a (by rintro (q | q | q | q); exact n1 q; exact n2 q; exact n3 q; exact z q)]
      exact k
  · by_cases h : a = x ∨ a = dc ∨ a = dt ∨ a = dt'
    · rcases h with h | h | h | h
      · rw [h, g0] at n; cases n
      · rw [h, g1] at n; cases n
      · rw [h, g2] at n; cases n
      · exact h
    · rw [gn a h, n] at e
      cases e
theorem eqv_str (a b : Str) : PyData.eqv (.str a) (.str b) = decide (a = b) := by
  show (a == b) = decide (a = b)
  by_cases h : a = b
  · rw [h]; simp
  · rw [decide_eq_false h]; exact beq_eq_false_iff_ne.mpr h
theorem eqv_ti (a b : Ti) : PyData.eqv (dTi a) (dTi b) = decide (a = b) := by
  obtain ⟨a1, a2, a3⟩ := a
  obtain ⟨b1, b2, b3⟩ := b
  show (PyData.eqv (.str a1) (.str b1) && (PyData.eqv (.str a2) (.str b2) && (PyData.eqv (.str a3) (.str b3) && true))) = _
  rw [eqv_str, eqv_str, eqv_str, Bool.and_true]
  by_cases h1 : a1 = b1
  · by_cases h2 : a2 = b2
    · by_cases h3 : a3 = b3
      · rw [h1, h2, h3]; simp
      · simp [h3]
    · simp [h2]
  · simp [h1]
theorem eqv_nil (ds : List PyData) : PyData.eqv (.list ds) (.list []) = decide (ds = []) := by
  cases ds with
  | nil => rfl
  | cons a r => rfl
theorem any_ti (t : Ti) : ∀ ts : List Ti, ((ts.map dTi).any fun z => PyData.eqv z (dTi t)) = decide (t ∈ ts)
  | [] => rfl
  | u :: ts => by
    rw [List.map_cons, List.any_cons, any_ti t ts, eqv_ti]
    by_cases h : u = t
    · subst h
      rw [decide_eq_true rfl, Bool.true_or, decide_eq_true List.mem_cons_self]
    · rw [decide_eq_false h, Bool.false_or]
      by_cases m : t ∈ ts
      · rw [decide_eq_true m, decide_eq_true (List.mem_cons_of_mem _ m)]
      · rw [decide_eq_false m, decide_eq_false (fun z => (List.mem_cons.mp z).elim (fun e => h e.symm) m)]
theorem IsNm.ok {z : Str} (h : IsNm z) : NmOk z := ⟨h.word, by
  have k := h.word
  unfold wordB at k
  rw [Bool.and_eq_true] at k
  have := of_decide_eq_true k.1
  omega⟩
theorem strOk_nm {o : Str} (h : NmOk o) : PySem.PyData.strOk o = true := by
  unfold PySem.PyData.strOk
  rw [Array.all_eq_true_iff_forall_mem]
  intro c hc
  have k := h.1
  unfold wordB at k
  have k2 := List.all_eq_true.mp (Bool.and_eq_true_iff.mp k).2 c (by simpa [TL.tl] using hc)
  have k3 : ∀ z ∈ TL.tl letters, z < 0x110000 := by decide +kernel
  exact decide_eq_true (k3 c (of_decide_eq_true k2))
theorem lay_ti {t : Ti} (h1 : NmOk t.1) (h2 : NmOk t.2.1) (h3 : NmOk t.2.2) : (dTi t).canLay0 = true := by
  show (PySem.PyData.strOk t.1 && (PySem.PyData.strOk t.2.1 && (PySem.PyData.strOk t.2.2 && true))) = true
  rw [strOk_nm h1, strOk_nm h2, strOk_nm h3]
  rfl
theorem shaped_ti {t : Ti} (h1 : NmOk t.1) (h2 : NmOk t.2.1) (h3 : NmOk t.2.2) : SeqAt.shaped (dTi t) = true := by
  unfold SeqAt.shaped
  rw [lay_ti h1 h2 h3, Bool.true_and]
  rfl
theorem lay_tis : ∀ {ts : List Ti}, (∀ t ∈ ts, NmOk t.1 ∧ NmOk t.2.1 ∧ NmOk t.2.2) → PyData.canLayAll0 (ts.map dTi) = true
  | [], _ => rfl
  | t :: ts, h => by
    obtain ⟨a, b, c⟩ := h t List.mem_cons_self
    show ((dTi t).canLay0 && PyData.canLayAll0 (ts.map dTi)) = true
    rw [lay_ti a b c, lay_tis fun m hm => h m (List.mem_cons_of_mem _ hm)]
    rfl
theorem shaped_tis {ts : List Ti} (h : ∀ t ∈ ts, NmOk t.1 ∧ NmOk t.2.1 ∧ NmOk t.2.2) : SeqAt.shaped (.list (ts.map dTi)) = true := by
  unfold SeqAt.shaped
  rw [Bool.and_eq_true, decide_eq_true_iff]
  refine ⟨lay_tis h, ?_⟩
  exact Nat.le_trans (Nat.succ_le_succ (depth_all (n := 1) fun d hd => by
    obtain ⟨u, _, rfl⟩ := List.mem_map.mp hd
    exact Nat.le_refl 1)) (by decide)
theorem name_ok {cs : List Cl} (h : CsOk cs) {z : Str} (hz : z ∈ cs.map (·.1)) : NmOk z := by
  obtain ⟨c, hc, rfl⟩ := List.mem_map.mp hz
  exact (h.nm c hc).1
end Bh

set_option Elab.async false
set_option linter.all false
set_option maxRecDepth 100000
set_option maxHeartbeats 1000000
set_option autoImplicit false
namespace Bh
open PySem PySem.Spec PyProof.Rows L2
theorem net_made {K : PySem.W.Frag} {C : Addr} {Q : Hp → Prop} {E : XK} {H : Hp} {x dx : Addr} {v1 v2 : V} {cs : List Cl} {ts : List Ti} (nx : H x = none) (nd : H dx = none) (ne : dx ≠ x) (d1 : DpS K H v1 (cs.map dCell)) (d2 : DpS K H v2 (ts.map dTi)) (okc : CsOk cs) (okt : TsOk cs ts)
    (q : ∀ (H' : Hp) (dc dt : Addr), Same H H' → H dc = none → H dt = none → NetA H' C x dc dt cs ts → Q H') : spNetInit K C [.ref x, v1, v2] (upd (upd H dx (.own x)) x (.ins C dx [])) (fun v H3 => v = .non ∧ Q H3) E := by
  have s1 : Same H (hid x (upd (upd H dx (.own x)) x (.ins C dx []))) := by
    rw [hid_upd]
    exact hid_of (same_new nd) nx
  have non : ∀ {a : Addr}, upd (upd H dx (.own x)) x (.ins C dx []) a = none → H a = none := fun {a} e => by
    cases k : H a with
    | none => rfl
    | some o =>
      have := hid_le _ _ (s1 _ _ k)
      rw [e] at this
      cases this
  exact ⟨x, dx, v1, v2, cs, ts, rfl, upd_same, d1.mono s1, d2.mono s1, okc, okt, fun H' dc dt n1 n2 s na => ⟨rfl, q H' dc dt (s1.trans s) (non n1) (non n2) na⟩⟩
theorem wd_made {b l x dc dt C : Addr} {G H H' : Hp} {cs : List Cl} {ts : List Ti} (w : Wd b l G H) (s : Same H H') (na : NetA H' C x dc dt cs ts) (nx : H x = none) (n1 : H dc = none) (n2 : H dt = none) : ∃ G', Wd b l G' H' ∧ Same G G' ∧ NetA G' C x dc dt cs ts := by
  obtain ⟨dx, h0, h1, h2⟩ := na
  let G' : Hp := fun a => if a = x ∨ a = dc ∨ a = dt then H' a else G a
  have gx : ∀ a, (a = x ∨ a = dc ∨ a = dt) → G' a = H' a := fun a h => if_pos h
  have gn : ∀ a, ¬ (a = x ∨ a = dc ∨ a = dt) → G' a = G a := fun a h => if_neg h
  have sg : Same G G' := fun a o e => by
    by_cases h : a = x ∨ a = dc ∨ a = dt
    · have k := w.sm _ _ e
      rcases h with h | h | h
      · rw [h, nx] at k; cases k
      · rw [h, n1] at k; cases k
      · rw [h, n2] at k; cases k
    · rw [gn a h]; exact e
  refine ⟨G', w.grow s (fun a o e => ?_) (fun a o e n => ?_), sg, dx, (gx x (.inl rfl)).trans h0, (gx dc (.inr (.inl rfl))).trans h1, (gx dt (.inr (.inr rfl))).trans h2⟩
  · by_cases h : a = x ∨ a = dc ∨ a = dt
    · rw [gx a h] at e; exact e
    · rw [gn a h] at e; exact s _ _ (w.sm _ _ e)
  · by_cases h : a = x ∨ a = dc ∨ a = dt
    · rcases h with h | h | h
      · rw [h]; exact nx
      · rw [h]; exact n1
      · rw [h]; exact n2
    · rw [gn a h, n] at e
      cases e
theorem NetA.lst {H : Hp} {C x dc dt p : Addr} {cs : List Cl} {ts : List Ti} {ys : List V} {o : HO} (h : NetA H C x dc dt cs ts) (hp : H p = some (.lst ys)) : NetA (upd H p o) C x dc dt cs ts := by
  obtain ⟨dx, h0, h1, h2⟩ := h
  exact ⟨dx, by rw [upd_ne (fun z => by rw [z, hp] at h0; cases h0)]; exact h0, by rw [upd_ne (fun z => by rw [z, hp] at h1; cases h1)]; exact h1, by rw [upd_ne (fun z => by rw [z, hp] at h2; cases h2)]; exact h2⟩
theorem items_dp {K : PySem.W.Frag} {H : Hp} : ∀ {cs : List Cl} {as : List Addr}, Paired (fun (t : Addr) (q : L2.Key × V) => H t = some (.tup [kV q.1, q.2])) as (cs.map eC) → DpAll K H (as.map V.ref) (cs.map dCell)
  | [], _, h => by
    cases h
    exact .nil
  | c :: cs, _, h => by
    rw [List.map_cons] at h
    cases h with
    | cons a r => exact .cons (.tup (.inl (.inl a)) (strs_dp [c.1, c.2])) (items_dp r)
theorem item_at {cs : List Cl} {i : Nat} {a b : V} (ea : (fun i => Option.map (fun kv : L2.Key × V => kV kv.1) (cs.map eC)[i]?) i = some a) (eb : (fun i => Option.map Prod.snd (cs.map eC)[i]?) i = some b) : ∃ c, cs[i]? = some c ∧ a = .str c.1 ∧ b = .str c.2 := by
  cases e : cs[i]? with
  | none =>
    have z : Option.map (fun kv : L2.Key × V => kV kv.1) (cs.map eC)[i]? = some a := ea
    rw [List.getElem?_map, e] at z
    cases z
  | some c =>
    have z1 : Option.map (fun kv : L2.Key × V => kV kv.1) (cs.map eC)[i]? = some a := ea
    have z2 : Option.map Prod.snd (cs.map eC)[i]? = some b := eb
    rw [List.getElem?_map, e] at z1 z2
    exact ⟨c, rfl, (Option.some.inj z1).symm, (Option.some.inj z2).symm⟩
theorem NetA.off {H : Hp} {C x dc dt d : Addr} {o : HO} {cs : List Cl} {ts : List Ti} (h : NetA H C x dc dt cs ts) (n1 : x ≠ d) (n2 : dc ≠ d) (n3 : dt ≠ d) : NetA (upd H d o) C x dc dt cs ts := by
  obtain ⟨dx, h0, h1, h2⟩ := h
  exact ⟨dx, by rw [upd_ne n1]; exact h0, by rw [upd_ne n2]; exact h1, by rw [upd_ne n3]; exact h2⟩
/-- a new network of these parts -/
def NetNew (H : Hp) (C : Addr) (cs : List Cl) (ts : List Ti) (Q : V → Hp → Prop) : Prop := ∀ (H' : Hp) (y ec et : Addr), H y = none → H ec = none → H et = none → Same H H' → NetA H' C y ec et cs ts → Q (.ref y) H'
def spClone (C : Addr) : Sp := fun vs H Q _ => ∃ (x dc dt : Addr) (cs : List Cl) (ts : List Ti), vs = [.ref x] ∧ NetA H C x dc dt cs ts ∧ CsOk cs ∧ TsOk cs ts ∧ NetNew H C cs ts Q
def spPart (C : Addr) : Sp := fun vs H Q _ => ∃ (x dc dt y ec et : Addr) (cs ds : List Cl) (ts us : List Ti), vs = [.ref x, .ref y] ∧ NetA H C x dc dt cs ts ∧ NetA H C y ec et ds us ∧ x ≠ y ∧ dc ≠ ec ∧ dt ≠ et ∧ cs.length ≤ 1000 ∧ ts.length ≤ 1000 ∧ ∀ H', Same H H' → Q (.bl (partNet cs ds ts us)) H'
section
variable {P : Program} {w : World} {K : PySem.W.Frag} {mg : Str → Option Value} {base : Heap} {R : NtC K mg}
theorem ok_mclone (T : Top K mg) (M : NtM K mg R) : FnOk P w K mg base CX0 8 M.clone.f M.clone.fd ["self"] (spClone R.C) := by
  have G_Network := ok_mnetinit (P := P) (w := w) (base := base) T M
  have G_m_ties := ok_mties (P := P) (w := w) (base := base) T M
  refine M.clone.F.ok sc_Network_clone (fun vs H Q E h => ?_) (fun cdv A outer s H vs Q E hr h => ?_)
  · obtain ⟨x, dc, dt, cs, ts, rfl, _⟩ := h
    rfl
  obtain ⟨x, dc, dt, cs, ts, rfl, na, okc, okt, q⟩ := h
  obtain ⟨dx, h0, h1, h2⟩ := id na
  refine ⟨_, (pss_one (ps_ret (pe_makeK0 M.mkr G_Network (hr.mono (by decide)) (by rfl) R.g (kb_cells_ties M) pass0 (pk_cons (LiI.pe_listItems rfl (pe_fld (pv 0) (by rfl)) (by rfl) T.b_list (by decide +kernel)) (pk_cons (pe_meth0 (pv 0) R.cl M.ties.M G_m_ties (hr.mono (by decide)) M.ties.b .nil pass0) pk_nil))))), ?_⟩
  refine ⟨_, rfl, x, R.C, dx, _, .ref dc, rfl, h0, R.cl, R.n1, rfl, dc, _, rfl, h1, fun H1 p as s1 np nas nin hp pr => ?_⟩
  have na1 := na.mono s1
  refine ⟨_, rfl, x, dx, _, rfl, s1 _ _ h0, rfl, x, dc, dt, cs, ts, rfl, na1, fun pt H2 ys npt s2 hpt dpt => ?_⟩
  have s12 : Same H H2 := fun b o e => s2 _ _ (s1 b o e)
  refine ⟨rfl, rfl, fun y dy ny nd ne => ?_⟩
  refine net_made ny nd ne ⟨p, _, rfl, .inl (SqL.of (s2 _ _ hp)), DpAll.mono s2 (items_dp pr)⟩ ⟨pt, _, rfl, .inl (SqL.of hpt), tia_dp dpt⟩ okc okt fun H3 ec et s3 nec net na3 => ?_
  exact q H3 y ec et (Same.free s12 ny) (Same.free s12 nec) (Same.free s12 net) (s12.trans s3) na3
theorem ok_mpart (T : Top K mg) (M : NtM K mg R) : FnOk P w K mg base CX0 5 M.part.f M.part.fd ["self", "other"] (spPart R.C) := by
  have G_m_contains := ok_mcontains (P := P) (w := w) (base := base) T M
  have G_m_getitem := ok_mgetitem (P := P) (w := w) (base := base) T M
  refine M.part.F.ok sc_Network_is_part_of (fun vs H Q E h => ?_) (fun cdv A outer s H vs Q E hr h => ?_)
  · obtain ⟨x, dc, dt, y, ec, et, cs, ds, ts, us, rfl, _⟩ := h
    rfl
  obtain ⟨x, dc, dt, y, ec, et, cs, ds, ts, us, rfl, na, nb, nxy, nde, nte, l1, l2, q⟩ := h
  obtain ⟨dx, h0, h1, h2⟩ := id na
  obtain ⟨dy, g0, g1, g2⟩ := id nb
  refine ⟨_, (pss_one (ps_ret (pe_and (pe_callB (cr_all_K (K := K) (by rfl) rfl) (by rfl) T.b_all (by decide +kernel) (pa_cons (pe_lock (pe_lc (own := [("name", 2), ("kind", 3)]) rfl sc_Network_is_part_of.nd (pi_items (pe_fld (pv 0) (by rfl))) (blkOk_by (own := [("name", 2), ("kind", 3)]) (N := ["self", "other", "name", "kind", "tie"]) (sc := defScope s_Network_is_part_of) (by decide +kernel)) (fun _ _ _ _ _ => by exact (pg_tup_K (K := K) (by rfl) (n := 2) (by rfl) (pgs_cons (pg_name (i := 2) sc_Network_is_part_of.nd rfl (Or.inl rfl)) (pgs_cons (pg_name (i := 3) sc_Network_is_part_of.nd rfl (Or.inl rfl)) pgs_nil)))) (fun _ _ _ _ _ => by exact pts_nil) (fun _ _ _ _ _ => by exact (pe_and (pe_cmpR (op_inIns G_m_contains M.contains.M.at_ M.contains.M.fn M.contains.b pass0 (hr.mono (by decide))) (pv 2) (pv 1) (by rfl)) (pe_one (pe_cmpR op_eq (ix_ins G_m_getitem M.getitem.M.at_ M.getitem.M.fn M.gi M.getitem.b pass0 (hr.mono (by decide)) (pv 1) (pv 2) (fun _ _ => by with_unfolding_all rfl)) (pv 3) (nomark _))))))) pa_nil)) (pe_one (pe_callB (cr_all_K (K := K) (by rfl) rfl) (by rfl) T.b_all (by decide +kernel) (pa_cons (pe_lock (pe_lc (own := [("tie", 4)]) rfl sc_Network_is_part_of.nd (pi_keys (pe_fld (pv 0) (by rfl))) (blkOk_by (own := [("tie", 4)]) (N := ["self", "other", "name", "kind", "tie"]) (sc := defScope s_Network_is_part_of) (by decide +kernel)) (fun _ _ _ _ _ => by exact (pg_name (i := 4) sc_Network_is_part_of.nd rfl (Or.inl rfl))) (fun _ _ _ _ _ => by exact pts_nil) (fun _ _ _ _ _ => by exact (pe_cmpR (op_inD (by exact (u1 hr))) (pv 4) (pe_fld_K (K := K) (by rfl) (pv 1) (by rfl)) (by rfl))))) pa_nil)))))), ?_⟩
  refine ⟨dc, _, h1, True.intro, fun od => ?_⟩
  have nx : x ≠ dc := Ne.symm na.ne.1
  have ny : y ≠ dc := fun z => by rw [z, h1] at g0; cases g0
  have net : et ≠ dc := fun z => by rw [z, h1] at g2; cases g2
  have nbL : NetA (upd H dc (.frz od (.dK (cs.map eC)))) R.C y ec et ds us := nb.off ny (Ne.symm nde) net
  refine ⟨_, rfl, x, R.C, dx, _, .ref dc, rfl, by rw [upd_ne nx]; exact h0, R.cl, R.n1, rfl, dc, od, _, rfl, upd_same, fun D nD => ?_⟩
  refine lc_it walk_items (fun i H' => Same (upd H dc (.frz od (.dK (cs.map eC)))) H' ∧ H' D = some (.lst (((cs.take i).map fun c => decide (kindAt ds c.1 = some c.2)).map V.bl))) ⟨same_new nD, upd_same⟩ ?_ ?_ ?_
  · rintro i H' _ ⟨s1, _⟩
    exact s1 _ _ upd_same
  · rintro i z H' H'' hi ⟨s1, hD⟩ ⟨T, a, b, rfl, nT, rfl, ea, eb⟩
    obtain ⟨c, ec2, rfl, rfl⟩ := item_at ea eb
    have sT : Same H' (upd H' T (.tup [.str c.1, .str c.2])) := same_new nT
    have hDT := sT _ _ hD
    have nb2 := nbL.mono (s1.trans sT)
    obtain ⟨dy2, k0, _, _⟩ := id nb2
    refine ⟨T, _, rfl, SqT.of upd_same, rfl, _, _, rfl, _, _, rfl, rfl, rfl, ?_⟩
    have fin : ∀ b : Bool, b = decide (kindAt ds c.1 = some c.2) → ∃ acc, upd H' T (.tup [.str c.1, .str c.2]) D = some (.lst acc) ∧ acc.length < sizeLine ∧ Same (upd H dc (.frz od (.dK (cs.map eC)))) (upd (upd H' T (.tup [.str c.1, .str c.2])) D (.lst (acc ++ [.bl b]))) ∧ upd (upd H' T (.tup [.str c.1, .str c.2])) D (.lst (acc ++ [.bl b])) D = some (.lst (((cs.take (i + 1)).map fun c => decide (kindAt ds c.1 = some c.2)).map V.bl)) := fun b eb => by
      refine ⟨_, hDT, ?_, same_mut (s1.trans sT) nD, ?_⟩
      · rw [List.length_map, List.length_map, List.length_take]
        exact lt_line (by omega)
      · rw [upd_same, take_next ec2, List.map_append, List.map_append, eb]
        rfl
    refine ⟨_, rfl, _, rfl, y, dy2, _, rfl, k0, y, ec, et, ds, us, .str c.1, _, rfl, nb2, .inl ⟨c.1, rfl, rfl⟩, _, rfl, _, rfl, ?_⟩
    rw [Bool.bne_false]
    refine iteB (fun c1 => ?_) (fun c1 => ?_)
    · obtain ⟨k, hk, _⟩ := kindAt_some (of_decide_eq_true c1)
      refine ⟨_, rfl, _, rfl, y, dy2, _, rfl, k0, y, ec, et, ds, us, c.1, k, rfl, nb2, hk, _, rfl, rfl, ?_⟩
      refine fin _ ?_
      rw [hk, str_dec]
      by_cases z : k = c.2
      · rw [z]; simp
      · rw [decide_eq_false z, decide_eq_false (fun w => z (Option.some.inj w))]
    · refine fin _ ?_
      rw [kindAt_none (of_decide_eq_false c1)]
      rfl
  · rintro H' ⟨s1, hD⟩
    rw [List.length_map, List.take_length] at hD
    refine ⟨s1 _ _ upd_same, ?_⟩
    have s2 := thaw (D := D) h1 s1
    have nDc : D ≠ dc := fun z => by rw [z, upd_same] at nD; cases nD
    have hD2 : upd H' dc (.dK (cs.map eC)) D = some (.lst ((cs.map fun c => decide (kindAt ds c.1 = some c.2)).map V.bl)) := by rw [upd_ne nDc]; exact hD
    generalize upd H' dc (.dK (cs.map eC)) = H2 at s2 hD2 ⊢
    refine ⟨D, _, rfl, SqL.of hD2, _, rfl, ?_⟩
    have eall : ((cs.map fun c => decide (kindAt ds c.1 = some c.2)).all id) = cs.all fun c => decide (kindAt ds c.1 = some c.2) := by
      rw [List.all_map]
      rfl
    rw [eall]
    unfold partNet at q
    refine iteB (fun c1 => ?_) (fun c1 => ?_)
    · rw [c1, Bool.true_and] at q
      have na2 := na.mono s2
      have nb2 := nb.mono s2
      obtain ⟨dx2, k0, k1, k2⟩ := id na2
      obtain ⟨dy2, m0, m1, m2⟩ := id nb2
      refine ⟨dt, _, k2, True.intro, fun od2 => ?_⟩
      have nx2 : x ≠ dt := Ne.symm na2.ne.2.1
      have ny2 : y ≠ dt := fun z => by rw [z, k2] at m0; cases m0
      have nec : ec ≠ dt := fun z => by rw [z, k2] at m1; cases m1
      have nbL2 : NetA (upd H2 dt (.frz od2 (.dT (ts.map eT)))) R.C y ec et ds us := nb2.off ny2 nec (Ne.symm nte)
      refine ⟨_, rfl, x, R.C, dx2, _, .ref dt, rfl, by rw [upd_ne nx2]; exact k0, R.cl, R.n2, rfl, dt, od2, rfl, .inr ⟨_, upd_same, fun D2 nD2 => ?_⟩⟩
      refine lc_it walk_keysT (fun i H' => Same (upd H2 dt (.frz od2 (.dT (ts.map eT)))) H' ∧ H' D2 = some (.lst (((ts.take i).map fun t => decide (t ∈ us)).map V.bl))) ⟨same_new nD2, upd_same⟩ ?_ ?_ ?_
      · rintro i H' _ ⟨s1, _⟩
        exact s1 _ _ upd_same
      · rintro i z H' H'' hi ⟨s3, hD3⟩ ⟨rfl, k, v, b, e, rfl, hb⟩
        obtain ⟨⟨t1, t2, t3⟩, et2, rfl⟩ := tie_at e
        have hb : H'' b = some (.tup [.str t1, .str t2, .str t3]) := hb
        rw [List.length_map] at hi
        obtain ⟨dy3, j0, j1, j2⟩ := id (nbL2.mono s3)
        refine ⟨rfl, _, rfl, _, rfl, y, R.C, dy3, _, .ref et, rfl, j0, R.cl, R.n2, rfl, inTies (t := (t1, t2, t3)) j2 hb ⟨_, hD3, ?_, same_mut s3 nD2, ?_⟩⟩
        · rw [List.length_map, List.length_map, List.length_take]
          exact lt_line (by omega)
        · rw [upd_same, take_next et2, List.map_append, List.map_append, Bool.bne_false]
          rfl
      · rintro H' ⟨s3, hD3⟩
        rw [List.length_map, List.take_length] at hD3
        refine ⟨s3 _ _ upd_same, ?_⟩
        have s4 := thaw (D := D2) k2 s3
        have nDt : D2 ≠ dt := fun z => by rw [z, upd_same] at nD2; cases nD2
        refine ⟨D2, _, rfl, SqL.of (by rw [upd_ne nDt]; exact hD3), ?_⟩
        have eall2 : ((ts.map fun t => decide (t ∈ us)).all id) = ts.all fun t => decide (t ∈ us) := by
          rw [List.all_map]
          rfl
        rw [eall2]
        exact q _ (s2.trans s4)
    · rw [c1, Bool.false_and] at q
      exact q _ s2
end
end Bh

set_option Elab.async false
set_option linter.all false
set_option maxRecDepth 100000
set_option maxHeartbeats 1000000
set_option autoImplicit false
namespace Bh
open PySem PySem.Spec PyProof.Rows L2
/-- a cell that is of another kind there -/
def clashC (ds : List Cl) (c : Cl) : Bool := match kindAt ds c.1 with
  | some k => decide (k ≠ c.2)
  | none => false
/-- no cell is, or the first one that is -/
def ClashWay (H : Hp) (CE : Addr) (cs ds : List Cl) (Q : Hp → Prop) (E : XK) : Prop := ((∀ c ∈ cs, clashC ds c = false) ∧ Q H) ∨ ∃ (i : Nat) (c : Cl), cs[i]? = some c ∧ clashC ds c = true ∧ (∀ (j : Nat) (d : Cl), j < i → cs[j]? = some d → clashC ds d = false) ∧
  ∀ (dd : Addr) (H2 : Hp), H dd = none → Same H H2 → H2 dd = some (.xd [("code", .str "KindsDiffer"), ("name", .str c.1)]) → E (.ref CE) (some dd) H2
def spChkKinds (C CE : Addr) : Sp := fun vs H Q E => ∃ (x dc dt y ec et : Addr) (cs ds : List Cl) (ts us : List Ti), vs = [.ref x, .ref y] ∧ NetA H C x dc dt cs ts ∧ NetA H C y ec et ds us ∧ dc ≠ ec ∧ ClashWay H CE cs ds (fun H0 => ∀ H', Same H0 H' → Q .non H') E
section
variable {P : Program} {w : World} {K : PySem.W.Frag} {mg : Str → Option Value} {base : Heap} {R : NtC K mg}
theorem ok_mchkkinds (T : Top K mg) (M : NtM K mg R) : FnOk P w K mg base (L2.CX P w) 6 M.check_kinds.f M.check_kinds.fd ["self", "other"] (spChkKinds R.C T.r_KindsDiffer.c) := by
  have G_m_contains := ok_mcontains (P := P) (w := w) (base := base) T M
  have G_m_getitem := ok_mgetitem (P := P) (w := w) (base := base) T M
  have G_in_KindsDiffer := in_KindsDiffer (P := P) (w := w) (base := base) T 2
  refine M.check_kinds.F.okX sc_Network_check_kinds (fun vs H Q E h => ?_) (fun cdv A outer s H vs Q E hr h => ?_)
  · obtain ⟨x, dc, dt, y, ec, et, cs, ds, ts, us, rfl, _⟩ := h
    rfl
  obtain ⟨x, dc, dt, y, ec, et, cs, ds, ts, us, rfl, na, nb, nde, hw⟩ := h
  obtain ⟨dx, h0, h1, h2⟩ := id na
  obtain ⟨dy, g0, g1, g2⟩ := id nb
  refine ⟨_, (pss_one (ps_lock (ps_for (passes_of rfl) rfl (pi_items (pe_fld (pv 0) (by rfl))) (pg_tup_K (K := K) (by rfl) (n := 2) (by rfl) (pgs_cons (pg_name (i := 2) sc_Network_check_kinds.nd rfl (Or.inl rfl)) (pgs_cons (pg_name (i := 3) sc_Network_check_kinds.nd rfl (Or.inl rfl)) pgs_nil)))
      (pss_one (ps_if (PW.pt (pw_and (pt_cmpR (op_inIns G_m_contains M.contains.M.at_ M.contains.M.fn M.contains.b pass0 (hr.mono (by decide))) (pv 2) (pv 1) (by rfl)) (pw_and1 (pt_cmpR op_ne (ix_ins G_m_getitem M.getitem.M.at_ M.getitem.M.fn M.gi M.getitem.b pass0 (hr.mono (by decide)) (pv 1) (pv 2) (fun _ _ => by with_unfolding_all rfl)) (pv 3) (nomark _))))) (pss_one (ps_unl (ps_raise rfl (takes_of rfl rfl rfl rfl) (pmk_mkG T.r_KindsDiffer.e T.r_KindsDiffer.i T.r_KindsDiffer.t G_in_KindsDiffer hr T.r_KindsDiffer.b (by rfl) T.r_KindsDiffer.g (pa_cons (pv 2) pa_nil))))) pss_nil))))), ?_⟩
  refine ⟨dc, _, h1, True.intro, fun od => ?_⟩
  have nx : x ≠ dc := Ne.symm na.ne.1
  have ny : y ≠ dc := fun z => by rw [z, h1] at g0; cases g0
  have net : et ≠ dc := fun z => by rw [z, h1] at g2; cases g2
  have nbL : NetA (upd H dc (.frz od (.dK (cs.map eC)))) R.C y ec et ds us := nb.off ny (Ne.symm nde) net
  refine ⟨_, rfl, x, R.C, dx, _, .ref dc, rfl, by rw [upd_ne nx]; exact h0, R.cl, R.n1, rfl, dc, od, _, rfl, upd_same, ?_⟩
  refine for_it walk_items (fun i σ H' => ∃ a b, σ = [some (.ref x), some (.ref y), a, b] ∧ Same (upd H dc (.frz od (.dK (cs.map eC)))) H' ∧ ∀ (j : Nat) (d : Cl), j < i → cs[j]? = some d → clashC ds d = false) ⟨none, none, rfl, Same.refl _, fun j d h => absurd h (Nat.not_lt_zero _)⟩ ?_ ?_ ?_
  · rintro i σ H' _ ⟨_, _, _, s1, _⟩
    exact s1 _ _ upd_same
  · rintro i z σ H' H'' hi ⟨a0, b0, rfl, s1, no⟩ ⟨Tp, a, b, rfl, nT, rfl, ea, eb⟩
    obtain ⟨c, ec2, rfl, rfl⟩ := item_at ea eb
    have sT : Same H' (upd H' Tp (.tup [.str c.1, .str c.2])) := same_new nT
    have s2 := s1.trans sT
    have nb2 := nbL.mono s2
    obtain ⟨dy2, k0, _, _⟩ := id nb2
    refine ⟨Tp, _, rfl, SqT.of upd_same, rfl, _, _, rfl, _, _, rfl, rfl, ?_⟩
    have next : clashC ds c = false → ∀ (j : Nat) (d : Cl), j < i + 1 → cs[j]? = some d → clashC ds d = false := fun e j d hj ej => by
      by_cases z : j < i
      · exact no j d z ej
      · have z2 : j = i := by omega
        rw [z2, ec2] at ej
        rw [← Option.some.inj ej]
        exact e
    refine ⟨_, rfl, _, rfl, y, dy2, _, rfl, k0, y, ec, et, ds, us, .str c.1, _, rfl, nb2, .inl ⟨c.1, rfl, rfl⟩, _, rfl, _, rfl, ?_⟩
    rw [Bool.bne_false]
    refine iteB (fun c1 => ?_) (fun c1 => ?_)
    · obtain ⟨k, hk, _⟩ := kindAt_some (of_decide_eq_true c1)
      refine ⟨_, rfl, _, rfl, y, dy2, _, rfl, k0, y, ec, et, ds, us, c.1, k, rfl, nb2, hk, _, rfl, rfl, _, rfl, iteB (fun c2 => ?_) (fun c2 => ?_)⟩
      · have ck : clashC ds c = true := by
          unfold clashC
          rw [hk]
          rw [str_dec] at c2
          exact decide_eq_true (fun z => by rw [decide_eq_true z] at c2; cases c2)
        rcases hw with ⟨z, _⟩ | ⟨i2, c', ei, cl, before, q⟩
        · rw [z c (List.mem_of_getElem? ec2)] at ck
          cases ck
        have eii : i2 = i := by
          rcases Nat.lt_trichotomy i2 i with l | l | l
          · rw [no i2 c' l ei] at cl
            cases cl
          · exact l
          · rw [before i c l ec2] at ck
            cases ck
        rw [eii, ec2] at ei
        have ecc : c = c' := Option.some.inj ei
        subst ecc
        have s3 := thaw (D := dc) h1 s2
        refine ⟨dc, od, _, s2 _ _ upd_same, (fun o' u' z => by
          have z : H dc = some (.frz o' u') := z
          rw [h1] at z
          cases z), ?_⟩
        refine ⟨_, rfl, (by show 1 ≤ 1000; decide), fun a na => ie_raise (K := K) (.str c.1) .str na fun dd r H2 n s4 ed hr => ?_⟩
        cases hr
        exact q dd H2 (Same.free s3 n) (s3.trans s4) ed
      · refine ⟨_, _, rfl, s2, next ?_⟩
        unfold clashC
        rw [hk]
        rw [str_dec] at c2
        exact decide_eq_false (fun z => by rw [decide_eq_false z] at c2; cases c2)
    · refine ⟨_, _, rfl, s2, next ?_⟩
      unfold clashC
      rw [kindAt_none (of_decide_eq_false c1)]
  · rintro σ H' ⟨a0, b0, rfl, s1, no⟩
    rw [List.length_map] at no
    refine ⟨s1 _ _ upd_same, ?_⟩
    rcases hw with ⟨_, q⟩ | ⟨i, c, ei, cl, _, _⟩
    · exact q _ (thaw (D := dc) h1 s1)
    · rw [no i c (List.getElem?_eq_some_iff.mp ei).1 ei] at cl
      cases cl
end
end Bh

set_option Elab.async false
set_option linter.all false
set_option maxRecDepth 100000
set_option maxHeartbeats 1000000
set_option autoImplicit false
namespace Bh
open PySem PySem.Spec PyProof.Rows L2
/-- both networks in one -/
def moreC (cs ds : List Cl) : List Cl := ds.filter fun d => decide (d.1 ∉ cs.map (·.1))
def moreT (ts us : List Ti) : List Ti := us.filter fun t => decide (t ∉ ts)
theorem cs_join {cs ds : List Cl} (a : CsOk cs) (b : CsOk ds) (few : cs.length + ds.length ≤ 1000) : CsOk (cs ++ moreC cs ds) := by
  have sb : ((moreC cs ds).map (·.1)).Sublist (ds.map (·.1)) := List.filter_sublist.map _
  refine ⟨?_, fun c hc => ?_, ?_⟩
  · rw [List.map_append, List.nodup_append]
    refine ⟨a.nd, b.nd.sublist sb, fun n hn m hm => ?_⟩
    obtain ⟨d, hd, rfl⟩ := List.mem_map.mp hm
    exact fun z => of_decide_eq_true (List.mem_filter.mp hd).2 (z ▸ hn)
  · rcases List.mem_append.mp hc with h | h
    · exact a.nm c h
    · exact b.nm c (List.mem_filter.mp h).1
  · rw [List.length_append]
    have : (moreC cs ds).length ≤ ds.length := List.length_filter_le _ _
    omega
theorem ts_join {cs ds : List Cl} {ts us : List Ti} (a : TsOk cs ts) (b : TsOk ds us) (few : ts.length + us.length ≤ 1000) : TsOk (cs ++ moreC cs ds) (ts ++ moreT ts us) := by
  have nl : ∀ n ∈ cs.map (·.1), n ∈ (cs ++ moreC cs ds).map (·.1) := fun n hn => by rw [List.map_append]; exact List.mem_append_left _ hn
  have nr : ∀ n ∈ ds.map (·.1), n ∈ (cs ++ moreC cs ds).map (·.1) := fun n hn => by
    by_cases h : n ∈ cs.map (·.1)
    · exact nl n h
    · obtain ⟨d, hd, rfl⟩ := List.mem_map.mp hn
      rw [List.map_append]
      exact List.mem_append_right _ (List.mem_map.mpr ⟨d, List.mem_filter.mpr ⟨hd, decide_eq_true h⟩, rfl⟩)
  refine ⟨?_, fun t ht => ?_, ?_⟩
  · rw [List.nodup_append]
    refine ⟨a.nd, b.nd.sublist List.filter_sublist, fun t ht u hu => ?_⟩
    exact fun z => of_decide_eq_true (List.mem_filter.mp hu).2 (z ▸ ht)
  · rcases List.mem_append.mp ht with h | h
    · obtain ⟨k1, k2, k3⟩ := a.nm t h
      exact ⟨k1, nl _ k2, nl _ k3⟩
    · obtain ⟨k1, k2, k3⟩ := b.nm t (List.mem_filter.mp h).1
      exact ⟨k1, nr _ k2, nr _ k3⟩
  · rw [List.length_append]
    have : (moreT ts us).length ≤ us.length := List.length_filter_le _ _
    omega
/-- two networks that stand apart -/
structure Two (H : Hp) (C x dc dt y ec et : Addr) (cs ds : List Cl) (ts us : List Ti) : Prop where
  a : NetA H C x dc dt cs ts
  b : NetA H C y ec et ds us
  nx : x ≠ y
  nc : dc ≠ ec
  nt : dt ≠ et
  ca : CsOk cs
  ta : TsOk cs ts
  cb : CsOk ds
  tb : TsOk ds us
  fc : cs.length + ds.length ≤ 900
  ft : ts.length + us.length ≤ 900
theorem Two.mono {H H' : Hp} {C x dc dt y ec et : Addr} {cs ds : List Cl} {ts us : List Ti} (s : Same H H') (h : Two H C x dc dt y ec et cs ds ts us) : Two H' C x dc dt y ec et cs ds ts us :=
  ⟨h.a.mono s, h.b.mono s, h.nx, h.nc, h.nt, h.ca, h.ta, h.cb, h.tb, h.fc, h.ft⟩
def spOr (C CE : Addr) : Sp := fun vs H Q E => ∃ (x dc dt y ec et : Addr) (cs ds : List Cl) (ts us : List Ti), vs = [.ref x, .ref y] ∧ Two H C x dc dt y ec et cs ds ts us ∧ ClashWay H CE cs ds (fun H0 => NetNew H0 C (cs ++ moreC cs ds) (ts ++ moreT ts us) Q) E
section
variable {P : Program} {w : World} {K : PySem.W.Frag} {mg : Str → Option Value} {base : Heap} {R : NtC K mg}
theorem ok_mor (T : Top K mg) (M : NtM K mg R) : FnOk P w K mg base (L2.CX P w) 8 M.or_.f M.or_.fd ["self", "other"] (spOr R.C T.r_KindsDiffer.c) := by
  have G_m_contains := ok_mcontains (P := P) (w := w) (base := base) T M
  have G_m_getitem := ok_mgetitem (P := P) (w := w) (base := base) T M
  have G_m_cells := ok_mcells (P := P) (w := w) (base := base) T M
  have G_m_ties := ok_mties (P := P) (w := w) (base := base) T M
  have G_m_check_kinds := ok_mchkkinds (P := P) (w := w) (base := base) T M
  have G_Network := ok_mnetinit (P := P) (w := w) (base := base) T M
  refine M.or_.F.okX sc_Network__or (fun vs H Q E h => ?_) (fun cdv A outer s H vs Q E hr h => ?_)
  · obtain ⟨x, dc, dt, y, ec, et, cs, ds, ts, us, rfl, _⟩ := h
    rfl
  obtain ⟨x, dc, dt, y, ec, et, cs, ds, ts, us, rfl, two, hw⟩ := h
  obtain ⟨dx, h0, h1, h2⟩ := id two.a
  obtain ⟨dy, g0, g1, g2⟩ := id two.b
  refine ⟨_, (pss_cons (ps_if (pt_not (pt_val (pe_callB (call_isi_K (K := K) (by rfl)) (by rfl) T.b_isinstance (by decide +kernel) (pa_cons (pv 1) (pa_cons (pe_glob (v := .ref R.C) rfl R.g rfl) pa_nil))))) (pss_one ps_never) pss_nil)
    (pss_cons (ps_expr (pe_meth (pv 0) R.cl M.check_kinds.M G_m_check_kinds (hr.mono (by decide)) M.check_kinds.b .nil (passes_call (takes_of rfl rfl rfl rfl) (fun _ _ _ _ z => z)) (pa_cons (pv 1) pa_nil)))
    (pss_cons (ps_setLc (i := 2) (own := [("name", 4)]) rfl sc_Network__or.nd rfl rfl (sw_true rfl rfl rfl (by decide +kernel)) (pi_list_K (K := K) (by rfl) (pe_meth0 (pv 1) R.cl M.cells.M G_m_cells (hr.mono (by decide)) M.cells.b .nil pass0)) (blkOk_by (own := [("name", 4)]) (N := ["self", "other", "more_cells", "more_ties", "name", "tie"]) (sc := defScope s_Network__or) (by decide +kernel)) (fun _ _ _ _ _ => by exact (pg_name (i := 4) sc_Network__or.nd rfl (Or.inl rfl))) (fun _ _ _ _ _ => by exact (pts_one (pt_cmpR (op_notInIns G_m_contains M.contains.M.at_ M.contains.M.fn M.contains.b pass0 (hr.mono (by decide))) (pv 4) (pv 0) (by rfl)))) (fun _ _ _ _ _ => by exact (pe_tup (pa_cons (pv 4) (pa_cons (ix_ins G_m_getitem M.getitem.M.at_ M.getitem.M.fn M.gi M.getitem.b pass0 (hr.mono (by decide)) (pv 1) (pv 4) (fun _ _ => by with_unfolding_all rfl)) pa_nil)))))
    (pss_cons (ps_setLc (i := 3) (own := [("tie", 5)]) rfl sc_Network__or.nd rfl rfl (sw_true rfl rfl rfl (by decide +kernel)) (pi_list_K (K := K) (by rfl) (pe_meth0 (pv 1) R.cl M.ties.M G_m_ties (hr.mono (by decide)) M.ties.b .nil pass0)) (blkOk_by (own := [("tie", 5)]) (N := ["self", "other", "more_cells", "more_ties", "name", "tie"]) (sc := defScope s_Network__or) (by decide +kernel)) (fun _ _ _ _ _ => by exact (pg_name (i := 5) sc_Network__or.nd rfl (Or.inl rfl))) (fun _ _ _ _ _ => by exact (pts_one (pt_cmpR (op_notInD (by exact (u1 hr))) (pv 5) (pe_fld_K (K := K) (by rfl) (pv 0) (by rfl)) (by rfl)))) (fun _ _ _ _ _ => by exact (pv 5)))
    (pss_one (ps_ret (pe_makeK0 M.mkr G_Network (hr.mono (by decide)) (by rfl) R.g (kb_cells_ties M) pass0 (pk_cons (pe_op op_cat (LiI.pe_listItems rfl (pe_fld (pv 0) (by rfl)) (by rfl) T.b_list (by decide +kernel)) (pv 2)) (pk_cons (pe_op op_cat (pe_meth0 (pv 0) R.cl M.ties.M G_m_ties (hr.mono (by decide)) M.ties.b .nil pass0) (pv 3)) pk_nil))))))))), ?_⟩
  refine ⟨_, rfl, _, _, _, _, true, rfl, .own _, .base (.ins g0 R.cl R.ha R.hn R.ht R.hm), R.k1, _, rfl, iteF ?_⟩
  refine ⟨_, rfl, x, dx, _, rfl, h0, rfl, _, rfl, x, dc, dt, y, ec, et, cs, ds, ts, us, rfl, two.a, two.b, two.nc, ?_⟩
  rcases hw with ⟨ok, q⟩ | hw
  · refine .inl ⟨ok, fun H1 s1 => ?_⟩
    have two1 := two.mono s1
    obtain ⟨dx1, k0, k1, k2⟩ := id two1.a
    obtain ⟨dy1, m0, m1, m2⟩ := id two1.b
    refine ⟨_, rfl, y, dy1, _, rfl, m0, rfl, y, ec, et, ds, us, rfl, two1.b, fun pl npl => ?_⟩
    have s2 : Same H1 (upd H1 pl (.lst (ds.map fun c => .str c.1))) := same_new npl
    refine ⟨pl, rfl, ⟨_, SqL.of upd_same⟩, fun D nD => ?_⟩
    refine lc_it walk_list (fun i H' => ∃ zs, Same (upd H1 pl (.lst (ds.map fun c => .str c.1))) H' ∧ H' D = some (.lst zs) ∧ zs.length ≤ i ∧ DpAll K H' zs ((moreC cs (ds.take i)).map dCell)) ⟨[], same_new nD, upd_same, Nat.le_refl _, .nil⟩ (fun i H' _ ⟨_, s, _⟩ => SqL.of (s _ _ upd_same)) ?_ ?_
    · rintro i z H' H'' hi ⟨zs, s3, hD, lz, dz⟩ ⟨rfl, ez⟩
      rw [List.getElem?_map] at ez
      obtain ⟨d, hd, rfl⟩ := Option.map_eq_some_iff.mp ez
      have two3 := two1.mono (s2.trans s3)
      obtain ⟨dx3, a0, a1, a2⟩ := id two3.a
      obtain ⟨dy3, b0, b1, b2⟩ := id two3.b
      refine ⟨rfl, _, rfl, _, rfl, x, dx3, _, rfl, a0, x, dc, dt, cs, ts, .str d.1, _, rfl, two3.a, .inl ⟨d.1, rfl, rfl⟩, _, rfl, _, rfl, ?_⟩
      have en : moreC cs (ds.take (i + 1)) = if decide (d.1 ∉ cs.map (·.1)) = true then moreC cs (ds.take i) ++ [d] else moreC cs (ds.take i) := filter_next (fun d : Cl => decide (d.1 ∉ cs.map fun c : Cl => c.1)) hd
      have lf : zs.length < sizeLine := lt_line (by
        have := two.cb.few
        rw [List.length_map] at hi
        omega)
      show (if (decide (d.1 ∈ cs.map (·.1)) != true) = true then _ else _)
      rw [Bool.bne_true, ← decide_not]
      rw [en]
      refine iteB (fun c1 => ?_) (fun c1 => ?_)
      · rw [if_pos c1]
        refine ⟨_, rfl, _, rfl, _, rfl, y, dy3, _, rfl, b0, y, ec, et, ds, us, d.1, d.2, rfl, two3.b, kind_nodup two.cb.nd (List.mem_of_getElem? hd), (by show 2 ≤ sizeLine; decide), fun tp ntp => ?_⟩
        have sT : Same H'' (upd H'' tp (.tup [.str d.1, .str d.2])) := same_new ntp
        have hD2 := sT _ _ hD
        refine ⟨zs, hD2, lf, zs ++ [.ref tp], same_mut (s3.trans sT) nD, upd_same, by rw [List.length_append]; exact Nat.add_le_add_right lz 1, ?_⟩
        rw [List.map_append]
        exact DpAll.append (DpAll.imm (imm_upd hD2) (noLs_map (fun _ => rfl) _) (DpAll.mono sT dz)) (.cons (.tup ((imm_upd hD2).tup (SqT.of upd_same)) (strs_dp [d.1, d.2])) .nil)
      · rw [if_neg (by rw [c1]; decide)]
        exact ⟨zs, s3, hD, Nat.le_succ_of_le lz, dz⟩
    · rintro H' ⟨zs, s3, hD, lz, dz⟩
      rw [List.length_map] at lz
      rw [List.length_map, List.take_length] at dz
      refine gn_step ?_
      dsimp only [List.set]
      have two3 := two1.mono (s2.trans s3)
      obtain ⟨dx3, a0, a1, a2⟩ := id two3.a
      obtain ⟨dy3, b0, b1, b2⟩ := id two3.b
      refine sq_asg ?_
      refine ⟨_, rfl, y, dy3, _, rfl, b0, rfl, y, ec, et, ds, us, rfl, two3.b, fun pt H4 ys npt s4 hpt tys => ⟨pt, rfl, ⟨_, SqL.of hpt⟩, fun D2 nD2 => ?_⟩⟩
      have two4 := two3.mono s4
      have ly : ys.length = us.length := Paired.length tys
      refine lc_it walk_list (fun i H' => ∃ ws, Same H4 H' ∧ H' D2 = some (.lst ws) ∧ ws.length ≤ i ∧ Paired (TiA H') ws (moreT ts (us.take i))) ⟨[], same_new nD2, upd_same, Nat.le_refl _, .nil⟩ (fun i H' _ ⟨_, s, _⟩ => SqL.of (s _ _ hpt)) ?_ ?_
      · rintro i z H' H'' hi ⟨ws, s5, hD2, lw, pw⟩ ⟨rfl, ez⟩
        obtain ⟨u, hu, b, rfl, hb⟩ := pair_at tys ez
        have two5 := two4.mono s5
        obtain ⟨dx5, c0, c1, c2⟩ := id two5.a
        have hb5 := s5 _ _ hb
        refine ⟨rfl, _, rfl, _, rfl, x, R.C, dx5, _, .ref dt, rfl, c0, R.cl, R.n2, rfl, inTies (t := u) c2 hb5 ⟨_, rfl, ?_⟩⟩
        have en : moreT ts (us.take (i + 1)) = if decide (u ∉ ts) = true then moreT ts (us.take i) ++ [u] else moreT ts (us.take i) := filter_next (fun t : Ti => decide (t ∉ ts)) hu
        rw [Bool.bne_true, ← decide_not, en]
        have lf : ws.length < sizeLine := lt_line (by
          have := two.tb.few
          omega)
        refine iteB (fun e1 => ?_) (fun e1 => ?_)
        · rw [if_pos e1]
          refine ⟨_, rfl, ws, hD2, lf, ws ++ [.ref b], same_mut s5 nD2, upd_same, by rw [List.length_append]; exact Nat.add_le_add_right lw 1, ?_⟩
          have nb : b ≠ D2 := fun z => by rw [z, hD2] at hb5; cases hb5
          exact Paired.snoc (tia_upd hD2 (fun _ z => nomatch z) pw) ⟨b, rfl, by rw [upd_ne nb]; exact hb5⟩
        · rw [if_neg (by rw [e1]; decide)]
          exact ⟨ws, s5, hD2, Nat.le_succ_of_le lw, pw⟩
      · rintro H' ⟨ws, s5, hD2, lw, pw⟩
        rw [ly] at lw
        rw [ly, List.take_length] at pw
        refine gn_step ?_
        have two5 := two4.mono s5
        obtain ⟨dx5, c0, c1, c2⟩ := id two5.a
        have hD5 : H' D = some (.lst zs) := s5 _ _ (s4 _ _ hD)
        have dz5 : DpAll K H' zs ((moreC cs ds).map dCell) := DpAll.mono (s4.trans s5) dz
        refine ⟨_, rfl, x, R.C, dx5, _, .ref dc, rfl, c0, R.cl, R.n1, rfl, dc, _, rfl, c1, fun H6 p as s6 np nas nin hp pr => ?_⟩
        have s6 : Same H' H6 := s6
        have hD6 := s6 _ _ hD5
        have la : as.length = cs.length := by
          have := Paired.length pr
          rw [List.length_map] at this
          exact this
        have fc := two.fc
        have ft := two.ft
        refine ⟨_, rfl, p, D, as.map V.ref, zs, rfl, rfl, hp, hD6, le_line (by rw [List.length_map]; omega), fun p2 np2 => ?_⟩
        have s7 : Same H6 (upd H6 p2 (.lst (as.map V.ref ++ zs))) := same_new np2
        have two7 := two5.mono (s6.trans s7)
        obtain ⟨dx7, e0, _, _⟩ := id two7.a
        have dall : DpAll K H6 (as.map V.ref ++ zs) ((cs ++ moreC cs ds).map dCell) := by
          rw [List.map_append]
          exact DpAll.append (items_dp pr) (DpAll.mono s6 dz5)
        refine ⟨_, rfl, x, dx7, _, rfl, e0, rfl, x, dc, dt, cs, ts, rfl, two7.a, fun p3 H8 ys3 np3 s8 hp3 tys3 => ?_⟩
        have hD28 : H8 D2 = some (.lst ws) := (s6.trans (s7.trans s8)) _ _ hD2
        have l3 : ys3.length = ts.length := Paired.length tys3
        refine ⟨_, rfl, p3, D2, ys3, ws, rfl, rfl, hp3, hD28, le_line (by omega), fun p4 np4 => ?_⟩
        have s9 : Same H8 (upd H8 p4 (.lst (ys3 ++ ws))) := same_new np4
        refine ⟨rfl, rfl, fun z dz ny nd ne => ?_⟩
        have tall : DpAll K H8 (ys3 ++ ws) ((ts ++ moreT ts us).map dTi) := by
          rw [List.map_append]
          exact DpAll.append (tia_dp tys3) (DpAll.mono (s6.trans (s7.trans s8)) (tia_dp pw))
        have s69 := s7.trans (s8.trans s9)
        refine net_made ny nd ne ⟨p2, _, rfl, .inl (SqL.of ((s8.trans s9) _ _ upd_same)), DpAll.mono s69 dall⟩ ⟨p4, _, rfl, .inl (SqL.of upd_same), DpAll.mono s9 tall⟩ (cs_join two.ca two.cb (by omega)) (ts_join two.ta two.tb (by omega)) fun H10 ec' et' s10 nec net na => ?_
        have sAll : Same H H10 := s1.trans (s2.trans (s3.trans (s4.trans (s5.trans (s6.trans (s69.trans s10))))))
        have sTo : Same H (upd H8 p4 (.lst (ys3 ++ ws))) := s1.trans (s2.trans (s3.trans (s4.trans (s5.trans (s6.trans s69)))))
        exact q H10 z ec' et' (Same.free sTo ny) (Same.free sTo nec) (Same.free sTo net) sAll na
  · exact .inr hw
end
end Bh

set_option Elab.async false
set_option linter.all false
set_option maxRecDepth 100000
set_option maxHeartbeats 1000000
set_option autoImplicit false
namespace Bh
open PySem PySem.Spec PyProof.Rows L2
def spIor (C CE : Addr) : Sp := fun vs H Q E => ∃ (x dc dt y ec et : Addr) (cs ds : List Cl) (ts us : List Ti), vs = [.ref x, .ref y] ∧ Two H C x dc dt y ec et cs ds ts us ∧
  ClashWay H CE cs ds (fun H0 => ∀ (H' : Hp) (ec' et' : Addr), H0 ec' = none → H0 et' = none → Same (hid x H0) H' → NetA H' C x ec' et' (cs ++ moreC cs ds) (ts ++ moreT ts us) → Q (.ref x) H') E
/-- the text of a network -/
def cellLn (c : Cl) : Str := Str.empty ++ "cell " ++ c.1 ++ " " ++ c.2 ++ "\n"
def tieLn (t : Ti) : Str := Str.empty ++ "tie " ++ t.1 ++ " " ++ t.2.1 ++ " " ++ t.2.2 ++ "\n"
def textN (cs : List Cl) (ts : List Ti) : Str := Txt.join "" (cs.map cellLn ++ ts.map tieLn)
def spText (C : Addr) : Sp := fun vs H Q _ => ∃ (x dc dt : Addr) (cs : List Cl) (ts : List Ti), vs = [.ref x] ∧ NetA H C x dc dt cs ts ∧ CsOk cs ∧ TsOk cs ts ∧ ∀ H', Same H H' → Q (.str (textN cs ts)) H'
theorem cell_len {c : Cl} (h1 : c.1.length ≤ 1000) (h2 : c.2.length ≤ 1000) : (cellLn c).length ≤ 4000 := by
  have b0 : (Str.empty : Str).length = 0 := rfl
  have b1 : ("cell " : Str).length = 5 := by decide +kernel
  have b2 : (" " : Str).length = 1 := by decide +kernel
  have b3 : ("\n" : Str).length = 1 := by decide +kernel
  unfold cellLn
  simp only [len_add]
  omega
theorem tie_len {t : Ti} (h1 : t.1.length ≤ 1000) (h2 : t.2.1.length ≤ 1000) (h3 : t.2.2.length ≤ 1000) : (tieLn t).length ≤ 4000 := by
  have b0 : (Str.empty : Str).length = 0 := rfl
  have b1 : ("tie " : Str).length = 4 := by decide +kernel
  have b2 : (" " : Str).length = 1 := by decide +kernel
  have b3 : ("\n" : Str).length = 1 := by decide +kernel
  unfold tieLn
  simp only [len_add]
  omega
abbrev jC : TE := fun σ H Q => tJs [tC (V.str "cell "), tFmt (tVar 3), tC (V.str " "), tFmt (tVar 4), tC (V.str "\n")] Str.empty σ H fun out H1 => Q (V.str out) H1
abbrev jT : TE := fun σ H Q => tJs [tC (V.str "tie "), tFmt (tVar 5), tC (V.str " "), tFmt (tVar 6), tC (V.str " "), tFmt (tVar 7), tC (V.str "\n")] Str.empty σ H fun out H1 => Q (V.str out) H1
theorem sum_le {l : List Nat} {m : Nat} (h : ∀ x ∈ l, x ≤ m) : l.sum ≤ l.length * m := by
  induction l with
  | nil => exact Nat.zero_le _
  | cons a l ih =>
    rw [List.sum_cons, List.length_cons, Nat.succ_mul]
    have := ih fun x hx => h x (List.mem_cons_of_mem _ hx)
    have := h a List.mem_cons_self
    omega
section
variable {P : Program} {w : World} {K : PySem.W.Frag} {mg : Str → Option Value} {base : Heap} {R : NtC K mg}
theorem ok_mior (T : Top K mg) (M : NtM K mg R) : FnOk P w K mg base (L2.CX P w) 9 M.ior.f M.ior.fd ["self", "other"] (spIor R.C T.r_KindsDiffer.c) := by
  have G_m_or := ok_mor (P := P) (w := w) (base := base) T M
  refine M.ior.F.okX sc_Network__ior (fun vs H Q E h => ?_) (fun cdv A outer s H vs Q E hr h => ?_)
  · obtain ⟨x, dc, dt, y, ec, et, cs, ds, ts, us, rfl, _⟩ := h
    rfl
  obtain ⟨x, dc, dt, y, ec, et, cs, ds, ts, us, rfl, two, hw⟩ := h
  obtain ⟨dx, h0, h1, h2⟩ := id two.a
  obtain ⟨dy, g0, g1, g2⟩ := id two.b
  refine ⟨_, (pss_cons (ps_if (pt_not (pt_val (pe_callB (call_isi_K (K := K) (by rfl)) (by rfl) T.b_isinstance (by decide +kernel) (pa_cons (pv 1) (pa_cons (pe_glob (v := .ref R.C) rfl R.g rfl) pa_nil))))) (pss_one ps_never) pss_nil)
    (pss_cons (ps_set (i := 2) sc_Network__ior.nd rfl (Or.inl rfl) (pe_op (op_orIns G_m_or M.oo M.or_.M.fn M.sf M.or_.b (passes_call (takes_of rfl rfl rfl rfl) (fun _ _ _ _ z => z)) (hr.mono (by decide))) (pv 0) (pv 1)))
    (pss_cons (ps_asg (pe_tup (pa_cons (pe_fld (pv 2) (by rfl)) (pa_cons (pe_fld (pv 2) (by rfl)) pa_nil))) (pg_tup_K (K := K) (by rfl) (n := 2) (by rfl) (pgs_cons (pg_fld_K (K := K) (by rfl) (pv 0)) (pgs_cons (pg_fld_K (K := K) (by rfl) (pv 0)) pgs_nil))))
    (pss_one (ps_ret (pv 0)))))), ?_⟩
  refine ⟨_, rfl, _, _, _, _, true, rfl, .own _, .base (.ins g0 R.cl R.ha R.hn R.ht R.hm), R.k1, _, rfl, iteF ?_⟩
  refine ⟨_, rfl, _, rfl, x, dx, _, y, dy, _, rfl, h0, rfl, g0, x, dc, dt, y, ec, et, cs, ds, ts, us, rfl, two, ?_⟩
  rcases hw with ⟨ok, q⟩ | hw
  · refine .inl ⟨ok, fun H1 j ec' et' nj nec net s1 na => ⟨⟨j, rfl⟩, ?_⟩⟩
    have two1 := two.mono s1
    obtain ⟨dx1, k0, k1, k2⟩ := id two1.a
    obtain ⟨dj, j0, j1, j2⟩ := id na
    refine gn_step ?_
    refine ⟨_, rfl, j, R.C, dj, _, .ref ec', rfl, j0, R.cl, R.n1, rfl, _, rfl, j, R.C, dj, _, .ref et', rfl, j0, R.cl, R.n2, rfl, (by show 2 ≤ sizeLine; decide), fun p np => ?_⟩
    have s2 : Same H1 (upd H1 p (.tup [.ref ec', .ref et'])) := same_new np
    refine ⟨p, _, rfl, SqT.of upd_same, rfl, _, _, rfl, _, rfl, x, R.C, dx1, _, rfl, s2 _ _ k0, R.cl, R.n1, (by show 2 < 1000; decide), _, _, rfl, _, rfl, x, R.C, dx1, _, rfl, upd_same, R.cl, R.n2, (by show 2 < 1000; decide), rfl, ?_⟩
    refine ⟨_, rfl, ?_⟩
    rw [upd_upd]
    have n1 : ec' ≠ x := fun z => by rw [z, h0] at nec; cases nec
    have n2 : et' ≠ x := fun z => by rw [z, h0] at net; cases net
    refine q _ ec' et' nec net (hid_put fun a u k => (s1.trans s2) _ _ (hid_in k).2) ⟨dx1, ?_, ?_, ?_⟩
    · rw [upd_same]
      rfl
    · rw [upd_ne n1]
      exact s2 _ _ j1
    · rw [upd_ne n2]
      exact s2 _ _ j2
  · exact .inr hw
theorem ok_mtext (T : Top K mg) (M : NtM K mg R) : FnOk P w K mg base CX0 2 M.text.f M.text.fd ["self"] (spText R.C) := by
  refine M.text.F.ok sc_Network_text (fun vs H Q E h => ?_) (fun cdv A outer s H vs Q E hr h => ?_)
  · obtain ⟨x, dc, dt, cs, ts, rfl, _⟩ := h
    rfl
  obtain ⟨x, dc, dt, cs, ts, rfl, na, okc, okt, q⟩ := h
  obtain ⟨dx, h0, h1, h2⟩ := id na
  refine ⟨_, (pss_cons (ps_lock (ps_setLc (i := 1) (own := [("name", 3), ("kind", 4)]) rfl sc_Network_text.nd rfl rfl (sw_true rfl rfl rfl (by decide +kernel)) (pi_items (pe_fld (pv 0) (by rfl))) (blkOk_by (own := [("name", 3), ("kind", 4)]) (N := ["self", "cells", "ties", "name", "kind", "tie", "source", "target"]) (sc := defScope s_Network_text) (by decide +kernel)) (fun _ _ _ _ _ => by exact (pg_tup_K (K := K) (by rfl) (n := 2) (by rfl) (pgs_cons (pg_name (i := 3) sc_Network_text.nd rfl (Or.inl rfl)) (pgs_cons (pg_name (i := 4) sc_Network_text.nd rfl (Or.inl rfl)) pgs_nil)))) (fun _ _ _ _ _ => by exact pts_nil) (fun _ _ _ _ _ => by exact (pe_joined (.cons pe_str (.cons (pe_fmt (pv 3)) (.cons pe_str (.cons (pe_fmt (pv 4)) (.cons pe_str .nil)))))))))
    (pss_cons (ps_lock (ps_setLc (i := 2) (own := [("tie", 5), ("source", 6), ("target", 7)]) rfl sc_Network_text.nd rfl rfl (sw_true rfl rfl rfl (by decide +kernel)) (pi_keys (pe_fld (pv 0) (by rfl))) (blkOk_by (own := [("tie", 5), ("source", 6), ("target", 7)]) (N := ["self", "cells", "ties", "name", "kind", "tie", "source", "target"]) (sc := defScope s_Network_text) (by decide +kernel)) (fun _ _ _ _ _ => by exact (pg_tup_K (K := K) (by rfl) (n := 3) (by rfl) (pgs_cons (pg_name (i := 5) sc_Network_text.nd rfl (Or.inl rfl)) (pgs_cons (pg_name (i := 6) sc_Network_text.nd rfl (Or.inl rfl)) (pgs_cons (pg_name (i := 7) sc_Network_text.nd rfl (Or.inl rfl)) pgs_nil))))) (fun _ _ _ _ _ => by exact pts_nil) (fun _ _ _ _ _ => by exact (pe_joined (.cons pe_str (.cons (pe_fmt (pv 5)) (.cons pe_str (.cons (pe_fmt (pv 6)) (.cons pe_str (.cons (pe_fmt (pv 7)) (.cons pe_str .nil)))))))))))
    (pss_one (ps_ret (pe_join_K (K := K) (by rfl) pe_str (pe_op op_cat (pv 1) (pv 2))))))), ?_⟩
  refine ⟨dc, _, h1, True.intro, fun od => ?_⟩
  have nx : x ≠ dc := Ne.symm na.ne.1
  refine ⟨_, rfl, x, R.C, dx, _, .ref dc, rfl, by rw [upd_ne nx]; exact h0, R.cl, R.n1, rfl, dc, od, _, rfl, upd_same, fun D nD => ?_⟩
  have few := okc.few
  have fewt := okt.few
  have b0 : (Str.empty : Str).length = 0 := rfl
  have b1 : ("cell " : Str).length = 5 := by decide +kernel
  have b2 : (" " : Str).length = 1 := by decide +kernel
  have b3 : ("\n" : Str).length = 1 := by decide +kernel
  have b4 : ("tie " : Str).length = 4 := by decide +kernel
  refine lc_it (te := jC) walk_items (fun i H' => Same (upd H dc (.frz od (.dK (cs.map eC)))) H' ∧ H' D = some (.lst (((cs.take i).map cellLn).map V.str))) ⟨same_new nD, upd_same⟩ ?_ ?_ ?_
  · rintro i H' _ ⟨s1, _⟩
    exact s1 _ _ upd_same
  · rintro i z H' H'' hi ⟨s1, hD⟩ ⟨Tp, a, b, rfl, nT, rfl, ea, eb⟩
    obtain ⟨c, ec2, rfl, rfl⟩ := item_at ea eb
    have sT : Same H' (upd H' Tp (.tup [.str c.1, .str c.2])) := same_new nT
    obtain ⟨⟨_, l1⟩, ⟨_, l2⟩⟩ := okc.nm c (List.mem_of_getElem? ec2)
    refine ⟨Tp, _, rfl, SqT.of upd_same, rfl, _, _, rfl, _, _, rfl, rfl, rfl, ?_⟩
    refine ⟨_, rfl, le_line (by simp only [len_add]; omega), _, rfl, .inl ⟨_, rfl, le_line (by omega), _, rfl, le_line (by simp only [len_add]; omega), ?_⟩⟩
    refine ⟨_, rfl, le_line (by simp only [len_add]; omega), _, rfl, .inl ⟨_, rfl, le_line (by omega), _, rfl, le_line (by simp only [len_add]; omega), ?_⟩⟩
    refine ⟨_, rfl, le_line (by simp only [len_add]; omega), ?_⟩
    refine ⟨_, sT _ _ hD, ?_, same_mut (s1.trans sT) nD, ?_⟩
    · rw [List.length_map, List.length_map, List.length_take]
      exact lt_line (by omega)
    · rw [upd_same, take_next ec2, List.map_append, List.map_append]
      rfl
  · rintro H' ⟨s1, hD⟩
    rw [List.length_map, List.take_length] at hD
    refine ⟨s1 _ _ upd_same, ?_⟩
    have s2 := thaw (D := D) h1 s1
    have nDc : D ≠ dc := fun z => by rw [z, upd_same] at nD; cases nD
    have hD2 : upd H' dc (.dK (cs.map eC)) D = some (.lst ((cs.map cellLn).map V.str)) := by rw [upd_ne nDc]; exact hD
    generalize upd H' dc (.dK (cs.map eC)) = H2 at s2 hD2 ⊢
    obtain ⟨dx2, k0, k1, k2⟩ := id (na.mono s2)
    refine ⟨dt, _, k2, True.intro, fun od2 => ?_⟩
    have nx2 : x ≠ dt := Ne.symm na.ne.2.1
    refine ⟨_, rfl, x, R.C, dx2, _, .ref dt, rfl, by rw [upd_ne nx2]; exact k0, R.cl, R.n2, rfl, dt, od2, rfl, .inr ⟨_, upd_same, fun D2 nD2 => ?_⟩⟩
    refine lc_it (te := jT) walk_keysT (fun i H' => Same (upd H2 dt (.frz od2 (.dT (ts.map eT)))) H' ∧ H' D2 = some (.lst (((ts.take i).map tieLn).map V.str))) ⟨same_new nD2, upd_same⟩ ?_ ?_ ?_
    · rintro i H' _ ⟨s1, _⟩
      exact s1 _ _ upd_same
    · rintro i z H' H'' hi ⟨s3, hD3⟩ ⟨rfl, k, v, b, e, rfl, hb⟩
      obtain ⟨⟨t1, t2, t3⟩, et2, rfl⟩ := tie_at e
      have hb : H'' b = some (.tup [.str t1, .str t2, .str t3]) := hb
      rw [List.length_map] at hi
      obtain ⟨⟨_, l1⟩, m2, m3⟩ := okt.nm _ (List.mem_of_getElem? et2)
      have l1 : t1.length ≤ 1000 := l1
      have l2 : t2.length ≤ 1000 := (name_ok okc m2).2
      have l3 : t3.length ≤ 1000 := (name_ok okc m3).2
      refine ⟨b, _, rfl, SqT.of hb, rfl, _, _, rfl, _, _, rfl, _, _, rfl, rfl, rfl, ?_⟩
      refine ⟨_, rfl, le_line (by simp only [len_add]; omega), _, rfl, .inl ⟨_, rfl, le_line (by omega), _, rfl, le_line (by simp only [len_add]; omega), ?_⟩⟩
      refine ⟨_, rfl, le_line (by simp only [len_add]; omega), _, rfl, .inl ⟨_, rfl, le_line (by omega), _, rfl, le_line (by simp only [len_add]; omega), ?_⟩⟩
      refine ⟨_, rfl, le_line (by simp only [len_add]; omega), _, rfl, .inl ⟨_, rfl, le_line (by omega), _, rfl, le_line (by simp only [len_add]; omega), ?_⟩⟩
      refine ⟨_, rfl, le_line (by simp only [len_add]; omega), ?_⟩
      refine ⟨_, hD3, ?_, same_mut s3 nD2, ?_⟩
      · rw [List.length_map, List.length_map, List.length_take]
        exact lt_line (by omega)
      · rw [upd_same, take_next et2, List.map_append, List.map_append]
        rfl
    · rintro H' ⟨s3, hD3⟩
      rw [List.length_map, List.take_length] at hD3
      refine ⟨s3 _ _ upd_same, ?_⟩
      have s4 := thaw (D := D2) k2 s3
      have nDt : D2 ≠ dt := fun z => by rw [z, upd_same] at nD2; cases nD2
      have hD4 : upd H' dt (.dT (ts.map eT)) D2 = some (.lst ((ts.map tieLn).map V.str)) := by rw [upd_ne nDt]; exact hD3
      generalize upd H' dt (.dT (ts.map eT)) = H4 at s4 hD4 ⊢
      refine ⟨⟨_, rfl⟩, _, rfl, _, rfl, D, D2, _, _, rfl, rfl, (s4 _ _ hD2), hD4, le_line (by rw [List.length_map, List.length_map, List.length_map, List.length_map]; omega), fun p np => ?_⟩
      refine ⟨"", p, cs.map cellLn ++ ts.map tieLn, rfl, rfl, .inl (SqL.of ?_), ?_, ?_⟩
      · rw [upd_same, List.map_append]
      · have e1 : ("" : Str).length = 0 := by decide +kernel
        have h := sum_le (l := (cs.map cellLn ++ ts.map tieLn).map (·.length)) (m := 4000) fun n hn => by
          obtain ⟨z, hz, rfl⟩ := List.mem_map.mp hn
          rcases List.mem_append.mp hz with hz | hz
          · obtain ⟨c, hc, rfl⟩ := List.mem_map.mp hz
            exact cell_len (okc.nm c hc).1.2 (okc.nm c hc).2.2
          · obtain ⟨t, ht, rfl⟩ := List.mem_map.mp hz
            obtain ⟨a, b, c⟩ := okt.nm t ht
            exact tie_len a.2 (name_ok okc b).2 (name_ok okc c).2
        rw [List.length_map, List.length_append, List.length_map, List.length_map] at h
        rw [e1]
        omega
      · exact q _ (s2.trans (s4.trans (same_new np)))
end
end Bh

set_option Elab.async false
set_option linter.all false
set_option maxRecDepth 100000
set_option maxHeartbeats 1000000
namespace Bh
open PySem PySem.Spec PyProof.Rows L2
section
variable {P : Program} {w : World} {K : PySem.W.Frag} {mg : Str → Option Value} {base : Heap}
theorem like_step (T : Top K mg) (n : Nat) (G_l_like : FnOk P w K mg base CX0 n T.a_l_like T.fd_l_like ["_law_found", "_law_due"] (spLk K n)) : FnOk P w K mg base CX0 (n + 1) T.a_l_like T.fd_l_like ["_law_found", "_law_due"] (spLk K (n + 1)) := by
  refine T.d_l_like.F.ok sc_l_like (fun vs H Q E h => ?_) (fun cdv A outer s H vs Q E hr h => ?_)
  · obtain ⟨x, y, d, rfl, _⟩ := h
    rfl
  obtain ⟨x, y, d, rfl, hx, hy, hs, q⟩ := h
  refine ⟨_, (pss_cons (ps_if (pt_cmpR op_isN (pv 1) pe_non (nomark _)) (pss_one (ps_ret (pe_cmpR op_isN (pv 0) pe_non (nomark _)))) pss_nil)
    (pss_cons (ps_if (pt_val (pe_callB (call_isi_K (K := K) (by rfl)) (by rfl) T.b_isinstance (by decide +kernel) (pa_cons (pv 1) (pa_cons (pe_tyN "dict" (by rfl) T.b_dict (by decide +kernel)) pa_nil)))) (pss_cons ps_never
      (pss_one ps_never)) pss_nil)
    (pss_cons (ps_if (pt_val (pe_callB (call_isiT_K (K := K) (by rfl)) (by rfl) T.b_isinstance (by decide +kernel) (pa_cons (pv 1) (pa_cons (pe_tup (pa_cons (pe_tyN "list" (by rfl) T.b_list (by decide +kernel)) (pa_cons (pe_tyN "tuple" (by rfl) T.b_tuple (by decide +kernel)) pa_nil))) pa_nil)))) (pss_cons (ps_if (PW.pt (pw_or (pt_cmpR op_ne (pe_callB (call_isi_K (K := K) (by rfl)) (by rfl) T.b_isinstance (by decide +kernel) (pa_cons (pv 0) (pa_cons (pe_tyN "list" (by rfl) T.b_list (by decide +kernel)) pa_nil))) (pe_callB (call_isi_K (K := K) (by rfl)) (by rfl) T.b_isinstance (by decide +kernel) (pa_cons (pv 1) (pa_cons (pe_tyN "list" (by rfl) T.b_list (by decide +kernel)) pa_nil))) (nomark _)) (pw_or1 (pt_cmpR op_ne (pe_callB (call_isi_K (K := K) (by rfl)) (by rfl) T.b_isinstance (by decide +kernel) (pa_cons (pv 0) (pa_cons (pe_tyN "tuple" (by rfl) T.b_tuple (by decide +kernel)) pa_nil))) (pe_callB (call_isi_K (K := K) (by rfl)) (by rfl) T.b_isinstance (by decide +kernel) (pa_cons (pv 1) (pa_cons (pe_tyN "tuple" (by rfl) T.b_tuple (by decide +kernel)) pa_nil))) (nomark _))))) (pss_one (ps_ret pe_bl)) pss_nil)
      (pss_one (ps_ret (pe_and (pe_cmpR op_eq (pe_callB (call_len_seq_K (K := K) (by rfl)) (by rfl) T.b_len PySem.boot_len (pa_cons (pv 0) pa_nil)) (pe_callB (call_len_seq_K (K := K) (by rfl)) (by rfl) T.b_len PySem.boot_len (pa_cons (pv 1) pa_nil)) (nomark _)) (pe_one (pe_callB (cr_all_K (K := K) (by rfl) rfl) (by rfl) T.b_all (by decide +kernel) (pa_cons (pe_lc (own := [("_law_one", 3), ("_law_other_z", 4)]) rfl sc_l_like.nd (pi_zipA_K (K := K) (by rfl) (by rfl) T.b_zip (pa_cons (pv 0) (pa_cons (pv 1) pa_nil))) (blkOk_by (own := [("_law_one", 3), ("_law_other_z", 4)]) (N := ["_law_found", "_law_due", "_law_key", "_law_one", "_law_other_z"]) (sc := defScope s_l_like) (by decide +kernel)) (fun _ _ _ _ _ => by exact (pg_tup_K (K := K) (by rfl) (n := 2) (by rfl) (pgs_cons (pg_name (i := 3) sc_l_like.nd rfl (Or.inl rfl)) (pgs_cons (pg_name (i := 4) sc_l_like.nd rfl (Or.inl rfl)) pgs_nil)))) (fun _ _ _ _ _ => by exact pts_nil) (fun _ _ _ _ _ => by exact (pe_call G_l_like hr (by rfl) T.d_l_like.g T.d_l_like.kp T.d_l_like.b .nil pass0 (pa_cons (pv 3) (pa_cons (pv 4) pa_nil))))) pa_nil))))))) pss_nil)
    (pss_cons (ps_if (PW.pt (pw_or (pt_cmpR op_ne (pe_callB (call_isi_K (K := K) (by rfl)) (by rfl) T.b_isinstance (by decide +kernel) (pa_cons (pv 0) (pa_cons (pe_tyN "bool" (by rfl) T.b_bool (by decide +kernel)) pa_nil))) (pe_callB (call_isi_K (K := K) (by rfl)) (by rfl) T.b_isinstance (by decide +kernel) (pa_cons (pv 1) (pa_cons (pe_tyN "bool" (by rfl) T.b_bool (by decide +kernel)) pa_nil))) (nomark _)) (pw_or1 (pt_cmpR op_ne (pe_callB (call_isi_K (K := K) (by rfl)) (by rfl) T.b_isinstance (by decide +kernel) (pa_cons (pv 0) (pa_cons (pe_tyN "int" (by rfl) T.b_int (by decide +kernel)) pa_nil))) (pe_callB (call_isi_K (K := K) (by rfl)) (by rfl) T.b_isinstance (by decide +kernel) (pa_cons (pv 1) (pa_cons (pe_tyN "int" (by rfl) T.b_int (by decide +kernel)) pa_nil))) (nomark _))))) (pss_one (ps_ret pe_bl)) pss_nil)
    (pss_one (ps_ret (pe_and (pe_cmpR op_eq (pe_callB (call_isi_K (K := K) (by rfl)) (by rfl) T.b_isinstance (by decide +kernel) (pa_cons (pv 0) (pa_cons (pe_tyN "str" (by rfl) T.b_str (by decide +kernel)) pa_nil))) (pe_callB (call_isi_K (K := K) (by rfl)) (by rfl) T.b_isinstance (by decide +kernel) (pa_cons (pv 1) (pa_cons (pe_tyN "str" (by rfl) T.b_str (by decide +kernel)) pa_nil))) (nomark _)) (pe_one (pe_cmpR op_eq (pv 0) (pv 1) (nomark _)))))))))), ?_⟩
  cases hx with
  | non =>
    cases hy
    refine ⟨_, rfl, rfl, _, rfl, iteY rfl ⟨_, rfl, rfl, ?_⟩⟩
    exact q _ (Same.refl _)
  | bl b =>
    cases hy
    refine ⟨_, rfl, rfl, _, rfl, iteN (by intro z; cases z) ?_⟩
    refine ⟨_, rfl, _, _, _, _, false, rfl, .ty _, .base (.bl b), kit_ty (by decide +kernel), _, rfl, iteF ?_⟩
    refine ⟨_, rfl, (by show 2 ≤ sizeLine; decide), fun p np => ⟨_, p, _, _, _, false, rfl, upd_same, .cons (.ty _) (.cons (.ty _) .nil), .base (.bl b), kitAny_cons (kit_ty (b := "list") (r := false) (by decide +kernel)) (fun _ => kitAny_cons (kit_ty (r := false) (by decide +kernel)) (fun _ => kitAny_nil) (fun z => nomatch z)) (fun z => nomatch z), _, rfl, iteF ?_⟩⟩
    refine ⟨_, rfl, _, _, _, _, true, rfl, .ty _, .base (.bl b), kit_ty (by decide +kernel), _, rfl, _, _, _, _, true, rfl, .ty _, .base (.bl b), kit_ty (by decide +kernel), rfl, _, rfl, iteNS rfl ?_⟩
    refine ⟨_, rfl, _, _, _, _, true, rfl, .ty _, .base (.bl b), kit_ty (by decide +kernel), _, rfl, _, _, _, _, true, rfl, .ty _, .base (.bl b), kit_ty (by decide +kernel), rfl, _, rfl, iteNS rfl ?_⟩
    refine ⟨_, rfl, _, _, _, _, false, rfl, .ty _, .base (.bl b), kit_ty (by decide +kernel), _, rfl, _, _, _, _, false, rfl, .ty _, .base (.bl b), kit_ty (by decide +kernel), rfl, _, rfl, iteY rfl ⟨_, rfl, _, rfl, rfl, q_eq (q _ (same_new np))⟩⟩
  | int i =>
    cases hy
    refine ⟨_, rfl, rfl, _, rfl, iteN (by intro z; cases z) ?_⟩
    refine ⟨_, rfl, _, _, _, _, false, rfl, .ty _, .base (.int i), kit_ty (by decide +kernel), _, rfl, iteF ?_⟩
    refine ⟨_, rfl, (by show 2 ≤ sizeLine; decide), fun p np => ⟨_, p, _, _, _, false, rfl, upd_same, .cons (.ty _) (.cons (.ty _) .nil), .base (.int i), kitAny_cons (kit_ty (b := "list") (r := false) (by decide +kernel)) (fun _ => kitAny_cons (kit_ty (r := false) (by decide +kernel)) (fun _ => kitAny_nil) (fun z => nomatch z)) (fun z => nomatch z), _, rfl, iteF ?_⟩⟩
    refine ⟨_, rfl, _, _, _, _, false, rfl, .ty _, .base (.int i), kit_ty (by decide +kernel), _, rfl, _, _, _, _, false, rfl, .ty _, .base (.int i), kit_ty (by decide +kernel), rfl, _, rfl, iteNS rfl ?_⟩
    refine ⟨_, rfl, _, _, _, _, true, rfl, .ty _, .base (.int i), kit_ty (by decide +kernel), _, rfl, _, _, _, _, true, rfl, .ty _, .base (.int i), kit_ty (by decide +kernel), rfl, _, rfl, iteNS rfl ?_⟩
    refine ⟨_, rfl, _, _, _, _, false, rfl, .ty _, .base (.int i), kit_ty (by decide +kernel), _, rfl, _, _, _, _, false, rfl, .ty _, .base (.int i), kit_ty (by decide +kernel), rfl, _, rfl, iteY rfl ⟨_, rfl, _, rfl, rfl, q_eq (q _ (same_new np))⟩⟩
  | str z =>
    cases hy
    refine ⟨_, rfl, rfl, _, rfl, iteN (by intro z; cases z) ?_⟩
    refine ⟨_, rfl, _, _, _, _, false, rfl, .ty _, .base (.str z), kit_ty (by decide +kernel), _, rfl, iteF ?_⟩
    refine ⟨_, rfl, (by show 2 ≤ sizeLine; decide), fun p np => ⟨_, p, _, _, _, false, rfl, upd_same, .cons (.ty _) (.cons (.ty _) .nil), .base (.str z), kitAny_cons (kit_ty (b := "list") (r := false) (by decide +kernel)) (fun _ => kitAny_cons (kit_ty (r := false) (by decide +kernel)) (fun _ => kitAny_nil) (fun z => nomatch z)) (fun z => nomatch z), _, rfl, iteF ?_⟩⟩
    refine ⟨_, rfl, _, _, _, _, false, rfl, .ty _, .base (.str z), kit_ty (by decide +kernel), _, rfl, _, _, _, _, false, rfl, .ty _, .base (.str z), kit_ty (by decide +kernel), rfl, _, rfl, iteNS rfl ?_⟩
    refine ⟨_, rfl, _, _, _, _, false, rfl, .ty _, .base (.str z), kit_ty (by decide +kernel), _, rfl, _, _, _, _, false, rfl, .ty _, .base (.str z), kit_ty (by decide +kernel), rfl, _, rfl, iteNS rfl ?_⟩
    refine ⟨_, rfl, _, _, _, _, true, rfl, .ty _, .base (.str z), kit_ty (by decide +kernel), _, rfl, _, _, _, _, true, rfl, .ty _, .base (.str z), kit_ty (by decide +kernel), rfl, _, rfl, iteY rfl ⟨_, rfl, _, rfl, rfl, q_eq (q _ (same_new np))⟩⟩
  | @lst a xs ds h1 h2 =>
    cases hy with
    | @lst b ys _ k1 k2 =>
    cases hs with
    | @lst m _ hl hall =>
    have lxy : xs.length = ys.length := (DpAll.length h2).trans (DpAll.length k2).symm
    refine ⟨_, rfl, rfl, _, rfl, iteN (by intro z; cases z) ?_⟩
    refine ⟨_, rfl, _, _, _, _, false, rfl, .ty _, tyL k1, kit_ty (by decide +kernel), _, rfl, iteF ?_⟩
    refine ⟨_, rfl, (by show 2 ≤ sizeLine; decide), fun p np => ⟨_, p, _, _, _, true, rfl, upd_same, .cons (.ty _) (.cons (.ty _) .nil), tyL ((same_new np).seq k1), kitAny_cons (kit_ty (b := "list") (r := true) (by decide +kernel)) (fun z => nomatch z) (fun _ => rfl), _, rfl, iteT ?_⟩⟩
    have e1 : Same H (upd H p (.tup [.ty "list", .ty "tuple"])) := same_new np
    have h1' := e1.seq h1
    have k1' := e1.seq k1
    refine ⟨_, rfl, _, _, _, _, true, rfl, .ty _, tyL h1', kit_ty (by decide +kernel), _, rfl, _, _, _, _, true, rfl, .ty _, tyL k1', kit_ty (by decide +kernel), rfl, _, rfl, iteNS rfl ?_⟩
    refine ⟨_, rfl, _, _, _, _, false, rfl, .ty _, tyL h1', kit_ty (by decide +kernel), _, rfl, _, _, _, _, false, rfl, .ty _, tyL k1', kit_ty (by decide +kernel), rfl, _, rfl, iteNS rfl ?_⟩
    refine ⟨_, rfl, a, xs, rfl, .inl h1', _, rfl, b, ys, rfl, .inl k1', rfl, _, rfl, iteY (by rw [lxy]) ?_⟩
    refine ⟨_, rfl, _, rfl, a, b, xs, ys, rfl, .inl ⟨h1', k1', fun D nD => ?_⟩⟩
    refine lc_it (walk_zip (n := xs.length) (by omega)) (fun i H' => Same (upd H p (.tup [.ty "list", .ty "tuple"])) H' ∧ H' D = some (.lst ((List.replicate i true).map V.bl))) ⟨same_new nD, upd_same⟩ (fun i H' _ p => ⟨p.1.seq h1', p.1.seq k1'⟩) ?_ ?_
    · rintro i v H' H'' hi ⟨s1, hD⟩ ⟨Tp, x', y', rfl, nT, rfl, ex, ey⟩
      refine ⟨Tp, [x', y'], rfl, .inl (.inl upd_same), rfl, x', [y'], rfl, y', [], rfl, rfl, rfl, ?_⟩
      obtain ⟨d', hm, hx', hy'⟩ := dpa_at h2 k2 ex ey
      have s2 := e1.trans (s1.trans (same_new (o := .tup [x', y']) nT))
      refine ⟨_, rfl, _, rfl, x', y', d', rfl, Dp.mono s2 hx', Dp.mono s2 hy', hall _ hm, fun H4 s4 => ?_⟩
      have lz : xs.length = ds.length := DpAll.length h2
      refine ⟨_, s4 _ _ ((upd_ne (ne_of_none hD nT)).trans hD), by rw [List.length_map, List.length_replicate]; exact lt_line (by omega), fun b' o e' => ?_, ?_⟩
      · have nb : b' ≠ D := ne_of_none e' nD
        rw [upd_ne nb]
        exact s4 _ _ (same_new nT _ _ (s1 _ _ e'))
      · rw [upd_same, List.replicate_succ', List.map_append]
        rfl
    · rintro H' ⟨s1, hD⟩
      refine ⟨D, List.replicate xs.length true, rfl, SqL.of hD, ?_⟩
      rw [bls_true]
      exact q _ (e1.trans s1)
  | @tup a xs ds h1 h2 =>
    cases hy with
    | @tup b ys _ k1 k2 =>
    cases hs with
    | @tup m _ hl hall =>
    have lxy : xs.length = ys.length := (DpAll.length h2).trans (DpAll.length k2).symm
    refine ⟨_, rfl, rfl, _, rfl, iteN (by intro z; cases z) ?_⟩
    refine ⟨_, rfl, _, _, _, _, false, rfl, .ty _, tyT k1, kit_ty (by decide +kernel), _, rfl, iteF ?_⟩
    refine ⟨_, rfl, (by show 2 ≤ sizeLine; decide), fun p np => ⟨_, p, _, _, _, true, rfl, upd_same, .cons (.ty _) (.cons (.ty _) .nil), tyT (Same.tup (same_new np) k1), kitAny_cons (kit_ty (b := "list") (r := false) (by decide +kernel)) (fun _ => kitAny_cons (kit_ty (r := true) (by decide +kernel)) (fun z => nomatch z) (fun _ => rfl)) (fun z => nomatch z), _, rfl, iteT ?_⟩⟩
    have e1 : Same H (upd H p (.tup [.ty "list", .ty "tuple"])) := same_new np
    have h1' := Same.tup e1 h1
    have k1' := Same.tup e1 k1
    refine ⟨_, rfl, _, _, _, _, false, rfl, .ty _, tyT h1', kit_ty (by decide +kernel), _, rfl, _, _, _, _, false, rfl, .ty _, tyT k1', kit_ty (by decide +kernel), rfl, _, rfl, iteNS rfl ?_⟩
    refine ⟨_, rfl, _, _, _, _, true, rfl, .ty _, tyT h1', kit_ty (by decide +kernel), _, rfl, _, _, _, _, true, rfl, .ty _, tyT k1', kit_ty (by decide +kernel), rfl, _, rfl, iteNS rfl ?_⟩
    refine ⟨_, rfl, a, xs, rfl, .inr h1', _, rfl, b, ys, rfl, .inr k1', rfl, _, rfl, iteY (by rw [lxy]) ?_⟩
    refine ⟨_, rfl, _, rfl, a, b, xs, ys, rfl, .inr ⟨h1', k1', fun D nD => ?_⟩⟩
    refine lc_it (walk_zipT (n := xs.length) (by omega)) (fun i H' => Same (upd H p (.tup [.ty "list", .ty "tuple"])) H' ∧ H' D = some (.lst ((List.replicate i true).map V.bl))) ⟨same_new nD, upd_same⟩ (fun i H' _ p => ⟨Same.tup p.1 h1', Same.tup p.1 k1'⟩) ?_ ?_
    · rintro i v H' H'' hi ⟨s1, hD⟩ ⟨Tp, x', y', rfl, nT, rfl, ex, ey⟩
      refine ⟨Tp, [x', y'], rfl, .inl (.inl upd_same), rfl, x', [y'], rfl, y', [], rfl, rfl, rfl, ?_⟩
      obtain ⟨d', hm, hx', hy'⟩ := dpa_at h2 k2 ex ey
      have s2 := e1.trans (s1.trans (same_new (o := .tup [x', y']) nT))
      refine ⟨_, rfl, _, rfl, x', y', d', rfl, Dp.mono s2 hx', Dp.mono s2 hy', hall _ hm, fun H4 s4 => ?_⟩
      have lz : xs.length = ds.length := DpAll.length h2
      refine ⟨_, s4 _ _ ((upd_ne (ne_of_none hD nT)).trans hD), by rw [List.length_map, List.length_replicate]; exact lt_line (by omega), fun b' o e' => ?_, ?_⟩
      · have nb : b' ≠ D := ne_of_none e' nD
        rw [upd_ne nb]
        exact s4 _ _ (same_new nT _ _ (s1 _ _ e'))
      · rw [upd_same, List.replicate_succ', List.map_append]
        rfl
    · rintro H' ⟨s1, hD⟩
      refine ⟨D, List.replicate xs.length true, rfl, SqL.of hD, ?_⟩
      rw [bls_true]
      exact q _ (e1.trans s1)
theorem ok_like (T : Top K mg) : ∀ n : Nat, FnOk P w K mg base CX0 n T.a_l_like T.fd_l_like ["_law_found", "_law_due"] (spLk K n)
  | 0 => ⟨fun _ _ _ _ h => h.elim, fun _ _ _ _ _ _ _ _ _ _ _ _ _ h => h.elim⟩
  | n + 1 => like_step T n (ok_like T n)
end
end Bh

set_option Elab.async false
set_option linter.all false
set_option maxRecDepth 100000
set_option maxHeartbeats 2000000
namespace Bh
open PySem PySem.Spec PyProof.Rows L2
/-! ### a list comprehension whose item knows the def's own state at the block's beginning -/
section
variable {X : Cx}
/-- what one turn is to do (the parts of tLc, under names) -/
def StepW (J : It) (g : TG) (tt : TT) (te : TE) (ws : L2.St) (vs : List Nat) (D : Addr) (i : Nat) (Nx : Hp → Prop) (h0 : Hp) : Prop :=
  ∀ x h1, J.yld i h0 x h1 → g x ws h1 fun σ2 h2 => wipe σ2 vs = ws ∧ tt σ2 h2 fun b h3 =>
    if b = true then te σ2 h3 fun y h4 => ∃ acc, h4 D = some (.lst acc) ∧ acc.length < sizeLine ∧ Nx (upd h4 D (.lst (acc ++ [y]))) else Nx h3
theorem pe_lcx {elt tg iter : Expr} {ifs : List Expr} {scope : Scope} {own : List (Str × Nat)} {pos : Pos} {wi : TI} {g : TG} {tt : TT} {te : L2.St → TE} (calm : X.calm = true) (nd : X.N.Nodup) (hi : PI X tg iter wi) (blk : BlkOk X.N X.env.scope scope own)
    (hg : ∀ s H C cl fp, PG (X.blk s H scope (compEnvC scope cl C X.env) fp) tg g) (ht : ∀ s H C cl fp, PTs (X.blk s H scope (compEnvC scope cl C X.env) fp) ifs tt)
    (he : ∀ σ s H C cl fp, (∃ pins, Inv X pins σ H s ∧ ∀ b ∈ fp, FpOk X pins H b) → PE (X.blk s H scope (compEnvC scope cl C X.env) fp) elt (te σ)) (hs : ∀ x, foldedSetIterable iter X.env x = pure x := by intro _; rfl) :
    PE X (.ListComp elt [⟨tg, iter, ifs, 0⟩] scope pos) (fun σ H Q => tLc wi g tt (te σ) (own.map (·.2)) σ H Q) := by
  constructor
  intro pins s σ H Q I h
  rw [eval_ListComp]
  have caught : ∀ y ∈ scope.names, y.2 = .free → ∃ c, X.env.cells.lookup y.1 = some c := fun y hy e => (blk.free y hy e).elim (fun k => I.ok.has _ (.inl k)) fun k => I.ok.has _ (.inr k)
  apply wpAny_comprehension_free (use := none) rfl hs (closure_ok caught) blk.kind (fun y hy e => (blk.uniq y hy).trans (congrArg some e))
  refine thn (hi.run pins s σ H _ I h) fun w1 t1 k1 => thn k1 fun w2 t2 k2 => ?_
  obtain ⟨it, fp, tn, J, Ha, rfl, Ia, T, sta, fa, q⟩ := k2
  refine wpAny_newObj_type (newEnv_comp ?_) (Nat.zero_le _)
  -- the list to be, at D
  obtain ⟨D, hD⟩ : ∃ D, D = t2.heap.objs.size := ⟨_, rfl⟩
  have freeD : Ha D = none := Ia.hok.fresh (Nat.le_of_eq hD.symm)
  obtain ⟨W, ⟨m0, w0⟩, turn⟩ := q D freeD
  rw [← hD]
  obtain ⟨t3, h3⟩ : ∃ t3 : Shared, t3 = { t2 with heap := t2.heap.push { cls := .type "list", data := .seq ([] : List Value).toArray } } := ⟨_, rfl⟩
  obtain ⟨Hb, hb⟩ : ∃ Hb, Hb = upd Ha D (.lst []) := ⟨_, rfl⟩
  have keep3 : ∀ b o, t2.heap.get? b = some o → t3.heap.get? b = some o := fun b o e => by subst h3; exact Heap.get?_push_of_some _ e
  have Ib : Inv X pins σ Hb t3 := by
    subst h3 hb
    exact Ia.laid (t' := t2.toks) (fun b o e => Heap.get?_push_of_some _ e) (Nat.le_of_eq hD.symm) ⟨Nat.zero_le _, [], 0, .nil, by rw [hD]; exact Heap.get?_push_size _ rfl⟩
  have low : ∀ b ∈ fp, b < t2.heap.objs.size := fun b m => (T.obj _ _ sta b m).elim fun o e => Heap.lt_size e.1
  have size3 : t3.heap.objs.size = t2.heap.objs.size + 1 := by subst h3; exact Heap.size_push _ _
  have fb : ∀ b ∈ fp, FpOk X pins Hb b ∧ b < t3.heap.objs.size := fun b m => by
    have l := low b m
    refine ⟨⟨?_, (fa b m).2⟩, Nat.lt_of_lt_of_le l (by rw [size3]; exact Nat.le_succ _)⟩
    subst hb
    rw [upd_ne (by rw [hD]; exact Nat.ne_of_lt l)]
    exact (fa b m).1
  have Ic := block_start Ib blk nd fb
  have nofp : ∀ b ∈ fp, Hb b = none := fun b m => (fb b m).1.1
  rw [show ({ t2 with heap := t2.heap.push { cls := .type "list", data := .seq ([] : List Value).toArray } } : Shared) = t3 from h3.symm]
  obtain ⟨cells, hcells⟩ : ∃ l, l = cellsFrom (t3.heap.objs.size + 1) scope.names (cloFrom X.env.cells scope.names []) := ⟨_, rfl⟩
  rw [← hcells] at Ic ⊢
  have runG := hg t3 Hb t3.heap.objs.size cells fp
  have runT := ht t3 Hb t3.heap.objs.size cells fp
  have runE := he σ t3 Hb t3.heap.objs.size cells fp ⟨pins, Ib, fun b m => (fb b m).1⟩
  obtain ⟨ce, hce⟩ : ∃ ce, ce = compEnvC scope cells t3.heap.objs.size X.env := ⟨_, rfl⟩
  have ceL : ce.locals = t3.heap.objs.size := by subst hce; rfl
  show codeAny _ _ (.compStart (.ListComp elt [⟨tg, iter, ifs, 0⟩] scope pos) 0 (.ref it) (.ref D) (compEnvC scope cells t3.heap.objs.size X.env)) (compPost (model X.prog X.w) X.A X.xe none (EP X pins σ Q) (.ref D) t3.heap.objs.size) { t3 with heap := pushCells (t3.heap.push { cls := .type "dict", data := .dict #[] }) scope.names }
  rw [← hce] at Ic runG runT runE ⊢
  rw [← hb] at w0
  obtain ⟨t4, h4⟩ : ∃ t4 : Shared, t4 = { t3 with heap := pushCells (t3.heap.push { cls := .type "dict", data := .dict #[] }) scope.names } := ⟨_, rfl⟩
  rw [← h4] at Ic ⊢
  have st3 : tn 0 t3.heap := T.keep _ _ _ sta fun b _ o e => keep3 b o e
  have st4 : tn 0 t4.heap := T.keep _ _ _ st3 fun b _ o e => by subst h4; exact pushCells_keeps _ _ _ _ (Heap.get?_push_of_some _ e)
  have own' : ∀ {σ' : L2.St} {H' : Hp} {s' : Shared}, Inv (X.blk t3 Hb scope ce fp) [] σ' H' s' → (∀ b ∈ fp, H' b = none) → ∀ b ∈ fp, FpOk (X.blk t3 Hb scope ce fp) [] H' b := fun J' n b m =>
    ⟨n b m, (J'.ok.exf b m).1, J'.ok.exfs b m, .inl m, fun x c e => (J'.ok.exf b m).2 x c e, fun p hp => by cases (show p ∈ ([] : List (Addr × Obj)) from hp)⟩
  have loop : codeAny (model X.prog X.w) X.A (.compLoop (.ListComp elt [⟨tg, iter, ifs, 0⟩] scope pos) 0 (.ref it) (.ref D) ce) (compPost (model X.prog X.w) X.A X.xe none (EP X pins σ Q) (.ref D) t3.heap.objs.size) t4 := by
    apply compLoop_any (fun n s' => ∃ i H', Inv (X.blk t3 Hb scope ce fp) [] (wipe σ (own.map (·.2))) H' s' ∧ tn i s'.heap ∧ (∀ b ∈ fp, H' b = none) ∧ W i n H') ?_ m0 ⟨0, Hb, Ic, st4, nofp, w0⟩
    intro n s5 ⟨i, H5, I5, st5, n5, w5⟩
    rcases turn i n H5 w5 with ⟨stop, fin⟩ | ⟨go, Nx, more, step⟩
    · refine thnF (T.done (X.blk t3 Hb scope ce fp) rfl rfl rfl calm i [] s5 _ H5 (fun _ _ => False) I5 (own' I5 n5) st5 stop) fun r s6 k6 => ?_
      obtain ⟨rfl, I6⟩ := k6
      have back : Inv X pins σ H5 s6 := Ib.call' (ch := fp) I6.os I6.base I6.hok I6.bare fun b m => ⟨(fb b m).1.2.2.2.1, (fb b m).1.2.1, (fb b m).1.2.2.2.2.1, (fb b m).1.2.2.2.2.2⟩
      have gone : H5 t3.heap.objs.size = none := ceL ▸ (show H5 ce.locals = none from I6.free)
      obtain ⟨m, ns, _⟩ := I6.loc
      have ns : s6.heap.Ns t3.heap.objs.size m := ceL ▸ (show s6.heap.Ns ce.locals m from ns)
      obtain ⟨f0, f1, f2, f3, f4, f5⟩ := Ib.fpOk (H' := H5) (Nat.le_refl _) gone
      exact ⟨m, ns, fun h'' sb => ⟨.ref D, H5, back.turned (t' := s6.toks) (fun b o hb e => (sb.2 b hb).trans e) f0 f1 f3 f4 f5, rfl, fin⟩⟩
    · refine thnF (T.item (X.blk t3 Hb scope ce fp) rfl rfl rfl calm i [] s5 _ H5 (fun _ _ => False) I5 (own' I5 n5) st5 go) fun r s6 k6 => ?_
      obtain ⟨u, rfl, k6⟩ := k6
      refine thnF k6 fun _ s7 k7 => ?_
      obtain ⟨x, H7, I7, r7, y7, st7, n7⟩ := k7
      have held := T.obj _ _ st7
      have turnEnd : ∀ {σ8 : L2.St} {H' : Hp} {s' : Shared}, wipe σ8 (own.map (·.2)) = wipe σ (own.map (·.2)) → Inv (X.blk t3 Hb scope ce fp) ([] ++ pinsAt fp s7.heap) σ8 H' s' → Nx H' →
          ∃ m, m < n ∧ ∃ i H', Inv (X.blk t3 Hb scope ce fp) [] (wipe σ (own.map (·.2))) H' s' ∧ tn i s'.heap ∧ (∀ b ∈ fp, H' b = none) ∧ W i m H' := by
        intro σ8 H' s' e8 J' nx
        obtain ⟨m', lt, w'⟩ := more H' nx
        have still : ∀ b ∈ fp, ∀ o, s7.heap.get? b = some o → s'.heap.get? b = some o ∧ H' b = none := fun b hb o e => by
          obtain ⟨z1, z2, _⟩ := J'.pin (b, o) (List.mem_append_right _ (List.mem_append_right _ (mem_pinsAt hb e)))
          exact ⟨z1, z2⟩
        have J2 : Inv (X.blk t3 Hb scope ce fp) [] σ8 H' s' := J'.unpinned (pins := [])
        refine ⟨m', lt, i + 1, H', J2.weak (by rw [← e8, wipe_length]) (fun j v e => (wipe_some (vs := own.map (·.2)) (by rw [e8]; exact e)).1), T.keep _ _ _ st7 fun b hb o e => (still b hb o e).1, fun b hb => ?_, w'⟩
        obtain ⟨o, e, _⟩ := held b hb
        exact (still b hb o e).2
      refine thnF (runG.run _ s7 _ H7 x u _ (I7.pinned (own' I7 n7) held) r7 (step x H7 y7)) fun _ s8 k8 => ?_
      obtain ⟨σ8, H8, I8, e8, q8⟩ := k8
      refine thnF (runT.run _ s8 σ8 H8 _ I8 q8) fun b s9 k9 => ?_
      obtain ⟨H9, I9, q9⟩ := k9
      by_cases kept : b = true
      · rw [if_pos kept] at q9 ⊢
        refine thnF (runE.run _ s9 σ8 H9 _ I9 q9) fun z s10 k10 => ?_
        obtain ⟨y, H10, I10, r10, acc, at10, few, nx⟩ := k10
        exact app_ok (X := X.blk t3 Hb scope ce fp) I10 at10 few r10 fun s11 I11 => turnEnd e8 I11 nx
      · rw [if_neg kept] at q9 ⊢
        exact turnEnd e8 I9 q9
  exact codeAny_compStart_list loop (T.self _ 0 _ _ _ st4 loop)
end
end Bh

set_option Elab.async false
set_option linter.all false
set_option maxRecDepth 100000
set_option maxHeartbeats 2000000
namespace Bh
open PySem PySem.Spec PyProof.Rows L2 LamX NdefX
/-! ### lambdas that are kept as values (with one default or none), and called later by a def they are handed to -/
/-- the words of a lambda -/
structure LW where
  params : Arguments
  body : Expr
  scope : Scope
/-- at f: a lambda of these words, its cells, its defaults, its code object at c -/
def LmO (q : Str) (L : LW) (cl : List (Str × Addr)) (dV : Value) (c f : Addr) : HO := .ext fun h => ∃ doc pm ctv : Value, h.get? f = some (PySem.W.kdv_obj "<lambda>" q L.params (.expr L.body) L.scope cl dV doc pm c ctv)
theorem lmO_ok {P : Program} {w : World} {H : Hp} {h : Heap} {q : Str} {L : LW} {cl : List (Str × Addr)} {dV doc pm ctv : Value} {c f : Addr} (e : h.get? f = some (PySem.W.kdv_obj "<lambda>" q L.params (.expr L.body) L.scope cl dV doc pm c ctv)) : ObjOk P w H h f (LmO q L cl dV c f) :=
  ⟨⟨doc, pm, ctv, e⟩, ⟨_, e⟩, fun _ _ ⟨d, p, t, e⟩ st => ⟨d, p, t, st _ e⟩⟩
theorem lmO_at {P : Program} {w : World} {H : Hp} {h : Heap} {q : Str} {L : LW} {cl : List (Str × Addr)} {dV : Value} {c f : Addr} (ok : HOk P w H h) (e : H f = some (LmO q L cl dV c f)) : ∃ doc pm ctv : Value, h.get? f = some (PySem.W.kdv_obj "<lambda>" q L.params (.expr L.body) L.scope cl dV doc pm c ctv) := (ok f _ e).1
theorem lmO_ne {q : Str} {L : LW} {cl : List (Str × Addr)} {dV : Value} {c f : Addr} (ps : Array Value) : LmO q L cl dV c f ≠ .tbl ps := fun z => by
  unfold LmO at z
  cases z
/-- the value v is such a lambda; d: its default -/
def IsLm (cs : List (Str × Addr)) (q : Str) (L : LW) (d : Option Int) (H : Hp) (v : V) : Prop := ∃ (f c : Addr) (dV : Value), v = .ref f ∧ H f = some (LmO q L (cloFrom cs L.scope.names []) dV c f) ∧ H c = some (CodeO c q) ∧
  ((d = none ∧ dV = .none) ∨ ∃ (n : Int) (t : Addr), d = some n ∧ dV = .ref t ∧ H t = some (.tup [.int n]))
theorem IsLm.ext {cs : List (Str × Addr)} {q : Str} {L : LW} {d : Option Int} {H H' : Hp} {v : V} (h : IsLm cs q L d H v) (e : ExtN H H') : IsLm cs q L d H' v := by
  obtain ⟨f, c, dV, e1, e2, e3, e4⟩ := h
  refine ⟨f, c, dV, e1, e _ _ e2 lmO_ne, e _ _ e3 codeO_ne, ?_⟩
  rcases e4 with z | ⟨n, t, z1, z2, z3⟩
  · exact .inl z
  · exact .inr ⟨n, t, z1, z2, e _ _ z3 (fun _ z => nomatch z)⟩
section
variable {X : Cx} {pins : List (Addr × Obj)} {σ : L2.St} {H : Hp} {s : Shared}
/-- the last part of the making: the code object is new or found in the table, the function is new -/
theorem lm_tail {T : List (Addr × Str)} {c P : Addr} {L : LW} {pos : Pos} {dV : Value} {E : Value → Shared → Prop} {Q : Value → Shared → Prop} (I : Inv X pins σ H s) (TB : TabB X.base X.mg c P) (hcode : X.env.code = .ref c)
    (hm : (P, X.env.qual ++ "<lambda>") ∈ T) (hu : ∀ p ∈ T, p.1 = P → p.2 = X.env.qual ++ "<lambda>") (hT : Tabs T H) (hfree : ∀ y ∈ L.scope.names, y.2 = .free → ∃ c, X.env.cells.lookup y.1 = some c)
    (h : ∀ (f c' : Addr) (H1 : Hp) (s' : Shared), Inv X pins σ (upd H1 f (LmO (X.env.qual ++ "<lambda>") L (cloFrom X.env.cells L.scope.names []) dV c' f)) s' → ExtN H H1 → Tabs T H1 → H1 f = none → H1 c' = some (CodeO c' (X.env.qual ++ "<lambda>")) → Q (.ref f) s') :
    wpAny (model X.prog X.w) X.A (makeTail "<lambda>" (X.env.qual ++ "<lambda>") L.params (.expr L.body) L.scope X.env dV .none none pos pos.line) Q E s := by
  obtain ⟨ps, hP, ht, ha⟩ := hT _ hm
  have bP : s.heap.BuiltinsAt X.mg P := TB.bm.keeps I.bk
  have hP' : s.heap.get? P = some { cls := .none, data := .fields ps } := I.hok P _ hP
  cases hc : codeAmong pos ps.toList with
  | none =>
    refine PySem.W.kdv_makeTail (mg := X.mg) (c := c) (P := P) (ps := ps) (closure_ok hfree) I.ok.glob (I.mod.glob.keeps I.bk) hcode (TB.code.keeps I.bk) hP' ht hc TB.gP bP fun c' ctv doc h' tk hx hge hlt hrec htb => ?_
    obtain ⟨c2, oc, vs, t, e2, hoc, hd, hv⟩ := hrec
    cases e2
    have nC : H c' = none := I.hok.fresh hge
    have I1 := inv_table (t' := tk) (more := #[rawInt pos.line, rawInt pos.col, .ref c']) (h' := h') I hP hx htb hge ⟨oc, vs, t, hoc, hd, hv⟩
    have hE : ExtN H (upd (upd H P (.tbl (ps ++ #[rawInt pos.line, rawInt pos.col, .ref c']))) c' (CodeO c' (X.env.qual ++ "<lambda>"))) := fun b o e n => by
      have b1 : b ≠ c' := ne_of_none e nC
      have b2 : b ≠ P := fun z => by
        rw [z, hP] at e
        exact n ps (Option.some.inj e).symm
      rw [upd_ne b1, upd_ne b2]
      exact e
    have eL : (ps ++ #[rawInt pos.line, rawInt pos.col, .ref c']).toList = ps.toList ++ [rawInt pos.line, rawInt pos.col, .ref c'] := by simp
    have fr : upd (upd H P (.tbl (ps ++ #[rawInt pos.line, rawInt pos.col, .ref c']))) c' (CodeO c' (X.env.qual ++ "<lambda>")) h'.objs.size = none := I1.hok.fresh (Nat.le_refl _)
    refine h h'.objs.size c' _ _ (I1.laid (t' := tk) (h' := h'.push (PySem.W.kdv_obj "<lambda>" (X.env.qual ++ "<lambda>") L.params (.expr L.body) L.scope (cloFrom X.env.cells L.scope.names []) dV doc ((X.mg "__name__").getD .none) c' ctv)) (fun b o e => Heap.get?_push_of_some _ e) (Nat.le_refl _) (lmO_ok (Heap.get?_push_size _ rfl))) hE (fun p hp => ?_) fr upd_same
    by_cases hb : p.1 = P
    · rw [hu p hp hb, hb]
      refine ⟨_, (upd_ne (ne_of_none hP nC)).trans upd_same, eL ▸ PySem.TriplesOk_snoc _ _ _ _ ht, fun p' cv hcv => ?_⟩
      rw [eL] at hcv
      rcases among_app _ ht hcv with z | z
      · obtain ⟨c0, e1, e2⟩ := ha p' cv z
        exact ⟨c0, e1, hE _ _ e2 codeO_ne⟩
      · exact ⟨c', z, upd_same⟩
    · obtain ⟨ps', a1, a2, a3⟩ := hT p hp
      refine ⟨ps', (upd_ne (ne_of_none a1 nC)).trans ((upd_ne hb).trans a1), a2, fun p' cv hcv => ?_⟩
      obtain ⟨c0, e1, e2⟩ := a3 p' cv hcv
      exact ⟨c0, e1, hE _ _ e2 codeO_ne⟩
  | some cv =>
    obtain ⟨c', rfl, hco⟩ := ha pos cv hc
    refine PySem.W.kdv_makeTailHit (mg := X.mg) (c := c) (P := P) (ps := ps) (closure_ok hfree) I.ok.glob (I.mod.glob.keeps I.bk) hcode (TB.code.keeps I.bk) hP' ht hc bP fun ctv doc h' tk hx hsz => ?_
    have I1 : Inv X pins σ H { s with heap := h', toks := tk } := I.kept hx
    refine h h'.objs.size c' H _ (I1.laid (t' := tk) (h' := h'.push _) (fun b o e => Heap.get?_push_of_some _ e) (Nat.le_refl _) (lmO_ok (Heap.get?_push_size _ rfl))) (ExtN.refl H) hT (I.hok.fresh hsz) hco
/-- the reading of a lambda as a value -/
def tStl (T : List (Addr × Str)) (cs : List (Str × Addr)) (q : Str) (L : LW) (d : Option Int) : TE := fun _ H Q => Tabs T H ∧ ∀ (H2 : Hp) (v : V), ExtN H H2 → Tabs T H2 → IsLm cs q L d H2 v → Q v H2
theorem extn_new {H H1 : Hp} {f : Addr} {o : HO} (e : ExtN H H1) (n : H1 f = none) : ExtN H (upd H1 f o) := fun b u h z => by
  rw [upd_ne (ne_of_none (e b u h z) n)]
  exact e b u h z
theorem tabs_new {T : List (Addr × Str)} {H1 : Hp} {f : Addr} {o : HO} (t : Tabs T H1) (n : H1 f = none) : Tabs T (upd H1 f o) := t.ext fun b u h => (upd_ne (ne_of_none h n)).trans h
theorem pe_stl0 {T : List (Addr × Str)} {c P : Addr} {params : Arguments} {body : Expr} {scope : Scope} {pos : Pos} (TB : TabB X.base X.mg c P) (hcode : X.env.code = .ref c)
    (hm : (P, X.env.qual ++ "<lambda>") ∈ T) (hu : ∀ p ∈ T, p.1 = P → p.2 = X.env.qual ++ "<lambda>") (hdef : defaultsOf params X.env = ([], [])) (hfree : ∀ y ∈ scope.names, y.2 = .free → X.env.scope.names.lookup y.1 = some .cell ∨ X.env.scope.names.lookup y.1 = some .free) :
    PE X (.Lambda params body scope pos) (tStl T X.env.cells (X.env.qual ++ "<lambda>") ⟨params, body, scope⟩ none) := by
  refine ⟨fun pins s σ H Q I h => PySem.W.kla_eval hdef ?_⟩
  rw [makeFunction_eq]
  simp only [List.zip_nil_right, List.filterMap_nil, List.isEmpty_nil, if_true, pure_bind]
  refine lm_tail (L := ⟨params, body, scope⟩) I TB hcode hm hu h.1 (fun y hy e => (hfree y hy e).elim (fun z => I.ok.has _ (.inl z)) fun z => I.ok.has _ (.inr z)) fun f c' H1 s' J e1 t1 n1 k1 => ?_
  exact ⟨.ref f, _, J, rfl, h.2 _ _ (extn_new e1 n1) (tabs_new t1 n1) ⟨f, c', .none, rfl, upd_same, (upd_ne (ne_of_none k1 n1)).trans k1, .inl ⟨rfl, rfl⟩⟩⟩
theorem pe_stl1 {T : List (Addr × Str)} {c P : Addr} {params : Arguments} {body : Expr} {scope : Scope} {pos p1 : Pos} {n : Int} {j : Nat} (TB : TabB X.base X.mg c P) (hcode : X.env.code = .ref c)
    (hm : (P, X.env.qual ++ "<lambda>") ∈ T) (hu : ∀ p ∈ T, p.1 = P → p.2 = X.env.qual ++ "<lambda>") (hd : params.defaults = [.Constant (.int n) j p1]) (hk : params.kw_defaults = []) (hfree : ∀ y ∈ scope.names, y.2 = .free → X.env.scope.names.lookup y.1 = some .cell ∨ X.env.scope.names.lookup y.1 = some .free) :
    PE X (.Lambda params body scope pos) (tStl T X.env.cells (X.env.qual ++ "<lambda>") ⟨params, body, scope⟩ (some n)) := by
  refine ⟨fun pins s σ H Q I h => PySem.W.kdv_lam (by rw [hd]; rfl) hk ?_⟩
  rw [hd]
  refine PySem.W.kdv_all1 (thn ((pe_int (X := X)).run pins s σ H (fun v H1 => v = .int n ∧ H1 = H) I ⟨rfl, rfl⟩) fun u s1 ⟨v, H1, I1, r1, ev, eH⟩ => PySem.W.kdv_all0 ?_)
  subst ev eH
  rw [makeFunction_eq]
  simp only [List.zip_nil_right, List.filterMap_nil, List.isEmpty_nil, List.isEmpty_cons, Bool.false_eq_true, if_false, if_true, pure_bind]
  refine wpAny_bind (wpAny_newTextTuple ?_)
  have I2 := I1.laid (t' := s1.toks) (o := .tup [.int n]) (h' := s1.heap.push { cls := .type "tuple", data := .seq [u].toArray }) (fun b o e => Heap.get?_push_of_some _ e) (Nat.le_refl _) ⟨by show 1 ≤ sizeLine; decide, [u], .cons r1 .nil, IsTup.new s1.heap _⟩
  have nT : H1 s1.heap.objs.size = none := I1.hok.fresh (Nat.le_refl _)
  have e0 : ExtN H1 (upd H1 s1.heap.objs.size (.tup [.int n])) := extn_new (ExtN.refl _) nT
  refine lm_tail (L := ⟨params, body, scope⟩) I2 TB hcode hm hu (tabs_new h.1 nT) (fun y hy e => (hfree y hy e).elim (fun z => I.ok.has _ (.inl z)) fun z => I.ok.has _ (.inr z)) fun f c' H2 s' J e1 t1 n1 k1 => ?_
  have kT := e1 _ _ upd_same (fun _ z => nomatch z)
  exact ⟨.ref f, _, J, rfl, h.2 _ _ (extn_new (e0.trans e1) n1) (tabs_new t1 n1) ⟨f, c', _, rfl, upd_same, (upd_ne (ne_of_none k1 n1)).trans k1, .inr ⟨n, _, rfl, rfl, (upd_ne (ne_of_none kT n1)).trans kT⟩⟩⟩
end
end Bh

set_option Elab.async false
set_option linter.all false
set_option maxRecDepth 100000
set_option maxHeartbeats 2000000
namespace Bh
open PySem PySem.Spec PyProof.Rows L2 LamX NdefX
/-! ### such a lambda called -/
/-- its words, as those of a nested def -/
abbrev lwF (q : Str) (L : LW) (cl : List (Str × Addr)) (c : Addr) : NF := ⟨"<lambda>", q, L.params, [], L.scope, cl, c⟩
section
variable {CX : CXT} {P : Program} {w : World} {K : PySem.W.Frag} {mg : Str → Option Value} {base : Heap} {N ps fr : List Str} {f c' : Addr} {k : Nat} {q : Str} {L : LW} {cl : List (Str × Addr)}
theorem lw_run {A : Around} {outer : List Env} {s : Shared} {H : Hp} {us : List Value} {vs : List V} {ws : List (Option V)} {Q : VK} {E : XK} {dV doc pm ctv : Value} {tb : TE} (S : NScope N ps fr L.scope)
    (hb : BindsTo s (PySem.W.kdv_fn "<lambda>" q L.params (.expr L.body) L.scope cl dV doc pm (.ref c') ctv) ⟨[], []⟩ (ps.zip us)) (hr : Room (k + 1) A) (e0 : Env0 P w K mg base A outer s H) (lim : s.heap.NoLimit)
    (of : s.heap.get? f = some (PySem.W.kdv_obj "<lambda>" q L.params (.expr L.body) L.scope cl dV doc pm c' ctv)) (hc : s.heap.CodeRec (.ref c') q) (C : CellsAt cl fr ws s.heap H) (r : Vals vs us) (hl : vs.length = ps.length)
    (hbody : Room k (A.deeper (envF (lwF q L cl c') f s.heap.objs.size)) → PE (ncx CX P w K mg base N (lwF q L cl c') f A outer s H E) L.body tb) (h : tb (startF N vs ws) H Q) :
    codeAny (model P w) A (.call (.ref f) ⟨[], []⟩) (CR CX outer P w H s Q E) s := by
  refine PySem.W.kla_callFunE hr.depth of rfl S.co S.gen rfl hc (hb _ _ _ _ ?_)
  refine wpAny_newFunctionEnv S.nocell (fun ⟨n, _⟩ hy => S.par n (List.of_mem_zip hy).1) (fun h₁ hns hsb => ⟨lim.fresh _ hsb, ?_⟩) S.kind
  show codeAny _ _ (.expr L.body (envF (lwF q L cl c') f s.heap.objs.size)) _ _
  have old : ∀ b o, s.heap.get? b = some o → h₁.get? b = some o := fun b o e => hsb.extBut b o (Nat.ne_of_lt (Heap.lt_size e)) (Heap.get?_push_of_some _ e)
  have I : Inv (ncx CX P w K mg base N (lwF q L cl c') f A outer s H E) [] (startF N vs ws) H { s with heap := h₁, toks := s.toks + (ps.zip us).length } := inv_startN (F := lwF q L cl c') S hr.hd e0 hl r C hns old
  refine PySem.W.kla_codeExpr (wpAny_mono ((hbody (hr.deeper _)).run [] _ (startF N vs ws) H Q I h) (fun v s' hq => ?_) fun _ _ hq => hq)
  obtain ⟨w', H', J, rv, q'⟩ := hq
  exact ⟨w', H', J.os, J.bare, J.base, J.hok, rv, q'⟩
end
/-- one of the lambdas that a def (its names XN, its scope sc) keeps: its words and what its body makes -/
structure LK (P : Program) (w : World) (K : PySem.W.Frag) (mg : Str → Option Value) (base : Heap) (XN : List Str) (sc : Scope) (k : Nat) where
  L : LW
  d : Option Int
  N : List Str
  ps : List Str
  fr : List Str
  vs : List V
  js : List Nat
  tb : XK → TE
  S : NScope N ps fr L.scope
  b0 : d = none → ps = [] ∧ vs = [] ∧ ∀ (q : Str) (cl : List (Str × Addr)) (doc pm cd ct : Value), bindArgs (PySem.W.kdv_fn "<lambda>" q L.params (.expr L.body) L.scope cl .none doc pm cd ct) ⟨[], []⟩ = pure []
  b1 : ∀ n : Int, d = some n → ∃ p, ps = [p] ∧ vs = [.int n] ∧ ∀ (q : Str) (cl : List (Str × Addr)) (t : Addr) (doc pm cd ct : Value), ∃ kk : Option (Array Value) → Sem (List (Str × Value)),
    bindArgs (PySem.W.kdv_fn "<lambda>" q L.params (.expr L.body) L.scope cl (.ref t) doc pm cd ct) ⟨[], []⟩ = seqItems? (.ref t) >>= kk ∧ ∀ u : Value, kk (some #[u]) = pure [(p, u)]
  free : ∀ y ∈ L.scope.names, y.2 = .free → sc.names.lookup y.1 = some .cell ∨ sc.names.lookup y.1 = some .free
  frs : ∀ y ∈ fr, (y, NameKind.free) ∈ L.scope.names
  at_ : js.map (fun j => XN[j]?) = fr.map some
  body : ∀ (A : Around) (outer : List Env) (s : Shared) (H : Hp) (E : XK) (F : NF) (f : Addr), F.scope = L.scope → Room k (A.deeper (envF F f s.heap.objs.size)) → PE (ncx (L2.CX P w) P w K mg base N F f A outer s H E) L.body (tb E)
theorem CellsAt.unx {cl : List (Str × Addr)} {fr : List Str} {ws : List (Option V)} {st ex : List Addr} {H HZ : Hp} {h h1 : Heap} (C : CellsAt cl fr ws h H) (un : Un st ex H HZ h h1) (no : ∀ y c, cl.lookup y = some c → c ∉ ex) : CellsAt cl fr ws h1 HZ := by
  have kp : ∀ y c, cl.lookup y = some c → ∀ v, h.IsCell c v → h1.IsCell c v := fun y c e v ⟨o, ho, hd⟩ => by
    obtain ⟨sl, q⟩ := un.any ho (C.all y c e).1 (no y c e)
    exact ⟨_, q, hd⟩
  refine ⟨C.len, fun y c e => ?_, C.inj, fun i y e => ?_⟩
  · obtain ⟨n, v, z⟩ := C.all y c e
    exact ⟨by obtain ⟨o, ho, _⟩ := z; exact un.free c o ho n (no y c e), v, kp y c e v z⟩
  · obtain ⟨c, hc, hv⟩ := C.has i y e
    refine ⟨c, hc, fun v ev => ?_⟩
    obtain ⟨u, r, z⟩ := hv v ev
    exact ⟨u, r, kp y c hc _ z⟩
section
variable {P : Program} {w : World} {K : PySem.W.Frag} {mg : Str → Option Value} {base : Heap} {XN : List Str} {sc : Scope} {k : Nat}
/-- x(), in the def that got the lambda: entered at s with the cells as they are told there -/
theorem lk_act {cs : List (Str × Addr)} {q : Str} {A0 : Around} {st : List Env} {s : Shared} {H : Hp} {Eg : XK} {CXg : CXT} {Ng : List Str} {qg : Str} {sg : Scope} {g f : Addr} {cdg : Value} {i : Nat} {a : Str} {pn : List (Addr × Obj)} {xe : Value → Shared → Prop} {W : WX} {E : XK} {ws : List (Option V)} {p1 p2 : Pos}
    (κ : LK P w K mg base XN sc k) (C : CellsAt (cloFrom cs κ.L.scope.names []) κ.fr ws s.heap H)
    (tk : Takes ((cxOf CXg P w K mg base Ng qg sg g cdg A0 st s H Eg).tr pn xe) W) (hW : ∀ cls d σ' H', E cls d H' → W cls d σ' H') (hr : Room (k + 1) (A0.deeper (envOfC qg sg s.heap.objs.size g cdg)))
    (hN : Ng[i]? = some a) (hv : Vis sg a) (hd : (a == ("__debug__" : Str)) = false := by decide) (hcd : (a == ("__classdict__" : Str)) = false := by decide) :
    PE ((cxOf CXg P w K mg base Ng qg sg g cdg A0 st s H Eg).tr pn xe) (.Call (.Name a p1) [] [] p2)
      (fun σZ HZ Q => σZ[i]? = some (some (.ref f)) ∧ IsLm cs q κ.L κ.d HZ (.ref f) ∧ κ.tb E (startF κ.N κ.vs ws) HZ Q) := by
  refine ⟨fun pinsZ sZ σZ HZ Q IZ h => ?_⟩
  obtain ⟨hs, hl, ht⟩ := h
  refine wpAny_Call_Name_kw (thn ((pe_var (pos := p1) (i := i) hN hv hd hcd).run pinsZ sZ σZ HZ (fun v H1 => v = .ref f ∧ H1 = HZ) IZ ⟨.ref f, hs, rfl, rfl⟩) fun u s1 ⟨v, H1, I1, r1, ev, eH⟩ => ?_)
  subst ev eH
  obtain rfl : u = Value.ref f := r1
  obtain ⟨f', c', dV, e1, e2, e3, e4⟩ := hl
  cases e1
  obtain ⟨doc, pm, ctv, of⟩ := lmO_at I1.hok e2
  refine PySem.W.callWith_F0 ⟨_, _, _, _, of⟩ ?_
  have un : Un (frs st) [] H H1 s.heap s1.heap := I1.base
  obtain ⟨⟨oc, vs, t, hoc, hdc, hvc⟩, _, _⟩ := I1.hok c' _ e3
  have C1 := CellsAt.un C un
  have run : ∀ us, κ.vs.length = κ.ps.length → Vals κ.vs us → BindsTo s1 (PySem.W.kdv_fn "<lambda>" q κ.L.params (.expr κ.L.body) κ.L.scope (cloFrom cs κ.L.scope.names []) dV doc pm (.ref c') ctv) ⟨[], []⟩ (κ.ps.zip us) →
      codeAny (model P w) (A0.deeper (envOfC qg sg s.heap.objs.size g cdg)) (.call (.ref f) ⟨[], []⟩) (CR (L2.CX P w) (envOfC qg sg s.heap.objs.size g cdg :: st) P w H1 s1 Q E) s1 := fun us hl r hb =>
    lw_run κ.S hb hr I1.env0 I1.nolimit of ⟨c', oc, vs, t, rfl, hoc, hdc, hvc⟩ C1 r hl (fun hr2 => κ.body _ _ _ _ _ _ _ rfl hr2) ht
  have rc : codeAny (model P w) (A0.deeper (envOfC qg sg s.heap.objs.size g cdg)) (.call (.ref f) ⟨[], []⟩) (CR (L2.CX P w) (envOfC qg sg s.heap.objs.size g cdg :: st) P w H1 s1 Q E) s1 := by
    rcases e4 with ⟨z1, z2⟩ | ⟨n, t, z1, z2, z3⟩
    · obtain ⟨y1, y2, y3⟩ := κ.b0 z1
      subst z2
      refine run [] (by rw [y1, y2]; rfl) (by rw [y2]; exact .nil) ?_
      rw [y1]
      exact .of_eq (y3 _ _ _ _ _ _)
    · obtain ⟨p, y1, y2, y3⟩ := κ.b1 n z1
      subst z2
      obtain ⟨kk, y4, y5⟩ := y3 q (cloFrom cs κ.L.scope.names []) t doc pm (.ref c') ctv
      obtain ⟨_, its, rv, o, ho, _, m, hs⟩ := I1.hok t _ z3
      obtain ⟨u, rfl, ru⟩ := vals1 rv
      refine run [u] (by rw [y1, y2]; rfl) (by rw [y2]; exact .cons ru .nil) ?_
      rw [y1]
      exact .of_defaults rfl ho hs y4 (y5 u)
  have hx : Passes (L2.CX P w) ((cxOf CXg P w K mg base Ng qg sg g cdg A0 st s H Eg).tr pn xe) E := passes_call tk hW
  refine wpAny_call (codeAny_mono rc fun r s' hq => ?_)
  cases r with
  | error e => exact hx pinsZ σZ H1 s1 e s' I1 hq
  | ok fl =>
    cases fl with
    | ret u => exact I1.after hq
    | next => exact False.elim hq
    | brk => exact False.elim hq
    | cont => exact False.elim hq
/-- a def that calls what it got: what it makes (TT) of the lambda's reading -/
def GivesL (P : Program) (w : World) (K : PySem.W.Frag) (mg : Str → Option Value) (base : Heap) (Ng : List Str) (x : Str) (sg : Scope) (g : Addr) (cdg : Value) (bg : List Stmt) (a : Str) (k : Nat) (TT : (XK → Hp → VK → Prop) → Hp → VK → Prop) : Prop :=
  ∀ (A0 : Around) (st : List Env) (f : Addr) (s : Shared) (H : Hp) (Q : VK) (tl : XK → Hp → VK → Prop), Room (k + 1) (A0.deeper (envOfC x sg s.heap.objs.size g cdg)) →
    (∀ (W : WX) (pn : List (Addr × Obj)) (xe : Value → Shared → Prop) (E : XK) (p1 p2 : Pos), Takes ((cxOf C8.CX0 P w K mg base Ng x sg g cdg A0 st s H C8.E0).tr pn xe) W → (∀ cls d σ' H', E cls d H' → W cls d σ' H') →
      PE ((cxOf C8.CX0 P w K mg base Ng x sg g cdg A0 st s H C8.E0).tr pn xe) (.Call (.Name a p1) [] [] p2) (fun σZ HZ Q => σZ[0]? = some (some (.ref f)) ∧ tl E HZ Q)) → TT tl H Q →
    ∃ t, PSs (cxOf C8.CX0 P w K mg base Ng x sg g cdg A0 st s H C8.E0).nox bg t ∧ t { nx := fun _ H' => Q .non H', rt := Q } (L2.start Ng [.ref f]) H
end
/-- g(x), x one of the kept lambdas, in a comprehension's block of the def that keeps them; σ: that def's slots -/
def tTryL {P : Program} {w : World} {K : PySem.W.Frag} {mg : Str → Option Value} {base : Heap} {XN : List Str} {sc : Scope} {k : Nat} (cs : List (Str × Addr)) (q : Str) (ks : List (LK P w K mg base XN sc k)) (i : Nat) (TT : (XK → Hp → VK → Prop) → Hp → VK → Prop) (σ : L2.St) : TE :=
  fun σ' H Q => ∃ (κ : LK P w K mg base XN sc k) (f : Addr), κ ∈ ks ∧ σ'[i]? = some (some (.ref f)) ∧ TT (fun E H' Q' => IsLm cs q κ.L κ.d H' (.ref f) ∧ κ.tb E (startF κ.N κ.vs (κ.js.map (slotAt σ))) H' Q') H Q
theorem pe_tryL {X : Cx} {s0 : Shared} {H0 : Hp} {σ : L2.St} {scope : Scope} {ce : Env} {fp : List Addr} {x a y : Str} {g : Addr} {i k : Nat} {pg : Arguments} {bg : List Stmt} {sg : Scope} {dV kV doc pm cdv ct oc : Value} {an od : Option Addr} {osl : Array (Option Value)} {Ng : List Str} {p p1 pos : Pos}
    {TT : (XK → Hp → VK → Prop) → Hp → VK → Prop} {ks : List (LK X.prog X.w X.K X.mg X.base X.N X.env.scope k)} (hI : ∃ pins, Inv X pins σ H0 s0 ∧ ∀ b ∈ fp, FpOk X pins H0 b)
    (hg : Gl (X.blk s0 H0 scope ce fp) x) (hm : X.mg x = some (.ref g)) (hk : PySem.W.keepIn X.K (.ref g) = true)
    (lk : X.K.lookup g = some ⟨oc, od, .func (PySem.W.fnOf x x pg bg sg dV kV doc pm an cdv ct), osl⟩) (hcg : PySem.W.codeIn X.K cdv x = true) (hb : L2.Binds X.K (PySem.W.fnOf x x pg bg sg dV kV doc pm an cdv ct) [a] []) (Sg : FnScope Ng [a] sg) (hNg : Ng[0]? = some a) (hva : Vis sg a)
    (hG : GivesL X.prog X.w X.K X.mg X.base Ng x sg g cdv bg a k TT) (hr : Room (k + 2) X.A) (hy : X.N[i]? = some y) (hvy : Vis ce.scope y)
    (hdb : (x == ("__debug__" : Str)) = false := by decide) (hd : (a == ("__debug__" : Str)) = false := by decide) (hcd : (a == ("__classdict__" : Str)) = false := by decide) (hdy : (y == ("__debug__" : Str)) = false := by decide) (hcy : (y == ("__classdict__" : Str)) = false := by decide) :
    PE (X.blk s0 H0 scope ce fp) (.Call (.Name x p) [.Name y p1] [] pos) (tTryL X.env.cells (X.env.qual ++ "<lambda>") ks i TT σ) := by
  refine ⟨fun pins s σ' H Q I h => ?_⟩
  obtain ⟨κ, f, hκ, hf, hT⟩ := h
  refine wpAny_Call_Name_kw (ld_glob I hg hm ?_ hdb)
  refine PySem.W.callWith_K (h₀ := X.base) I.ok.mod.kin hk ?_ (by rfl) (by rfl)
  show wpAny _ _ (spliced ((false, eval (.Name y p1) ce) :: backTo pos (starEach [] ce))) _ _ s
  refine Calls.spliced_cons (thn ((pe_var (X := X.blk s0 H0 scope ce fp) (pos := p1) (i := i) hy hvy hdy hcy).run pins s σ' H (fun v H1 => v = .ref f ∧ H1 = H) I ⟨.ref f, hf, rfl, rfl⟩) fun u s1 ⟨v, H1, I1, r1, ev, eH⟩ => ?_)
  subst ev eH
  obtain rfl : u = Value.ref f := r1
  refine Calls.spliced_nil ⟨I1.kIn, ?_⟩
  obtain ⟨pins0, I0, fo⟩ := hI
  have C0 := cells_of I0 (Caps.made (fr := κ.fr) (js := κ.js) I0.ok κ.free κ.frs κ.at_)
  have caught : ∀ y ∈ κ.L.scope.names, y.2 = .free → ∃ c, X.env.cells.lookup y.1 = some c := fun y hy e => (κ.free y hy e).elim (fun z => I0.ok.has _ (.inl z)) fun z => I0.ok.has _ (.inr z)
  have C1 : CellsAt (cloFrom X.env.cells κ.L.scope.names []) κ.fr (κ.js.map (slotAt σ)) s1.heap H1 := CellsAt.unx C0 (st := frs X.stack) (ex := fp) I1.base fun z c e m => (fo c m).2.2.2.2.1 z c (clo_cm caught e) rfl
  have rc : codeAny (model X.prog X.w) X.A (.call (.ref g) ⟨[.ref f], []⟩) (CR C8.CX0 X.stack X.prog X.w H1 s1 Q C8.E0) s1 := by
    refine run_ofS (N := Ng) (ps := [a]) (us := [.ref f]) (vs := [.ref f]) lk hcg Sg hr I1.env0 (hb s1 [.ref f] I1.kIn rfl) (.cons rfl .nil) rfl fun hr' => ?_
    obtain ⟨t', ht', hq'⟩ := hG X.A X.stack f s1 H1 Q _ hr' (fun W pn xe E p1 p2 tk hW => lk_act (i := 0) κ C1 tk hW hr' hNg hva hd hcd) hT
    exact ⟨t', ht'.nox, hq'⟩
  refine wpAny_call (codeAny_mono rc fun r s2 hq => ?_)
  cases r with
  | error e => exact (show False from hq).elim
  | ok fl =>
    cases fl with
    | ret u => exact I1.after hq
    | next => exact False.elim hq
    | brk => exact False.elim hq
    | cont => exact False.elim hq
/-- [g(y) for y in iter], the items such lambdas -/
theorem pe_lcTry {X : Cx} {scope : Scope} {own : List (Str × Nat)} {iter : Expr} {wi : TI} {gt : TG} {x a y : Str} {g : Addr} {i k : Nat} {pg : Arguments} {bg : List Stmt} {sg : Scope} {dV kV doc pm cdv ct oc : Value} {an od : Option Addr} {osl : Array (Option Value)} {Ng : List Str} {p p1 p2 pos pos1 : Pos}
    {TT : (XK → Hp → VK → Prop) → Hp → VK → Prop} (ks : List (LK X.prog X.w X.K X.mg X.base X.N X.env.scope k)) (calm : X.calm = true) (nd : X.N.Nodup) (hi : PI X (.Name y p2) iter wi) (blk : BlkOk X.N X.env.scope scope own)
    (hgt : ∀ s H C cl fp, PG (X.blk s H scope (compEnvC scope cl C X.env) fp) (.Name y p2) gt) (hg : ∀ s H C cl fp, Gl (X.blk s H scope (compEnvC scope cl C X.env) fp) x) (hm : X.mg x = some (.ref g)) (hk : PySem.W.keepIn X.K (.ref g) = true)
    (lk : X.K.lookup g = some ⟨oc, od, .func (PySem.W.fnOf x x pg bg sg dV kV doc pm an cdv ct), osl⟩) (hcg : PySem.W.codeIn X.K cdv x = true) (hb : L2.Binds X.K (PySem.W.fnOf x x pg bg sg dV kV doc pm an cdv ct) [a] []) (Sg : FnScope Ng [a] sg) (hNg : Ng[0]? = some a) (hva : Vis sg a)
    (hG : GivesL X.prog X.w X.K X.mg X.base Ng x sg g cdv bg a k TT) (hr : Room (k + 2) X.A) (hy : X.N[i]? = some y) (hvy : ∀ cl C, Vis (compEnvC scope cl C X.env).scope y)
    (hdb : (x == ("__debug__" : Str)) = false := by decide) (hd : (a == ("__debug__" : Str)) = false := by decide) (hcd : (a == ("__classdict__" : Str)) = false := by decide) (hdy : (y == ("__debug__" : Str)) = false := by decide) (hcy : (y == ("__classdict__" : Str)) = false := by decide) (hs : ∀ x, foldedSetIterable iter X.env x = pure x := by intro _; rfl) :
    PE X (.ListComp (.Call (.Name x p) [.Name y p1] [] pos1) [⟨.Name y p2, iter, [], 0⟩] scope pos) (fun σ H Q => tLc wi gt tYes (tTryL X.env.cells (X.env.qual ++ "<lambda>") ks i TT σ) (own.map (·.2)) σ H Q) :=
  pe_lcx calm nd hi blk hgt (fun _ _ _ _ _ => pts_nil) (fun σ s H C cl fp hI => pe_tryL (scope := scope) hI (hg s H C cl fp) hm hk lk hcg hb Sg hNg hva hG hr hy (hvy cl C) hdb hd hcd hdy hcy) hs
end Bh

set_option Elab.async false
set_option linter.all false
set_option maxRecDepth 100000
set_option maxHeartbeats 1000000
namespace Bh
open PySem PySem.Spec PyProof.Rows L2
abbrev exPairs : List (Str × Str) := [("KindsDiffer", "name")]
section
variable {P : Program} {w : World} {K : PySem.W.Frag} {mg : Str → Option Value} {base : Heap}
theorem ok_given (T : Top K mg) : FnU P w K mg base 1 T.a_l_given T.fd_l_given ["_law_e"] (spGivenE K T.cBE T.cMS exPairs) := by
  refine fun_u T.d_l_given.F sc_l_given (fun vs H Q E h => ?_) (fun cdv A outer s H vs Q E h => ?_)
  · obtain ⟨a, C, dd, nm, f, v, rfl, _⟩ := h
    rfl
  obtain ⟨a, C, dd, nm, f, v, rfl, ea, ed, er, hp, q⟩ := h
  refine ⟨_, (pss_cons (ps_if (pt_cmpR (op_in_seq_K (K := K) (by rfl)) (pe_xz (pv 0)) (pe_tup (pa_cons pe_str (pa_cons pe_str (pa_cons pe_str pa_nil)))) (by rfl)) (pss_one (ps_ret (pe_xz (pv 0)))) pss_nil)
    (pss_cons (ps_if (pt_cmpR (op_in_seq_K (K := K) (by rfl)) (pe_xz (pv 0)) (pe_tup (pa_cons pe_str (pa_cons pe_str (pa_cons pe_str pa_nil)))) (by rfl)) (pss_one (ps_ret (pe_xz (pv 0)))) pss_nil)
    (pss_cons (ps_if (pt_cmpR (op_in_seq_K (K := K) (by rfl)) (pe_xz (pv 0)) (pe_tup (pa_cons pe_str (pa_cons pe_str (pa_cons pe_str (pa_cons pe_str (pa_cons pe_str pa_nil)))))) (by rfl)) (pss_one (ps_ret (pe_xz (pv 0)))) pss_nil)
    (pss_cons (ps_if (pt_cmpR (op_in_seq_K (K := K) (by rfl)) (pe_xz (pv 0)) (pe_tup (pa_cons pe_str (pa_cons pe_str pa_nil))) (by rfl)) (pss_one (ps_ret (pe_xz (pv 0)))) pss_nil)
    (pss_cons (ps_if (pt_cmpR (op_in_seq_K (K := K) (by rfl)) (pe_xz (pv 0)) (pe_tup (pa_cons pe_str (pa_cons pe_str pa_nil))) (by rfl)) (pss_one (ps_ret (pe_xz (pv 0)))) pss_nil)
    (pss_cons (ps_if (pt_cmpR op_eq (pe_xz (pv 0)) pe_str (nomark _)) (pss_one (ps_ret (pe_xz (pv 0)))) pss_nil)
    (pss_cons (ps_if (pt_cmpR op_eq (pe_xz (pv 0)) pe_str (nomark _)) (pss_one (ps_ret (pe_xz (pv 0)))) pss_nil)
    (pss_one (ps_ret (pe_ifExp (pt_cmpR (op_in_seq_K (K := K) (by rfl)) (pe_xz (pv 0)) (pe_tup (pa_cons pe_str (pa_cons pe_str (pa_cons pe_str pa_nil)))) (by rfl)) pe_non (pe_xz (pv 0)))))))))))), ?_⟩
  simp only [List.mem_cons, List.not_mem_nil, or_false, Prod.mk.injEq] at hp
  obtain ⟨rfl, rfl⟩ := hp
  ·
    refine ⟨_, rfl, a, C, dd, _, _, rfl, (Same.refl _) _ _ ea, er.x, er.n1, (Same.refl _) _ _ ed, rfl, (by show 3 ≤ sizeLine; decide), fun t1 n1 => ?_⟩
    have s1 := (Same.refl _).trans (same_new (o := .tup [.str "InvalidField", .str "InvalidTie", .str "InvalidKind"]) n1)
    refine ⟨t1, _, rfl, .inr (SqT.of upd_same), rfl, rfl, _, rfl, iteB (fun z => absurd z (by decide +kernel)) (fun _ => ?_)⟩
    refine ⟨_, rfl, a, C, dd, _, _, rfl, s1 _ _ ea, er.x, er.n1, s1 _ _ ed, rfl, (by show 3 ≤ sizeLine; decide), fun t2 n2 => ?_⟩
    have s2 := s1.trans (same_new (o := .tup [.str "InvalidRulebook", .str "InvalidNetwork", .str "InvalidPage"]) n2)
    refine ⟨t2, _, rfl, .inr (SqT.of upd_same), rfl, rfl, _, rfl, iteB (fun z => absurd z (by decide +kernel)) (fun _ => ?_)⟩
    refine ⟨_, rfl, a, C, dd, _, _, rfl, s2 _ _ ea, er.x, er.n1, s2 _ _ ed, rfl, (by show 5 ≤ sizeLine; decide), fun t3 n3 => ?_⟩
    have s3 := s2.trans (same_new (o := .tup [.str "InvalidHolding", .str "InvalidName", .str "InvalidCount", .str "InvalidLimit", .str "UnknownMoment"]) n3)
    refine ⟨t3, _, rfl, .inr (SqT.of upd_same), rfl, rfl, _, rfl, iteB (fun z => absurd z (by decide +kernel)) (fun _ => ?_)⟩
    refine ⟨_, rfl, a, C, dd, _, _, rfl, s3 _ _ ea, er.x, er.n1, s3 _ _ ed, rfl, (by show 2 ≤ sizeLine; decide), fun t4 n4 => ?_⟩
    have s4 := s3.trans (same_new (o := .tup [.str "InvalidState", .str "InvalidLook"]) n4)
    refine ⟨t4, _, rfl, .inr (SqT.of upd_same), rfl, rfl, _, rfl, iteB (fun z => absurd z (by decide +kernel)) (fun _ => ?_)⟩
    refine ⟨_, rfl, a, C, dd, _, _, rfl, s4 _ _ ea, er.x, er.n1, s4 _ _ ed, rfl, (by show 2 ≤ sizeLine; decide), fun t5 n5 => ?_⟩
    have s5 := s4.trans (same_new (o := .tup [.str "DuplicateTie", .str "MissingTie"]) n5)
    refine ⟨t5, _, rfl, .inr (SqT.of upd_same), rfl, rfl, _, rfl, iteB (fun z => absurd z (by decide +kernel)) (fun _ => ?_)⟩
    refine ⟨_, rfl, a, C, dd, _, _, rfl, s5 _ _ ea, er.x, er.n1, s5 _ _ ed, rfl, rfl, _, rfl, iteB (fun z => absurd z (by decide +kernel)) (fun _ => ?_)⟩
    refine ⟨_, rfl, a, C, dd, _, _, rfl, s5 _ _ ea, er.x, er.n1, s5 _ _ ed, rfl, rfl, _, rfl, iteB (fun z => absurd z (by decide +kernel)) (fun _ => ?_)⟩
    refine ⟨_, rfl, a, C, dd, _, _, rfl, s5 _ _ ea, er.x, er.n1, s5 _ _ ed, rfl, (by show 3 ≤ sizeLine; decide), fun t6 n6 => ?_⟩
    have s6 := s5.trans (same_new (o := .tup [.str "BooksDiffer", .str "Unsettled", .str "EmptyHistory"]) n6)
    refine ⟨t6, _, rfl, .inr (SqT.of upd_same), rfl, rfl, _, rfl, iteB (fun z => absurd z (by decide +kernel)) (fun _ => ?_)⟩
    exact ⟨_, rfl, a, C, dd, _, v, rfl, s6 _ _ ea, er.x, er.n2, s6 _ _ ed, rfl, q _ s6⟩
theorem try_gives (T : Top K mg) {k : Nat} (cdv : Value) : GivesL P w K mg base ["_law_ask", "_law_found", "_law_e"] "_law_try" (defScope s_l_try) T.a_l_try cdv (defBody s_l_try) "_law_ask" k (TTryE K T.cBE T.cMS exPairs) := by
  intro A0 st f s H Q tl hr act h
  have G := ok_given (P := P) (w := w) (base := base) T
  obtain ⟨Ech, Q0, h1, h2, h3⟩ := h
  have hrm : ∀ (env : Env) (v : Option Value), env = envOfC "_law_try" (defScope s_l_try) s.heap.objs.size T.a_l_try cdv → L2H.RoomH 1 ((A0.deeper env).mark v) := fun env v e => by
    subst e
    have r := L2H.roomH_of hr
    exact ⟨by have := r.dp; show (A0.deeper (envOfC "_law_try" (defScope s_l_try) s.heap.objs.size T.a_l_try cdv)).depth + 3 * 1 + 5 < _; omega, by have := r.un; show (A0.deeper (envOfC "_law_try" (defScope s_l_try) s.heap.objs.size T.a_l_try cdv)).units + 16 * 1 + 200 < _; omega⟩
  refine ⟨_, pss_cons (ps_try_two (X := (cxOf C8.CX0 P w K mg base ["_law_ask", "_law_found", "_law_e"] "_law_try" (defScope s_l_try) T.a_l_try cdv A0 st s H C8.E0).nox) (i := 2) (tb := fun W D σ H => ∃ (Ec : XK) (Q1 : VK), (∀ cls d σ' H', Ec cls d H' → W cls d σ' H') ∧ σ[0]? = some (some (.ref f)) ∧ tl Ec H Q1 ∧
      ∀ v H2, Q1 v H2 → ∀ p, H2 p = none → D.nx (σ.set 1 (some (.ref p))) (upd H2 p (.tup [.str "value", v])))
      rfl rfl sc_l_try.nd rfl rfl (by rfl) T.gBE (by rfl) T.gMS (by decide) (by decide) (fun W pn xe tk _ => ⟨fun pins s' σ H' D I h' => ?_⟩)
      (fun a pn => pss_one (ps_set (i := 1) sc_l_try.nd rfl (Or.inl rfl) (by exact (pe_tup (X := ((cxOf C8.CX0 P w K mg base ["_law_ask", "_law_found", "_law_e"] "_law_try" (defScope s_l_try) T.a_l_try cdv A0 st s H C8.E0).nox).suite a pn) (pa_cons (pe_xz_K (X := ((cxOf C8.CX0 P w K mg base ["_law_ask", "_law_found", "_law_e"] "_law_try" (defScope s_l_try) T.a_l_try cdv A0 st s H C8.E0).nox).suite a pn) (K := K) rfl (pv 2)) (pa_cons (pe_callU (X := ((cxOf C8.CX0 P w K mg base ["_law_ask", "_law_found", "_law_e"] "_law_try" (defScope s_l_try) T.a_l_try cdv A0 st s H C8.E0).nox).suite a pn) G (hrm _ _ rfl) (by rfl) T.d_l_given.g T.d_l_given.kp T.d_l_given.b (pa_cons (pv 2) pa_nil)) pa_nil)))))))
    (pss_one (ps_ret (pv 1))), ?_⟩
  · obtain ⟨Ec, Q1, hW, k1, k3, k4⟩ := h'
    exact (pss_one (ps_set (i := 1) sc_l_try.nd rfl (Or.inl rfl) (pe_tup (pa_cons pe_str (pa_cons (pe_weak (act W pn xe Ec _ _ tk hW)) pa_nil))))).run pins s' σ H' D I
      ⟨Q1, ⟨k1, k3⟩, fun v H2 z => ⟨(by show 2 ≤ sizeLine; decide), fun p np => k4 v H2 z p np⟩⟩
  · refine ⟨Ech, Q0, fun cls d σ' H' he => ?_, rfl, h1, fun v H2 z p np => ⟨_, rfl, h3 v H2 z p np⟩⟩
    obtain ⟨C, dd, nm, f', v, rfl, rfl, ed, er, hp, k⟩ := h2 cls d H' he
    refine ⟨er.ex, fun a na hl => ?_⟩
    have nda : dd ≠ a := ne_of_none ed na
    match σ', hl with
    | [x, y, z], _ =>
      refine ⟨_, rfl, a, C, dd, _, _, rfl, upd_same, er.x, er.n1, (upd_ne nda).trans ed, rfl, _, rfl, a, C, dd, nm, f', v, rfl, upd_same, (upd_ne nda).trans ed, er, hp, fun H3 s3 => ⟨(by show 2 ≤ sizeLine; decide), fun p np => ?_⟩⟩
      exact ⟨_, rfl, k _ p ((same_new na).trans (s3.trans (same_new np))) upd_same⟩
end
end Bh

set_option Elab.async false
set_option linter.all false
set_option maxRecDepth 100000
set_option maxHeartbeats 1000000
set_option autoImplicit false
namespace Bh
open PySem PySem.Spec PyProof.Rows L2
/-- the data of a network: its cells with their kinds, its ties -/
def dNet (cs : List Cl) (ts : List Ti) : PyData := .tuple [.list (cs.map dCell), .list (ts.map dTi)]
theorem dnet_at {K : PySem.W.Frag} {H : Hp} {v : V} {cs : List Cl} {ts : List Ti} (h : Dp K H v (dNet cs ts)) : ∃ (a p1 p2 : Addr) (xs ys : List V), v = .ref a ∧ SqT K H a [.ref p1, .ref p2] ∧ SqL K H p1 xs ∧ DpAll K H xs (cs.map dCell) ∧ SqL K H p2 ys ∧ DpAll K H ys (ts.map dTi) := by
  obtain ⟨a, zs, rfl, h1, h2⟩ := dp_tup h
  cases h2 with
  | cons e1 r =>
    cases r with
    | cons e2 r =>
      cases r
      cases e1 with
      | lst a1 b1 =>
        cases e2 with
        | lst a2 b2 => exact ⟨a, _, _, _, _, rfl, h1, a1, b1, a2, b2⟩
def spWeb (K : PySem.W.Frag) (C : Addr) : Sp := fun vs H Q _ => ∃ (v : V) (cs : List Cl) (ts : List Ti), vs = [v] ∧ Dp K H v (dNet cs ts) ∧ CsOk cs ∧ TsOk cs ts ∧ NetNew H C cs ts Q
def spNetOf (K : PySem.W.Frag) (C : Addr) : Sp := fun vs H Q _ => ∃ (x dc dt : Addr) (cs : List Cl) (ts : List Ti), vs = [.ref x] ∧ NetA H C x dc dt cs ts ∧ CsOk cs ∧ ∀ (H' : Hp) (v : V), Same H H' → Dp K H' v (dNet cs ts) → Q v H'
section
variable {P : Program} {w : World} {K : PySem.W.Frag} {mg : Str → Option Value} {base : Heap} {R : NtC K mg}
theorem ok_web (T : Top K mg) (M : NtM K mg R) : FnOk P w K mg base CX0 8 T.a_l_web T.fd_l_web ["_law_net"] (spWeb K R.C) := by
  have G_Network := ok_mnetinit (P := P) (w := w) (base := base) T M
  refine T.d_l_web.F.ok sc_l_web (fun vs H Q E h => ?_) (fun cdv A outer s H vs Q E hr h => ?_)
  · obtain ⟨v, cs, ts, rfl, _⟩ := h
    rfl
  obtain ⟨v, cs, ts, rfl, hv, okc, okt, q⟩ := h
  obtain ⟨a, p1, p2, xs, ys, rfl, h1, h2, h3, h4, h5⟩ := dnet_at hv
  refine ⟨_, (pss_one (ps_ret (pe_makeK0 M.mkr G_Network (hr.mono (by decide)) (by rfl) R.g (kb_cells_ties M) pass0 (pk_cons (pe_ix (ix_tup_K (K := K) (by rfl)) (pv 0) pe_int (fun _ _ => rfl)) (pk_cons (pe_ix (ix_tup_K (K := K) (by rfl)) (pv 0) pe_int (fun _ _ => rfl)) pk_nil))))), ?_⟩
  refine ⟨_, rfl, a, _, (0 : Int), .ref p1, rfl, rfl, h1, rfl, _, rfl, a, _, (1 : Int), .ref p2, rfl, rfl, h1, rfl, rfl, rfl, fun y dy ny nd ne => ?_⟩
  exact net_made ny nd ne ⟨p1, _, rfl, .inl h2, h3⟩ ⟨p2, _, rfl, .inl h4, h5⟩ okc okt fun H3 ec et s3 nec net na3 => q H3 y ec et ny nec net s3 na3
theorem ok_netof (T : Top K mg) (M : NtM K mg R) : FnOk P w K mg base CX0 5 T.a_l_net_of T.fd_l_net_of ["_law_web_here"] (spNetOf K R.C) := by
  have G_m_cells := ok_mcells (P := P) (w := w) (base := base) T M
  have G_m_ties := ok_mties (P := P) (w := w) (base := base) T M
  have G_m_getitem := ok_mgetitem (P := P) (w := w) (base := base) T M
  refine T.d_l_net_of.F.ok sc_l_net_of (fun vs H Q E h => ?_) (fun cdv A outer s H vs Q E hr h => ?_)
  · obtain ⟨x, dc, dt, cs, ts, rfl, _⟩ := h
    rfl
  obtain ⟨x, dc, dt, cs, ts, rfl, na, okc, q⟩ := h
  obtain ⟨dx, h0, h1, h2⟩ := id na
  refine ⟨_, (pss_one (ps_ret (pe_tup (pa_cons (pe_lc (own := [("_law_cell", 1)]) rfl sc_l_net_of.nd (pi_list_K (K := K) (by rfl) (pe_meth0 (pv 0) R.cl M.cells.M G_m_cells (hr.mono (by decide)) M.cells.b .nil pass0)) (blkOk_by (own := [("_law_cell", 1)]) (N := ["_law_web_here", "_law_cell"]) (sc := defScope s_l_net_of) (by decide +kernel)) (fun _ _ _ _ _ => by exact (pg_name (i := 1) sc_l_net_of.nd rfl (Or.inl rfl))) (fun _ _ _ _ _ => by exact pts_nil) (fun _ _ _ _ _ => by exact (pe_tup (pa_cons (pv 1) (pa_cons (ix_ins G_m_getitem M.getitem.M.at_ M.getitem.M.fn M.gi M.getitem.b pass0 (hr.mono (by decide)) (pv 0) (pv 1) (fun _ _ => by with_unfolding_all rfl)) pa_nil))))) (pa_cons (pe_meth0 (pv 0) R.cl M.ties.M G_m_ties (hr.mono (by decide)) M.ties.b .nil pass0) pa_nil))))), ?_⟩
  refine tup_step (cons_step ?_)
  refine ⟨_, rfl, x, dx, _, rfl, h0, rfl, x, dc, dt, cs, ts, rfl, na, fun pl npl => ⟨pl, rfl, ⟨_, SqL.of upd_same⟩, fun D nD => ?_⟩⟩
  have s1 : Same H (upd H pl (.lst (cs.map fun c => .str c.1))) := same_new npl
  refine lc_it walk_list (fun i H' => ∃ zs, Same (upd H pl (.lst (cs.map fun c => .str c.1))) H' ∧ H' D = some (.lst zs) ∧ zs.length ≤ i ∧ DpAll K H' zs ((cs.take i).map dCell)) ⟨[], same_new nD, upd_same, Nat.le_refl _, .nil⟩ (fun i H' _ ⟨_, s, _⟩ => SqL.of (s _ _ upd_same)) ?_ ?_
  · rintro i z H' H'' hi ⟨zs, s3, hD, lz, dz⟩ ⟨rfl, ez⟩
    rw [List.getElem?_map] at ez
    obtain ⟨d, hd, rfl⟩ := Option.map_eq_some_iff.mp ez
    have na3 := na.mono (s1.trans s3)
    obtain ⟨dy3, b0, b1, b2⟩ := id na3
    have lf : zs.length < sizeLine := lt_line (by
      have := okc.few
      rw [List.length_map] at hi
      omega)
    refine ⟨rfl, _, rfl, _, rfl, _, rfl, x, dy3, _, rfl, b0, x, dc, dt, cs, ts, d.1, d.2, rfl, na3, kind_nodup okc.nd (List.mem_of_getElem? hd), (by show 2 ≤ sizeLine; decide), fun tp ntp => ?_⟩
    have sT : Same H'' (upd H'' tp (.tup [.str d.1, .str d.2])) := same_new ntp
    have hD2 := sT _ _ hD
    refine ⟨zs, hD2, lf, zs ++ [.ref tp], same_mut (s3.trans sT) nD, upd_same, by rw [List.length_append]; exact Nat.add_le_add_right lz 1, ?_⟩
    rw [take_next hd, List.map_append]
    exact DpAll.append (DpAll.imm (imm_upd hD2) (noLs_map (fun _ => rfl) _) (DpAll.mono sT dz)) (.cons (.tup ((imm_upd hD2).tup (SqT.of upd_same)) (strs_dp [d.1, d.2])) .nil)
  · rintro H' ⟨zs, s3, hD, lz, dz⟩
    rw [List.length_map, List.take_length] at dz
    have na3 := na.mono (s1.trans s3)
    obtain ⟨dy3, b0, b1, b2⟩ := id na3
    refine cons_step ?_
    refine ⟨_, rfl, x, dy3, _, rfl, b0, rfl, x, dc, dt, cs, ts, rfl, na3, fun pt H4 ys npt s4 hpt tys => ⟨(by show 2 ≤ sizeLine; decide), fun t nt => ?_⟩⟩
    have sT : Same H4 (upd H4 t (.tup [.ref D, .ref pt])) := same_new nt
    refine q _ _ (s1.trans (s3.trans (s4.trans sT))) (.tup (SqT.of upd_same) (.cons (.lst (SqL.of (sT _ _ (s4 _ _ hD))) (DpAll.mono (s4.trans sT) dz)) (.cons (.lst (SqL.of (sT _ _ hpt)) (DpAll.mono sT (tia_dp tys))) .nil)))
theorem strs_perm : ∀ {ys : List V} {ns : List Str}, ys.Perm (ns.map V.str) → ∃ zs : List Str, zs.Perm ns ∧ ys = zs.map V.str := fun {ys ns} pm => by
  have all : ∀ y ∈ ys, ∃ z, y = V.str z := fun y hy => by
    obtain ⟨z, _, e⟩ := List.mem_map.mp (pm.mem_iff.mp hy)
    exact ⟨z, e.symm⟩
  have ex : ∀ l : List V, (∀ y ∈ l, ∃ z, y = V.str z) → ∃ zs : List Str, l = zs.map V.str := fun l => by
    induction l with
    | nil => exact fun _ => ⟨[], rfl⟩
    | cons a l ih =>
      intro h
      obtain ⟨z, rfl⟩ := h a List.mem_cons_self
      obtain ⟨zs, rfl⟩ := ih fun y hy => h y (List.mem_cons_of_mem _ hy)
      exact ⟨z :: zs, rfl⟩
  obtain ⟨zs, rfl⟩ := ex ys all
  refine ⟨zs, ?_, rfl⟩
  have pm2 := pm.map fun v => match v with
    | .str z => z
    | _ => ("" : Str)
  rw [List.map_map, List.map_map] at pm2
  have id1 : ∀ l : List Str, l.map ((fun v : V => match v with
    | .str z => z
    | _ => ("" : Str)) ∘ V.str) = l := fun l => by
    induction l with
    | nil => rfl
    | cons a l ih => rw [List.map_cons, ih]; rfl
  rw [id1, id1] at pm2
  exact pm2
/-- a drawn web: new lists -/
def WebAt (K : PySem.W.Frag) (H : Hp) (v : V) (cs : List Cl) (ts : List Ti) : Prop := ∃ (a p1 p2 : Addr) (xs ys : List V), v = .ref a ∧ H a = some (.tup [.ref p1, .ref p2]) ∧ H p1 = some (.lst xs) ∧ DpAll K H xs (cs.map dCell) ∧ H p2 = some (.lst ys) ∧ DpAll K H ys (ts.map dTi)
theorem WebAt.mono {K : PySem.W.Frag} {H H' : Hp} {v : V} {cs : List Cl} {ts : List Ti} (s : Same H H') (h : WebAt K H v cs ts) : WebAt K H' v cs ts := by
  obtain ⟨a, p1, p2, xs, ys, rfl, h0, h1, d1, h2, d2⟩ := h
  exact ⟨a, p1, p2, xs, ys, rfl, s _ _ h0, s _ _ h1, DpAll.mono s d1, s _ _ h2, DpAll.mono s d2⟩
theorem WebAt.dp {K : PySem.W.Frag} {H : Hp} {v : V} {cs : List Cl} {ts : List Ti} (h : WebAt K H v cs ts) : Dp K H v (dNet cs ts) := by
  obtain ⟨a, p1, p2, xs, ys, rfl, h0, h1, d1, h2, d2⟩ := h
  exact .tup (SqT.of h0) (.cons (.lst (SqL.of h1) d1) (.cons (.lst (SqL.of h2) d2) .nil))
def spDrawnWeb (K : PySem.W.Frag) : Sp := fun vs H Q _ => ∃ (b l pn pw : Addr) (G : Hp) (ns ws : List Str), vs = [.ref b, .ref pn, .ref pw] ∧ Wd b l G H ∧ G pn = some (.lst (ns.map V.str)) ∧ ns.length = 6 ∧ ns.Nodup ∧ (∀ n ∈ ns, NmOk n) ∧
  G pw = some (.lst (ws.map V.str)) ∧ ws ≠ [] ∧ ws.length ≤ 2 ∧ (∀ k ∈ ws, KdOk k) ∧
  ∀ (G' H' : Hp) (v : V) (cs : List Cl) (ts : List Ti), Same G G' → Wd b l G' H' → WebAt K G' v cs ts → CsOk cs → TsOk cs ts → (∀ c ∈ cs, c.1 ∈ ns) → (∀ t ∈ ts, t.1 ∈ (["t", "link"] : List Str)) → cs.length ≤ 6 → ts.length ≤ 6 → (∀ c ∈ cs, c.2 ∈ ws) → Q v H'
theorem ok_drawnweb (T : Top K mg) : FnOk P w K mg base CX0 5 T.a_l_drawn_web T.fd_l_drawn_web ["_law_bag_here", "_law_names", "_law_words_here"] (spDrawnWeb K) := by
  have G_l_draw := ok_draw (P := P) (w := w) (base := base) T
  have G_l_any := ok_any (P := P) (w := w) (base := base) T
  have G_l_mixed := ok_mixed (P := P) (w := w) (base := base) T
  refine T.d_l_drawn_web.F.ok sc_l_drawn_web (fun vs H Q E h => ?_) (fun cdv A outer s H vs Q E hr h => ?_)
  · obtain ⟨b, l, pn, pw, G, ns, ws, rfl, _⟩ := h
    rfl
  obtain ⟨b, l, pn, pw, G, ns, ws, rfl, wd, hn, ln, nd, nm, hw, w0, lw, kd, q⟩ := h
  refine ⟨_, (pss_cons (ps_set (i := 3) sc_l_drawn_web.nd rfl (Or.inl rfl) (pe_slice (sl_list_K (K := K) (by rfl)) (pe_call G_l_mixed (hr.mono (by decide)) (by rfl) T.d_l_mixed.g T.d_l_mixed.kp T.d_l_mixed.b .nil pass0 (pa_cons (pv 0) (pa_cons (pv 1) pa_nil))) po_none (po_some (pe_call G_l_draw (hr.mono (by decide)) (by rfl) T.d_l_draw.g T.d_l_draw.kp T.d_l_draw.b .nil pass0 (pa_cons (pv 0) (pa_cons (pe_op op_add (pe_callB (call_len_seq_K (K := K) (by rfl)) (by rfl) T.b_len PySem.boot_len (pa_cons (pv 1) pa_nil)) pe_int) pa_nil))))))
    (pss_cons (ps_setLc (i := 4) (own := [("_law_name", 8)]) rfl sc_l_drawn_web.nd rfl rfl (sw_true rfl rfl rfl (by decide +kernel)) (pi_list_K (K := K) (by rfl) (pv 3)) (blkOk_by (own := [("_law_name", 8)]) (N := ["_law_bag_here", "_law_names", "_law_words_here", "_law_chosen", "_law_cells_z", "_law_ties_z", "_law_k", "_law_row", "_law_name"]) (sc := defScope s_l_drawn_web) (by decide +kernel)) (fun _ _ _ _ _ => by exact (pg_name (i := 8) sc_l_drawn_web.nd rfl (Or.inl rfl))) (fun _ _ _ _ _ => by exact pts_nil) (fun _ _ _ _ _ => by exact (pe_tup (pa_cons (pv 8) (pa_cons (pe_call G_l_any (hr.mono (by decide)) (by rfl) T.d_l_any.g T.d_l_any.kp T.d_l_any.b .nil pass0 (pa_cons (pv 0) (pa_cons (pv 2) pa_nil))) pa_nil)))))
    (pss_cons (ps_set (i := 5) sc_l_drawn_web.nd rfl (Or.inl rfl) (pe_lst pa_nil))
    (pss_cons (ps_for PassesOwn.never rfl (pi_range1 rfl T.b_range (pa_cons (pe_op op_mul (pe_call G_l_draw (hr.mono (by decide)) (by rfl) T.d_l_draw.g T.d_l_draw.kp T.d_l_draw.b .nil pass0 (pa_cons (pv 0) (pa_cons pe_int pa_nil))) (pe_callTy call_int1 (by rfl) T.b_int (by decide +kernel) (pa_cons (pe_cmpR (op_neP (K := K) (by rfl) hr.units) (pv 3) (pe_lst pa_nil) (nomark _)) pa_nil))) pa_nil)) (pg_name (i := 6) sc_l_drawn_web.nd rfl (Or.inl rfl))
      (pss_cons (ps_set (i := 7) sc_l_drawn_web.nd rfl (Or.inl rfl) (pe_tup (pa_cons (pe_call G_l_any (hr.mono (by decide)) (by rfl) T.d_l_any.g T.d_l_any.kp T.d_l_any.b .nil pass0 (pa_cons (pv 0) (pa_cons (pe_lst (pa_cons pe_str (pa_cons pe_str pa_nil))) pa_nil))) (pa_cons (pe_call G_l_any (hr.mono (by decide)) (by rfl) T.d_l_any.g T.d_l_any.kp T.d_l_any.b .nil pass0 (pa_cons (pv 0) (pa_cons (pv 3) pa_nil))) (pa_cons (pe_call G_l_any (hr.mono (by decide)) (by rfl) T.d_l_any.g T.d_l_any.kp T.d_l_any.b .nil pass0 (pa_cons (pv 0) (pa_cons (pv 3) pa_nil))) pa_nil)))))
      (pss_one (ps_set (i := 5) sc_l_drawn_web.nd rfl (Or.inl rfl) (pe_op op_cat (pv 5) (pe_op op_rep (pe_lst (pa_cons (pv 7) pa_nil)) (pe_callTy call_int1 (by rfl) T.b_int (by decide +kernel) (pa_cons (pe_cmpR (op_notInDK (K := K) (by rfl) (r65 hr)) (pv 7) (pv 5) (by rfl)) pa_nil))))))))
    (pss_one (ps_ret (pe_tup (pa_cons (pv 4) (pa_cons (pv 5) pa_nil))))))))), ?_⟩
  refine ⟨_, rfl, _, rfl, b, l, pn, G, ns.map V.str, rfl, SqL.of hn, by rw [List.length_map]; omega, wd, fun G1 H1 p1 ys s1 w1 hp1 pm => ?_⟩
  obtain ⟨zs, pz, rfl⟩ := strs_perm pm
  have lz : zs.length = 6 := by rw [pz.length_eq, ln]
  refine ⟨_, rfl, _, rfl, pn, _, rfl, .inl (SqL.of (w1.sm _ _ (s1 _ _ hn))), _, _, rfl, rfl, b, l, G1, _, rfl, by rw [List.length_map]; omega, by rw [List.length_map]; omega, w1, fun r H2 r0 r1 w2 => ?_⟩
  refine ⟨_, rfl, p1, _, rfl, SqL.of (w2.sm _ _ hp1), fun c nc => ?_⟩
  rw [cutV_take _ (by omega), ← List.map_take]
  have w3 := w2.new (o := .lst ((zs.take r.toNat).map V.str)) nc
  have s3 := s1.trans (w2.sameG (o := .lst ((zs.take r.toNat).map V.str)) nc)
  have ndz : (zs.take r.toNat).Nodup := ((pz.nodup_iff.mpr nd)).sublist (List.take_sublist _ _)
  have mz : ∀ n ∈ zs.take r.toNat, n ∈ ns := fun n hn => pz.mem_iff.mp (List.mem_of_mem_take hn)
  have lt6 : (zs.take r.toNat).length ≤ 6 := by rw [List.length_take]; omega
  generalize eU : zs.take r.toNat = us at w3 s3 ndz mz lt6
  have hc := upd_same (H := G1) (a := c) (o := .lst (us.map V.str))
  generalize eG : upd G1 c (.lst (us.map V.str)) = G3 at w3 s3 hc
  generalize upd H2 c (.lst (us.map V.str)) = H3 at w3
  refine gn_step ?_
  refine ⟨_, rfl, c, rfl, ⟨_, SqL.of (w3.sm _ _ hc)⟩, fun D nD => ?_⟩
  have gD := w3.free nD
  refine lc_it walk_list (fun i H' => ∃ (G' : Hp) (cs : List Cl) (vs : List V), Same G3 G' ∧ Wd b l G' H' ∧ G' D = some (.lst vs) ∧ DpAll K G' vs (cs.map dCell) ∧ cs.map (·.1) = us.take i ∧ ∀ k ∈ cs, k.2 ∈ ws)
    ⟨_, [], [], w3.sameG nD, w3.new nD, upd_same, .nil, rfl, (fun k hk => nomatch hk)⟩ (fun i H' _ ⟨G', _, _, sg, w4, _⟩ => SqL.of (w4.sm _ _ (sg _ _ hc))) ?_ ?_
  · rintro i x H' H'' hi ⟨G', cs, vs, sg, w4, hD, hK, ek, hk⟩ ⟨rfl, ex⟩
    rw [List.getElem?_map] at ex
    obtain ⟨n, hn', rfl⟩ := Option.map_eq_some_iff.mp ex
    have hw4 := (s3.trans sg) _ _ hw
    have lcs : vs.length ≤ 6 := by
      have := DpAll.length hK
      rw [List.length_map] at this
      have e2 : cs.length = (us.take i).length := by rw [← ek, List.length_map]
      rw [List.length_take] at e2
      omega
    refine ⟨rfl, _, rfl, _, rfl, _, rfl, b, l, pw, G', ws.map V.str, rfl, .inl (SqL.of hw4), (by simpa using w0), by rw [List.length_map]; omega, w4, fun v H5 hv w5 => ⟨(by show 2 ≤ sizeLine; decide), fun tp ntp => ?_⟩⟩
    obtain ⟨k, hkw, rfl⟩ := List.mem_map.mp hv
    have w6 := w5.new (o := .tup [.str n, .str k]) ntp
    have s6 := w5.sameG (o := .tup [.str n, .str k]) ntp
    have hD6 := s6 _ _ hD
    refine ⟨vs, w6.sm _ _ hD6, lt_line (by omega), _, cs ++ [(n, k)], vs ++ [.ref tp], same_mut (sg.trans s6) gD, w6.mut hD6, upd_same, ?_, ?_, ?_⟩
    · rw [List.map_append]
      exact DpAll.append (DpAll.imm (imm_upd hD6) (noLs_map (fun _ => rfl) _) (DpAll.mono s6 hK)) (.cons (.tup ((imm_upd hD6).tup (SqT.of upd_same)) (strs_dp [n, k])) .nil)
    · rw [List.map_append, ek, take_next hn']
      rfl
    · intro d hd
      rcases List.mem_append.mp hd with h | h
      · exact hk d h
      · have e : d = (n, k) := by simpa using h
        rw [e]
        exact hkw
  · rintro H' ⟨G', cs, vs, sg, w4, hD, hK, ek, hk⟩
    rw [List.length_map, List.take_length] at ek
    have lcs : cs.length = us.length := by rw [← ek, List.length_map]
    have okc : CsOk cs := ⟨by rw [ek]; exact ndz, fun d hd => ⟨nm _ (mz _ (by rw [← ek]; exact List.mem_map.mpr ⟨d, hd, rfl⟩)), kd _ (hk d hd)⟩, by omega⟩
    refine gn_step ?_
    refine ⟨Nat.zero_le _, fun pt npt => ?_⟩
    have w5 := w4.new (o := .lst []) npt
    have s5 := w4.sameG (o := .lst []) npt
    refine ⟨_, rfl, b, l, _, 7, rfl, by decide, by decide, w5, fun r2 H5 y0 y1 w6 => ?_⟩
    refine ⟨_, rfl, Nat.zero_le _, fun pz npz => ?_⟩
    have w7 := w6.new (o := .lst []) npz
    have s7 := w6.sameG (o := .lst []) npz
    have hc7 := s7 _ _ (s5 _ _ (sg _ _ hc))
    have hD7 := s7 _ _ (s5 _ _ hD)
    have hK7 := DpAll.mono (s5.trans s7) hK
    have hp7 := s7 _ _ (show upd G' pt (.lst []) pt = some (.lst []) from upd_same)
    have sA := s3.trans (sg.trans (s5.trans s7))
    generalize eGA : upd (upd G' pt (.lst [])) pz (.lst []) = GA at w7 hc7 hD7 hK7 hp7 sA
    refine ⟨.list (us.map PyData.str), .list [], .lst (SqL.of (w7.sm _ _ hc7)) (strs_dp us), .lst (SqL.of upd_same) .nil, Nat.le_trans (Nat.min_le_right _ _) (by decide), .inr ⟨_, rfl, ?_⟩⟩
    rw [eqv_nil]
    obtain ⟨m, hm, m01⟩ : ∃ m : Int, (if (!decide (us.map PyData.str = [])) = true then (1 : Int) else 0) = m ∧ (m = 0 ∨ (m = 1 ∧ us ≠ [])) := by
      by_cases z : us = []
      · exact ⟨0, by rw [z]; rfl, .inl rfl⟩
      · refine ⟨1, ?_, .inr ⟨rfl, z⟩⟩
        rw [decide_eq_false (by simpa using z)]
        rfl
    rw [hm]
    have rm : r2 * m = 0 ∨ (r2 * m = r2 ∧ us ≠ []) := by
      rcases m01 with z | ⟨z, ne⟩
      · left; rw [z, Int.mul_zero]
      · right; exact ⟨by rw [z, Int.mul_one], ne⟩
    refine ⟨_, _, rfl, rfl, .inl ⟨by omega, by omega⟩, _, rfl, ?_, ?_, ?_⟩
    · rcases rm with z | ⟨z, _⟩ <;> rw [z] <;> omega
    · rcases rm with z | ⟨z, _⟩ <;> rw [z] <;> omega
    generalize r2 * m = rr at rm
    refine for_it walk_range (fun i σ H' => ∃ (v6 v7 : Option V) (pt' : Addr) (G5 : Hp) (ts : List Ti) (ys : List V), σ = [some (.ref b), some (.ref pn), some (.ref pw), some (.ref c), some (.ref D), some (.ref pt'), v6, v7, none] ∧ Same GA G5 ∧ Wd b l G5 H' ∧ G5 pt' = some (.lst ys) ∧ DpAll K G5 ys (ts.map dTi) ∧ TsOk cs ts ∧ ts.length ≤ i ∧ ∀ t ∈ ts, t.1 ∈ (["t", "link"] : List Str))
      ⟨none, none, pt, GA, [], [], rfl, Same.refl _, w7, hp7, .nil, ⟨.nil, (fun t ht => nomatch ht), Nat.zero_le _⟩, Nat.le_refl _, (fun t ht => nomatch ht)⟩ (fun _ _ _ _ _ => True.intro) ?_ ?_
    · rintro i v σ H' H'' hi ⟨v6, v7, pt', G5, ts, ys, rfl, s8, w8, hp, hT, okt, lt, tl⟩ ⟨rfl, rfl⟩
      have u0 : us ≠ [] := by
        rcases rm with z | ⟨_, z⟩
        · omega
        · exact z
      have li7 : i < 6 := by omega
      have hc8 := s8 _ _ hc7
      refine gn_step ?_
      dsimp only [List.set]
      refine ⟨_, rfl, (by show 2 ≤ sizeLine; decide), fun pl npl => ?_⟩
      have w9 := w8.new (o := .lst ((["t", "link"] : List Str).map V.str)) npl
      have s9 := w8.sameG (o := .lst ((["t", "link"] : List Str).map V.str)) npl
      refine ⟨b, l, pl, _, (["t", "link"] : List Str).map V.str, rfl, .inl (SqL.of upd_same), (fun z => by cases z), by decide, w9, fun x1 H1 hx1 w10 => ?_⟩
      have hc9 := s9 _ _ hc8
      refine ⟨_, rfl, _, rfl, b, l, c, _, us.map V.str, rfl, .inl (SqL.of hc9), (by simpa using u0), by rw [List.length_map]; omega, w10, fun x2 H2 hx2 w11 => ?_⟩
      refine ⟨_, rfl, _, rfl, b, l, c, _, us.map V.str, rfl, .inl (SqL.of hc9), (by simpa using u0), by rw [List.length_map]; omega, w11, fun x3 H3 hx3 w12 => ⟨(by show 3 ≤ sizeLine; decide), fun tr ntr => ?_⟩⟩
      obtain ⟨t1, ht1, rfl⟩ := List.mem_map.mp hx1
      obtain ⟨t2, ht2, rfl⟩ := List.mem_map.mp hx2
      obtain ⟨t3, ht3, rfl⟩ := List.mem_map.mp hx3
      have w13 := w12.new (o := .tup [.str t1, .str t2, .str t3]) ntr
      have s13 := s9.trans (w12.sameG (o := .tup [.str t1, .str t2, .str t3]) ntr)
      have htr := upd_same (H := upd G5 pl (.lst ((["t", "link"] : List Str).map V.str))) (a := tr) (o := .tup [.str t1, .str t2, .str t3])
      generalize upd (upd G5 pl (.lst ((["t", "link"] : List Str).map V.str))) tr (.tup [.str t1, .str t2, .str t3]) = GB at w13 s13 htr
      generalize upd H3 tr (.tup [.str t1, .str t2, .str t3]) = HB at w13
      have nmT : ∀ z ∈ (["t", "link"] : List Str), NmOk z := by
        have h : ∀ z ∈ (["t", "link"] : List Str), wordB z letters = true ∧ z.length ≤ 1000 := by decide +kernel
        exact h
      have ok1 := nmT t1 ht1
      have m2 : t2 ∈ cs.map (·.1) := by rw [ek]; exact ht2
      have m3 : t3 ∈ cs.map (·.1) := by rw [ek]; exact ht3
      have ok2 := name_ok okc m2
      have ok3 := name_ok okc m3
      have hpB := s13 _ _ hp
      have hTB := DpAll.mono s13 hT
      have tsn : ∀ u ∈ ts, NmOk u.1 ∧ NmOk u.2.1 ∧ NmOk u.2.2 := fun u hu => ⟨(okt.nm u hu).1, name_ok okc (okt.nm u hu).2.1, name_ok okc (okt.nm u hu).2.2⟩
      have lys : ys.length = ts.length := by rw [DpAll.length hT, List.length_map]
      refine gn_step ?_
      dsimp only [List.set]
      refine ⟨_, rfl, _, rfl, (by show 1 ≤ sizeLine; decide), fun pr npr => ?_⟩
      have w14 := w13.new (o := .lst [.ref tr]) npr
      have s14 := w13.sameG (o := .lst [.ref tr]) npr
      refine ⟨_, rfl, _, rfl, dTi (t1, t2, t3), ts.map dTi, .tup (SqT.of (w14.sm _ _ (s14 _ _ htr))) (strs_dp [t1, t2, t3]), .lst (SqL.of (w14.sm _ _ (s14 _ _ hpB))) (DpAll.mono (s14.trans w14.sm) hTB), shaped_ti ok1 ok2 ok3, shaped_tis tsn, .inr ⟨_, rfl, ?_⟩⟩
      rw [any_ti]
      by_cases mt : (t1, t2, t3) ∈ ts
      · rw [decide_eq_true mt]
        refine ⟨pr, 0, _, rfl, rfl, upd_same, by decide, by decide, (by rw [List.length_singleton]; decide), fun p2 np2 => ?_⟩
        have w15 := w14.new (o := .lst []) np2
        have s15 := s14.trans (w14.sameG (o := .lst []) np2)
        refine ⟨pt', p2, ys, [], rfl, rfl, w15.sm _ _ (s15 _ _ hpB), upd_same, le_line (by rw [List.length_nil]; omega), fun p3 np3 => ?_⟩
        have w16 := w15.new (o := .lst (ys ++ [])) np3
        have s16 := s15.trans (w15.sameG (o := .lst (ys ++ [])) np3)
        refine ⟨_, _, p3, _, ts, ys, rfl, s8.trans (s13.trans s16), w16, ?_, DpAll.mono s16 hTB, okt, Nat.le_succ_of_le lt, tl⟩
        rw [upd_same, List.append_nil]
      · rw [decide_eq_false mt]
        refine ⟨pr, 1, _, rfl, rfl, upd_same, by decide, by decide, (by rw [List.length_singleton]; decide), fun p2 np2 => ?_⟩
        have w15 := w14.new (o := .lst [.ref tr]) np2
        have s15 := s14.trans (w14.sameG (o := .lst [.ref tr]) np2)
        refine ⟨pt', p2, ys, [.ref tr], rfl, rfl, w15.sm _ _ (s15 _ _ hpB), upd_same, le_line (by rw [List.length_singleton]; omega), fun p3 np3 => ?_⟩
        have w16 := w15.new (o := .lst (ys ++ [.ref tr])) np3
        have s16 := s15.trans (w15.sameG (o := .lst (ys ++ [.ref tr])) np3)
        refine ⟨_, _, p3, _, ts ++ [(t1, t2, t3)], ys ++ [.ref tr], rfl, s8.trans (s13.trans s16), w16, upd_same, ?_, ⟨?_, fun u hu => ?_, by rw [List.length_append, List.length_singleton]; omega⟩, by rw [List.length_append]; exact Nat.succ_le_succ lt, fun u hu => ?_⟩
        · rw [List.map_append]
          exact DpAll.append (DpAll.mono s16 hTB) (.cons (.tup (SqT.of (s16 _ _ htr)) (strs_dp [t1, t2, t3])) .nil)
        · rw [List.nodup_append]
          refine ⟨okt.nd, by simp, fun a ha b hb => ?_⟩
          have e : b = (t1, t2, t3) := by simpa using hb
          rw [e]
          exact fun z => mt (z ▸ ha)
        · rcases List.mem_append.mp hu with h | h
          · exact okt.nm u h
          · have e : u = (t1, t2, t3) := by simpa using h
            rw [e]
            exact ⟨ok1, m2, m3⟩
        · rcases List.mem_append.mp hu with h | h
          · exact tl u h
          · have e : u = (t1, t2, t3) := by simpa using h
            rw [e]
            exact ht1
    · rintro σ H' ⟨v6, v7, pt', G5, ts, ys, rfl, s8, w8, hp, hT, okt, lt, tl⟩
      refine ⟨_, rfl, _, rfl, (by show 2 ≤ sizeLine; decide), fun t nt => ?_⟩
      have w9 := w8.new (o := .tup [.ref D, .ref pt']) nt
      have s9 := w8.sameG (o := .tup [.ref D, .ref pt']) nt
      refine q _ _ _ cs ts (sA.trans (s8.trans s9)) w9 ⟨t, D, pt', _, _, rfl, upd_same, s9 _ _ (s8 _ _ hD7), DpAll.mono (s8.trans s9) hK7, s9 _ _ hp, DpAll.mono s9 hT⟩ okc okt (fun d hd => mz _ (by rw [← ek]; exact List.mem_map.mpr ⟨d, hd, rfl⟩)) tl (by omega) ?_ hk
      rcases rm with z | ⟨z, _⟩ <;> omega
end
end Bh

set_option Elab.async false
set_option linter.all false
set_option maxRecDepth 100000
set_option maxHeartbeats 2000000
namespace Bh
open PySem PySem.Spec PySem.Calls PyProof.Rows L2
/-! ### sorted(xs, key=f) where f makes new lists of whole numbers -/
/-- this very object stands at a -/
def FixO (a : Addr) (o : Obj) : HO := .ext fun h => h.get? a = some o
theorem fix_ok {P : Program} {w : World} {H : Hp} {h : Heap} {a : Addr} {o : Obj} (e : h.get? a = some o) : ObjOk P w H h a (FixO a o) := ⟨e, ⟨o, e⟩, fun _ _ x k => k _ x⟩
theorem fix_at {P : Program} {w : World} {H : Hp} {h : Heap} {a : Addr} {o : Obj} (x : HOk P w H h) (e : H a = some (FixO a o)) : h.get? a = some o := (x a _ e).1
abbrev iData (k : List Int) : PyData := .list (k.map PyData.int)
/-- xs by the keys ks -/
def byKeys {α : Type} (xs : List α) (ks : List (List Int)) : List α := ((xs.zip ks).mergeSort (PySem.W.dataLe false fun b : α × List Int => iData b.2)).map (·.1)
section
variable {X : Cx} {pins : List (Addr × Obj)} {σ : L2.St} {H : Hp} {s : Shared}
theorem reads_ints {h : Heap} {its : List Value} {ns : List Int} (rv : Vals (ns.map V.int) its) : ReadsAll h its (ns.map PyData.int) [] := by
  induction ns generalizing its with
  | nil =>
    cases rv
    exact .nil
  | cons n ns ih =>
    cases rv with
    | cons r rv =>
      obtain ⟨t, rfl⟩ := r
      exact .cons (.int _ _) (ih rv)
theorem vals_at {xs : List V} {its : List Value} (rv : Vals xs its) {j : Nat} {u : Value} (e : its[j]? = some u) : ∃ x, xs[j]? = some x ∧ RelV x u := by
  induction rv generalizing j with
  | nil => cases e
  | cons r _ ih =>
    cases j with
    | zero =>
      cases e
      exact ⟨_, rfl, r⟩
    | succ j => exact ih e
theorem gone {h : Heap} {a : Addr} {o : Obj} (e : h.get? a = some o) : (h.update a fun o => { o with data := .freed }).get? a = none := by
  have h1 := ((Heap.get?_eq_some h a _).mp e).1
  cases q : (h.update a fun o => { o with data := .freed }).get? a with
  | none => rfl
  | some o' =>
    obtain ⟨h2, h3⟩ := (Heap.get?_eq_some _ a o').mp q
    rw [Heap.objs_update_self, h1] at h2
    cases h2
    exact absurd h3 (fun z => nomatch (show false = true from z))
theorem vals_each {bs : List (V × List Int)} {vs : List Value} (h : PySem.W.EachIs (fun v (b : V × List Int) => RelV b.1 v) vs bs) : Vals (bs.map (·.1)) vs := by
  induction h with
  | nil => exact .nil
  | cons r _ ih => exact .cons r ih
/-- behind the sort: kS is forgotten, a is a list -/
theorem inv_sorted {H' : Hp} {a kS : Addr} {oa ok : Obj} {s' : Shared} {h' : Heap} {tk : Nat} {xs : List V} {its : List Value} {c : Nat} (I : Inv X pins σ H' s') (ea : H' a = some (FixO a oa)) (ek : H' kS = some (FixO kS ok))
    (fa : FpOk X pins (fun _ => none) a) (fk : FpOk X pins (fun _ => none) kS) (ne : kS ≠ a) (keep : ∀ b o, b ≠ a → b ≠ kS → s'.heap.get? b = some o → h'.get? b = some o)
    (hz : xs.length ≤ sizeLine) (rv : Vals xs its) (ha : h'.get? a = some (seqObj "list" its.toArray c)) :
    Inv X pins σ (fun b => if b = kS then none else upd H' a (.lst xs) b) { s' with heap := h', toks := tk } := by
  obtain ⟨_, a2, a3, a4, a5, a6⟩ := fa
  obtain ⟨_, k2, k3, k4, k5, k6⟩ := fk
  have old : ∀ {b : Addr} {u : HO}, H' b = some u → (∀ o, u ≠ FixO b o) → b ≠ a ∧ b ≠ kS := fun {b u} e n => ⟨fun z => by
    subst z
    rw [ea] at e
    exact n _ (Option.some.inj e).symm, fun z => by
    subst z
    rw [ek] at e
    exact n _ (Option.some.inj e).symm⟩
  have at_ : ∀ {b : Addr} {u : HO}, H' b = some u → (∀ o, u ≠ FixO b o) → (if b = kS then none else upd H' a (.lst xs) b) = some u := fun {b u} e n => by
    obtain ⟨n1, n2⟩ := old e n
    rw [if_neg n2, upd_ne n1]
    exact e
  refine I.call' (s' := { s' with heap := h', toks := tk }) (ch := [a, kS]) rfl ⟨fun b o e n _ hx => ?_, fun b o e n _ hx => ?_, fun b o e n hx => ?_, fun b o e hx => ?_, fun b ys e => ?_, fun b o u e => ?_, fun b ps e => ?_⟩ (fun b u e => ?_) I.bare fun b hb => ?_
  · simp only [List.mem_cons, List.not_mem_nil, or_false, not_or] at hx
    exact keep b o hx.1 hx.2 e
  · simp only [List.mem_cons, List.not_mem_nil, or_false, not_or] at hx
    exact ⟨o.slots, keep b o hx.1 hx.2 e⟩
  · simp only [List.mem_cons, List.not_mem_nil, or_false, not_or] at hx
    rw [if_neg hx.2, upd_ne hx.1]
    exact n
  · simp only [List.mem_cons, List.not_mem_nil, or_false, not_or] at hx
    exact ⟨o, keep b o hx.1 hx.2 e⟩
  · exact at_ e fun o z => by unfold FixO at z; cases z
  · exact at_ e fun o z => by unfold FixO at z; cases z
  · exact ⟨#[], by rw [at_ e fun o z => by unfold FixO at z; cases z]; simp⟩
  · by_cases hk : b = kS
    · rw [if_pos hk] at e
      cases e
    · rw [if_neg hk] at e
      by_cases hb : b = a
      · subst hb
        rw [upd_same] at e
        cases e
        exact ⟨hz, its, c, rv, ha⟩
      · rw [upd_ne hb] at e
        refine (I.hok b u e).stay (fun d v hd q => ?_) (fun d q => at_ q fun o z => by unfold FixO at z; cases z) (fun d ys q => at_ q fun o z => by unfold FixO at z; cases z)
        rcases hd with rfl | hd
        · exact keep _ _ hb hk q
        · obtain ⟨n1, n2⟩ := old hd fun o z => by unfold FixO at z; cases z
          exact keep _ _ n1 n2 q
  · simp only [List.mem_cons, List.not_mem_nil, or_false] at hb
    rcases hb with rfl | rfl
    · exact ⟨a4, a2, a5, a6⟩
    · exact ⟨k4, k2, k5, k6⟩
theorem sorted_lists {Q : VK} {f l : Addr} {xs : List V} {kss : List (List Int)} (I : Inv X pins σ H s) (hs : SqL X.K H l xs) (hl : kss.length = xs.length) (hu : X.A.units + 3 < cLine)
    (turn : ∀ (i : Nat) (x : V) (k : List Int) (s' : Shared) (H' : Hp) (u : Value), xs[i]? = some x → kss[i]? = some k → Same H H' → Inv X pins σ H' s' → RelV x u →
      wpAny (model X.prog X.w) X.A.in1.in1 (call (.ref f) [u]) (EP X pins σ fun y H2 => Same H' H2 ∧ ∃ p, y = .ref p ∧ H2 p = some (.lst (k.map V.int))) (fun _ _ => False) s')
    (q : ∀ p H', Same H H' → H p = none → H' p = some (.lst (byKeys xs kss)) → Q (.ref p) H') :
    wpAny (model X.prog X.w) X.A (call (.builtin "sorted") [.ref l] [(Str.ofString "key", .ref f)]) (EP X pins σ Q) X.xe s := by
  obtain ⟨its, rv, hp, hz⟩ := I.list hs
  have li : its.length = xs.length := rv.length.symm
  have hz' : its.length ≤ sizeLine := by rw [li]; exact hz
  refine PySem.W.sorted_of_sort hp.isList hz' (PyProof.Rows.ksk_s1 _ _) (fun _ => PyProof.Rows.ksk_l1 _ _) fun E' => ?_
  rw [PyProof.Rows.ksk_t1]
  unfold PyProof.Rows.ksk_tree
  have ho := PySem.W.copyHeap_at s.heap its
  obtain ⟨e1, ho1⟩ : ∃ e1, ((PySem.W.copyHeap s.heap its).update (s.heap.objs.size + 1) (Obj.mapSeq fun _ => (#[] : Array Value))).get? (s.heap.objs.size + 1) = some (seqObj "list" #[] e1) := ⟨_, get?_update_seq ho fun _ => #[]⟩
  have keepA : ∀ b o, s.heap.get? b = some o → ((PySem.W.copyHeap s.heap its).update (s.heap.objs.size + 1) (Obj.mapSeq fun _ => (#[] : Array Value))).get? b = some o := fun b o e =>
    ((Heap.SameBut.update _ _ _).2 b (Nat.ne_of_lt (Nat.lt_succ_of_lt (Heap.lt_size e)))).trans (PySem.W.copyHeap_old e)
  refine wpAny_bind (listItems_at ho rfl (wpAny_bind (listUpdate_at ho rfl (wpAny_bind (seqEpoch_at ho1 rfl ?_)) (by rw [List.size_toArray]; exact hz') (Nat.zero_le _))))
  have I1 : Inv X pins σ (upd H (s.heap.objs.size + 1) (FixO (s.heap.objs.size + 1) (seqObj "list" #[] e1))) { s with heap := (PySem.W.copyHeap s.heap its).update (s.heap.objs.size + 1) (Obj.mapSeq fun _ => (#[] : Array Value)) } := I.laid (t' := s.toks) keepA (Nat.le_succ _) (fix_ok ho1)
  have nA : H (s.heap.objs.size + 1) = none := I.hok.fresh (Nat.le_succ _)
  have fa : FpOk X pins (fun _ => none) (s.heap.objs.size + 1) := I.fpOk (Nat.le_succ _) rfl
  have szA : s.heap.objs.size + 1 < ((PySem.W.copyHeap s.heap its).update (s.heap.objs.size + 1) (Obj.mapSeq fun _ => (#[] : Array Value))).objs.size := Heap.lt_size ho1
  generalize s.heap.objs.size + 1 = a at ho ho1 keepA I1 nA fa szA ⊢
  generalize hA : (PySem.W.copyHeap s.heap its).update a (Obj.mapSeq fun _ => (#[] : Array Value)) = hpA at ho1 keepA I1 szA ⊢
  refine wpAny_bind (wpAny_newTuple ?_ (by exact hz'))
  refine wpAny_bind (wpAny_newList ?_ (Nat.zero_le _))
  refine wpAny_holding ?_
  have szK : hpA.objs.size ≤ (hpA.push (seqObj "tuple" its.toArray 0)).objs.size := by rw [size_push']; exact Nat.le_succ _
  have hK : ((hpA.push (seqObj "tuple" its.toArray 0)).push (seqObj "list" #[] 0)).get? (hpA.push (seqObj "tuple" its.toArray 0)).objs.size = some (seqObj "list" #[] 0) := Heap.get?_push_size _ rfl
  have I2 : Inv X pins σ (upd (upd H a (FixO a (seqObj "list" #[] e1))) (hpA.push (seqObj "tuple" its.toArray 0)).objs.size (FixO (hpA.push (seqObj "tuple" its.toArray 0)).objs.size (seqObj "list" #[] 0)))
      { s with heap := (hpA.push (seqObj "tuple" its.toArray 0)).push (seqObj "list" #[] 0) } := I1.laid (t' := s.toks) (fun b o e => Heap.get?_push_of_some _ (Heap.get?_push_of_some _ e)) szK (fix_ok hK)
  have fk : FpOk X pins (fun _ => none) (hpA.push (seqObj "tuple" its.toArray 0)).objs.size := I1.fpOk szK rfl
  have ne : (hpA.push (seqObj "tuple" its.toArray 0)).objs.size ≠ a := Nat.ne_of_gt (Nat.lt_of_lt_of_le szA szK)
  have nK : upd H a (FixO a (seqObj "list" #[] e1)) (hpA.push (seqObj "tuple" its.toArray 0)).objs.size = none := I1.hok.fresh szK
  have sm : Same H (upd (upd H a (FixO a (seqObj "list" #[] e1))) (hpA.push (seqObj "tuple" its.toArray 0)).objs.size (FixO (hpA.push (seqObj "tuple" its.toArray 0)).objs.size (seqObj "list" #[] 0))) := (same_new nA).trans (same_new nK)
  have nKH : H (hpA.push (seqObj "tuple" its.toArray 0)).objs.size = none := by rw [upd_ne ne] at nK; exact nK
  show wpAny _ _ (PyProof.Rows.ksk_rest a (.ref f) false its.toArray e1 (.ref (hpA.push (seqObj "tuple" its.toArray 0)).objs.size)) _ _ { s with heap := (hpA.push (seqObj "tuple" its.toArray 0)).push (seqObj "list" #[] 0) }
  generalize (hpA.push (seqObj "tuple" its.toArray 0)).objs.size = kS at hK I2 fk ne nK sm nKH ⊢
  generalize (hpA.push (seqObj "tuple" its.toArray 0)).push (seqObj "list" #[] 0) = hpB at hK I2 ⊢
  clear szK szA I1 keepA ho ho1 hA nK
  unfold PyProof.Rows.ksk_rest
  refine wpAny_bind (wpAny_rule ?_)
  rw [List.forIn_toArray]
  refine wpAny_bind (PyProof.Rows.ksk_fold (fun i s' => ∃ (H' : Hp) (kA : Array Value) (e : Nat), Inv X pins σ H' s' ∧ Same H H' ∧ H' a = some (FixO a (seqObj "list" #[] e1)) ∧ H' kS = some (FixO kS (seqObj "list" kA e)) ∧
      PySem.W.EachIs (fun v (k : List Int) => ∃ p, v = Value.ref p ∧ H' p = some (.lst (k.map V.int))) kA.toList (kss.take i)) its 0 _
    ⟨_, #[], 0, I2, sm, (upd_ne ne.symm).trans upd_same, upd_same, by rw [List.take_zero]; exact .nil⟩ ?step ?done)
  case step =>
    rintro j u s' hj ⟨H', kA, e, J, s1, ha, hk, ek⟩
    rw [Nat.zero_add] at ek ⊢
    have lj : j < its.length := (List.getElem?_eq_some_iff.mp hj).1
    obtain ⟨x, ex, rx⟩ := vals_at rv hj
    obtain ⟨k, ekj⟩ : ∃ k, kss[j]? = some k := ⟨_, List.getElem?_eq_getElem (by omega)⟩
    refine wpAny_bind (wpAny_attempt (wpAny_mono (turn j x k s' H' u ex ekj s1 J rx) (fun v s2 hv => ?_) fun _ _ z => z.elim))
    obtain ⟨y, H2, J2, ry, s12, p, rfl, hp2⟩ := hv
    obtain rfl : v = Value.ref p := ry
    have k2 := fix_at J2.hok (s12 _ _ hk)
    obtain ⟨c2, hc2⟩ : ∃ c2, (s2.heap.update kS (Obj.mapSeq (·.push (Value.ref p)))).get? kS = some (seqObj "list" (kA.push (Value.ref p)) c2) := ⟨_, get?_update_seq k2 (·.push (Value.ref p))⟩
    have lk : kA.size ≤ its.length := by
      have h1 := ek.length
      rw [Array.length_toList, List.length_take] at h1
      omega
    have et : kss.take (j + 1) = kss.take j ++ [k] := by rw [List.take_add_one, ekj]; rfl
    refine wpAny_bind (listUpdate_at k2 rfl (wpAny_pure ⟨rfl, upd H2 kS (FixO kS (seqObj "list" (kA.push (Value.ref p)) c2)), kA.push (Value.ref p), c2, ?_, same_mut (s1.trans s12) nKH, (upd_ne ne.symm).trans (s12 _ _ ha), upd_same, ?_⟩) (Nat.le_trans lk hz') (by rw [Array.size_push]; omega))
    · refine J2.write (t' := s2.toks) (x := kS) (e := kS) (by rw [s12 _ _ hk]; exact True.intro) (.inl rfl) (fun b o hb e => ((Heap.SameBut.update _ kS _).2 b hb).trans e) ⟨_, hc2⟩ (fix_ok hc2)
    · have keep : ∀ (v : Value) (k : List Int), (∃ p, v = Value.ref p ∧ H2 p = some (.lst (k.map V.int))) → ∃ p', v = Value.ref p' ∧ upd H2 kS (FixO kS (seqObj "list" (kA.push (Value.ref p)) c2)) p' = some (.lst (k.map V.int)) := by
        rintro v k ⟨p', rfl, e⟩
        refine ⟨p', rfl, ?_⟩
        rw [upd_ne (fun z => by rw [z, s12 _ _ hk] at e; unfold FixO at e; cases e)]
        exact e
      rw [et, Array.toList_push]
      exact PySem.W.each_snoc (keep _ _ ⟨p, rfl, hp2⟩) (ek.mono fun v k ⟨p', z, e⟩ => keep v k ⟨p', z, s12 _ _ e⟩)
  case done =>
    rintro s' ⟨H', kA, e, J, s1, ha, hk, ek⟩
    rw [Nat.zero_add, List.take_of_length_le (by omega)] at ek
    have gk := fix_at J.hok hk
    have ga := fix_at J.hok ha
    refine wpAny_bind (listItems_at gk rfl ?_)
    have lk : kA.size = its.length := by
      have h1 := ek.length
      rw [Array.length_toList] at h1
      omega
    have hal : PySem.W.AllAlike (kss.map iData) := PySem.W.AllAlike.of fun b b' => by
      show PySem.W.alike (.list _) (.list _) = true
      simp only [PySem.W.alike]
      exact PySem.W.alike_ints _ _
    have hk' : PySem.W.EachIs (fun v d => ∃ as, Reads s'.heap v d as) kA.toList (kss.map iData) := PySem.W.each_map (R := fun v d => ∃ as, Reads s'.heap v d as) iData (ek.mono fun v k ⟨p, z, e⟩ => by
      subst z
      obtain ⟨_, its', n, r', e'⟩ := J.hok p _ e
      exact ⟨_, .list e' rfl rfl (reads_ints r')⟩)
    have S := PySem.W.SortsAt.data (prog := X.prog) (w := X.w) (A := X.A.in1.in1) (s := s') hk' hal (PySem.W.Sortable.others fun b => ⟨fun z => (nomatch z), fun ys z => (nomatch z)⟩) (fun d hd => by
      obtain ⟨k, _, rfl⟩ := List.mem_map.mp hd
      have : PyData.depth (iData k) = 1 := by
        show PyData.depth (.list _) = 1
        rw [PyData.depth, PySem.W.depth_ints]
      rw [this]
      exact hu)
    refine PySem.W.keyH_end (h₁ := s'.heap.update kS fun o => { o with data := .freed }) (b := false) (vs := its) ?kp ?hkS gk ga ne S lk hz' fun h' tk c kp3 n3 => ?fin
    case kp =>
      intro b o hb e
      by_cases z : b = kS
      · subst z
        rw [gone gk] at e
        cases e
      · exact ((Heap.SameBut.update s'.heap kS _).2 b z).symm.trans e
    case hkS => exact gone gk
    case fin =>
      have R : PySem.W.EachIs (fun v (b : V × List Int) => RelV b.1 v) its (xs.zip kss) := PySem.W.EachIs.of_zip (by rw [List.length_zip]; omega) fun p hp => by
        obtain ⟨i, hi⟩ := List.mem_iff_getElem?.mp hp
        rw [List.getElem?_zip_eq_some] at hi
        obtain ⟨h1, h2⟩ := hi
        rw [List.getElem?_zip_eq_some] at h2
        obtain ⟨x', ex', rx'⟩ := vals_at rv h1
        rw [h2.1] at ex'
        cases ex'
        exact rx'
      have em : (xs.zip kss).map (fun b => iData b.2) = kss.map iData := by
        show (xs.zip kss).map (iData ∘ Prod.snd) = _
        rw [← List.map_map, List.map_snd_zip (by omega)]
      have ko : PySem.W.KeyedOut false ((xs.zip kss).map fun b => iData b.2) its (PySem.W.sortVals (PySem.W.dataKind s'.heap (kss.map iData)) false kA.toList its) := by
        rw [em]
        exact ⟨s'.heap, kA.toList, hal, rfl, hk'⟩
      have out := PySem.W.keyedOut_each (fun b : V × List Int => iData b.2) ko R
      have rv' : Vals (byKeys xs kss) (PySem.W.sortVals (PySem.W.dataKind s'.heap (kss.map iData)) false kA.toList its) := vals_each out
      have lb : (byKeys xs kss).length = xs.length := by
        unfold byKeys
        rw [List.length_map, List.length_mergeSort, List.length_zip]
        omega
      have J3 := inv_sorted (tk := tk) (h' := h') J ha hk fa fk ne (fun b o h1 h2 e => kp3 b o h1 (((Heap.SameBut.update s'.heap kS _).2 b h2).trans e)) (xs := byKeys xs kss) (by rw [lb]; exact hz) rv' n3
      refine ⟨rfl, .ref a, _, J3, rfl, q a _ (fun b o e => ?_) nA ?_⟩
      · have n1 : b ≠ kS := ne_of_none e nKH
        have n2 : b ≠ a := ne_of_none e nA
        rw [if_neg n1, upd_ne n2]
        exact s1 _ _ e
      · rw [if_neg ne.symm, upd_same]
end
end Bh

set_option Elab.async false
set_option linter.all false
set_option maxRecDepth 100000
namespace Bh
open PySem PySem.Spec PyProof.Rows L2 LamX NdefX
/-! ### a lambda by its place in a def's text -/
def noP : Pos := ⟨0, 0, 0, 0⟩
def noE : Expr := .Constant .none 0 noP
def bodyOf : Stmt → List Stmt
  | .For _ _ b _ _ => b
  | .If _ b _ _ => b
  | _ => []
def exprOf : Stmt → Expr
  | .Assign _ v _ => v
  | .Expr v _ => v
  | _ => noE
def partsOf : Expr → List Expr
  | .List es _ => es
  | .Call _ es _ _ => es
  | .BinOp a _ b _ => [a, b]
  | _ => []
def lwOf : Expr → LW
  | .Lambda p b s _ => ⟨p, b, s⟩
  | _ => ⟨{ posonlyargs := [], args := [], vararg := none, kwonlyargs := [], kw_defaults := [], kwarg := none, defaults := [] }, noE, { kind := .function, names := [], isGenerator := false, isCoroutine := false }⟩
section
variable {X : Cx}
theorem pe_stl0L {L : LW} {T : List (Addr × Str)} {c P : Addr} {params : Arguments} {body : Expr} {scope : Scope} {pos : Pos} (hL : L = ⟨params, body, scope⟩) (TB : TabB X.base X.mg c P) (hcode : X.env.code = .ref c)
    (hm : (P, X.env.qual ++ "<lambda>") ∈ T) (hu : ∀ p ∈ T, p.1 = P → p.2 = X.env.qual ++ "<lambda>") (hdef : defaultsOf params X.env = ([], [])) (hfree : ∀ y ∈ scope.names, y.2 = .free → X.env.scope.names.lookup y.1 = some .cell ∨ X.env.scope.names.lookup y.1 = some .free) :
    PE X (.Lambda params body scope pos) (tStl T X.env.cells (X.env.qual ++ "<lambda>") L none) := by
  subst hL
  exact pe_stl0 TB hcode hm hu hdef hfree
theorem pe_stl1L {L : LW} {T : List (Addr × Str)} {c P : Addr} {params : Arguments} {body : Expr} {scope : Scope} {pos p1 : Pos} {n : Int} {j : Nat} (hL : L = ⟨params, body, scope⟩) (TB : TabB X.base X.mg c P) (hcode : X.env.code = .ref c)
    (hm : (P, X.env.qual ++ "<lambda>") ∈ T) (hu : ∀ p ∈ T, p.1 = P → p.2 = X.env.qual ++ "<lambda>") (hd : params.defaults = [.Constant (.int n) j p1]) (hk : params.kw_defaults = []) (hfree : ∀ y ∈ scope.names, y.2 = .free → X.env.scope.names.lookup y.1 = some .cell ∨ X.env.scope.names.lookup y.1 = some .free) :
    PE X (.Lambda params body scope pos) (tStl T X.env.cells (X.env.qual ++ "<lambda>") L (some n)) := by
  subst hL
  exact pe_stl1 TB hcode hm hu hd hk hfree
end
end Bh

set_option Elab.async false
set_option linter.all false
set_option maxRecDepth 100000
set_option maxHeartbeats 2000000
namespace Bh
open PySem PySem.Spec PySem.Calls PyProof.Rows L2 LamX NdefX
/-! ### sorted(xs, key=lambda x: ..) -/
/-- the reading: tb, the lambda's body (N: its names, the first the item's; js: the slots that it reads) -/
def SortR (K : PySem.W.Frag) (T : List (Addr × Str)) (N : List Str) (js : List Nat) (tb : TE) (σ : L2.St) (Q : VK) (x : V) (H1 : Hp) : Prop := Tabs T H1 ∧ ∀ H2, ExtN H1 H2 → Tabs T H2 → ∃ (l : Addr) (xs : List V) (kss : List (List Int)), x = .ref l ∧ SqL K H2 l xs ∧ kss.length = xs.length ∧
  (∀ (i : Nat) (y : V) (k : List Int) (H' : Hp), xs[i]? = some y → kss[i]? = some k → Same H2 H' → tb (startF N [y] (js.map (slotAt σ))) H' fun z H3 => Same H' H3 ∧ ∃ p, z = .ref p ∧ H3 p = some (.lst (k.map V.int))) ∧
  ∀ p H', Same H2 H' → H2 p = none → H' p = some (.lst (byKeys xs kss)) → Q (.ref p) H'
def tSortL (K : PySem.W.Frag) (T : List (Addr × Str)) (N : List Str) (js : List Nat) (tb te : TE) : TE := fun σ H Q => te σ H (SortR K T N js tb σ Q)
def one1 {α : Type} (P : α → Prop) : List α → Prop
  | [x] => P x
  | _ => False
theorem one_at {α : Type} {P : α → Prop} {xs : List α} (h : one1 P xs) : ∃ x, xs = [x] ∧ P x := by
  match xs, h with
  | [x], h => exact ⟨x, rfl, h⟩
theorem room_in2 {k : Nat} {A : Around} (r : Room (k + 1) A) : Room k A.in1.in1 := ⟨r.hd, by have := r.dp; show A.depth + 3 * k + 5 < _; omega, by have := r.un; show A.units + 1 + 1 + 16 * k + 200 < _; omega⟩
section
variable {CX : CXT} {P : Program} {w : World} {K : PySem.W.Frag} {mg : Str → Option Value} {base : Heap} {N ps fr : List Str} {f c' : Addr} {k : Nat} {q : Str} {L : LW} {cl : List (Str × Addr)}
theorem lw_runA {A : Around} {outer : List Env} {s : Shared} {H : Hp} {us as : List Value} {vs : List V} {ws : List (Option V)} {Q : VK} {E : XK} {dV doc pm ctv : Value} {tb : TE} (S : NScope N ps fr L.scope)
    (hb : BindsTo s (PySem.W.kdv_fn "<lambda>" q L.params (.expr L.body) L.scope cl dV doc pm (.ref c') ctv) ⟨as, []⟩ (ps.zip us)) (hr : Room (k + 1) A) (e0 : Env0 P w K mg base A outer s H) (lim : s.heap.NoLimit)
    (of : s.heap.get? f = some (PySem.W.kdv_obj "<lambda>" q L.params (.expr L.body) L.scope cl dV doc pm c' ctv)) (hc : s.heap.CodeRec (.ref c') q) (C : CellsAt cl fr ws s.heap H) (r : Vals vs us) (hl : vs.length = ps.length)
    (hbody : Room k (A.deeper (envF (lwF q L cl c') f s.heap.objs.size)) → PE (ncx CX P w K mg base N (lwF q L cl c') f A outer s H E) L.body tb) (h : tb (startF N vs ws) H Q) :
    codeAny (model P w) A (.call (.ref f) ⟨as, []⟩) (CR CX outer P w H s Q E) s := by
  refine PySem.W.kla_callFunE hr.depth of rfl S.co S.gen rfl hc (hb _ _ _ _ ?_)
  refine wpAny_newFunctionEnv S.nocell (fun ⟨n, _⟩ hy => S.par n (List.of_mem_zip hy).1) (fun h₁ hns hsb => ⟨lim.fresh _ hsb, ?_⟩) S.kind
  show codeAny _ _ (.expr L.body (envF (lwF q L cl c') f s.heap.objs.size)) _ _
  have old : ∀ b o, s.heap.get? b = some o → h₁.get? b = some o := fun b o e => hsb.extBut b o (Nat.ne_of_lt (Heap.lt_size e)) (Heap.get?_push_of_some _ e)
  have I : Inv (ncx CX P w K mg base N (lwF q L cl c') f A outer s H E) [] (startF N vs ws) H { s with heap := h₁, toks := s.toks + (ps.zip us).length } := inv_startN (F := lwF q L cl c') S hr.hd e0 hl r C hns old
  refine PySem.W.kla_codeExpr (wpAny_mono ((hbody (hr.deeper _)).run [] _ (startF N vs ws) H Q I h) (fun v s' hq => ?_) fun _ _ hq => hq)
  obtain ⟨w', H', J, rv, q'⟩ := hq
  exact ⟨w', H', J.os, J.bare, J.base, J.hok, rv, q'⟩
end
section
variable {X : Cx}
theorem pe_sortL {L : LW} {T : List (Addr × Str)} {c P : Addr} {params : Arguments} {body : Expr} {scope : Scope} {pos p p1 : Pos} {kpos : Pos} {e : Expr} {te tb : TE} {k : Nat} {N fr : List Str} {js : List Nat} {a : Str} (hL : L = ⟨params, body, scope⟩)
    (ha : PA X [e] (tCons te tNil)) (hg : Gl X "sorted") (hm : X.mg "sorted" = none) (TB : TabB X.base X.mg c P) (hcode : X.env.code = .ref c) (hT : (P, X.env.qual ++ "<lambda>") ∈ T) (hu : ∀ p ∈ T, p.1 = P → p.2 = X.env.qual ++ "<lambda>") (hdef : defaultsOf params X.env = ([], []))
    (hr : Room (k + 3) X.A) (S : NScope N [a] fr scope) (free : ∀ y ∈ scope.names, y.2 = .free → X.env.scope.names.lookup y.1 = some .cell ∨ X.env.scope.names.lookup y.1 = some .free) (frs : ∀ y ∈ fr, (y, NameKind.free) ∈ scope.names) (at_ : js.map (fun j => X.N[j]?) = fr.map some)
    (hb : ∀ (q : Str) (cl : List (Str × Addr)) (doc pm cd ct u : Value), bindArgs (PySem.W.kdv_fn "<lambda>" q params (.expr body) scope cl .none doc pm cd ct) ⟨[u], []⟩ = pure [(a, u)])
    (hbody : ∀ (A : Around) (outer : List Env) (s : Shared) (H : Hp) (F : NF) (f : Addr), F.scope = scope → Room k (A.deeper (envF F f s.heap.objs.size)) → PE (ncx C8.CX0 X.prog X.w X.K X.mg X.base N F f A outer s H C8.E0) body tb)
    (hst : backTo pos (starEach [e] X.env) = (false, eval e X.env) :: backTo pos (starEach [] X.env) := by rfl) (hpl : (backTo pos (starEach [e] X.env)).any (·.1) = false := by rfl)
    (hall : (backToKw pos (keywordEach [⟨some "key", .Lambda params body scope p1, kpos⟩] X.env)).all (·.1.isSome) = true := by rfl) (hnone : (backToKw pos (keywordEach [⟨some "key", .Lambda params body scope p1, kpos⟩] X.env)).any (·.1.isNone) = false := by rfl)
    (hks : (backToKw pos (keywordEach [⟨some "key", .Lambda params body scope p1, kpos⟩] X.env)).filterMap (·.1) = [Str.ofString "key"] := by rfl) :
    PE X (.Call (.Name "sorted" p) [e] [⟨some "key", .Lambda params body scope p1, kpos⟩] pos) (tSortL X.K T N js tb te) := by
  refine ⟨fun pins s σ H Q I h => ?_⟩
  have hk : PK X [⟨some "key", .Lambda params body scope p1, kpos⟩] (tCons (tStl T X.env.cells (X.env.qual ++ "<lambda>") ⟨params, body, scope⟩ none) tNil) := pk_cons (pe_stl0 TB hcode hT hu hdef free) pk_nil
  refine wpAny_Call_Name_kw (ld_blt I hg hm (by rfl) ?_ (by decide) (by decide))
  refine PyProof.Rows.callWith_kw (thn (ha.run pos pins s σ H (fun vs H1 => one1 (fun x => SortR X.K T N js tb σ Q x H1) vs) I h) fun us s1 ⟨vs, H1, I1, r1, q1⟩ => ?_) hst hpl hall hnone
  obtain ⟨x, rfl, t1, q1⟩ := one_at q1
  refine thn (hk.run pos pins s1 σ H1 (fun zs H2 => one1 (fun v => ExtN H1 H2 ∧ Tabs T H2 ∧ IsLm X.env.cells (X.env.qual ++ "<lambda>") ⟨params, body, scope⟩ none H2 v) zs) I1 ⟨t1, fun H2 v e2 t2 l2 => ⟨e2, t2, l2⟩⟩) fun ws s2 ⟨zs, H2, I2, r2, q2⟩ => ?_
  obtain ⟨v, rfl, e2, t2, f, cc, dV, rfl, g1, g2, g3⟩ := one_at q2
  obtain ⟨l, xs, kss, rfl, hs, hl, turn, q⟩ := q1 H2 e2 t2
  obtain ⟨u1, rfl, ru⟩ := vals1 r1
  obtain rfl : u1 = Value.ref l := ru
  obtain ⟨w1, rfl, rw1⟩ := vals1 r2
  obtain rfl : w1 = Value.ref f := rw1
  rw [hks]
  refine sorted_lists I2 hs hl (by have := hr.un; omega) (fun i y kz s' H' u ey ek s2' I' ry => ?_) q
  have hd : dV = Value.none := by
    rcases g3 with ⟨_, z⟩ | ⟨n, t, z, _⟩
    · exact z
    · cases z
  subst hd
  obtain ⟨doc, pm, ctv, of⟩ := lmO_at I'.hok (s2' _ _ g1)
  obtain ⟨⟨oc, cvs, t, hoc, hdc, hvc⟩, _, _⟩ := I'.hok cc _ (s2' _ _ g2)
  have en := I'.env0
  have e0 : Env0 X.prog X.w X.K X.mg X.base X.A.in1.in1 X.stack s' H' := ⟨en.frames, en.mod, en.bs, en.bsz, en.funs, en.frf, en.hok, en.bare⟩
  have C1 := cells_of I' (Caps.made (fr := fr) (js := js) I'.ok free frs at_)
  have rc : codeAny (model X.prog X.w) X.A.in1.in1 (.call (.ref f) ⟨[u], []⟩) (CR C8.CX0 X.stack X.prog X.w H' s' (fun z H3 => Same H' H3 ∧ ∃ p, z = .ref p ∧ H3 p = some (.lst (kz.map V.int))) C8.E0) s' :=
    lw_runA (L := ⟨params, body, scope⟩) (us := [u]) (vs := [y]) S (.of_eq (hb _ _ _ _ _ _ _)) (room_in2 (hr.mono (by omega))) e0 I'.nolimit of ⟨cc, oc, cvs, t, rfl, hoc, hdc, hvc⟩ C1 (.cons ry .nil) rfl (fun hr2 => hbody _ _ _ _ _ _ rfl hr2) (turn i y kz H' ey ek s2')
  refine wpAny_call (codeAny_mono rc fun r s2 z => ?_)
  cases r with
  | error e => exact (show False from z).elim
  | ok fl =>
    cases fl with
    | ret w => exact I'.after z
    | next => exact z.elim
    | brk => exact z.elim
    | cont => exact z.elim
end
end Bh

set_option Elab.async false
set_option linter.all false
namespace Bh
open PySem PySem.Spec PyProof.Rows L2
/-! ### byKeys of items that go together -/
theorem map_byKeys {α β : Type} (f : α → β) (l : List (α × List Int)) :
    (l.mergeSort (PySem.W.dataLe false fun b : α × List Int => iData b.2)).map (fun p => (f p.1, p.2)) = (l.map fun p => (f p.1, p.2)).mergeSort (PySem.W.dataLe false fun b : β × List Int => iData b.2) :=
  List.map_mergeSort fun a _ b _ => rfl
theorem zip_mapL {α β γ : Type} (f : α → β) : ∀ (xs : List α) (ks : List γ), (xs.map f).zip ks = (xs.zip ks).map fun p => (f p.1, p.2)
  | [], _ => rfl
  | _ :: _, [] => rfl
  | x :: xs, k :: ks => by
    show (f x, k) :: (xs.map f).zip ks = (f x, k) :: (xs.zip ks).map fun p => (f p.1, p.2)
    rw [zip_mapL f xs ks]
theorem byKeys_map {α β : Type} (f : α → β) (xs : List α) (ks : List (List Int)) : byKeys (xs.map f) ks = (byKeys xs ks).map f := by
  unfold byKeys
  rw [zip_mapL, ← map_byKeys, List.map_map, List.map_map]
  rfl
theorem paired_zip {α β : Type} {R : α → β → Prop} {xs : List α} {ys : List β} (h : Paired R xs ys) : ∃ zs : List (α × β), zs.map (·.1) = xs ∧ zs.map (·.2) = ys ∧ ∀ z ∈ zs, R z.1 z.2 := by
  induction h with
  | nil => exact ⟨[], rfl, rfl, fun _ h => nomatch h⟩
  | @cons x y xs ys r _ ih =>
    obtain ⟨zs, h1, h2, h3⟩ := ih
    exact ⟨(x, y) :: zs, by rw [List.map_cons, h1], by rw [List.map_cons, h2], fun z hz => by
      rcases List.mem_cons.mp hz with rfl | hz
      · exact r
      · exact h3 z hz⟩
theorem paired_unzip {α β : Type} {R : α → β → Prop} : ∀ {zs : List (α × β)}, (∀ z ∈ zs, R z.1 z.2) → Paired R (zs.map (·.1)) (zs.map (·.2))
  | [], _ => .nil
  | z :: zs, h => .cons (h z (List.mem_cons_self ..)) (paired_unzip fun y hy => h y (List.mem_cons_of_mem _ hy))
theorem mem_byKeys {α : Type} {xs : List α} {ks : List (List Int)} {x : α} (h : x ∈ byKeys xs ks) : x ∈ xs := by
  unfold byKeys at h
  obtain ⟨p, hp, rfl⟩ := List.mem_map.mp h
  exact (List.of_mem_zip (List.mem_mergeSort.mp hp)).1
theorem paired_byKeys {α β : Type} {R : α → β → Prop} {xs : List α} {ys : List β} (h : Paired R xs ys) (ks : List (List Int)) : Paired R (byKeys xs ks) (byKeys ys ks) := by
  obtain ⟨zs, rfl, rfl, h3⟩ := paired_zip h
  rw [byKeys_map, byKeys_map]
  exact paired_unzip fun z hz => h3 z (mem_byKeys hz)
theorem dpall_paired {K : PySem.W.Frag} {H : Hp} : ∀ {xs : List V} {ds : List PyData}, DpAll K H xs ds → Paired (Dp K H) xs ds
  | _, _, .nil => .nil
  | _, _, .cons h t => .cons h (dpall_paired t)
theorem paired_dpall {K : PySem.W.Frag} {H : Hp} {xs : List V} {ds : List PyData} (h : Paired (Dp K H) xs ds) : DpAll K H xs ds := by
  induction h with
  | nil => exact .nil
  | cons h _ ih => exact .cons h ih
theorem dpall_byKeys {K : PySem.W.Frag} {H : Hp} {α : Type} {f : α → PyData} {xs : List V} {as : List α} (h : DpAll K H xs (as.map f)) (ks : List (List Int)) : DpAll K H (byKeys xs ks) ((byKeys as ks).map f) := by
  rw [← byKeys_map]
  exact paired_dpall (paired_byKeys (dpall_paired h) ks)
end Bh

set_option Elab.async false
set_option linter.all false
set_option maxRecDepth 100000
set_option maxHeartbeats 2000000
set_option autoImplicit false
namespace Bh
open PySem PySem.Spec PyProof.Rows L2
/-! ### sorted(xs), items that are data -/
def sortD (xs : List V) (ds : List PyData) : List V := ((xs.zip ds).mergeSort (PySem.W.dataLe false fun b : V × PyData => b.2)).map (·.1)
def rSortedD (K : PySem.W.Frag) : List V → Hp → VK → Prop := fun vs H Q => ∃ (a : Addr) (xs : List V) (ds : List PyData), vs = [V.ref a] ∧ SqL K H a xs ∧ DpAll K H xs ds ∧ PySem.W.AllAlike ds ∧ PySem.W.Sortable ds ∧ (∀ d ∈ ds, d.depth ≤ 40) ∧
  ∀ p, H p = none → Q (.ref p) (upd H p (.lst (sortD xs ds)))
theorem each_reads {h : Heap} : ∀ {ds : List PyData} {vs : List Value} {as : List Addr} {xs : List V}, ReadsAll h vs ds as → xs.length = ds.length → PySem.W.EachIs (fun v (b : V × PyData) => ∃ as, Reads h v b.2 as) vs (xs.zip ds)
  | [], _, _, [], r, _ => by
    cases r
    exact .nil
  | d :: ds, _, _, x :: xs, r, e => by
    cases r with
    | cons h1 h2 => exact .cons ⟨_, h1⟩ (each_reads h2 (Nat.succ.inj e))
  | [], _, _, _ :: _, _, e => by cases e
  | _ :: _, _, _, [], _, e => by cases e
theorem each_rel {vs : List Value} {xs : List V} (r : Vals xs vs) : ∀ {ds : List PyData}, xs.length = ds.length → PySem.W.EachIs (fun v (b : V × PyData) => RelV b.1 v) vs (xs.zip ds) := by
  induction r with
  | nil => intro ds _; exact .nil
  | cons h _ ih =>
    intro ds e
    cases ds with
    | nil => cases e
    | cons d ds => exact .cons h (ih (Nat.succ.inj e))
theorem each_vals {vs : List Value} {bs : List (V × PyData)} (h : PySem.W.EachIs (fun v (b : V × PyData) => RelV b.1 v) vs bs) : Vals (bs.map (·.1)) vs := by
  induction h with
  | nil => exact .nil
  | cons r _ ih => exact .cons r ih
section
variable {X : Cx} {K : PySem.W.Frag}
theorem cr_sortedD_K (hK : X.K = K) (hu : X.A.units + 50 < cLine) : CallR X (.builtin "sorted") (rSortedD K) := by
  subst hK
  intro pins s σ H vs us Q I r h
  obtain ⟨a, xs, ds, rfl, hs, hd, hal, hk, dep, q⟩ := h
  obtain ⟨its, rv, hl, hz⟩ := I.list hs
  rw [Vals.ref1 r]
  obtain ⟨as, h4⟩ := Dp.readsAll I ds xs its hd rv
  have lx : xs.length = ds.length := DpAll.length hd
  have em : (xs.zip ds).map (fun b => b.2) = ds := List.map_snd_zip (by omega)
  refine PySem.W.sorted_data (bs := xs.zip ds) (enc := fun b => b.2) (R := fun v b => RelV b.1 v) hl.isList (each_rel rv lx) (each_reads h4 lx) (by rw [em]; exact hal) (by rw [em]; exact hk) (by rw [List.length_zip]; omega) (fun b hb => ?_) fun out lo eo => ?_
  · have := dep b.2 (List.of_mem_zip hb).2
    omega
  · have lo2 : (sortD xs ds).length = xs.length := by
      unfold sortD
      rw [List.length_map, List.length_mergeSort, List.length_zip]
      omega
    obtain ⟨ep, he'⟩ := PyProof.Rows.sortedAll_at s.heap its (List.toArray out)
    exact ⟨.ref _, upd H (s.heap.objs.size + 1) (.lst (sortD xs ds)), I.laid (t' := s.toks) (fun _ _ => PyProof.Rows.sortedAll_old) (Nat.le_succ _) ⟨by rw [lo2]; exact hz, out, ep, each_vals eo, by rw [he']⟩, rfl, q _ (I.hok.fresh (Nat.le_succ _))⟩
end
theorem dpall_sortD {K : PySem.W.Frag} {H : Hp} {xs : List V} {ds : List PyData} (h : DpAll K H xs ds) : DpAll K H (sortD xs ds) (ds.mergeSort (PySem.W.dataLe false fun d : PyData => d)) := by
  have lx : xs.length = ds.length := DpAll.length h
  have e : ds.mergeSort (PySem.W.dataLe false fun d : PyData => d) = ((xs.zip ds).mergeSort (PySem.W.dataLe false fun b : V × PyData => b.2)).map (·.2) := by
    have z := List.map_mergeSort (r := PySem.W.dataLe false fun b : V × PyData => b.2) (s := PySem.W.dataLe false fun d : PyData => d) (f := fun b : V × PyData => b.2) (l := xs.zip ds) (fun a _ b _ => rfl)
    rw [List.map_snd_zip (by omega)] at z
    exact z.symm
  rw [e]
  refine paired_dpall (paired_unzip fun z hz => ?_)
  obtain ⟨i, hi⟩ := List.mem_iff_getElem?.mp (List.mem_mergeSort.mp hz)
  rw [List.getElem?_zip_eq_some] at hi
  obtain ⟨d, e1, e2⟩ := DpAll.get h hi.1
  rw [hi.2] at e1
  cases e1
  exact e2
/-! ### the stable sort by keys, and the sort of (key, place, value) -/
section
variable {α : Type}
def rowD (f : α → PyData) (p : (α × List Int) × Nat) : PyData := .tuple [iData p.1.2, .int p.2, f p.1.1]
theorem toks_row (f : α → PyData) (p : (α × List Int) × Nat) : PySem.W.keyToks (rowD f p) = Sum.inl 1 :: (PySem.W.keyToks (iData p.1.2) ++ (Sum.inl 1 :: (Sum.inl (p.2 : Int) :: (Sum.inl 1 :: (PySem.W.keyToks (f p.1.1) ++ [Sum.inl 0]))))) := by
  show PySem.W.keyToks (.tuple _) = _
  simp only [PySem.W.keyToks, PySem.W.keyToksAll, List.singleton_append]
theorem lex_row {f : α → PyData} {p r : (α × List Int) × Nat} (hl : PySem.W.alike (iData p.1.2) (iData r.1.2) = true) :
    PyProof.Rows.lexLt PyProof.Rows.itemOrd (PySem.W.keyToks (rowD f p)) (PySem.W.keyToks (rowD f r)) = (match PyData.eqv (iData p.1.2) (iData r.1.2) with
      | false => PyProof.Rows.lexLt PyProof.Rows.itemOrd (PySem.W.keyToks (iData p.1.2)) (PySem.W.keyToks (iData r.1.2))
      | true => PyProof.Rows.lexLt PyProof.Rows.itemOrd (Sum.inl (p.2 : Int) :: (Sum.inl 1 :: (PySem.W.keyToks (f p.1.1) ++ [Sum.inl 0]))) (Sum.inl (r.2 : Int) :: (Sum.inl 1 :: (PySem.W.keyToks (f r.1.1) ++ [Sum.inl 0])))) := by
  rw [toks_row, toks_row, PyProof.Rows.lex_self]
  obtain ⟨h1, h2⟩ := PySem.W.toks_eqv _ _ hl
  cases e : PyData.eqv (iData p.1.2) (iData r.1.2) with
  | false => exact h2 e _ _
  | true =>
    rw [h1 e, PySem.W.lex_pre, PyProof.Rows.lex_self]
theorem eqv_ints_comm (a b : List Int) : PyData.eqv (iData a) (iData b) = PyData.eqv (iData b) (iData a) := by
  show PyData.eqv (.list _) (.list _) = PyData.eqv (.list _) (.list _)
  simp only [PyData.eqv]
  induction a generalizing b with
  | nil => cases b <;> simp [PyData.eqvAll]
  | cons x a ih =>
    cases b with
    | nil => simp [PyData.eqvAll]
    | cons y b =>
      simp only [List.map_cons, PyData.eqvAll, PyData.eqv]
      rw [ih b]
      congr 1
      exact decide_eq_decide.mpr ⟨Eq.symm, Eq.symm⟩
theorem alike_rows {a b : List Int} : PySem.W.alike (iData a) (iData b) = true := by
  show PySem.W.alike (.list _) (.list _) = true
  simp only [PySem.W.alike]
  exact PySem.W.alike_ints _ _
theorem lex_not_both {x y : List (Int ⊕ List Nat)} (h : ∀ l m, PyProof.Rows.lexLt PyProof.Rows.itemOrd (x ++ l) (y ++ m) = PyProof.Rows.lexLt PyProof.Rows.itemOrd x y) : x ≠ y := fun e => by
  subst e
  have h1 := h [Sum.inl 0] [Sum.inl 1]
  rw [PySem.W.lex_pre, PyProof.Rows.lex_irrefl] at h1
  exact absurd h1 (by decide)
theorem row_le {f : α → PyData} {p r : (α × List Int) × Nat} (same : p.2 = r.2 → p = r) :
    List.zipIdxLE (PySem.W.dataLe false fun b : α × List Int => iData b.2) p r = PySem.W.dataLe false (fun d : PyData => d) (rowD f p) (rowD f r) := by
  show (if (!PyProof.Rows.lexLt PyProof.Rows.itemOrd (PySem.W.keyToks (iData r.1.2)) (PySem.W.keyToks (iData p.1.2))) = true then (if (!PyProof.Rows.lexLt PyProof.Rows.itemOrd (PySem.W.keyToks (iData p.1.2)) (PySem.W.keyToks (iData r.1.2))) = true then decide (p.2 ≤ r.2) else true) else false) = !PyProof.Rows.lexLt PyProof.Rows.itemOrd (PySem.W.keyToks (rowD f r)) (PySem.W.keyToks (rowD f p))
  rw [lex_row (f := f) (p := r) (r := p) alike_rows]
  cases e : PyData.eqv (iData r.1.2) (iData p.1.2) with
  | true =>
    have k := (PySem.W.toks_eqv _ _ (alike_rows (a := r.1.2) (b := p.1.2))).1 e
    rw [k, PyProof.Rows.lex_irrefl]
    show (if true = true then (if true = true then decide (p.2 ≤ r.2) else true) else false) = _
    rw [if_pos rfl, if_pos rfl]
    by_cases h : p.2 = r.2
    · rw [same h, PyProof.Rows.lex_irrefl]
      exact decide_eq_true (Nat.le_refl _)
    · have ne : (Sum.inl (r.2 : Int) : Int ⊕ List Nat) ≠ Sum.inl (p.2 : Int) := fun z => h (by have := Sum.inl.inj z; omega)
      show _ = !PyProof.Rows.lexLt PyProof.Rows.itemOrd _ _
      rw [PyProof.Rows.lex_diff (O := PyProof.Rows.itemOrd) ne]
      show decide (p.2 ≤ r.2) = !(decide ((r.2 : Int) < (p.2 : Int)))
      by_cases h2 : p.2 ≤ r.2
      · rw [decide_eq_true h2, decide_eq_false (by omega)]
        rfl
      · rw [decide_eq_false h2, decide_eq_true (by omega)]
        rfl
  | false =>
    show _ = !PyProof.Rows.lexLt PyProof.Rows.itemOrd (PySem.W.keyToks (iData r.1.2)) (PySem.W.keyToks (iData p.1.2))
    cases h1 : PyProof.Rows.lexLt PyProof.Rows.itemOrd (PySem.W.keyToks (iData r.1.2)) (PySem.W.keyToks (iData p.1.2)) with
    | true => rfl
    | false =>
      have ne := lex_not_both ((PySem.W.toks_eqv _ _ (alike_rows (a := r.1.2) (b := p.1.2))).2 e)
      have h2 : PyProof.Rows.lexLt PyProof.Rows.itemOrd (PySem.W.keyToks (iData p.1.2)) (PySem.W.keyToks (iData r.1.2)) = true := by
        cases h3 : PyProof.Rows.lexLt PyProof.Rows.itemOrd (PySem.W.keyToks (iData p.1.2)) (PySem.W.keyToks (iData r.1.2)) with
        | true => rfl
        | false => exact absurd (PyProof.Rows.lex_total _ _ h1 h3) ne
      rw [h2]
      rfl
/-- by rows (key, place, value), and by the keys -/
theorem rows_sorted (f : α → PyData) (xs : List α) (ks : List (List Int)) :
    (((xs.zip ks).zipIdx.map (rowD f)).mergeSort (PySem.W.dataLe false fun d : PyData => d)) = (((xs.zip ks).zipIdx.mergeSort (List.zipIdxLE (PySem.W.dataLe false fun b : α × List Int => iData b.2))).map (rowD f)) ∧
    ((xs.zip ks).zipIdx.mergeSort (List.zipIdxLE (PySem.W.dataLe false fun b : α × List Int => iData b.2))).map (fun p => p.1.1) = byKeys xs ks := by
  refine ⟨(List.map_mergeSort (r := List.zipIdxLE (PySem.W.dataLe false fun b : α × List Int => iData b.2)) (s := PySem.W.dataLe false fun d : PyData => d) (f := rowD f) (l := (xs.zip ks).zipIdx) fun a ha b hb => row_le fun e => ?_).symm, ?_⟩
  · obtain ⟨a1, a2⟩ := a
    obtain ⟨b1, b2⟩ := b
    have h1 := (List.mem_zipIdx_iff_getElem?.mp ha)
    have h2 := (List.mem_zipIdx_iff_getElem?.mp hb)
    have e : a2 = b2 := e
    subst e
    have h1 : (xs.zip ks)[a2]? = some a1 := h1
    have h2 : (xs.zip ks)[a2]? = some b1 := h2
    rw [h1] at h2
    cases h2
    rfl
  · unfold byKeys
    rw [← List.mergeSort_zipIdx (l := xs.zip ks) (le := PySem.W.dataLe false fun b : α × List Int => iData b.2), List.map_map]
    rfl
end
end Bh

set_option Elab.async false
set_option linter.all false
set_option maxRecDepth 100000
set_option maxHeartbeats 1000000
set_option autoImplicit false
namespace Bh
open PySem PySem.Spec PyProof.Rows L2
theorem bool_iff {a b : Bool} (h : a = true ↔ b = true) : a = b := by
  cases a <;> cases b <;> simp_all
section
variable {α : Type} [DecidableEq α]
theorem perm_of_sub {xs ys : List α} (nd : xs.Nodup) (sub : ∀ x ∈ xs, x ∈ ys) (len : ys.length ≤ xs.length) : xs.Perm ys := by
  induction xs generalizing ys with
  | nil =>
    have e : ys = [] := List.eq_nil_of_length_eq_zero (Nat.le_zero.mp len)
    rw [e]
  | cons a xs ih =>
    rw [List.nodup_cons] at nd
    have ma := sub a List.mem_cons_self
    have p := List.perm_cons_erase ma
    have l := p.length_eq
    rw [List.length_cons] at l
    refine (List.Perm.cons a (ih nd.2 (fun x hx => ?_) ?_)).trans p.symm
    · exact (List.mem_erase_of_ne (a := x) (b := a) (fun z => nd.1 (by rw [← z]; exact hx))).mpr (sub x (List.mem_cons_of_mem _ hx))
    · rw [List.length_cons] at len
      omega
omit [DecidableEq α] in
theorem nodup_map {β : Type} {g : α → β} {xs : List α} (h : (xs.map g).Nodup) : xs.Nodup := by
  induction xs with
  | nil => exact .nil
  | cons a xs ih =>
    rw [List.map_cons, List.nodup_cons] at h
    exact List.nodup_cons.mpr ⟨fun m => h.1 (List.mem_map.mpr ⟨a, m, rfl⟩), ih h.2⟩
abbrev leD : PyData → PyData → Bool := PySem.W.dataLe false fun d : PyData => d
theorem leD_def (a b : PyData) : leD a b = !PyProof.Rows.lexLt PyProof.Rows.itemOrd (PySem.W.keyToks b) (PySem.W.keyToks a) := rfl
theorem leD_trans (a b c : PyData) (h1 : leD a b = true) (h2 : leD b c = true) : leD a c = true := by
  rw [leD_def, Bool.not_eq_true'] at *
  cases e : PyProof.Rows.lexLt PyProof.Rows.itemOrd (PySem.W.keyToks c) (PySem.W.keyToks a) with
  | false => rfl
  | true =>
    cases e2 : PyProof.Rows.lexLt PyProof.Rows.itemOrd (PySem.W.keyToks a) (PySem.W.keyToks b) with
    | true =>
      rw [PyProof.Rows.lex_trans _ _ _ e e2] at h2
      cases h2
    | false =>
      rw [PyProof.Rows.lex_total _ _ e2 h1] at e
      rw [e] at h2
      cases h2
theorem leD_total (a b : PyData) : (leD a b || leD b a) = true := by
  rw [leD_def, leD_def]
  cases e : PyProof.Rows.lexLt PyProof.Rows.itemOrd (PySem.W.keyToks b) (PySem.W.keyToks a) with
  | false => rfl
  | true =>
    cases e2 : PyProof.Rows.lexLt PyProof.Rows.itemOrd (PySem.W.keyToks a) (PySem.W.keyToks b) with
    | false => rfl
    | true =>
      have z := PyProof.Rows.lex_trans _ _ _ e e2
      rw [PyProof.Rows.lex_irrefl] at z
      cases z
theorem leD_anti {a b : PyData} (al : PySem.W.alike a b = true) (h1 : leD a b = true) (h2 : leD b a = true) : PyData.eqv a b = true := by
  rw [leD_def, Bool.not_eq_true'] at h1 h2
  have e := PyProof.Rows.lex_total _ _ h2 h1
  cases k : PyData.eqv a b with
  | true => rfl
  | false => exact absurd e (lex_not_both ((PySem.W.toks_eqv _ _ al).2 k))
/-- data that tells its things apart -/
structure Apt (f : α → PyData) : Prop where
  al : ∀ a b, PySem.W.alike (f a) (f b) = true
  ev : ∀ a b, PyData.eqv (f a) (f b) = decide (a = b)
variable {f : α → PyData} (h : Apt f)
include h
theorem Apt.list (xs ys : List α) : PyData.eqv (.list (xs.map f)) (.list (ys.map f)) = decide (xs = ys) := by
  show PyData.eqvAll (xs.map f) (ys.map f) = _
  induction xs generalizing ys with
  | nil => cases ys <;> simp [PyData.eqvAll]
  | cons a xs ih =>
    cases ys with
    | nil => simp [PyData.eqvAll]
    | cons b ys =>
      rw [List.map_cons, List.map_cons]
      show (PyData.eqv (f a) (f b) && PyData.eqvAll (xs.map f) (ys.map f)) = _
      rw [h.ev, ih]
      refine bool_iff ?_
      simp
theorem Apt.any (x : α) (xs : List α) : ((xs.map f).any fun z => PyData.eqv z (f x)) = decide (x ∈ xs) := by
  rw [List.any_map]
  refine bool_iff ?_
  rw [List.any_eq_true, decide_eq_true_iff]
  constructor
  · rintro ⟨y, hy, e⟩
    have e : PyData.eqv (f y) (f x) = true := e
    rw [h.ev] at e
    rw [← of_decide_eq_true e]
    exact hy
  · exact fun m => ⟨x, m, by show PyData.eqv (f x) (f x) = true; rw [h.ev]; exact decide_eq_true rfl⟩
theorem Apt.sorted (xs ys : List α) : PyData.eqv (.list ((xs.map f).mergeSort leD)) (.list ((ys.map f).mergeSort leD)) = true ↔ xs.Perm ys := by
  have e : ∀ l : List α, (l.map f).mergeSort leD = (l.mergeSort fun a b => leD (f a) (f b)).map f := fun l =>
    (List.map_mergeSort (r := fun a b => leD (f a) (f b)) (s := leD) (f := f) (l := l) fun a _ b _ => rfl).symm
  rw [e, e, h.list, decide_eq_true_iff]
  constructor
  · intro z
    have p1 := List.mergeSort_perm xs fun a b => leD (f a) (f b)
    have p2 := List.mergeSort_perm ys fun a b => leD (f a) (f b)
    rw [z] at p1
    exact p1.symm.trans p2
  · intro p
    have srt : ∀ l : List α, List.Pairwise (fun a b => leD (f a) (f b) = true) (l.mergeSort fun a b => leD (f a) (f b)) := fun l =>
      List.pairwise_mergeSort (le := fun a b => leD (f a) (f b)) (fun a b c => leD_trans (f a) (f b) (f c)) (fun a b => leD_total (f a) (f b)) l
    have p1 := List.mergeSort_perm xs fun a b => leD (f a) (f b)
    have p2 := List.mergeSort_perm ys fun a b => leD (f a) (f b)
    refine List.Perm.eq_of_pairwise (le := fun a b => leD (f a) (f b) = true) (fun a b _ _ h1 h2 => ?_) (srt xs) (srt ys) (p1.trans (p.trans p2.symm))
    have z := leD_anti (h.al a b) h1 h2
    rw [h.ev] at z
    exact of_decide_eq_true z
end
theorem apt_cell : Apt dCell where
  al := fun a b => rfl
  ev := fun a b => by
    obtain ⟨a1, a2⟩ := a
    obtain ⟨b1, b2⟩ := b
    show (PyData.eqv (.str a1) (.str b1) && (PyData.eqv (.str a2) (.str b2) && true)) = _
    rw [eqv_str, eqv_str, Bool.and_true]
    refine bool_iff ?_
    simp
theorem apt_tie : Apt dTi where
  al := fun a b => rfl
  ev := eqv_ti
theorem cells_perm {cs ds : List Cl} (a : CsOk cs) (b : CsOk ds) : ((cs.length == ds.length && cs.all fun c => decide (kindAt ds c.1 = some c.2)) = true) ↔ cs.Perm ds := by
  rw [Bool.and_eq_true, beq_iff_eq, List.all_eq_true]
  constructor
  · rintro ⟨l, h⟩
    refine perm_of_sub (nodup_map a.nd) (fun c hc => ?_) (by omega)
    have e := of_decide_eq_true (h c hc)
    have mn : c.1 ∈ ds.map (·.1) := by
      have z := kindAt_isSome (n := c.1) (cs := ds)
      rw [e] at z
      exact of_decide_eq_true z.symm
    obtain ⟨k, ek, m⟩ := kindAt_some mn
    rw [e] at ek
    rw [← Option.some.inj ek] at m
    exact m
  · intro p
    exact ⟨p.length_eq, fun c hc => decide_eq_true (kind_nodup b.nd (p.mem_iff.mp hc))⟩
theorem ties_perm {cs ds : List Cl} {ts us : List Ti} (a : TsOk cs ts) : ((ts.length == us.length && ts.all fun t => decide (t ∈ us)) = true) ↔ ts.Perm us := by
  rw [Bool.and_eq_true, beq_iff_eq, List.all_eq_true]
  constructor
  · rintro ⟨l, h⟩
    exact perm_of_sub a.nd (fun c hc => of_decide_eq_true (h c hc)) (by omega)
  · intro p
    exact ⟨p.length_eq, fun c hc => decide_eq_true (p.mem_iff.mp hc)⟩
theorem cells_mem {cs ds : List Cl} (b : CsOk ds) : (cs.all fun c => decide (kindAt ds c.1 = some c.2)) = cs.all fun c => decide (c ∈ ds) := by
  congr 1
  funext c
  refine bool_iff ?_
  rw [decide_eq_true_iff, decide_eq_true_iff]
  constructor
  · intro e
    have mn : c.1 ∈ ds.map (·.1) := by
      have z := kindAt_isSome (n := c.1) (cs := ds)
      rw [e] at z
      exact of_decide_eq_true z.symm
    obtain ⟨k, ek, m⟩ := kindAt_some mn
    rw [e] at ek
    rw [← Option.some.inj ek] at m
    exact m
  · exact fun m => kind_nodup b.nd m
end Bh

set_option Elab.async false
set_option linter.all false
set_option maxRecDepth 100000
set_option maxHeartbeats 1000000
set_option autoImplicit false
namespace Bh
open PySem PySem.Spec PyProof.Rows L2
theorem u50 {k : Nat} {A : Around} (r : Room k A) : A.units + 50 < cLine := by
  have := r65 r
  omega
theorem kb_other {K : PySem.W.Frag} {mg : Str → Option Value} {R : NtC K mg} (M : NtM K mg R) : KBn K M.part.fd ["self", "other"] 1 ["other"] (fun us ws => us ++ ws) (fun vs zs => vs ++ zs) := by
  obtain ⟨oc, od, kV, doc, pm, an, cdv, ct, osl, e, _⟩ := M.part.F.ex
  refine ⟨fun s us ws _ l1 l2 => ?_, fun r1 r2 => ?_⟩
  · rw [e]
    match us, ws, l1, l2 with
    | [u], [a], _, _ => exact .of_eq rfl
  · exact r1.append r2
theorem cells_sortable {cs : List Cl} : PySem.W.AllAlike (cs.map dCell) ∧ PySem.W.Sortable (cs.map dCell) ∧ ∀ d ∈ cs.map dCell, d.depth ≤ 40 := by
  refine ⟨fun d hd e he => ?_, .inl fun d hd => ?_, fun d hd => ?_⟩
  · obtain ⟨a, _, rfl⟩ := List.mem_map.mp hd
    obtain ⟨b, _, rfl⟩ := List.mem_map.mp he
    exact apt_cell.al a b
  · obtain ⟨a, _, rfl⟩ := List.mem_map.mp hd
    exact ⟨_, _, rfl⟩
  · obtain ⟨a, _, rfl⟩ := List.mem_map.mp hd
    exact (by decide : 1 ≤ 40)
theorem ties_sortable {ts : List Ti} : PySem.W.AllAlike (ts.map dTi) ∧ PySem.W.Sortable (ts.map dTi) ∧ ∀ d ∈ ts.map dTi, d.depth ≤ 40 := by
  refine ⟨fun d hd e he => ?_, .inl fun d hd => ?_, fun d hd => ?_⟩
  · obtain ⟨a, _, rfl⟩ := List.mem_map.mp hd
    obtain ⟨b, _, rfl⟩ := List.mem_map.mp he
    exact apt_tie.al a b
  · obtain ⟨a, _, rfl⟩ := List.mem_map.mp hd
    exact ⟨_, _, rfl⟩
  · obtain ⟨a, _, rfl⟩ := List.mem_map.mp hd
    exact (by decide : 1 ≤ 40)
def LayC (cs : List Cl) : Prop := ∀ c ∈ cs, PySem.PyData.strOk c.2 = true
theorem lay_cell {c : Cl} (h1 : NmOk c.1) (h2 : PySem.PyData.strOk c.2 = true) : (dCell c).canLay0 = true := by
  show (PySem.PyData.strOk c.1 && (PySem.PyData.strOk c.2 && true)) = true
  rw [strOk_nm h1, h2]
  rfl
theorem shaped_cell {c : Cl} (h1 : NmOk c.1) (h2 : PySem.PyData.strOk c.2 = true) : SeqAt.shaped (dCell c) = true := by
  unfold SeqAt.shaped
  rw [lay_cell h1 h2, Bool.true_and]
  rfl
theorem lay_cells : ∀ {cs : List Cl}, (∀ c ∈ cs, NmOk c.1 ∧ PySem.PyData.strOk c.2 = true) → PyData.canLayAll0 (cs.map dCell) = true
  | [], _ => rfl
  | c :: cs, h => by
    obtain ⟨a, b⟩ := h c List.mem_cons_self
    show ((dCell c).canLay0 && PyData.canLayAll0 (cs.map dCell)) = true
    rw [lay_cell a b, lay_cells fun m hm => h m (List.mem_cons_of_mem _ hm)]
    rfl
theorem shaped_cells {cs : List Cl} (h : ∀ c ∈ cs, NmOk c.1 ∧ PySem.PyData.strOk c.2 = true) : SeqAt.shaped (.list (cs.map dCell)) = true := by
  unfold SeqAt.shaped
  rw [Bool.and_eq_true, decide_eq_true_iff]
  refine ⟨lay_cells h, ?_⟩
  exact Nat.le_trans (Nat.succ_le_succ (depth_all (n := 1) fun d hd => by
    obtain ⟨u, _, rfl⟩ := List.mem_map.mp hd
    exact Nat.le_refl 1)) (by decide)
theorem sort_depth {n : Nat} {ds : List PyData} (h : ∀ d ∈ ds, d.depth ≤ n) : (PyData.list (ds.mergeSort leD)).depth ≤ n + 1 :=
  Nat.succ_le_succ (depth_all fun d hd => h d (List.mem_mergeSort.mp hd))
def spCompared (K : PySem.W.Frag) (C : Addr) : Sp := fun vs H Q _ => ∃ (x dc dt y ec et : Addr) (va vb : V) (cs ds : List Cl) (ts us : List Ti), vs = [.ref x, .ref y, va, vb] ∧ Two H C x dc dt y ec et cs ds ts us ∧ Dp K H va (dNet cs ts) ∧ Dp K H vb (dNet ds us) ∧ LayC cs ∧ LayC ds ∧ ∀ H', Same H H' → Q (.bl true) H'
section
variable {P : Program} {w : World} {K : PySem.W.Frag} {mg : Str → Option Value} {base : Heap} {R : NtC K mg}
theorem ok_compared (T : Top K mg) (M : NtM K mg R) : FnOk P w K mg base CX0 8 T.a_l_compared T.fd_l_compared ["_law_one", "_law_two", "_law_a", "_law_b"] (spCompared K R.C) := by
  have G_m_eq := ok_meq (P := P) (w := w) (base := base) T M
  have G_m_part := ok_mpart (P := P) (w := w) (base := base) T M
  have G_l_like := ok_like (P := P) (w := w) (base := base) T 6
  refine T.d_l_compared.F.ok sc_l_compared (fun vs H Q E h => ?_) (fun cdv A outer s H vs Q E hr h => ?_)
  · obtain ⟨x, dc, dt, y, ec, et, va, vb, cs, ds, ts, us, rfl, _⟩ := h
    rfl
  obtain ⟨x, dc, dt, y, ec, et, va, vb, cs, ds, ts, us, rfl, two, ha, hb, lyc, lyd, q⟩ := h
  obtain ⟨a, p1, p2, xs, ys, rfl, h1, h2, h3, h4, h5⟩ := dnet_at ha
  obtain ⟨b, q1, q2, xs2, ys2, rfl, j1, j2, j3, j4, j5⟩ := dnet_at hb
  refine ⟨_, (Evl.pss_cut (ps_set (i := 4) sc_l_compared.nd rfl (Or.inl rfl) (pe_and (pe_cmpR (op_eqP (K := K) (by rfl) hr.units) (pe_callB (cr_sortedD_K (K := K) (by rfl) (u50 hr)) (by rfl) T.b_sorted (by decide +kernel) (pa_cons (pe_ix (ix_tup_K (K := K) (by rfl)) (pv 2) pe_int (fun _ _ => rfl)) pa_nil)) (pe_callB (cr_sortedD_K (K := K) (by rfl) (u50 hr)) (by rfl) T.b_sorted (by decide +kernel) (pa_cons (pe_ix (ix_tup_K (K := K) (by rfl)) (pv 3) pe_int (fun _ _ => rfl)) pa_nil)) (nomark _)) (pe_one (pe_cmpR (op_eqP (K := K) (by rfl) hr.units) (pe_callB (cr_sortedD_K (K := K) (by rfl) (u50 hr)) (by rfl) T.b_sorted (by decide +kernel) (pa_cons (pe_ix (ix_tup_K (K := K) (by rfl)) (pv 2) pe_int (fun _ _ => rfl)) pa_nil)) (pe_callB (cr_sortedD_K (K := K) (by rfl) (u50 hr)) (by rfl) T.b_sorted (by decide +kernel) (pa_cons (pe_ix (ix_tup_K (K := K) (by rfl)) (pv 3) pe_int (fun _ _ => rfl)) pa_nil)) (nomark _)))))
    (Evl.pss_cut (ps_set (i := 5) sc_l_compared.nd rfl (Or.inl rfl) (pe_and (pe_callB (cr_all_K (K := K) (by rfl) rfl) (by rfl) T.b_all (by decide +kernel) (pa_cons (pe_lc (own := [("_law_row", 7)]) rfl sc_l_compared.nd (pi_list_K (K := K) (by rfl) (pe_ix (ix_tup_K (K := K) (by rfl)) (pv 2) pe_int (fun _ _ => rfl))) (blkOk_by (own := [("_law_row", 7)]) (N := ["_law_one", "_law_two", "_law_a", "_law_b", "_law_same", "_law_part", "_law_told", "_law_row"]) (sc := defScope s_l_compared) (by decide +kernel)) (fun _ _ _ _ _ => by exact (pg_name (i := 7) sc_l_compared.nd rfl (Or.inl rfl))) (fun _ _ _ _ _ => by exact pts_nil) (fun _ _ _ _ _ => by exact (pe_cmpR (op_inDK (K := K) (by rfl) (by exact (r65 hr))) (pv 7) (pe_ix (ix_tup_K (K := K) (by rfl)) (pv 3) pe_int (fun _ _ => rfl)) (by rfl)))) pa_nil)) (pe_one (pe_callB (cr_all_K (K := K) (by rfl) rfl) (by rfl) T.b_all (by decide +kernel) (pa_cons (pe_lc (own := [("_law_row", 7)]) rfl sc_l_compared.nd (pi_list_K (K := K) (by rfl) (pe_ix (ix_tup_K (K := K) (by rfl)) (pv 2) pe_int (fun _ _ => rfl))) (blkOk_by (own := [("_law_row", 7)]) (N := ["_law_one", "_law_two", "_law_a", "_law_b", "_law_same", "_law_part", "_law_told", "_law_row"]) (sc := defScope s_l_compared) (by decide +kernel)) (fun _ _ _ _ _ => by exact (pg_name (i := 7) sc_l_compared.nd rfl (Or.inl rfl))) (fun _ _ _ _ _ => by exact pts_nil) (fun _ _ _ _ _ => by exact (pe_cmpR (op_inDK (K := K) (by rfl) (by exact (r65 hr))) (pv 7) (pe_ix (ix_tup_K (K := K) (by rfl)) (pv 3) pe_int (fun _ _ => rfl)) (by rfl)))) pa_nil)))))
    (pss_cons (ps_set (i := 6) sc_l_compared.nd rfl (Or.inl rfl) (pe_lst (pa_cons (pe_cmpR (op_eqX G_m_eq M.eq.M.at_ M.eq.M.fn M.eq.b (hr.mono (by decide)) R.t2 R.t3) (pv 0) (pv 1) (nomark _)) (pa_cons (pe_cmpR (op_neIns G_m_eq M.ne M.eq.b (hr.mono (by decide))) (pv 0) (pv 1) (nomark _)) (pa_cons (pe_meth (pv 0) R.cl M.part.M G_m_part (hr.mono (by decide)) M.part.b .nil pass0 (pa_cons (pv 1) pa_nil)) (pa_cons (pe_methN (pv 0) R.cl M.part.M G_m_part (hr.mono (by decide)) (kb_other M) pass0 (pk_cons (pv 1) pk_nil)) pa_nil))))))
    (pss_one (ps_ret (pe_call G_l_like (hr.mono (by decide)) (by rfl) T.d_l_like.g T.d_l_like.kp T.d_l_like.b .nil pass0 (pa_cons (pv 6) (pa_cons (pe_lst (pa_cons (pv 4) (pa_cons (pe_not (pv 4)) (pa_cons (pv 5) (pa_cons (pv 5) pa_nil))))) pa_nil)))))))), ?_⟩
  rw [show L2.start ["_law_one", "_law_two", "_law_a", "_law_b", "_law_same", "_law_part", "_law_told", "_law_row"] [.ref x, .ref y, .ref a, .ref b] = [some (.ref x), some (.ref y), some (.ref a), some (.ref b), none, none, none, none] from rfl]
  have lx := DpAll.length h3
  rw [List.length_map] at lx
  have ly := DpAll.length h5
  rw [List.length_map] at ly
  have sc := fun l => (cells_sortable (cs := l))
  have st := fun l => (ties_sortable (ts := l))
  refine ⟨fun σ' H' => σ' = [some (.ref x), some (.ref y), some (.ref a), some (.ref b), some (.bl (eqNet cs ds ts us)), none, none, none] ∧ Same H H', ?_, ?_⟩
  · refine ⟨_, rfl, a, _, (0 : Int), .ref p1, rfl, rfl, h1, rfl, p1, xs, _, rfl, h2, h3, (sc cs).1, (sc cs).2.1, (sc cs).2.2, fun s1 n1 => ?_⟩
    have e1 : Same H (upd H s1 (.lst (sortD xs (cs.map dCell)))) := same_new n1
    refine ⟨_, rfl, b, _, (0 : Int), .ref q1, rfl, rfl, Same.tup e1 j1, rfl, q1, xs2, _, rfl, e1.seq j2, DpAll.mono e1 j3, (sc ds).1, (sc ds).2.1, (sc ds).2.2, fun s2 n2 => ?_⟩
    have e2 : Same (upd H s1 (.lst (sortD xs (cs.map dCell)))) (upd (upd H s1 (.lst (sortD xs (cs.map dCell)))) s2 (.lst (sortD xs2 (ds.map dCell)))) := same_new n2
    have e12 := e1.trans e2
    have k1 := e2 _ _ (show upd H s1 (.lst (sortD xs (cs.map dCell))) s1 = _ from upd_same)
    have k2 : upd (upd H s1 (.lst (sortD xs (cs.map dCell)))) s2 (.lst (sortD xs2 (ds.map dCell))) s2 = _ := upd_same
    generalize upd (upd H s1 (.lst (sortD xs (cs.map dCell)))) s2 (.lst (sortD xs2 (ds.map dCell))) = H2 at e12 k1 k2 ⊢
    refine ⟨.list ((cs.map dCell).mergeSort leD), .list ((ds.map dCell).mergeSort leD), .lst (SqL.of k1) (DpAll.mono e12 (dpall_sortD h3)), .lst (SqL.of k2) (DpAll.mono e12 (dpall_sortD j3)), ?_, _, rfl, ?_⟩
    · exact Nat.le_trans (Nat.min_le_left _ _) (Nat.le_trans (sort_depth fun d hd => by
        obtain ⟨c, _, rfl⟩ := List.mem_map.mp hd
        exact Nat.le_refl 1) (by decide))
    have eA : PyData.eqv (.list ((cs.map dCell).mergeSort leD)) (.list ((ds.map dCell).mergeSort leD)) = (cs.length == ds.length && cs.all fun c => decide (kindAt ds c.1 = some c.2)) := bool_iff ((apt_cell.sorted cs ds).trans (cells_perm two.ca two.cb).symm)
    have eB : PyData.eqv (.list ((ts.map dTi).mergeSort leD)) (.list ((us.map dTi).mergeSort leD)) = (ts.length == us.length && ts.all fun t => decide (t ∈ us)) := bool_iff ((apt_tie.sorted ts us).trans (ties_perm (cs := cs) (ds := ds) two.ta).symm)
    rw [eA]
    refine iteB (fun c => ?_) (fun c => ?_)
    · refine ⟨_, rfl, a, _, (1 : Int), .ref p2, rfl, rfl, Same.tup e12 h1, rfl, p2, ys, _, rfl, e12.seq h4, DpAll.mono e12 h5, (st ts).1, (st ts).2.1, (st ts).2.2, fun s3 n3 => ?_⟩
      have e3 : Same H2 (upd H2 s3 (.lst (sortD ys (ts.map dTi)))) := same_new n3
      refine ⟨_, rfl, b, _, (1 : Int), .ref q2, rfl, rfl, Same.tup (e12.trans e3) j1, rfl, q2, ys2, _, rfl, (e12.trans e3).seq j4, DpAll.mono (e12.trans e3) j5, (st us).1, (st us).2.1, (st us).2.2, fun s4 n4 => ?_⟩
      have e4 : Same (upd H2 s3 (.lst (sortD ys (ts.map dTi)))) (upd (upd H2 s3 (.lst (sortD ys (ts.map dTi)))) s4 (.lst (sortD ys2 (us.map dTi)))) := same_new n4
      have e14 := e12.trans (e3.trans e4)
      have k3 := e4 _ _ (show upd H2 s3 (.lst (sortD ys (ts.map dTi))) s3 = _ from upd_same)
      refine ⟨.list ((ts.map dTi).mergeSort leD), .list ((us.map dTi).mergeSort leD), .lst (SqL.of k3) (DpAll.mono e14 (dpall_sortD h5)), .lst (SqL.of upd_same) (DpAll.mono e14 (dpall_sortD j5)), ?_, ?_⟩
      · exact Nat.le_trans (Nat.min_le_left _ _) (Nat.le_trans (sort_depth fun d hd => by
          obtain ⟨c, _, rfl⟩ := List.mem_map.mp hd
          exact Nat.le_refl 1) (by decide))
      · refine ⟨?_, e14⟩
        rw [eB]
        unfold eqNet
        rw [c, Bool.true_and]
        rfl
    · refine ⟨?_, e12⟩
      unfold eqNet
      rw [c, Bool.false_and]
      rfl
  · rintro σ' H1 ⟨rfl, s1⟩
    refine ⟨fun σ' H' => σ' = [some (.ref x), some (.ref y), some (.ref a), some (.ref b), some (.bl (eqNet cs ds ts us)), some (.bl (partNet cs ds ts us)), none, none] ∧ Same H H', ?_, ?_⟩
    · refine ⟨_, rfl, a, _, (0 : Int), .ref p1, rfl, rfl, Same.tup s1 h1, rfl, p1, rfl, ⟨_, s1.seq h2⟩, fun D nD => ?_⟩
      refine lc_it walk_list (fun i H' => Same H1 H' ∧ H' D = some (.lst (((cs.take i).map fun c => decide (c ∈ ds)).map V.bl))) ⟨same_new nD, upd_same⟩ (fun i H' _ ⟨s, _⟩ => (s1.trans s).seq h2) ?_ ?_
      · rintro i z H' H'' hi ⟨s2, hD⟩ ⟨rfl, ez⟩
        obtain ⟨c, ca, hc, rfl, hca⟩ := dp_cell h3 ez
        have s12 := s1.trans s2
        refine ⟨rfl, _, rfl, _, rfl, b, _, (0 : Int), .ref q1, rfl, rfl, Same.tup s12 j1, rfl, ?_⟩
        have okc := (two.ca.nm c (List.mem_of_getElem? hc)).1
        refine ⟨dCell c, ds.map dCell, .tup (Same.tup s12 hca) (strs_dp [c.1, c.2]), .lst (s12.seq j2) (DpAll.mono s12 j3), shaped_cell okc (lyc c (List.mem_of_getElem? hc)), shaped_cells fun d hd => ⟨(two.cb.nm d hd).1, lyd d hd⟩, ?_⟩
        rw [show ((ds.map dCell).any fun z => PyData.eqv z (dCell c)) = decide (c ∈ ds) from (apt_cell.any c ds).trans (decide_eq_decide.mpr Iff.rfl)]
        refine ⟨_, hD, ?_, same_mut s2 nD, ?_⟩
        · rw [List.length_map, List.length_map, List.length_take]
          have := two.ca.few
          exact lt_line (by omega)
        · rw [upd_same, take_next hc, List.map_append, List.map_append]
          rfl
      · rintro H' ⟨s2, hD⟩
        rw [lx, List.take_length] at hD
        refine ⟨D, _, rfl, SqL.of hD, _, rfl, ?_⟩
        have s12 := s1.trans s2
        have eall : ((cs.map fun c => decide (c ∈ ds)).all id) = cs.all fun c => decide (kindAt ds c.1 = some c.2) := by
          rw [List.all_map, cells_mem two.cb]
          rfl
        rw [eall]
        refine iteB (fun c => ?_) (fun c => ?_)
        · refine ⟨_, rfl, a, _, (1 : Int), .ref p2, rfl, rfl, Same.tup s12 h1, rfl, p2, rfl, ⟨_, s12.seq h4⟩, fun D2 nD2 => ?_⟩
          refine lc_it walk_list (fun i H'' => Same H' H'' ∧ H'' D2 = some (.lst (((ts.take i).map fun c => decide (c ∈ us)).map V.bl))) ⟨same_new nD2, upd_same⟩ (fun i H'' _ ⟨s, _⟩ => (s12.trans s).seq h4) ?_ ?_
          · rintro i z K' K'' hi ⟨s3, hD3⟩ ⟨rfl, ez⟩
            obtain ⟨t, ta, ht, rfl, hta⟩ := dp_ti h5 ez
            have s13 := s12.trans s3
            have mt := List.mem_of_getElem? ht
            refine ⟨rfl, _, rfl, _, rfl, b, _, (1 : Int), .ref q2, rfl, rfl, Same.tup s13 j1, rfl, ?_⟩
            obtain ⟨o1, o2, o3⟩ := two.ta.nm t mt
            refine ⟨dTi t, us.map dTi, .tup (Same.tup s13 hta) (strs_dp [t.1, t.2.1, t.2.2]), .lst (s13.seq j4) (DpAll.mono s13 j5), shaped_ti o1 (name_ok two.ca o2) (name_ok two.ca o3), shaped_tis fun u hu => ⟨(two.tb.nm u hu).1, name_ok two.cb (two.tb.nm u hu).2.1, name_ok two.cb (two.tb.nm u hu).2.2⟩, ?_⟩
            rw [show ((us.map dTi).any fun z => PyData.eqv z (dTi t)) = decide (t ∈ us) from (apt_tie.any t us).trans (decide_eq_decide.mpr Iff.rfl)]
            refine ⟨_, hD3, ?_, same_mut s3 nD2, ?_⟩
            · rw [List.length_map, List.length_map, List.length_take]
              have := two.ta.few
              exact lt_line (by omega)
            · rw [upd_same, take_next ht, List.map_append, List.map_append]
              rfl
          · rintro K' ⟨s3, hD3⟩
            rw [ly, List.take_length] at hD3
            refine ⟨D2, _, rfl, SqL.of hD3, ?_⟩
            refine ⟨?_, s12.trans s3⟩
            unfold partNet
            rw [c, Bool.true_and]
            have eall2 : ((ts.map fun c => decide (c ∈ us)).all id) = ts.all fun c => decide (c ∈ us) := by
              rw [List.all_map]
              rfl
            rw [eall2]
            rfl
        · refine ⟨?_, s12⟩
          unfold partNet
          rw [c, Bool.false_and]
          rfl
    · rintro σ' H2 ⟨rfl, s2⟩
      have two2 := two.mono s2
      obtain ⟨dx, a0, a1, a2⟩ := id two2.a
      obtain ⟨dy, b0, b1, b2⟩ := id two2.b
      have fc := two.fc
      have ft := two.ft
      refine sq_asg (lst_step (cons_step ?_))
      refine ⟨_, rfl, _, rfl, x, dx, _, rfl, a0, .inl ⟨y, dy, _, rfl, b0⟩, x, dc, dt, cs, ts, .ref y, rfl, two2.a, .inl ⟨y, ec, et, ds, us, rfl, two2.b, ⟨_, rfl⟩, ?_⟩⟩
      refine cons_step ?_
      refine ⟨_, rfl, _, rfl, x, dx, _, y, dy, _, rfl, a0, rfl, b0, x, dc, dt, cs, ts, .ref y, rfl, two2.a, .inl ⟨y, ec, et, ds, us, rfl, two2.b, _, rfl, ?_⟩⟩
      refine cons_step ?_
      refine ⟨_, rfl, x, dx, _, rfl, a0, rfl, _, rfl, x, dc, dt, y, ec, et, cs, ds, ts, us, rfl, two2.a, two2.b, two.nx, two.nc, two.nt, by omega, by omega, fun H3 s3 => ?_⟩
      have two3 := two2.mono s3
      obtain ⟨dx3, c0, _, _⟩ := id two3.a
      refine cons_step ?_
      refine ⟨_, rfl, x, dx3, _, rfl, c0, rfl, _, rfl, rfl, x, dc, dt, y, ec, et, cs, ds, ts, us, rfl, two3.a, two3.b, two.nx, two.nc, two.nt, by omega, by omega, fun H4 s4 => ?_⟩
      refine ⟨(by show 4 ≤ sizeLine; decide), fun e1 ne1 => ?_⟩
      have s5 : Same H4 (upd H4 e1 (.lst [.bl (eqNet cs ds ts us), .bl (!eqNet cs ds ts us), .bl (partNet cs ds ts us), .bl (partNet cs ds ts us)])) := same_new ne1
      refine gn_step ?_
      refine ⟨_, rfl, _, rfl, _, rfl, _, rfl, _, rfl, _, rfl, (by show 4 ≤ sizeLine; decide), fun e2 ne2 => ?_⟩
      refine ⟨.ref e1, .ref e2, .list [.bool (eqNet cs ds ts us), .bool (!eqNet cs ds ts us), .bool (partNet cs ds ts us), .bool (partNet cs ds ts us)], rfl, .lst (SqL.of (same_new ne2 _ _ upd_same)) (.cons (.bl _) (.cons (.bl _) (.cons (.bl _) (.cons (.bl _) .nil)))), .lst (SqL.of upd_same) (.cons (.bl _) (.cons (.bl _) (.cons (.bl _) (.cons (.bl _) .nil)))), ?_, fun H5 s6 => ?_⟩
      · refine .lst (by show 4 ≤ 100000; decide) fun d hd => ?_
        simp only [List.mem_cons, List.not_mem_nil, or_false] at hd
        rcases hd with rfl | rfl | rfl | rfl <;> exact .bl
      · exact q _ (s2.trans (s3.trans (s4.trans (s5.trans ((same_new ne2).trans s6)))))
end
end Bh

set_option Elab.async false
set_option linter.all false
set_option maxRecDepth 100000
set_option maxHeartbeats 1000000
set_option autoImplicit false
namespace Bh
open PySem PySem.Spec PyProof.Rows L2
theorem eqNet_perm {cs ds : List Cl} {ts us : List Ti} (a : CsOk cs) (b : CsOk ds) (c : TsOk cs ts) (p : cs.Perm ds) (q : ts.Perm us) : eqNet cs ds ts us = true := by
  unfold eqNet
  rw [Bool.and_eq_true]
  exact ⟨(cells_perm a b).mpr p, (ties_perm (cs := cs) (ds := ds) c).mpr q⟩
theorem partNet_sub {cs ds : List Cl} {ts us : List Ti} (b : CsOk ds) (h1 : ∀ c ∈ cs, c ∈ ds) (h2 : ∀ t ∈ ts, t ∈ us) : partNet cs ds ts us = true := by
  unfold partNet
  rw [cells_mem b, Bool.and_eq_true, List.all_eq_true, List.all_eq_true]
  exact ⟨fun c hc => decide_eq_true (h1 c hc), fun t ht => decide_eq_true (h2 t ht)⟩
theorem join_right {cs ds : List Cl} (a : CsOk cs) (b : CsOk ds) (no : ∀ c ∈ cs, clashC ds c = false) : ∀ d ∈ ds, d ∈ cs ++ moreC cs ds := fun d hd => by
  by_cases h : d.1 ∈ cs.map (·.1)
  · obtain ⟨c, hc, e⟩ := List.mem_map.mp h
    have z := no c hc
    unfold clashC at z
    rw [show c.1 = d.1 from e, kind_nodup b.nd hd] at z
    have z2 : ¬ d.2 ≠ c.2 := of_decide_eq_false z
    have e2 : d.2 = c.2 := Classical.not_not.mp z2
    have : d = c := Prod.ext e.symm e2
    rw [this]
    exact List.mem_append_left _ hc
  · exact List.mem_append_right _ (List.mem_filter.mpr ⟨hd, decide_eq_true h⟩)
theorem tjoin_right {ts us : List Ti} : ∀ t ∈ us, t ∈ ts ++ moreT ts us := fun t ht => by
  by_cases h : t ∈ ts
  · exact List.mem_append_left _ h
  · exact List.mem_append_right _ (List.mem_filter.mpr ⟨ht, decide_eq_true h⟩)
theorem same_hid_new {z : Addr} {H H2 H3 : Hp} (s : Same H H2) (n : H z = none) (s3 : Same (hid z H2) H3) : Same H H3 := fun a o e => s3 _ _ (hid_of s n _ _ e)
theorem net_eqv (cs : List Cl) (ts : List Ti) : PyData.eqv (dNet cs ts) (dNet cs ts) = true := by
  show (PyData.eqv (.list (cs.map dCell)) (.list (cs.map dCell)) && (PyData.eqv (.list (ts.map dTi)) (.list (ts.map dTi)) && true)) = true
  rw [apt_cell.list, apt_tie.list, decide_eq_true rfl, decide_eq_true rfl]
  rfl
theorem list_depth {ds : List PyData} {n : Nat} (h : ∀ d ∈ ds, d.depth ≤ n) : (PyData.list ds).depth ≤ n + 1 := Nat.succ_le_succ (depth_all h)
theorem net_depth (cs : List Cl) (ts : List Ti) : (dNet cs ts).depth ≤ 3 := by
  refine Nat.succ_le_succ (depth_all (n := 2) fun d hd => ?_)
  rcases (by simpa using hd : d = .list (cs.map dCell) ∨ d = .list (ts.map dTi)) with rfl | rfl
  · exact list_depth fun d hd => by
      obtain ⟨c, _, rfl⟩ := List.mem_map.mp hd
      exact Nat.le_refl 1
  · exact list_depth fun d hd => by
      obtain ⟨c, _, rfl⟩ := List.mem_map.mp hd
      exact Nat.le_refl 1
/-- a new network stands apart from an older one -/
theorem NetA.fresh {H : Hp} {C x dc dt y ec et : Addr} {cs : List Cl} {ts : List Ti} (a : NetA H C x dc dt cs ts) (n1 : H y = none) (n2 : H ec = none) (n3 : H et = none) : x ≠ y ∧ dc ≠ ec ∧ dt ≠ et := by
  obtain ⟨dx, h0, h1, h2⟩ := a
  refine ⟨fun z => ?_, fun z => ?_, fun z => ?_⟩
  · rw [z, n1] at h0; cases h0
  · rw [z, n2] at h1; cases h1
  · rw [z, n3] at h2; cases h2
def spPutIn (K : PySem.W.Frag) (C : Addr) : Sp := fun vs H Q _ => ∃ (x dc dt y ec et : Addr) (va : V) (cs ds : List Cl) (ts us : List Ti), vs = [.ref x, .ref y, va] ∧ Two H C x dc dt y ec et cs ds ts us ∧ Dp K H va (dNet cs ts) ∧ (∀ c ∈ cs, clashC ds c = false) ∧ ∀ H', Same H H' → Q (.bl true) H'
section
variable {P : Program} {w : World} {K : PySem.W.Frag} {mg : Str → Option Value} {base : Heap} {R : NtC K mg}
theorem ok_putin (T : Top K mg) (M : NtM K mg R) : FnOk P w K mg base CX0 11 T.a_l_put_in T.fd_l_put_in ["_law_one", "_law_two", "_law_a"] (spPutIn K R.C) := by
  have G_m_eq := ok_meq (P := P) (w := w) (base := base) T M
  have G_m_part := ok_mpart (P := P) (w := w) (base := base) T M
  have G_m_or := ok_mor (P := P) (w := w) (base := base) T M
  have G_m_ior := ok_mior (P := P) (w := w) (base := base) T M
  have G_m_clone := ok_mclone (P := P) (w := w) (base := base) T M
  have G_l_net_of := ok_netof (P := P) (w := w) (base := base) T M
  refine T.d_l_put_in.F.ok sc_l_put_in (fun vs H Q E h => ?_) (fun cdv A outer s H vs Q E hr h => ?_)
  · obtain ⟨x, dc, dt, y, ec, et, va, cs, ds, ts, us, rfl, _⟩ := h
    rfl
  obtain ⟨x, dc, dt, y, ec, et, va, cs, ds, ts, us, rfl, two, ha, no, q⟩ := h
  refine ⟨_, (pss_cons (ps_par (i := 3) (j := 4) (by rfl) sc_l_put_in.nd rfl rfl (by decide) rfl rfl (pa_cons (pe_op (op_orIns G_m_or M.oo M.or_.M.fn M.sf M.or_.b (passes_call LamX.takes0 (fun _ _ _ _ z => z)) (hr.mono (by decide))) (pv 0) (pv 1)) (pa_cons (pe_meth0 (pv 0) R.cl M.clone.M G_m_clone (hr.mono (by decide)) M.clone.b .nil pass0) pa_nil)) (by rfl))
    (pss_cons (ps_set (i := 5) sc_l_put_in.nd rfl (Or.inl rfl) (pv 4))
    (pss_cons (ps_aug (i := 4) sc_l_put_in.nd rfl (Or.inl rfl) (pv 1) (ip_orIns G_m_ior M.oi M.ior.M.fn M.sf M.ior.b (passes_call LamX.takes0 (fun _ _ _ _ z => z)) (hr.mono (by decide))))
    (pss_cons (ps_if (PW.pt (pw_or (pt_cmpR (op_neIns G_m_eq M.ne M.eq.b (hr.mono (by decide))) (pv 4) (pv 3) (nomark _)) (pw_or (pt_cmpR (op_neIns G_m_eq M.ne M.eq.b (hr.mono (by decide))) (pv 5) (pv 3) (nomark _)) (pw_or1 (pt_cmpR (op_neP (K := K) (by rfl) hr.units) (pe_call G_l_net_of (hr.mono (by decide)) (by rfl) T.d_l_net_of.g T.d_l_net_of.kp T.d_l_net_of.b .nil pass0 (pa_cons (pv 0) pa_nil)) (pv 2) (nomark _)))))) (pss_one (ps_ret pe_bl)) pss_nil)
    (pss_one (ps_ret (pe_and (pe_meth (pv 0) R.cl M.part.M G_m_part (hr.mono (by decide)) M.part.b .nil pass0 (pa_cons (pv 3) pa_nil)) (pe_one (pe_meth (pv 1) R.cl M.part.M G_m_part (hr.mono (by decide)) M.part.b .nil pass0 (pa_cons (pv 3) pa_nil)))))))))), ?_⟩
  rw [show L2.start ["_law_one", "_law_two", "_law_a", "_law_both", "_law_late", "_law_kept"] [.ref x, .ref y, va] = [some (.ref x), some (.ref y), some va, none, none, none] from rfl]
  obtain ⟨dx, h0, h1, h2⟩ := id two.a
  obtain ⟨dy, g0, g1, g2⟩ := id two.b
  have okc := cs_join two.ca two.cb (by have := two.fc; omega)
  have okt := ts_join (cs := cs) (ds := ds) two.ta two.tb (by have := two.ft; omega)
  refine ⟨_, rfl, _, rfl, x, dx, _, y, dy, _, rfl, h0, rfl, g0, x, dc, dt, y, ec, et, cs, ds, ts, us, rfl, two, .inl ⟨no, fun H1 j jc jt nj njc njt s1 na1 => ⟨⟨j, rfl⟩, ?_⟩⟩⟩
  have two1 := two.mono s1
  obtain ⟨dx1, k0, k1, k2⟩ := id two1.a
  refine cons_step ?_
  refine ⟨_, rfl, x, dx1, _, rfl, k0, rfl, x, dc, dt, cs, ts, rfl, two1.a, two.ca, two.ta, fun H2 z zc zt nz nzc nzt s2 naz => ?_⟩
  refine ⟨_, _, rfl, ?_⟩
  dsimp only [List.set]
  refine ⟨_, rfl, ?_⟩
  refine gn_step ?_
  dsimp only [List.set]
  have two2 := two1.mono s2
  have s12 := s1.trans s2
  obtain ⟨dx2, c0, _, _⟩ := id two2.a
  obtain ⟨dy2, d0, _, _⟩ := id two2.b
  obtain ⟨dz, e0, _, _⟩ := id naz
  obtain ⟨f1, f2, f3⟩ := NetA.fresh (C := R.C) two1.b nz nzc nzt
  have twoZ : Two H2 R.C z zc zt y ec et cs ds ts us := ⟨naz, two2.b, Ne.symm f1, Ne.symm f2, Ne.symm f3, two.ca, two.ta, two.cb, two.tb, two.fc, two.ft⟩
  refine ⟨_, rfl, _, rfl, z, dz, _, y, dy2, _, rfl, e0, rfl, d0, z, zc, zt, y, ec, et, cs, ds, ts, us, rfl, twoZ, .inl ⟨no, fun H3 zc' zt' nc' nt' s3 naz3 => ⟨⟨z, rfl⟩, ?_⟩⟩⟩
  dsimp only [List.set]
  have s13 : Same H1 H3 := same_hid_new s2 nz s3
  have s03 := s1.trans s13
  have two3 := two.mono s03
  have na3 := na1.mono s13
  obtain ⟨dx3, m0, _, _⟩ := id two3.a
  obtain ⟨dy3, o0, _, _⟩ := id two3.b
  obtain ⟨dz3, p0, _, _⟩ := id naz3
  obtain ⟨dj3, q0, _, _⟩ := id na3
  have eq1 : eqNet (cs ++ moreC cs ds) (cs ++ moreC cs ds) (ts ++ moreT ts us) (ts ++ moreT ts us) = true := eqNet_perm okc okc okt (.refl _) (.refl _)
  refine ⟨_, rfl, _, rfl, z, dz3, _, j, dj3, _, rfl, p0, rfl, q0, z, zc', zt', _, _, .ref j, rfl, naz3, .inl ⟨j, jc, jt, _, _, rfl, na3, _, rfl, _, rfl, ?_⟩⟩
  rw [eq1]
  refine iteF ?_
  refine ⟨_, rfl, _, rfl, z, dz3, _, j, dj3, _, rfl, p0, rfl, q0, z, zc', zt', _, _, .ref j, rfl, naz3, .inl ⟨j, jc, jt, _, _, rfl, na3, _, rfl, _, rfl, ?_⟩⟩
  rw [eq1]
  refine iteF ?_
  refine ⟨_, rfl, x, dc, dt, cs, ts, rfl, two3.a, two.ca, fun H4 v s4 hv => ?_⟩
  have s04 := s03.trans s4
  refine ⟨_, rfl, dNet cs ts, dNet cs ts, hv, Dp.mono s04 ha, Nat.le_trans (Nat.min_le_left _ _) (Nat.le_trans (net_depth cs ts) (by decide)), _, rfl, ?_⟩
  rw [net_eqv]
  refine iteF ?_
  have two4 := two.mono s04
  obtain ⟨dx4, t0, _, _⟩ := id two4.a
  have na4 := na3.mono s4
  obtain ⟨f4, f5, f6⟩ := NetA.fresh (C := R.C) two.a nj njc njt
  obtain ⟨f7, f8, f9⟩ := NetA.fresh (C := R.C) two.b nj njc njt
  have fc := two.fc
  have ft := two.ft
  refine ⟨_, rfl, x, dx4, _, rfl, t0, rfl, _, rfl, x, dc, dt, j, jc, jt, _, _, _, _, rfl, two4.a, na4, f4, f5, f6, by omega, by omega, fun H5 s5 => ⟨_, rfl, ?_⟩⟩
  rw [partNet_sub okc (fun c hc => List.mem_append_left _ hc) (fun t ht => List.mem_append_left _ ht)]
  refine iteT ?_
  have two5 := two4.mono s5
  obtain ⟨dy5, r0, _, _⟩ := id two5.b
  refine ⟨_, rfl, y, dy5, _, rfl, r0, rfl, _, rfl, y, ec, et, j, jc, jt, _, _, _, _, rfl, two5.b, na4.mono s5, f7, f8, f9, by omega, by omega, fun H6 s6 => ?_⟩
  rw [partNet_sub okc (join_right two.ca two.cb no) tjoin_right]
  exact q _ (s04.trans (s5.trans s6))
end
end Bh

set_option Elab.async false
set_option linter.all false
set_option maxRecDepth 100000
set_option maxHeartbeats 2000000
namespace Bh
open PySem PySem.Spec PyProof.Rows L2
/-! ### try .. except A as n: all that the body raises is of A -/
def wOneC (K : PySem.W.Frag) (C1 : Value) (i n : Nat) (ts : TS) (D : Ends) : WX := fun cls d σ H => PySem.W.exmOne K cls C1 = some true ∧ ∀ a, H a = none → σ.length = n →
  ts { nx := fun σ' H' => D.nx (σ'.set i none) H', rt := D.rt, bk := fun σ' H' => D.bk (σ'.set i none) H', ct := fun σ' H' => D.ct (σ'.set i none) H' } (σ.set i (some (.ref a))) (upd H a (exz a cls d))
section
variable {X : Cx} {x1 n : Str} {C1 : Addr} {i : Nat} {body suite : List Stmt} {b₀ : Stmt} {p1 pos pos' : Pos} {tb : WX → TS} {ts : TS}
theorem ps_try_oneC (hs : X.stack = X.env :: X.outer) (hf : X.env.frame = some X.env.locals) (hN : X.N.Nodup) (hi : X.N[i]? = some n) (hln : X.env.kindOf n = some .local)
    (g1 : Gl X x1) (m1 : X.mg x1 = some (.ref C1)) (d1 : (x1 == ("__debug__" : Str)) = false)
    (hb : ∀ (W : WX) (pn : List (Addr × Obj)) (xe : Value → Shared → Prop), Takes (X.tr pn xe) W → PassesOwn (model X.prog X.w) X.A X.env xe → PSs (X.tr pn xe) body (tb W))
    (hsu : ∀ (a : Addr) (pn : List (Addr × Obj)), PSs (X.suite a pn) (b₀ :: suite) ts) :
    PS X (.Try body [.ExceptHandler (some (.Name x1 p1)) (some n) (b₀ :: suite) pos'] [] [] pos) (fun D σ H => tb (wOneC X.K (.ref C1) i X.N.length ts D) D σ H) := by
  refine ⟨fun pins s σ H D I h => wpAny_Try_except ?_⟩
  have ok := I.ok
  have tops : X.A.frames = some (X.env :: X.outer) := ok.frames.trans (congrArg some hs)
  refine wpAny_mono ((hb (wOneC X.K (.ref C1) i X.N.length ts D) (X.pn ++ pins) _ (fun u s1 air => ?caught) PassesOwn.looking).run [] s σ H D (I.toTry _) h) (fun f s1 e => ?ends) (fun _ _ e => e)
  case ends =>
    match f, e with
    | .next, ⟨σ1, H1, J, q⟩ => exact wpAny_execs_nil ⟨σ1, H1, J.ofTry ok, q⟩
    | .brk, ⟨σ1, H1, J, q⟩ => exact ⟨σ1, H1, J.ofTry ok, q⟩
    | .cont, ⟨σ1, H1, J, q⟩ => exact ⟨σ1, H1, J.ofTry ok, q⟩
    | .ret u, ⟨v, σ1, H1, J, r, q⟩ => exact ⟨v, σ1, H1, J.ofTry ok, r, q⟩
  case caught =>
    obtain ⟨a, B, s0, pins0, σ0, H0, cls, d, rfl, J0, nb, up, sky, na, os, ag, hm, go⟩ := air
    have J : Inv X pins σ0 H0 s0 := J0.ofTry ok
    rw [show (X.tr (X.pn ++ pins) _).stack = X.env :: X.outer from hs] at sky
    refine Sky.land Zc.steady tops hf sky fun h3 fl3 up3 => ?_
    obtain ⟨o3, v3, e3, z3, f3⟩ := fl3.there
    have noframe : a ∉ frs X.stack := by
      rw [hs]
      intro hm'
      obtain ⟨_, o', e', hd⟩ := fl3.2.2.1.mem hm'
      rw [e3] at e'
      cases e'
      exact hd _ f3
    have a0 : s0.heap.get? a = none := by
      cases q : s0.heap.get? a with
      | none => rfl
      | some o =>
        have z := nb a o q noframe
        rw [fl3.2.1] at z
        cases z
    have J3 := Inv.seen (s1 := { s1 with heap := h3 }) J nb fl3.1 (up.trans up3) os ag a0 na e3 z3 f3
    have S3 := Inv.inSuite J3 a
    have own : PySem.W.Looks (model X.prog X.w) h3 (typeOf (.ref a)) cls := fun A Q E s k q => wpAny_typeOf_ref (k _ _ e3) (by rw [z3.1]; exact q)
    have hit := PySem.W.exm_one (M := model X.prog X.w) J3.kIn own hm
    refine wpAny_handleBy_cons (codeAny_handlers_test (ld_glob S3 g1 m1 (hit.here ?_) d1)) (fun q => by cases q)
    refine codeAny_handlers_suite_as ?_
    refine HandSPX.lands_againZ fl3 fun h5 fl5 up5 => ?_
    obtain ⟨o5, v5, e5, z5, f5⟩ := fl5.there
    have J5 := Inv.seen (s1 := { s1 with heap := h5 }) J nb fl5.1 ((up.trans up3).trans up5) os ag a0 na e5 z5 f5
    refine store_ok (X := X.suite a (X.pn ++ pins)) (v := .ref a) (Inv.inSuite J5 a) hN hi (.inl hln) rfl (fun s6 S6 => ?_) (.inr hln)
    refine wpAny_mono ((hsu a (X.pn ++ pins)).run [] s6 _ _ _ S6 (go a na J.len)) (fun f s7 e => ?_) (fun _ _ y => False.elim y)
    have leave : ∀ {σ7 : L2.St} {H7 : Hp} {R : Shared → Prop}, Inv (X.suite a (X.pn ++ pins)) [] σ7 H7 s7 → (∀ s8, Inv X pins (σ7.set i none) H7 s8 → R s8) →
        wpAny (model X.prog X.w) X.A (do bindName X.env n .none; unbindBehindTheSuite X.env n pos') (fun _ s8 => R s8) X.xe s7 := fun S7 r => gone_ok (Inv.offSuite S7 ok) hN hi hln r
    match f, e with
    | .next, ⟨σ7, H7, S7, q⟩ => exact leave S7 fun s8 J8 => ⟨_, _, J8, q⟩
    | .brk, ⟨σ7, H7, S7, q⟩ => exact leave S7 fun s8 J8 => ⟨_, _, J8, q⟩
    | .cont, ⟨σ7, H7, S7, q⟩ => exact leave S7 fun s8 J8 => ⟨_, _, J8, q⟩
    | .ret u, ⟨v, σ7, H7, S7, r, q⟩ => exact leave S7 fun s8 J8 => ⟨_, _, _, J8, r, q⟩
end
/-! ### name |= e in a try: what it raises is known with the names as they stand -/
section
variable {X : Cx} {C f : Addr} {fd : FuncData} {k : Nat} {sp : Sp} {ps : List Str}
theorem own_call_at {EX : XK} (F : FnOk X.prog X.w X.K X.mg X.base (L2.CX X.prog X.w) k f fd ps sp) (hb : Binds X.K fd ps []) {A : Around} (hr : Room k A) (fr : A.frames = X.A.frames) {pins : List (Addr × Obj)} {s : Shared} {σ : L2.St} {H : Hp} {vs : List V} {us : List Value} {Q : VK}
    (I : Inv X pins σ H s) (out : ∀ e s2, L2.CX X.prog X.w X.stack H s EX e s2 → X.xe e s2) (r : Vals vs us) (h : sp vs H Q EX) : wpAny (model X.prog X.w) A (call (.ref f) us) (EP X pins σ Q) X.xe s := by
  have en := I.env0
  have around : Env0 X.prog X.w X.K X.mg X.base A X.stack s H := ⟨by rw [fr]; exact en.frames, en.mod, en.bs, en.bsz, en.funs, en.frf, en.hok, en.bare⟩
  have many := F.len _ _ _ _ h
  have bound := hb s us I.kIn (by rw [List.append_nil, ← r.length]; exact many)
  rw [List.append_nil] at bound
  refine wpAny_call (codeAny_mono (F.run A X.stack s H ⟨us, []⟩ us vs Q EX hr around bound r h) fun res s2 z => ?_)
  match res, z with
  | .error e, z => exact out e s2 z
  | .ok (.ret w), z => exact I.after z
def tOrTry (i : Nat) (C : Addr) (sp : Sp) (W : WX) (te : TE) : TS := fun D σ H => ∃ v, σ[i]? = some (some v) ∧ te σ H fun y H1 => rOrIns C sp (fun cls d H' => W cls d σ H') v y H1 fun z H2 => D.nx (σ.set i (some z)) H2
theorem ps_orTry {W : WX} {i : Nat} {x : Str} {e : Expr} {te : TE} {pos pos' : Pos} (hN : X.N.Nodup) (hi : X.N[i]? = some x) (hx : X.env.scope.names.lookup x = some .local) (he : PE X e te) (tk : Takes X W)
    (F : FnOk X.prog X.w X.K X.mg X.base (L2.CX X.prog X.w) k f fd ps sp) (hs : PySem.W.findIn X.K (.ref C) (PySem.dunderI "or") = some (some (.ref f))) (hf : PySem.W.isFn X.K (.ref f) = true) (sf : PySem.W.selfFirst X.K C = true) (hb : Binds X.K fd ps []) (hr : Room k X.A) :
    PS X (.AugAssign (.Name x pos') .BitOr e pos) (tOrTry i C sp W te) := by
  refine ⟨fun pins s σ H D I h => ?_⟩
  obtain ⟨v, ev, h⟩ := h
  obtain ⟨m, hn, hl⟩ := I.loc
  obtain ⟨u, ru, l⟩ := hl i x v hi ev (.inl hx)
  refine wpAny_AugAssign_Name ?_
  have main : wpAny (model X.prog X.w) X.A (eval e X.env) (fun b s2 => wpAny (model X.prog X.w) X.A (inplaceOp .BitOr u b) (fun r s3 => wpAny (model X.prog X.w) X.A (storeName X.env x r) (fun _ => SP X pins D .next) X.xe s3) X.xe s2) X.xe s := by
    refine thn (he.run pins s σ H _ I h) fun b s1 ⟨y, H1, I1, r1, q1⟩ => ?_
    obtain ⟨a, dx, fs, c, dy, gs, ea, ha, ec, hc, hsp⟩ := q1
    subst ea ec
    cases ru
    cases r1
    obtain ⟨mA, J, _⟩ := ins_get I1.hok ha
    obtain ⟨od, J, _⟩ := J.look
    obtain ⟨m1, hF⟩ := I1.fr
    have body := own_call_at F hb hr rfl I1 (fun e' s2 z => tk e' s2 (XE.of_call I1 (fun _ _ _ k => k) z)) (vs := [.ref a, .ref c]) (us := [.ref a, .ref c]) (.cons rfl (.cons rfl .nil)) hsp
    refine PySem.W.ksp_inplace (op := .BitOr) hF I1.ok.mod.kin J sf hs hf (wpAny_mono body (fun w' s2 z => ?_) fun _ _ z => z)
    obtain ⟨vr, H2, I2, rv, ⟨r, er⟩, q2⟩ := z
    subst er
    cases rv
    exact store_ok (v := V.ref r) I2 hN hi (.inl hx) rfl (fun s3 I3 => ⟨_, H2, I3, q2⟩) (.inr hx)
  rcases l with ⟨hk, hm⟩ | ⟨hk, _⟩
  · exact wpAny_loadName_local I.ok.kind hk hn hm main
  · exfalso
    rcases hk with hk | hk
    · have z : X.env.scope.names.lookup x = some .cell := hk
      rw [hx] at z; cases z
    · have z : X.env.scope.names.lookup x = some .free := hk
      rw [hx] at z; cases z
end
end Bh

set_option Elab.async false
set_option linter.all false
set_option maxRecDepth 100000
set_option maxHeartbeats 1000000
set_option autoImplicit false
namespace Bh
open PySem PySem.Spec PyProof.Rows L2
/-- what is due: both in one, or the first cell that differs -/
def DueWay (K : PySem.W.Frag) (H : Hp) (v : V) (cs ds : List Cl) (ts us : List Ti) : Prop := ((∀ c ∈ cs, clashC ds c = false) ∧ Dp K H v (.tuple [.str "value", dNet (cs ++ moreC cs ds) (ts ++ moreT ts us)])) ∨
  ∃ (i : Nat) (c : Cl), cs[i]? = some c ∧ clashC ds c = true ∧ (∀ (j : Nat) (d : Cl), j < i → cs[j]? = some d → clashC ds d = false) ∧ Dp K H v (.tuple [.str "KindsDiffer", .str c.1])
def spPutInSo (K : PySem.W.Frag) (C : Addr) : Sp := fun vs H Q _ => ∃ (x dc dt y ec et : Addr) (va vb : V) (cs ds : List Cl) (ts us : List Ti), vs = [.ref x, .ref y, va, vb] ∧ Two H C x dc dt y ec et cs ds ts us ∧ DueWay K H va cs ds ts us ∧ Dp K H vb (dNet ds us) ∧
  ("other" : Str) ∉ (cs ++ moreC cs ds).map (·.1) ∧ (∀ t ∈ ts ++ moreT ts us, t.1 ≠ "zz") ∧ ∀ H', Same H H' → Q (.bl true) H'
theorem sh_net {n : Nat} {cs : List Cl} {ts : List Ti} (h1 : cs.length ≤ 100000) (h2 : ts.length ≤ 100000) : Sh (n + 3) (dNet cs ts) := by
  refine .tup (by show 2 ≤ 100000; decide) fun d hd => ?_
  rcases (by simpa using hd : d = .list (cs.map dCell) ∨ d = .list (ts.map dTi)) with rfl | rfl
  · refine .lst (by rw [List.length_map]; exact h1) fun d hd => ?_
    obtain ⟨c, _, rfl⟩ := List.mem_map.mp hd
    refine .tup (by show 2 ≤ 100000; decide) fun d hd => ?_
    rcases (by simpa using hd : d = .str c.1 ∨ d = .str c.2) with rfl | rfl <;> exact .str
  · refine .lst (by rw [List.length_map]; exact h2) fun d hd => ?_
    obtain ⟨t, _, rfl⟩ := List.mem_map.mp hd
    refine .tup (by show 3 ≤ 100000; decide) fun d hd => ?_
    rcases (by simpa using hd : d = .str t.1 ∨ d = .str t.2.1 ∨ d = .str t.2.2) with rfl | rfl | rfl <;> exact .str
theorem same_h3_new {z zc zt : Addr} {H H2 H3 : Hp} (s : Same H H2) (n1 : H z = none) (n2 : H zc = none) (n3 : H zt = none) (s3 : Same (h3 z zc zt H2) H3) : Same H H3 := fun a o e => by
  refine s3 _ _ ?_
  rw [h3_ne (fun k => by rw [k, n1] at e; cases e) (fun k => by rw [k, n2] at e; cases e) (fun k => by rw [k, n3] at e; cases e)]
  exact s _ _ e
theorem nm_other : NmOk "other" := by
  have h : wordB "other" letters = true ∧ ("other" : Str).length ≤ 1000 := by decide +kernel
  exact h
theorem nm_zz : NmOk "zz" := by
  have h : wordB "zz" letters = true ∧ ("zz" : Str).length ≤ 1000 := by decide +kernel
  exact h
theorem kd_plain : KdOk "plain" := by
  have h : kindB "plain" = true ∧ ("plain" : Str).length ≤ 1000 := by decide +kernel
  exact h
section
variable {P : Program} {w : World} {K : PySem.W.Frag} {mg : Str → Option Value} {base : Heap} {R : NtC K mg}
theorem ok_putinso (T : Top K mg) (M : NtM K mg R) : FnOk P w K mg base CX0 11 T.a_l_put_in_so T.fd_l_put_in_so ["_law_one", "_law_two", "_law_due", "_law_b"] (spPutInSo K R.C) := by
  have G_m_eq := ok_meq (P := P) (w := w) (base := base) T M
  have G_m_ior := ok_mior (P := P) (w := w) (base := base) T M
  have G_m_clone := ok_mclone (P := P) (w := w) (base := base) T M
  have G_m_text := ok_mtext (P := P) (w := w) (base := base) T M
  have G_m_add_cell := ok_maddcell (P := P) (w := w) (base := base) T M
  have G_m_add_tie := ok_maddtie (P := P) (w := w) (base := base) T M
  have G_l_net_of := ok_netof (P := P) (w := w) (base := base) T M
  have G_l_like := ok_like (P := P) (w := w) (base := base) T 6
  refine T.d_l_put_in_so.F.ok sc_l_put_in_so (fun vs H Q E h => ?_) (fun cdv A outer s H vs Q E hr h => ?_)
  · obtain ⟨x, dc, dt, y, ec, et, va, vb, cs, ds, ts, us, rfl, _⟩ := h
    rfl
  obtain ⟨x, dc, dt, y, ec, et, va, vb, cs, ds, ts, us, rfl, two, hd, hb, no1, no2, q⟩ := h
  refine ⟨_, (pss_cons (ps_par (i := 4) (j := 5) (by rfl) sc_l_put_in_so.nd rfl rfl (by decide) rfl rfl (pa_cons (pe_meth0 (pv 0) R.cl M.clone.M G_m_clone (hr.mono (by decide)) M.clone.b .nil pass0) (pa_cons pe_str pa_nil)) (by rfl))
    (pss_cons (ps_set (i := 6) sc_l_put_in_so.nd rfl (Or.inl rfl) (pv 4))
    (pss_cons (ps_try_oneC (X := (cxOf C8.CX0 P w K mg base ["_law_one", "_law_two", "_law_due", "_law_b", "_law_late", "_law_said", "_law_kept", "_law_e", "_law_told"] "_law_put_in_so" (defScope s_l_put_in_so) T.a_l_put_in_so cdv A outer s H E).nox) (i := 7) (tb := fun W => tOrTry 4 R.C (spIor R.C T.r_KindsDiffer.c) W (tVar 1)) rfl rfl sc_l_put_in_so.nd rfl rfl (by rfl) T.gBE (by decide) (fun W pn xe tk _ => pss_one (ps_orTry (i := 4) sc_l_put_in_so.nd rfl rfl (pv 1) tk G_m_ior M.oi M.ior.M.fn M.sf M.ior.b (hr.mono (by decide)))) (fun a pn => pss_one (ps_set (i := 5) sc_l_put_in_so.nd rfl (Or.inl rfl) (pe_xz_K (X := ((cxOf C8.CX0 P w K mg base ["_law_one", "_law_two", "_law_due", "_law_b", "_law_late", "_law_said", "_law_kept", "_law_e", "_law_told"] "_law_put_in_so" (defScope s_l_put_in_so) T.a_l_put_in_so cdv A outer s H E).nox).suite a pn) (K := K) rfl (pv 7)))))
    (pss_cons (ps_if (pt_cmpR op_ne (pe_ix (ix_tup_K (K := K) (by rfl)) (pv 2) pe_int (fun _ _ => rfl)) pe_str (nomark _)) (pss_one (ps_ret (pe_and (pe_cmpR op_eq (pv 5) pe_str (nomark _)) (pe_one (pe_cmpR op_eq (pe_meth0 (pv 4) R.cl M.text.M G_m_text (hr.mono (by decide)) M.text.b .nil pass0) (pe_meth0 (pv 0) R.cl M.text.M G_m_text (hr.mono (by decide)) M.text.b .nil pass0) (nomark _)))))) pss_nil)
    (pss_cons (ps_if (PW.pt (pw_or (pt_cmpR op_ne (pv 5) pe_str (nomark _)) (pw_or1 (pt_not (pt_val (pe_call G_l_like (hr.mono (by decide)) (by rfl) T.d_l_like.g T.d_l_like.kp T.d_l_like.b .nil pass0 (pa_cons (pe_call G_l_net_of (hr.mono (by decide)) (by rfl) T.d_l_net_of.g T.d_l_net_of.kp T.d_l_net_of.b .nil pass0 (pa_cons (pv 4) pa_nil)) (pa_cons (pe_ix (ix_tup_K (K := K) (by rfl)) (pv 2) pe_int (fun _ _ => rfl)) pa_nil)))))))) (pss_one (ps_ret pe_bl)) pss_nil)
    (pss_cons (ps_expr (pe_meth (pv 4) R.cl M.add_cell.M G_m_add_cell (hr.mono (by decide)) M.add_cell.b .nil pass0 (pa_cons pe_str (pa_cons pe_str pa_nil))))
    (pss_cons (ps_expr (pe_meth (pv 4) R.cl M.add_tie.M G_m_add_tie (hr.mono (by decide)) M.add_tie.b .nil pass0 (pa_cons pe_str (pa_cons pe_str (pa_cons pe_str pa_nil)))))
    (pss_cons (ps_set (i := 8) sc_l_put_in_so.nd rfl (Or.inl rfl) (pe_lst (pa_cons (pe_call G_l_net_of (hr.mono (by decide)) (by rfl) T.d_l_net_of.g T.d_l_net_of.kp T.d_l_net_of.b .nil pass0 (pa_cons (pv 1) pa_nil)) (pa_cons (pe_ix (ix_list_K (K := K) (by rfl)) (pe_ix (ix_tup_K (K := K) (by rfl)) (pe_call G_l_net_of (hr.mono (by decide)) (by rfl) T.d_l_net_of.g T.d_l_net_of.kp T.d_l_net_of.b .nil pass0 (pa_cons (pv 6) pa_nil)) pe_int (fun _ _ => rfl)) (pe_un un_neg pe_int) (fun _ _ => rfl)) (pa_cons (pe_cmpR (op_eqX G_m_eq M.eq.M.at_ M.eq.M.fn M.eq.b (hr.mono (by decide)) R.t2 R.t3) (pv 6) (pv 4) (nomark _)) pa_nil)))))
    (pss_one (ps_ret (pe_call G_l_like (hr.mono (by decide)) (by rfl) T.d_l_like.g T.d_l_like.kp T.d_l_like.b .nil pass0 (pa_cons (pv 8) (pa_cons (pe_lst (pa_cons (pv 3) (pa_cons (pe_tup (pa_cons pe_str (pa_cons pe_str pa_nil))) (pa_cons pe_bl pa_nil)))) pa_nil))))))))))))), ?_⟩
  rw [show L2.start ["_law_one", "_law_two", "_law_due", "_law_b", "_law_late", "_law_said", "_law_kept", "_law_e", "_law_told"] [.ref x, .ref y, va, vb] = [some (.ref x), some (.ref y), some va, some vb, none, none, none, none, none] from rfl]
  obtain ⟨dx, h0, h1, h2⟩ := id two.a
  obtain ⟨dy, g0, g1, g2⟩ := id two.b
  refine ⟨_, rfl, x, dx, _, rfl, h0, rfl, x, dc, dt, cs, ts, rfl, two.a, two.ca, two.ta, fun H2 z zc zt nz nzc nzt s2 naz => ?_⟩
  refine ⟨_, _, rfl, ?_⟩
  dsimp only [List.set]
  refine ⟨_, rfl, ?_⟩
  refine gn_step ?_
  dsimp only [List.set]
  have two2 := two.mono s2
  obtain ⟨dx2, c0, _, _⟩ := id two2.a
  obtain ⟨dy2, d0, _, _⟩ := id two2.b
  obtain ⟨dz, e0, _, _⟩ := id naz
  obtain ⟨f1, f2, f3⟩ := NetA.fresh (C := R.C) two.b nz nzc nzt
  have twoZ : Two H2 R.C z zc zt y ec et cs ds ts us := ⟨naz, two2.b, Ne.symm f1, Ne.symm f2, Ne.symm f3, two.ca, two.ta, two.cb, two.tb, two.fc, two.ft⟩
  refine ⟨_, rfl, _, rfl, z, dz, _, y, dy2, _, rfl, e0, rfl, d0, z, zc, zt, y, ec, et, cs, ds, ts, us, rfl, twoZ, ?_⟩
  rcases hd with ⟨no, hd⟩ | ⟨i, c, ei, cl, before, hd⟩
  · refine .inl ⟨no, fun H3 zc' zt' nc' nt' s3 naz3 => ⟨⟨z, rfl⟩, ?_⟩⟩
    dsimp only [List.set]
    have s03 : Same H H3 := same_hid_new s2 nz s3
    have okc := cs_join two.ca two.cb (by have := two.fc; omega)
    have okt := ts_join (cs := cs) (ds := ds) two.ta two.tb (by have := two.ft; omega)
    have fc : (cs ++ moreC cs ds).length ≤ 900 := by
      have : (moreC cs ds).length ≤ ds.length := List.length_filter_le _ _
      have := two.fc
      rw [List.length_append]
      omega
    have ft : (ts ++ moreT ts us).length ≤ 900 := by
      have : (moreT ts us).length ≤ us.length := List.length_filter_le _ _
      have := two.ft
      rw [List.length_append]
      omega
    obtain ⟨da, xs, rfl, hda, hxs⟩ := dp_tup hd
    cases hxs with
    | cons e1 r =>
    cases r with
    | cons e2 r =>
    cases r
    cases e1
    rename_i vd
    refine ⟨_, rfl, da, _, (0 : Int), .str "value", rfl, rfl, Same.tup s03 hda, rfl, rfl, _, rfl, iteB (fun k => absurd k (by decide +kernel)) (fun _ => ?_)⟩
    refine ⟨_, rfl, rfl, _, rfl, iteB (fun k => absurd k (by decide +kernel)) (fun _ => ?_)⟩
    generalize eC : cs ++ moreC cs ds = cj at naz3 okc okt fc no1 e2
    generalize eT : ts ++ moreT ts us = tj at naz3 okt ft no2 e2
    refine ⟨_, rfl, z, zc', zt', cj, tj, rfl, naz3, okc, fun H4 v s4 hv => ?_⟩
    have s04 := s03.trans s4
    refine ⟨_, rfl, da, _, (1 : Int), vd, rfl, rfl, Same.tup s04 hda, rfl, v, vd, dNet cj tj, rfl, hv, Dp.mono s04 e2, sh_net (n := 2) (by omega) (by omega), fun H5 s5 => ⟨_, rfl, iteF ?_⟩⟩
    have s05 := s04.trans s5
    have naz5 := naz3.mono (s4.trans s5)
    obtain ⟨dz5, k0, _, _⟩ := id naz5
    have nzH := nz
    have nzcH : H zc' = none := Same.free s2 nc'
    have nztH : H zt' = none := Same.free s2 nt'
    refine ⟨_, rfl, z, dz5, _, rfl, k0, rfl, z, zc', zt', cj, tj, "other", "plain", rfl, naz5, nm_other, kd_plain, no1, by omega, fun H6 zt6 hz6 s6 na6 => ?_⟩
    have s06 : Same H H6 := same_h3_new s05 nzH nzcH nztH s6
    have nzt6 : H zt6 = none := by
      rcases hz6 with k | k
      · rw [k]; exact nztH
      · exact Same.free s05 k
    have good : Good (cj.map (·.1) ++ [("other" : Str)]) cj tj := ⟨okc, okt, fun c hc => List.mem_append_left _ (List.mem_map.mpr ⟨c, hc, rfl⟩)⟩
    have good6 := good_cell (k := "plain") good (List.mem_append_right _ (List.mem_singleton.mpr rfl)) nm_other kd_plain no1 (by omega)
    have mo : ("other" : Str) ∈ (cj ++ [(("other" : Str), ("plain" : Str))]).map (·.1) := by
      rw [List.map_append]
      exact List.mem_append_right _ (List.mem_singleton.mpr rfl)
    have nin : (("zz" : Str), ("other" : Str), ("other" : Str)) ∉ tj := fun m => no2 _ m rfl
    obtain ⟨dz6, m0, _, _⟩ := id na6
    refine ⟨_, rfl, z, dz6, _, rfl, m0, rfl, z, zc', zt6, _, tj, ("zz", "other", "other"), rfl, na6, nm_zz, mo, mo, nin, by omega, fun H7 zt7 hz7 s7 na7 => ?_⟩
    have s07 : Same H H7 := same_h3_new s06 nzH nzcH nzt6 s7
    have good7 := good_tie (t := ("zz", "other", "other")) good6 nm_zz mo mo nin (by omega)
    have okc7 := good7.c
    have okt7 := good7.t
    have lc7 : (cj ++ [(("other" : Str), ("plain" : Str))]).length ≤ 1000 := okc7.few
    have two7 := two.mono s07
    dsimp only
    refine sq_asg (lst_step (cons_step ?_))
    refine ⟨_, rfl, y, ec, et, ds, us, rfl, two7.b, two.cb, fun H8 v8 s8 hv8 => ?_⟩
    refine cons_step ?_
    refine ⟨_, rfl, z, zc', zt7, _, _, rfl, na7.mono s8, okc7, fun H9 v9 s9 hv9 => ?_⟩
    obtain ⟨a9, p1, p2, xs9, ys9, rfl, k1, k2, k3, k4, k5⟩ := dnet_at hv9
    have lx9 : xs9.length = cj.length + 1 := by
      have := DpAll.length k3
      rw [List.length_map, List.length_append] at this
      exact this
    obtain ⟨w9, hw9⟩ : ∃ w9, xs9[cj.length]? = some w9 := ⟨_, List.getElem?_eq_getElem (by omega)⟩
    obtain ⟨d9, hd9, dw9⟩ := DpAll.get k3 hw9
    have ed9 : d9 = dCell ("other", "plain") := by
      rw [List.getElem?_map, List.getElem?_append_right (Nat.le_refl _), Nat.sub_self] at hd9
      exact (Option.some.inj hd9).symm
    have last9 : xs9.getLast? = some w9 := by rw [List.getLast?_eq_getElem?, lx9]; exact hw9
    refine ⟨a9, _, (0 : Int), .ref p1, rfl, rfl, k1, rfl, ?_⟩
    refine ⟨1, rfl, p1, xs9, (-1 : Int), w9, rfl, rfl, k2, at_last last9, ?_⟩
    refine cons_step ?_
    have na9 := na7.mono (s8.trans s9)
    obtain ⟨dz9, m9, _, _⟩ := id na9
    refine ⟨_, rfl, _, rfl, z, dz9, _, rfl, m9, .inl ⟨z, dz9, _, rfl, m9⟩, z, zc', zt7, _, _, .ref z, rfl, na9, .inl ⟨z, zc', zt7, _, _, rfl, na9, ⟨_, rfl⟩, ?_⟩⟩
    rw [eqNet_perm okc7 okc7 okt7 (.refl _) (.refl _)]
    refine ⟨(by show 3 ≤ sizeLine; decide), fun q1 nq1 => ?_⟩
    refine gn_step ?_
    dsimp only [List.set]
    have s10 : Same H9 (upd H9 q1 (.lst [v8, w9, .bl true])) := same_new nq1
    refine ⟨_, rfl, _, rfl, (by show 2 ≤ sizeLine; decide), fun q2 nq2 => ⟨(by show 3 ≤ sizeLine; decide), fun q3 nq3 => ?_⟩⟩
    have s11 : Same (upd H9 q1 (.lst [v8, w9, .bl true])) _ := same_new (o := .tup [.str "other", .str "plain"]) nq2
    have s12 : Same (upd (upd H9 q1 (.lst [v8, w9, .bl true])) q2 (.tup [.str "other", .str "plain"])) _ := same_new (o := .lst [vb, .ref q2, .bl true]) nq3
    have s0 := s07.trans (s8.trans (s9.trans (s10.trans (s11.trans s12))))
    have s9' := s10.trans (s11.trans s12)
    rw [ed9] at dw9
    refine ⟨.ref q1, .ref q3, .list [dNet ds us, dCell ("other", "plain"), .bool true], rfl, .lst (SqL.of ((s11.trans s12) _ _ upd_same)) (.cons (Dp.mono (s9.trans s9') hv8) (.cons (Dp.mono s9' dw9) (.cons (.bl _) .nil))), .lst (SqL.of upd_same) (.cons (Dp.mono s0 hb) (.cons (.tup (SqT.of (s12 _ _ upd_same)) (strs_dp ["other", "plain"])) (.cons (.bl _) .nil))), ?_, fun H10 s13 => ?_⟩
    · have f1 := two.fc
      have f2 := two.ft
      refine .lst (by show 3 ≤ 100000; decide) fun d hd => ?_
      simp only [List.mem_cons, List.not_mem_nil, or_false] at hd
      rcases hd with rfl | rfl | rfl
      · exact sh_net (n := 1) (by omega) (by omega)
      · refine .tup (by show 2 ≤ 100000; decide) fun d hd => ?_
        rcases (by simpa using hd : d = .str "other" ∨ d = .str "plain") with rfl | rfl <;> exact .str
      · exact .bl
    · exact q _ (s0.trans s13)
  · refine .inr ⟨i, c, ei, cl, before, fun dd H3 nd s3 ed => ⟨T.x_KindsDiffer, fun a na hl => ?_⟩⟩
    have er := T.e_KindsDiffer
    have nda : dd ≠ a := ne_of_none ed na
    refine ⟨_, rfl, a, T.r_KindsDiffer.c, dd, _, _, rfl, upd_same, er.x, er.n1, (upd_ne nda).trans ed, rfl, ?_⟩
    refine gn_step ?_
    dsimp only [List.set]
    have s4 : Same H3 (upd H3 a (exz a (.ref T.r_KindsDiffer.c) (some dd))) := same_new na
    obtain ⟨da, xs, rfl, hda, hxs⟩ := dp_tup hd
    obtain rfl := dp_strs (zs := ["KindsDiffer", c.1]) hxs
    have s04 := (s2.trans s3).trans s4
    have hda4 := Same.tup s04 hda
    refine ⟨_, rfl, da, _, (0 : Int), .str "KindsDiffer", rfl, rfl, hda4, rfl, rfl, _, rfl, iteB (fun _ => ?_) (fun k => absurd k (by decide +kernel))⟩
    refine ⟨_, rfl, rfl, _, rfl, iteB (fun _ => ?_) (fun k => absurd k (by decide +kernel))⟩
    have naz4 := naz.mono (s3.trans s4)
    obtain ⟨dz4, e4, _, _⟩ := id naz4
    refine ⟨_, rfl, z, dz4, _, rfl, e4, rfl, z, zc, zt, cs, ts, rfl, naz4, two.ca, two.ta, fun H5 s5 => ?_⟩
    have na5 := two.a.mono (s04.trans s5)
    obtain ⟨dx5, e5, _, _⟩ := id na5
    refine ⟨_, rfl, x, dx5, _, rfl, e5, rfl, x, dc, dt, cs, ts, rfl, na5, two.ca, two.ta, fun H6 s6 => ⟨rfl, ?_⟩⟩
    have e6 : decide (V.str (textN cs ts) = V.str (textN cs ts)) = true := decide_eq_true rfl
    rw [e6]
    exact q _ (s04.trans (s5.trans s6))
end
end Bh

set_option Elab.async false
set_option linter.all false
set_option maxRecDepth 100000
set_option maxHeartbeats 1000000
namespace Bh
open PySem PySem.Spec PyProof.Rows L2 LamX
def noTb (H : Hp) : Hp := fun a => match H a with
  | some (.tbl _) => none
  | o => o
theorem noTb_le {H : Hp} : Same (noTb H) H := fun a o e => by
  unfold noTb at e
  split at e
  · cases e
  · exact e
theorem noTb_at {H : Hp} {a : Addr} {o : HO} (e : H a = some o) (n : ∀ ps, o ≠ .tbl ps) : noTb H a = some o := by
  unfold noTb
  rw [e]
  cases o with
  | tbl ps => exact absurd rfl (n ps)
  | _ => rfl
theorem noTb_not {H : Hp} {a : Addr} {o : HO} (e : noTb H a = some o) : ∀ ps, o ≠ .tbl ps := fun ps z => by
  unfold noTb at e
  split at e
  · cases e
  · rename_i n
    exact n ps (z ▸ e)
/-- H' keeps what H holds, but tables of code objects and the lists at S -/
def Kp (S : List Addr) (H H' : Hp) : Prop := ∀ a o, H a = some o → (∀ ps, o ≠ .tbl ps) → (a ∈ S → ∀ xs, o ≠ .lst xs) → H' a = some o
section
variable {K : PySem.W.Frag} {S S' : List Addr} {H H1 H' : Hp} {b l p pI C x a1 a2 a3 t p1 p2 p3 : Addr} {q : Str}
theorem Same.kp (e : Same H H') : Kp S H H' := fun a o h _ _ => e _ _ h
theorem Kp.trans (e : Kp S H H1) (f : Kp S H1 H') : Kp S H H' := fun a o h n m => f a o (e a o h n m) n m
theorem Kp.mono (h : ∀ a ∈ S, a ∈ S') (e : Kp S H H') : Kp S' H H' := fun a o k n m => e a o k n fun z => m (h a z)
theorem kp_tb (e : Same (noTb H) H') : Kp S H H' := fun a o h n _ => e _ _ (noTb_at h n)
theorem kp_upd {xs : List V} {o : HO} (h : H p = some (.lst xs)) (m : p ∈ S) : Kp S H (upd H p o) := fun a u k _ n => by
  rw [upd_ne (fun z => by rw [z, h] at k; exact n (z ▸ m) _ (Option.some.inj k).symm)]
  exact k
theorem kp_hid {xs : List V} (h : H p = some (.lst xs)) (m : p ∈ S) : Kp S H (hid p H) := fun a u k _ n => by
  rw [hid_ne (fun z => by rw [z, h] at k; exact n (z ▸ m) _ (Option.some.inj k).symm)]
  exact k
theorem Kp.lst {xs : List V} (e : Kp S H H') (h : H p = some (.lst xs)) (n : p ∉ S) : H' p = some (.lst xs) := e _ _ h (fun _ z => nomatch z) fun m => absurd m n
theorem Kp.tup {xs : List V} (e : Kp S H H') (h : H p = some (.tup xs)) : H' p = some (.tup xs) := e _ _ h (fun _ z => nomatch z) fun _ _ z => nomatch z
theorem Kp.ins {dx : Addr} {gs : List (Str × V)} (e : Kp S H H') (h : H p = some (.ins C dx gs)) : H' p = some (.ins C dx gs) := e _ _ h (fun _ z => nomatch z) fun _ _ z => nomatch z
theorem Kp.imm (e : Kp S H H') : Imm (noTb H) H' := fun a u h n => e _ _ (noTb_le _ _ h) (noTb_not h) fun _ => n
theorem SqL.nTb {a : Addr} {xs : List V} (h : SqL K H a xs) : SqL K (noTb H) a xs :=
  h.imp (fun h => h.imp (fun h => noTb_at h (fun _ z => nomatch z)) fun ⟨o, h⟩ => ⟨o, noTb_at h (fun _ z => nomatch z)⟩) id
theorem SqT.nTb {a : Addr} {xs : List V} (h : SqT K H a xs) : SqT K (noTb H) a xs :=
  h.imp (fun h => h.imp (fun h => noTb_at h (fun _ z => nomatch z)) fun ⟨o, h⟩ => ⟨o, noTb_at h (fun _ z => nomatch z)⟩) id
end
mutual
theorem Dp.nTb {K : PySem.W.Frag} {H : Hp} : ∀ {v : V} {d : PyData}, Dp K H v d → Dp K (noTb H) v d
  | _, _, .non => .non
  | _, _, .bl b => .bl b
  | _, _, .int i => .int i
  | _, _, .str x => .str x
  | _, _, .lst h all => .lst (SqL.nTb h) (DpAll.nTb all)
  | _, _, .tup h all => .tup (SqT.nTb h) (DpAll.nTb all)
theorem DpAll.nTb {K : PySem.W.Frag} {H : Hp} : ∀ {vs : List V} {ds : List PyData}, DpAll K H vs ds → DpAll K (noTb H) vs ds
  | _, _, .nil => .nil
  | _, _, .cons h t => .cons (Dp.nTb h) (DpAll.nTb t)
end
section
variable {K : PySem.W.Frag} {S S' : List Addr} {H H1 H' : Hp} {b l p pI C x a1 a2 a3 t p1 p2 p3 : Addr} {q : Str}
theorem Kp.dps {α : Type} {f : α → PyData} (e : Kp S H H') (n : ∀ x, noL (f x) = true) {ys : List V} {xs : List α} (h : DpAll K H ys (xs.map f)) : DpAll K H' ys (xs.map f) := DpAll.imm e.imm (noLs_map n xs) (DpAll.nTb h)
theorem BagAt.kp (h : BagAt b l H) (e : Kp S H H') (nb : b ∉ S) (nl : l ∉ S) : BagAt b l H' := by
  obtain ⟨ns, i, c, s, h1, h2, r⟩ := h
  exact ⟨ns, i, c, s, e.lst h1 nb, e.lst h2 nl, r⟩
theorem BagAt.ne (h : BagAt b l H) : b ≠ l := fun z => by
  obtain ⟨ns, i, c, s, h1, h2, r⟩ := h
  rw [z, h2] at h1
  cases ns with
  | nil => cases h1
  | cons n ns => cases h1
theorem tab_hidL {xs : List V} (t : TabS H pI q) (h : H p = some (.lst xs)) : TabS (hid p H) pI q := by
  obtain ⟨ps, h1, h2, h3⟩ := t
  refine ⟨ps, ?_, h2, fun pos cv hc => ?_⟩
  · rw [hid_ne (fun z => by rw [z, h] at h1; cases h1)]
    exact h1
  · obtain ⟨c, e1, e2⟩ := h3 pos cv hc
    refine ⟨c, e1, ?_⟩
    rw [hid_ne (fun z => by rw [z, h] at e2; unfold CodeO at e2; cases e2)]
    exact e2
theorem tab_updL {xs : List V} {o : HO} (t : TabS H pI q) (h : H p = some (.lst xs)) : TabS (upd H p o) pI q := by
  obtain ⟨ps, h1, h2, h3⟩ := t
  refine ⟨ps, ?_, h2, fun pos cv hc => ?_⟩
  · rw [upd_ne (fun z => by rw [z, h] at h1; cases h1)]
    exact h1
  · obtain ⟨c, e1, e2⟩ := h3 pos cv hc
    refine ⟨c, e1, ?_⟩
    rw [upd_ne (fun z => by rw [z, h] at e2; unfold CodeO at e2; cases e2)]
    exact e2
/-- all that is known but the bag -/
def noBag (b l : Addr) (H : Hp) : Hp := hid b (hid l H)
theorem BagAt.wd (h : BagAt b l H) : Wd b l (noBag b l H) H := by
  refine ⟨if_pos rfl, ?_, hid_le.trans hid_le, h⟩
  unfold noBag
  rw [hid_comm]
  exact if_pos rfl
theorem BagAt.kpB (h : BagAt b l H) : Kp [b, l] H (noBag b l H) := by
  have ne := h.ne
  obtain ⟨ns, i, c, s, h1, h2, r⟩ := h
  exact (kp_hid h2 (by simp)).trans (kp_hid (p := b) (by rw [hid_ne ne]; exact h1) (by simp))
theorem tab_noBag (t : TabS H pI q) (h : BagAt b l H) : TabS (noBag b l H) pI q := by
  have ne := h.ne
  obtain ⟨ns, i, c, s, h1, h2, r⟩ := h
  exact tab_hidL (tab_hidL t h2) (by rw [hid_ne ne]; exact h1)
/-- after a draw -/
theorem draw_kp {G' : Hp} (h : BagAt b l H) (s : Same (Bh.noBag b l H) G') (w : Wd b l G' H') : Kp [b, l] H H' := h.kpB.trans (Same.kp (Same.trans s w.sm))
theorem draw_tab {G' : Hp} (t : TabS H pI q) (h : BagAt b l H) (s : Same (Bh.noBag b l H) G') (w : Wd b l G' H') : TabS H' pI q := (tab_noBag t h).ext (Same.trans s w.sm)
theorem tabs_hidL {TL : List (Addr × Str)} {p : Addr} {xs : List V} (t : Tabs TL H) (h : H p = some (.lst xs)) : Tabs TL (hid p H) := fun a ha => tab_hidL (t a ha) h
theorem tabs_updL {TL : List (Addr × Str)} {p : Addr} {xs : List V} {o : HO} (t : Tabs TL H) (h : H p = some (.lst xs)) : Tabs TL (upd H p o) := fun a ha => tab_updL (t a ha) h
theorem draws_tab {TL : List (Addr × Str)} {G' : Hp} (t : Tabs TL H) (h : BagAt b l H) (s : Same (Bh.noBag b l H) G') (w : Wd b l G' H') : Tabs TL H' := fun a ha => draw_tab (t a ha) h s w
end
/-- behind a lambda: what is known without the tables stays -/
theorem extn_noTb {H H' : Hp} (e : ExtN H H') : Same (noTb H) H' := fun a o h => e a o (noTb_le _ _ h) (noTb_not h)
theorem same_noBag {b l : Addr} {G H : Hp} (s : Same G H) (nb : G b = none) (nl : G l = none) : Same G (noBag b l H) := fun a o e => by
  unfold noBag
  rw [hid_ne (fun z => by rw [z, nb] at e; cases e), hid_ne (fun z => by rw [z, nl] at e; cases e)]
  exact s _ _ e
theorem noTb_none {H : Hp} {a : Addr} (h : H a = none) : noTb H a = none := by
  unfold noTb
  rw [h]
theorem BagAt.ext {b l : Addr} {H H' : Hp} (h : BagAt b l H) (e : ExtN H H') : BagAt b l H' := by
  obtain ⟨ns, i, c, s, h1, h2, r⟩ := h
  exact ⟨ns, i, c, s, e _ _ h1 (fun _ z => nomatch z), e _ _ h2 (fun _ z => nomatch z), r⟩
theorem NetA.nTb {H : Hp} {C x dc dt : Addr} {cs : List Cl} {ts : List Ti} (h : NetA H C x dc dt cs ts) : NetA (noTb H) C x dc dt cs ts := by
  obtain ⟨dx, h0, h1, h2⟩ := h
  exact ⟨dx, noTb_at h0 (fun _ z => nomatch z), noTb_at h1 (fun _ z => nomatch z), noTb_at h2 (fun _ z => nomatch z)⟩
theorem Two.nTb {H : Hp} {C x dc dt y ec et : Addr} {cs ds : List Cl} {ts us : List Ti} (h : Two H C x dc dt y ec et cs ds ts us) : Two (noTb H) C x dc dt y ec et cs ds ts us :=
  ⟨h.a.nTb, h.b.nTb, h.nx, h.nc, h.nt, h.ca, h.ta, h.cb, h.tb, h.fc, h.ft⟩
/-- _law_try with a lambda of its own -/
theorem try_givesT {X : Cx} (T : Top X.K X.mg) (hr : Room 3 X.A) (cdv : Value) (q : Str) :
    LamX.GivesTo X ["_law_ask", "_law_found", "_law_e"] "_law_try" (defScope s_l_try) T.a_l_try cdv (defBody s_l_try) "_law_ask" q (TTryE X.K T.cBE T.cMS exPairs) := by
  intro f c' s H Q tl act hc h
  have G := ok_given (P := X.prog) (w := X.w) (base := X.base) T
  obtain ⟨Ech, Q0, h1, h2, h3⟩ := h
  have hrm : ∀ (env : Env) (v : Option Value), L2H.RoomH 1 ((X.A.deeper env).mark v) := fun env v => by
    have r := (L2H.roomH_of hr).deeper env
    exact ⟨by have := r.dp; show (X.A.deeper env).depth + 3 * 1 + 5 < _; omega, by have := r.un; show (X.A.deeper env).units + 16 * 1 + 200 < _; omega⟩
  refine ⟨_, pss_cons (ps_try_two (X := (cxOf C8.CX0 X.prog X.w X.K X.mg X.base ["_law_ask", "_law_found", "_law_e"] "_law_try" (defScope s_l_try) T.a_l_try cdv X.A X.stack s H C8.E0).nox) (i := 2) (tb := fun W D σ H => ∃ (Ec : XK) (Q1 : VK), (∀ cls d σ' H', Ec cls d H' → W cls d σ' H') ∧ σ[0]? = some (some (.ref f)) ∧ H c' = some (LamX.CodeO c' q) ∧ tl Ec H Q1 ∧
      ∀ v H2, Q1 v H2 → ∀ p, H2 p = none → D.nx (σ.set 1 (some (.ref p))) (upd H2 p (.tup [.str "value", v])))
      rfl rfl sc_l_try.nd rfl rfl (by rfl) T.gBE (by rfl) T.gMS (by decide) (by decide) (fun W pn xe tk _ => ⟨fun pins s' σ H' D I h' => ?_⟩)
      (fun a pn => pss_one (ps_set (i := 1) sc_l_try.nd rfl (Or.inl rfl) (by exact (pe_tup (X := ((cxOf C8.CX0 X.prog X.w X.K X.mg X.base ["_law_ask", "_law_found", "_law_e"] "_law_try" (defScope s_l_try) T.a_l_try cdv X.A X.stack s H C8.E0).nox).suite a pn) (pa_cons (pe_xz_K (X := ((cxOf C8.CX0 X.prog X.w X.K X.mg X.base ["_law_ask", "_law_found", "_law_e"] "_law_try" (defScope s_l_try) T.a_l_try cdv X.A X.stack s H C8.E0).nox).suite a pn) (K := X.K) rfl (pv 2)) (pa_cons (pe_callU (X := ((cxOf C8.CX0 X.prog X.w X.K X.mg X.base ["_law_ask", "_law_found", "_law_e"] "_law_try" (defScope s_l_try) T.a_l_try cdv X.A X.stack s H C8.E0).nox).suite a pn) G (hrm _ _) (by rfl) T.d_l_given.g T.d_l_given.kp T.d_l_given.b (pa_cons (pv 2) pa_nil)) pa_nil)))))))
    (pss_one (ps_ret (pv 1))), ?_⟩
  · obtain ⟨Ec, Q1, hW, k1, k2, k3, k4⟩ := h'
    exact (pss_one (ps_set (i := 1) sc_l_try.nd rfl (Or.inl rfl) (pe_tup (pa_cons pe_str (pa_cons (pe_weak (act W pn xe Ec _ _ tk hW)) pa_nil))))).run pins s' σ H' D I
      ⟨Q1, ⟨k1, k2, k3⟩, fun v H2 z => ⟨(by show 2 ≤ sizeLine; decide), fun p np => k4 v H2 z p np⟩⟩
  · refine ⟨Ech, Q0, fun cls d σ' H' he => ?_, rfl, hc, h1, fun v H2 z p np => ⟨_, rfl, h3 v H2 z p np⟩⟩
    obtain ⟨C, dd, nm, f', v, rfl, rfl, ed, er, hp, k⟩ := h2 cls d H' he
    refine ⟨er.ex, fun a na hl => ?_⟩
    have nda : dd ≠ a := ne_of_none ed na
    match σ', hl with
    | [x, y, z], _ =>
      refine ⟨_, rfl, a, C, dd, _, _, rfl, upd_same, er.x, er.n1, (upd_ne nda).trans ed, rfl, _, rfl, a, C, dd, nm, f', v, rfl, upd_same, (upd_ne nda).trans ed, er, hp, fun H3 s3 => ⟨(by show 2 ≤ sizeLine; decide), fun p np => ?_⟩⟩
      exact ⟨_, rfl, k _ p ((same_new na).trans (s3.trans (same_new np))) upd_same⟩
end Bh

set_option Elab.async false
set_option linter.all false
set_option maxRecDepth 100000
set_option maxHeartbeats 2000000
set_option autoImplicit false
namespace Bh
open PySem PySem.Spec PyProof.Rows L2 LamX
abbrev smQ : Str := "_law_small_example.<locals>.<lambda>"
abbrev lawQ : Str := "law.<locals>.<lambda>"
/-- _law_small_example: its code object is at cS -/
structure SmM (K : PySem.W.Frag) (mg : Str → Option Value) (cS : Addr) : Type where
  f : Addr
  od : Option Addr
  an : Option Addr
  oc : Value
  kV : Value
  doc : Value
  pm : Value
  ct : Value
  osl : Array (Option Value)
  lk : K.lookup f = some ⟨oc, od, .func (PySem.W.fnOf "_law_small_example" "_law_small_example" (defArgs s_l_small_example) (defBody s_l_small_example) (defScope s_l_small_example) .none kV doc pm an (.ref cS) ct), osl⟩
  hcd : PySem.W.codeIn K (.ref cS) "_law_small_example" = true
  g : mg "_law_small_example" = some (.ref f)
  kp : PySem.W.keepIn K (.ref f) = true
  b : Binds K (PySem.W.fnOf "_law_small_example" "_law_small_example" (defArgs s_l_small_example) (defBody s_l_small_example) (defScope s_l_small_example) .none kV doc pm an (.ref cS) ct) [] []
abbrev SmM.fd {K : PySem.W.Frag} {mg : Str → Option Value} {cS : Addr} (S : SmM K mg cS) : FuncData := PySem.W.fnOf "_law_small_example" "_law_small_example" (defArgs s_l_small_example) (defBody s_l_small_example) (defScope s_l_small_example) .none S.kV S.doc S.pm S.an (.ref cS) S.ct
theorem kb_cells {K : PySem.W.Frag} {mg : Str → Option Value} {R : NtC K mg} (M : NtM K mg R) : ∃ mv : List Value, KBn K M.fdI ["self", "cells", "ties"] 1 ["cells"] (fun us ws => us ++ ws ++ mv) (fun vs zs => vs ++ zs ++ [V.ref M.z2]) :=
  M.FI.kbinds0 1 ["cells"] [("ties", .ref M.z2)] (fun us mv ws => us ++ ws ++ mv) (by simp) (by simp) (fun r1 r2 r3 => (r1.append r3).append r2) (fun D doc pm an cdv ct us mv ws l1 l2 l3 => match us, mv, ws, l1, l2, l3 with
    | [_], [_], [_], _, _, _ => by
      refine ⟨_, _, _, _, _, _, rfl, rfl, ?_⟩
      exact rfl)
theorem NetA.kp {H H' : Hp} {S : List Addr} {C x dc dt : Addr} {cs : List Cl} {ts : List Ti} (e : Kp S H H') (h : NetA H C x dc dt cs ts) : NetA H' C x dc dt cs ts := by
  obtain ⟨dx, h0, h1, h2⟩ := h
  exact ⟨dx, e _ _ h0 (fun _ z => nomatch z) (fun _ _ z => nomatch z), e _ _ h1 (fun _ z => nomatch z) (fun _ _ z => nomatch z), e _ _ h2 (fun _ z => nomatch z) (fun _ _ z => nomatch z)⟩
theorem Two.kp {H H' : Hp} {S : List Addr} {C x dc dt y ec et : Addr} {cs ds : List Cl} {ts us : List Ti} (e : Kp S H H') (h : Two H C x dc dt y ec et cs ds ts us) : Two H' C x dc dt y ec et cs ds ts us :=
  ⟨h.a.kp e, h.b.kp e, h.nx, h.nc, h.nt, h.ca, h.ta, h.cb, h.tb, h.fc, h.ft⟩
theorem kp_ext {S : List Addr} {H H' : Hp} (e : ExtN H H') : Kp S H H' := fun a o h n _ => e a o h n
theorem Two.swap {H : Hp} {C x dc dt y ec et : Addr} {cs ds : List Cl} {ts us : List Ti} (h : Two H C x dc dt y ec et cs ds ts us) : Two H C y ec et x dc dt ds cs us ts :=
  ⟨h.b, h.a, Ne.symm h.nx, Ne.symm h.nc, Ne.symm h.nt, h.cb, h.tb, h.ca, h.ta, by have := h.fc; omega, by have := h.ft; omega⟩
/-- a lambda that joins two networks that clash -/
theorem try_or_clash {K : PySem.W.Frag} {mg : Str → Option Value} {R : NtC K mg} (T : Top K mg) {H : Hp} {Q : VK} {σ : L2.St} {i j n : Nat} {x dc dt y ec et : Addr} {cs ds : List Cl} {ts us : List Ti} {c : Cl} (ei : σ[i]? = some (some (.ref x))) (ej : σ[j]? = some (some (.ref y)))
    (two : Two H R.C x dc dt y ec et cs ds ts us) (hi : cs[n]? = some c) (hc : clashC ds c = true) (hb : ∀ (j : Nat) (d : Cl), j < n → cs[j]? = some d → clashC ds d = false)
    (q : ∀ (H3 : Hp) (p : Addr), Same H H3 → H3 p = some (.tup [.str "KindsDiffer", .str c.1]) → Q (.ref p) H3) :
    TTryE K T.cBE T.cMS exPairs (fun E H' Q' => tOp (rOrIns R.C (spOr R.C T.r_KindsDiffer.c) E) (tVar i) (tVar j) σ H' Q') H Q := by
  obtain ⟨dx, h0, _, _⟩ := id two.a
  obtain ⟨dy, g0, _, _⟩ := id two.b
  refine ⟨fun cls d H2 => ∃ dd, cls = .ref T.r_KindsDiffer.c ∧ d = some dd ∧ Same H H2 ∧ H2 dd = some (.xd [("code", .str "KindsDiffer"), ("name", .str c.1)]), fun _ _ => False, ?_, ?_, fun _ _ z => z.elim⟩
  · exact ⟨_, ei, _, ej, x, dx, _, y, dy, _, rfl, h0, rfl, g0, x, dc, dt, y, ec, et, cs, ds, ts, us, rfl, two, .inr ⟨n, c, hi, hc, hb, fun dd H2 _ s e => ⟨dd, rfl, rfl, s, e⟩⟩⟩
  · rintro cls d H2 ⟨dd, rfl, rfl, s, e⟩
    exact ⟨_, dd, "KindsDiffer", "name", .str c.1, rfl, rfl, e, T.e_KindsDiffer, List.mem_singleton.mpr rfl, fun H3 p s3 e3 => q H3 p (s.trans s3) e3⟩
abbrev smA : List Cl := [("a", "k"), ("b", "k"), ("c", "k")]
abbrev smB : List Cl := [("c", "h"), ("b", "h")]
theorem sm_ok {cs : List Cl} (h : decide (cs.map (·.1)).Nodup = true) (k : (cs.all fun c => wordB c.1 letters && decide (c.1.length ≤ 1000) && kindB c.2 && decide (c.2.length ≤ 1000)) = true) (f : cs.length ≤ 1000) : CsOk cs :=
  ⟨of_decide_eq_true h, fun c hc => by
    have z := List.all_eq_true.mp k c hc
    simp only [Bool.and_eq_true, decide_eq_true_eq] at z
    exact ⟨⟨z.1.1.1, z.1.1.2⟩, ⟨z.1.2, z.2⟩⟩, f⟩
theorem smA_ok : CsOk smA := sm_ok (by decide +kernel) (by decide +kernel) (by decide)
theorem smB_ok : CsOk smB := sm_ok (by decide +kernel) (by decide +kernel) (by decide)
theorem ts_none {cs : List Cl} : TsOk cs [] := ⟨List.nodup_nil, fun t h => (by cases h), by decide⟩
theorem sm_c1 : clashC smB ("b", "k") = true := by decide +kernel
theorem sm_c2 : clashC smA ("c", "h") = true := by decide +kernel
theorem sm_b1 : ∀ (j : Nat) (d : Cl), j < 1 → smA[j]? = some d → clashC smB d = false := fun j d hj e => by
  have : j = 0 := by omega
  subst this
  have : (("a" : Str), ("k" : Str)) = d := Option.some.inj ((show smA[0]? = some (("a" : Str), ("k" : Str)) from rfl).symm.trans e)
  subst this
  decide +kernel
theorem sm_b2 : ∀ (j : Nat) (d : Cl), j < 0 → smB[j]? = some d → clashC smA d = false := fun j d hj => absurd hj (Nat.not_lt_zero _)
/-- dict(list of pairs) -/
def rDictP (K : PySem.W.Frag) : List V → Hp → VK → Prop := fun xs H Q => ∃ (a : Addr) (ps : List Addr) (kvs : List (Key × V)), xs = [.ref a] ∧ SqL K H a (ps.map V.ref) ∧ Paired (fun p kv => SqT K H p [kV kv.1, kv.2]) ps kvs ∧ ∀ p, H p = none → Q (.ref p) (upd H p (.dK (mergeK [] kvs)))
theorem call_dictPK {X : Cx} {K : PySem.W.Frag} (hK : X.K = K) (hcalm : X.calm = true) : CallR X (.type "dict") (rDictP K) := by
  subst hK
  exact call_dictP hcalm
def spSmall (TL : List (Addr × Str)) : Sp := fun vs H Q _ => vs = [] ∧ Tabs TL H ∧ ∀ H', Q (.bl true) H'
section
variable {P : Program} {w : World} {K : PySem.W.Frag} {mg : Str → Option Value} {base : Heap} {R : NtC K mg} {cS tabS : Addr} {TL : List (Addr × Str)}
theorem ok_small (T : Top K mg) (M : NtM K mg R) (S : SmM K mg cS) (TB : TabB base mg cS tabS) (mS0 : (tabS, smQ) ∈ TL) (uS0 : ∀ p ∈ TL, p.1 = tabS → p.2 = smQ) :
    FnOk P w K mg base CX0 13 S.f S.fd [] (spSmall TL) := by
  have mT : (tabS, ("_law_small_example.<locals>." : Str) ++ "<lambda>") ∈ TL := by
    rw [show (("_law_small_example.<locals>." : Str) ++ "<lambda>") = smQ by decide +kernel]
    exact mS0
  have uT : ∀ p ∈ TL, p.1 = tabS → p.2 = ("_law_small_example.<locals>." : Str) ++ "<lambda>" := fun p hp e => (uS0 p hp e).trans (show smQ = ("_law_small_example.<locals>." : Str) ++ "<lambda>" by decide +kernel)
  have G_m_eq := ok_meq (P := P) (w := w) (base := base) T M
  have G_m_or := ok_mor (P := P) (w := w) (base := base) T M
  have G_m_clone := ok_mclone (P := P) (w := w) (base := base) T M
  have G_Network := ok_mnetinit (P := P) (w := w) (base := base) T M
  have G_l_like := ok_like (P := P) (w := w) (base := base) T 6
  obtain ⟨oc2, od2, kV2, doc2, pm2, an2, cdvT, ct2, osl2, eT, lkT, hcT⟩ := T.d_l_try.F.ex
  have bT := T.d_l_try.b
  rw [eT] at bT lkT
  obtain ⟨mv, kbC⟩ := kb_cells M
  refine fn_of S.lk S.hcd sc_l_small_example (fun vs H Q E h => ?_) (fun A outer s H vs Q E hr h => ?_)
  · obtain ⟨rfl, _⟩ := h
    rfl
  obtain ⟨rfl, tb, q⟩ := h
  refine ⟨_, PSs.nox (pss_cons (ps_set (i := 0) sc_l_small_example.nd rfl (Or.inr rfl) (pe_makeK0 M.mkr G_Network (hr.mono (by decide)) (by rfl) R.g kbC pass0 (pk_cons (pe_lst (pa_cons (pe_tup (pa_cons pe_str (pa_cons pe_str pa_nil))) (pa_cons (pe_tup (pa_cons pe_str (pa_cons pe_str pa_nil))) (pa_cons (pe_tup (pa_cons pe_str (pa_cons pe_str pa_nil))) pa_nil)))) pk_nil)))
    (pss_cons (ps_set (i := 1) sc_l_small_example.nd rfl (Or.inr rfl) (pe_makeK0 M.mkr G_Network (hr.mono (by decide)) (by rfl) R.g kbC pass0 (pk_cons (pe_lst (pa_cons (pe_tup (pa_cons pe_str (pa_cons pe_str pa_nil))) (pa_cons (pe_tup (pa_cons pe_str (pa_cons pe_str pa_nil))) pa_nil))) pk_nil)))
    (pss_cons (ps_par (i := 2) (j := 3) (by rfl) sc_l_small_example.nd rfl rfl (by decide) rfl rfl (pa_cons (pe_meth0 (pv 1) R.cl M.clone.M G_m_clone (hr.mono (by decide)) M.clone.b .nil pass0) (pa_cons (pe_lst (pa_cons (LamX.pe_lamcall (T := TL) (TT := TTryE K T.cBE T.cMS exPairs) (x := "_law_try") (a := "_law_ask") (Ng := ["_law_ask", "_law_found", "_law_e"]) (k := 9) (t := fun E => tOp (rOrIns R.C (spOr R.C T.r_KindsDiffer.c) E) (tVar 0) (tVar 1)) (by rfl) T.d_l_try.g T.d_l_try.kp lkT hcT bT sc_l_try rfl (.inl (by rfl)) (try_givesT (X := (cxOf CX0 P w K mg base ["_law_one", "_law_two", "_law_kept", "_law_told", "_law_due"] "_law_small_example" (defScope s_l_small_example) S.f (.ref cS) A outer s H E).nox) T (hr.mono (by decide)) cdvT _) TB rfl mT uT (hr.mono (by decide)) (LamX.lamS_by (sc := defScope s_l_small_example) (by decide +kernel)) rfl (fun _ _ _ _ _ => rfl) (fun A outer s H E f c' hr2 => by exact (pe_op (op_orIns G_m_or M.oo M.or_.M.fn M.sf M.or_.b (passes_call (takes_of rfl rfl rfl rfl) (fun _ _ _ _ z => z)) (hr2.mono (by decide))) (pv 0) (pv 1)))) pa_nil)) pa_nil)) (by rfl))
    (pss_cons (ps_expr (pe_bm_K (K := K) (by rfl) PySem.F.plainAttrs_list PySem.F.slot_list_append PySem.F.type_list_append mt_append (pv 3) (pa_cons (LamX.pe_lamcall (T := TL) (TT := TTryE K T.cBE T.cMS exPairs) (x := "_law_try") (a := "_law_ask") (Ng := ["_law_ask", "_law_found", "_law_e"]) (k := 9) (t := fun E => tOp (rOrIns R.C (spOr R.C T.r_KindsDiffer.c) E) (tVar 1) (tVar 0)) (by rfl) T.d_l_try.g T.d_l_try.kp lkT hcT bT sc_l_try rfl (.inl (by rfl)) (try_givesT (X := (cxOf CX0 P w K mg base ["_law_one", "_law_two", "_law_kept", "_law_told", "_law_due"] "_law_small_example" (defScope s_l_small_example) S.f (.ref cS) A outer s H E).nox) T (hr.mono (by decide)) cdvT _) TB rfl mT uT (hr.mono (by decide)) (LamX.lamS_by (sc := defScope s_l_small_example) (by decide +kernel)) rfl (fun _ _ _ _ _ => rfl) (fun A outer s H E f c' hr2 => by exact (pe_op (op_orIns G_m_or M.oo M.or_.M.fn M.sf M.or_.b (passes_call (takes_of rfl rfl rfl rfl) (fun _ _ _ _ z => z)) (hr2.mono (by decide))) (pv 1) (pv 0)))) pa_nil)))
    (pss_cons (ps_set (i := 4) sc_l_small_example.nd rfl (Or.inl rfl) (pe_lst (pa_cons (pe_tup (pa_cons pe_str (pa_cons pe_str pa_nil))) (pa_cons (pe_tup (pa_cons pe_str (pa_cons pe_str pa_nil))) (pa_cons pe_bl pa_nil)))))
    (pss_one (ps_ret (pe_call G_l_like (hr.mono (by decide)) (by rfl) T.d_l_like.g T.d_l_like.kp T.d_l_like.b .nil pass0 (pa_cons (pe_op op_cat (pv 3) (pe_lst (pa_cons (pe_cmpR (op_eqX G_m_eq M.eq.M.at_ M.eq.M.fn M.eq.b (hr.mono (by decide)) R.t2 R.t3) (pv 1) (pv 2) (nomark _)) pa_nil))) (pa_cons (pv 4) pa_nil)))))))))), ?_⟩
  rw [show L2.start ["_law_one", "_law_two", "_law_kept", "_law_told", "_law_due"] [] = [none, none, none, none, none] from rfl]
  refine ⟨(by show 2 ≤ sizeLine; decide), fun a1 na1 => ⟨(by show 2 ≤ sizeLine; decide), fun a2 na2 => ⟨(by show 2 ≤ sizeLine; decide), fun a3 na3 => ⟨(by show 3 ≤ sizeLine; decide), fun pl npl => ⟨rfl, rfl, fun x dx nx ndx ne => ?_⟩⟩⟩⟩⟩
  have d1 : DpS K _ (.ref pl) (smA.map dCell) := ⟨pl, _, rfl, .inl (SqL.of (upd_same (H := upd (upd (upd H a1 (.tup [.str "a", .str "k"])) a2 (.tup [.str "b", .str "k"])) a3 (.tup [.str "c", .str "k"])))),
    .cons (.tup (SqT.of ((same_new npl) _ _ ((same_new na3) _ _ ((same_new na2) _ _ upd_same)))) (strs_dp ["a", "k"])) (.cons (.tup (SqT.of ((same_new npl) _ _ ((same_new na3) _ _ upd_same))) (strs_dp ["b", "k"])) (.cons (.tup (SqT.of ((same_new npl) _ _ upd_same)) (strs_dp ["c", "k"])) .nil))⟩
  have s1 : Same H _ := (same_new na1).trans ((same_new na2).trans ((same_new na3).trans (same_new (o := .lst [.ref a1, .ref a2, .ref a3]) npl)))
  refine net_made nx ndx ne d1 ⟨M.z2, [], rfl, .inr (M.e2 _), .nil⟩ smA_ok ts_none fun H1 dc dt s2 ndc ndt na => ?_
  have tb1 := (tb.ext s1).ext s2
  clear s1 s2 d1 nx ndx ne na1 na2 na3 npl ndc ndt tb
  refine gn_step ?_
  dsimp only [List.set]
  refine ⟨(by show 2 ≤ sizeLine; decide), fun b1 nb1 => ⟨(by show 2 ≤ sizeLine; decide), fun b2 nb2 => ⟨(by show 2 ≤ sizeLine; decide), fun pm npm => ⟨rfl, rfl, fun y dy ny ndy ney => ?_⟩⟩⟩⟩
  have d2 : DpS K _ (.ref pm) (smB.map dCell) := ⟨pm, _, rfl, .inl (SqL.of (upd_same (H := upd (upd H1 b1 (.tup [.str "c", .str "h"])) b2 (.tup [.str "b", .str "h"])))),
    .cons (.tup (SqT.of ((same_new npm) _ _ ((same_new nb2) _ _ upd_same))) (strs_dp ["c", "h"])) (.cons (.tup (SqT.of ((same_new npm) _ _ upd_same)) (strs_dp ["b", "h"])) .nil)⟩
  have s3 : Same H1 _ := (same_new nb1).trans ((same_new nb2).trans (same_new (o := .lst [.ref b1, .ref b2]) npm))
  refine net_made ny ndy ney d2 ⟨M.z2, [], rfl, .inr (M.e2 _), .nil⟩ smB_ok ts_none fun H2 ec et s4 nec net nb => ?_
  obtain ⟨f1, f2, f3⟩ := NetA.fresh (C := R.C) na (s3.free ny) (s3.free nec) (s3.free net)
  have two : Two H2 R.C x dc dt y ec et smA smB [] [] := ⟨na.mono (s3.trans s4), nb, f1, f2, f3, smA_ok, ts_none, smB_ok, ts_none, by decide, by decide⟩
  have tb2 := (tb1.ext s3).ext s4
  clear s3 s4 d2 ny ndy ney nb1 nb2 npm nec net na nb tb1
  refine gn_step ?_
  dsimp only [List.set]
  obtain ⟨dy2, g0, _, _⟩ := id two.b
  refine ⟨_, rfl, y, dy2, _, rfl, g0, rfl, y, ec, et, smB, [], rfl, two.b, smB_ok, ts_none, fun H3 z zc zt nz nzc nzt s3 naz => ?_⟩
  have tb3 := tb2.ext s3
  refine ⟨tb3, fun H4 x34 tb4 => ?_⟩
  have two4 := (two.mono s3).kp (kp_ext (S := []) x34)
  have naz4 := naz.kp (kp_ext (S := []) x34)
  refine try_or_clash T rfl rfl two4 (n := 1) (c := ("b", "k")) rfl sm_c1 sm_b1 fun H5 p5 s5 e5 => ?_
  refine ⟨(by show 1 ≤ sizeLine; decide), fun pt npt => ?_⟩
  have s6 : Same H5 (upd H5 pt (.lst [.ref p5])) := same_new npt
  have two6 := two4.mono (s5.trans s6)
  have naz6 := naz4.mono (s5.trans s6)
  have tb6 := (tb4.ext s5).ext s6
  have e6 := s6 _ _ e5
  have hpt : upd H5 pt (.lst [.ref p5]) pt = some (.lst [.ref p5]) := upd_same
  generalize upd H5 pt (.lst [.ref p5]) = H6 at two6 naz6 tb6 e6 hpt ⊢
  refine ⟨_, _, rfl, ?_⟩
  dsimp only [List.set]
  clear s6 e5 npt s5 tb4 two4 naz4 x34 tb3 nz nzc nzt s3 naz g0 tb2 two
  refine ⟨_, rfl, .inl ⟨rfl, _, SqL.of hpt⟩, ?_⟩
  refine ⟨tb6, fun H7 x67 tb7 => ?_⟩
  have two7 := two6.kp (kp_ext (S := []) x67)
  refine try_or_clash T rfl rfl two7.swap (n := 0) (c := ("c", "h")) rfl sm_c2 sm_b2 fun H8 p8 s8 e8 => ?_
  have k68 : Kp [] H6 H8 := (kp_ext (S := []) x67).trans (Same.kp s8)
  have hpt8 := k68.lst hpt (by simp)
  refine ⟨pt, [.ref p5], .ref p8, rfl, rfl, hpt8, (by show 1 < sizeLine; decide), ?_⟩
  have k89 : Kp [pt] H8 (upd H8 pt (.lst ([.ref p5] ++ [.ref p8]))) := kp_upd hpt8 (by simp)
  have kp := (k68.mono (S' := [pt]) (by simp)).trans k89
  have naz9 := naz6.kp kp
  have two9 := two6.kp kp
  have e59 := kp.tup e6
  have e89 := k89.tup e8
  have hpt9 : upd H8 pt (.lst ([.ref p5] ++ [.ref p8])) pt = some (.lst ([.ref p5] ++ [.ref p8])) := upd_same
  generalize upd H8 pt (.lst ([.ref p5] ++ [.ref p8])) = H9 at naz9 two9 e59 e89 hpt9 ⊢
  clear kp k89 k68 hpt8 hpt two7 tb7 x67 e6 two6 naz6 tb6 e8 s8
  refine ⟨(by show 2 ≤ sizeLine; decide), fun c1 nc1 => ⟨(by show 2 ≤ sizeLine; decide), fun c2 nc2 => ⟨(by show 3 ≤ sizeLine; decide), fun c3 nc3 => ?_⟩⟩⟩
  have sA : Same H9 _ := (same_new nc1).trans ((same_new nc2).trans (same_new (o := .lst [.ref c1, .ref c2, .bl true]) nc3))
  have f1 := (same_new (o := .lst [.ref c1, .ref c2, .bl true]) nc3) _ _ ((same_new (o := .tup [.str "KindsDiffer", .str "c"]) nc2) _ _ (upd_same (H := H9) (a := c1) (o := .tup [.str "KindsDiffer", .str "b"])))
  have f2 := (same_new (o := .lst [.ref c1, .ref c2, .bl true]) nc3) _ _ (upd_same (H := upd H9 c1 (.tup [.str "KindsDiffer", .str "b"])) (a := c2) (o := .tup [.str "KindsDiffer", .str "c"]))
  have f3 : upd (upd (upd H9 c1 (.tup [.str "KindsDiffer", .str "b"])) c2 (.tup [.str "KindsDiffer", .str "c"])) c3 (.lst [.ref c1, .ref c2, .bl true]) c3 = some (.lst [.ref c1, .ref c2, .bl true]) := upd_same
  generalize upd (upd (upd H9 c1 (.tup [.str "KindsDiffer", .str "b"])) c2 (.tup [.str "KindsDiffer", .str "c"])) c3 (.lst [.ref c1, .ref c2, .bl true]) = HA at sA f1 f2 f3 ⊢
  refine gn_step ?_
  dsimp only [List.set]
  have twoA := two9.mono sA
  have nazA := naz9.mono sA
  obtain ⟨dyA, g0, _, _⟩ := id twoA.b
  obtain ⟨dzA, k0, _, _⟩ := id nazA
  refine ⟨_, rfl, _, rfl, _, rfl, y, dyA, _, rfl, g0, .inl ⟨z, dzA, _, rfl, k0⟩, y, ec, et, smB, [], .ref z, rfl, twoA.b, .inl ⟨z, zc, zt, smB, [], rfl, nazA, ⟨_, rfl⟩, ?_⟩⟩
  rw [eqNet_perm smB_ok smB_ok ts_none (.refl _) (.refl _)]
  refine ⟨(by show 1 ≤ sizeLine; decide), fun c4 nc4 => ?_⟩
  have sB : Same HA (upd HA c4 (.lst [.bl true])) := same_new nc4
  refine ⟨pt, c4, [.ref p5] ++ [.ref p8], [.bl true], rfl, rfl, sB _ _ (sA _ _ hpt9), upd_same, (by show 3 ≤ sizeLine; decide), fun c5 nc5 => ?_⟩
  have sC : Same _ (upd (upd HA c4 (.lst [.bl true])) c5 (.lst (([.ref p5] ++ [.ref p8]) ++ [.bl true]))) := same_new nc5
  have sBC := sB.trans sC
  refine ⟨_, rfl, .ref c5, .ref c3, .list [.tuple [.str "KindsDiffer", .str "b"], .tuple [.str "KindsDiffer", .str "c"], .bool true], rfl,
    .lst (SqL.of upd_same) (.cons (.tup (SqT.of (sBC _ _ (sA _ _ e59))) (strs_dp ["KindsDiffer", "b"])) (.cons (.tup (SqT.of (sBC _ _ (sA _ _ e89))) (strs_dp ["KindsDiffer", "c"])) (.cons (.bl true) .nil))),
    .lst (SqL.of (sBC _ _ f3)) (.cons (.tup (SqT.of (sBC _ _ f1)) (strs_dp ["KindsDiffer", "b"])) (.cons (.tup (SqT.of (sBC _ _ f2)) (strs_dp ["KindsDiffer", "c"])) (.cons (.bl true) .nil))), ?_, fun HE _ => q _⟩
  refine .lst (by show 3 ≤ 100000; decide) fun d hd => ?_
  simp only [List.mem_cons, List.not_mem_nil, or_false] at hd
  have sp : ∀ u : Str, Sh 4 (.tuple [.str "KindsDiffer", .str u]) := fun u => .tup (by show 2 ≤ 100000; decide) fun d hd => by
    rcases (by simpa using hd : d = .str "KindsDiffer" ∨ d = .str u) with rfl | rfl <;> exact .str
  rcases hd with rfl | rfl | rfl
  · exact sp _
  · exact sp _
  · exact .bl
end
end Bh

set_option Elab.async false
set_option linter.all false
set_option maxRecDepth 100000
set_option maxHeartbeats 1000000
set_option autoImplicit false
namespace Bh
open PySem PySem.Spec PyProof.Rows L2 LamX
def clashes (cs ds : List Cl) : List Str := (cs.filter (clashC ds)).map (·.1)
theorem clash_ne {ds : List Cl} {c : Cl} : (!decide (V.str c.2 = ((kindAt ds c.1).map V.str).getD (.str c.2))) = clashC ds c := by
  unfold clashC
  cases kindAt ds c.1 with
  | none => show (!decide (V.str c.2 = V.str c.2)) = false; rw [decide_eq_true rfl]; rfl
  | some k =>
    show (!decide (V.str c.2 = V.str k)) = decide (k ≠ c.2)
    by_cases h : k = c.2
    · rw [decide_eq_true (by rw [h]), decide_eq_false (fun n => n h)]; rfl
    · rw [decide_eq_false (fun z => h (by cases z; rfl)), decide_eq_true h]; rfl
theorem clash_scal {ds : List Cl} {c : Cl} : scal (.str c.2) (((kindAt ds c.1).map V.str).getD (.str c.2)) = true := by
  cases kindAt ds c.1 <;> rfl
theorem merge_cells : ∀ (cs pre : List Cl), ((pre ++ cs).map (·.1)).Nodup → mergeK (pre.map eC) (cs.map eC) = (pre ++ cs).map eC
  | [], pre, _ => by rw [List.append_nil]; rfl
  | c :: cs, pre, h => by
    have h2 : ((pre ++ [c]) ++ cs) = pre ++ c :: cs := by simp
    have nin : c.1 ∉ pre.map (·.1) := fun m => by
      rw [List.map_append, List.nodup_append] at h
      exact h.2.2 _ m c.1 (List.mem_map.mpr ⟨c, List.mem_cons_self, rfl⟩) rfl
    have ih := merge_cells cs (pre ++ [c]) (by rw [h2]; exact h)
    rw [h2] at ih
    rw [← ih]
    show mergeK (putK (pre.map eC) (.inr c.1) (.str c.2)) (cs.map eC) = _
    rw [put_cell nin]
theorem cells_pairs {K : PySem.W.Frag} {H : Hp} : ∀ {xs : List V} {cs : List Cl}, DpAll K H xs (cs.map dCell) → ∃ ps : List Addr, xs = ps.map V.ref ∧ Paired (fun p kv => SqT K H p [L2.kV kv.1, kv.2]) ps (cs.map eC)
  | xs, [], h => by
    cases h
    exact ⟨[], rfl, .nil⟩
  | xs, c :: cs, h => by
    cases h with
    | cons h1 h2 =>
    obtain ⟨ps, rfl, hp⟩ := cells_pairs h2
    obtain ⟨a, ys, rfl, e, r⟩ := dp_tup h1
    have := dp_strs (zs := [c.1, c.2]) r
    subst this
    exact ⟨a :: ps, rfl, .cons e hp⟩
theorem read_dict {K : PySem.W.Frag} {H : Hp} {Q : VK} {p : Addr} {xs : List V} {cs : List Cl} (h : SqL K H p xs) (d : DpAll K H xs (cs.map dCell)) (nd : (cs.map (·.1)).Nodup) (q : ∀ p', H p' = none → Q (.ref p') (upd H p' (.dK (cs.map eC)))) : rDictP K [.ref p] H Q := by
  obtain ⟨ps, rfl, hp⟩ := cells_pairs d
  refine ⟨p, ps, _, rfl, h, hp, fun p' n => ?_⟩
  have e := merge_cells cs [] nd
  rw [show mergeK [] (cs.map eC) = cs.map eC from e]
  exact q p' n
section
variable {K : PySem.W.Frag} {H : Hp} {Q : VK} {o0 o1 o2 o3 o4 o5 o6 o7 o8 o9 o10 o11 o12 o13 o14 o15 o16 o17 : Option V} {va vb : V} {cs ds : List Cl} {ts us : List Ti}
theorem dnet_cells {v : V} (h : Dp K H v (dNet cs ts)) : ∃ (a p1 p2 : Addr) (xs ys : List V), v = .ref a ∧ SqT K H a [.ref p1, .ref p2] ∧ SqL K H p1 xs ∧ DpAll K H xs (cs.map dCell) ∧ SqL K H p2 ys ∧ DpAll K H ys (ts.map dTi) := dnet_at h
theorem read_clash {d : Addr} (h : Dp K H va (dNet cs ts)) (hd : H d = some (.dK (ds.map eC))) (few : cs.length ≤ 1000) (q : ∀ (H' : Hp) (D : Addr), Same H H' → H D = none → H' D = some (.lst ((clashes cs ds).map V.str)) → Q (.ref D) H') :
    tLc (iList K (tOp (rIxT K) (tVar 5) (tC (V.int 0)))) (gTup K 2 (gCons (gName 15) (gCons (gName 16) gNil))) (tTest (tOp rNe (tVar 16) (tDGet2 (tVar 9) (tVar 15) (tVar 16)))) (tVar 15) [15, 16]
      [o0, o1, o2, o3, o4, some va, o6, o7, o8, some (.ref d), o10, o11, o12, o13, o14, o15, o16, o17] H Q := by
  obtain ⟨a, p1, p2, xs, ys, rfl, ha, h1, d1, _, _⟩ := dnet_cells h
  have lx : xs.length = cs.length := by rw [DpAll.length d1, List.length_map]
  refine ⟨_, rfl, a, _, (0 : Int), .ref p1, rfl, rfl, ha, rfl, p1, rfl, ⟨_, h1⟩, fun D nD => ?_⟩
  refine lc_it walk_list (fun i H' => Same H H' ∧ H' D = some (.lst ((clashes (cs.take i) ds).map V.str))) ⟨same_new nD, upd_same⟩ (fun i H' _ ⟨s, _⟩ => s.seq h1) ?_ ?_
  · rintro i z H' H'' hi ⟨s2, hD⟩ ⟨rfl, ez⟩
    obtain ⟨c, ca, hc, rfl, hca⟩ := dp_cell d1 ez
    refine ⟨ca, _, rfl, Same.tup s2 hca, rfl, _, _, rfl, _, _, rfl, rfl, rfl, _, rfl, _, rfl, d, rfl, .inl ⟨_, .inl (s2 _ _ hd)⟩, _, rfl, _, rfl, (kindAt ds c.1).map V.str, .inl ⟨ds.map eC, .inr c.1, .inl (s2 _ _ hd), rfl, (val_cells c.1 ds).symm⟩, clash_scal, ?_⟩
    rw [clash_ne]
    have en : clashes (cs.take (i + 1)) ds = if clashC ds c = true then clashes (cs.take i) ds ++ [c.1] else clashes (cs.take i) ds := by
      unfold clashes
      rw [filter_next (clashC ds) hc]
      by_cases h : clashC ds c = true
      · rw [if_pos h, if_pos h, List.map_append]; rfl
      · rw [if_neg h, if_neg h]
    refine ⟨_, rfl, ?_⟩
    refine iteB (fun e => ?_) (fun e => ?_)
    · refine ⟨_, rfl, _, hD, ?_, same_mut s2 nD, ?_⟩
      · have : ((clashes (cs.take i) ds).map V.str).length ≤ i := by
          unfold clashes
          rw [List.length_map, List.length_map]
          exact Nat.le_trans (List.length_filter_le _ _) (by rw [List.length_take]; omega)
        exact lt_line (by omega)
      · rw [upd_same, en, if_pos e, List.map_append]
        rfl
    · refine ⟨s2, ?_⟩
      rw [en, if_neg (by rw [e]; decide)]
      exact hD
  · rintro H' ⟨s2, hD⟩
    rw [lx, List.take_length] at hD
    exact q H' D s2 nD hD
theorem read_more (h : Dp K H va (dNet cs ts)) (hb : Dp K H vb (dNet ds us)) (nd : (cs.map (·.1)).Nodup) (few : ds.length ≤ 1000) (q : ∀ (H' : Hp) (D : Addr) (zs : List V), Same H H' → H' D = some (.lst zs) → DpAll K H' zs ((moreC cs ds).map dCell) → Q (.ref D) H') :
    tLc (iList K (tOp (rIxT K) (tVar 6) (tC (V.int 0)))) (gName 17) (tTest (tOp (rInD true) (tOp (rIxT K) (tVar 17) (tC (V.int 0))) (tCB (rDictP K) (tCons (tOp (rIxT K) (tVar 5) (tC (V.int 0))) tNil)))) (tVar 17) [17]
      [o0, o1, o2, o3, o4, some va, some vb, o7, o8, o9, o10, o11, o12, o13, o14, o15, o16, o17] H Q := by
  obtain ⟨a, p1, p2, xs, ys, rfl, ha, h1, d1, _, _⟩ := dnet_cells h
  obtain ⟨b, q1, q2, xs2, ys2, rfl, hb, h2, d2, _, _⟩ := dnet_cells hb
  have lx : xs2.length = ds.length := by rw [DpAll.length d2, List.length_map]
  refine ⟨_, rfl, b, _, (0 : Int), .ref q1, rfl, rfl, hb, rfl, q1, rfl, ⟨_, h2⟩, fun D nD => ?_⟩
  refine lc_it walk_list (fun i H' => ∃ zs, Same H H' ∧ H' D = some (.lst zs) ∧ zs.length ≤ i ∧ DpAll K H zs ((moreC cs (ds.take i)).map dCell)) ⟨[], same_new nD, upd_same, Nat.le_refl _, .nil⟩ (fun i H' _ ⟨_, s, _⟩ => s.seq h2) ?_ ?_
  · rintro i z H' H'' hi ⟨zs, s2, hD, lz, dz⟩ ⟨rfl, ez⟩
    obtain ⟨c, ca, hc, rfl, hca⟩ := dp_cell d2 ez
    refine ⟨rfl, _, rfl, ca, _, (0 : Int), .str c.1, rfl, rfl, Same.tup s2 hca, rfl, _, rfl, a, _, (0 : Int), .ref p1, rfl, rfl, Same.tup s2 ha, rfl, ?_⟩
    dsimp only [tNil]
    refine read_dict (s2.seq h1) (DpAll.mono s2 d1) nd fun p' np' => ?_
    have s3 : Same H'' (upd H'' p' (.dK (cs.map eC))) := same_new np'
    refine inCells upd_same ⟨_, rfl, ?_⟩
    have en : moreC cs (ds.take (i + 1)) = if decide (c.1 ∉ cs.map (·.1)) = true then moreC cs (ds.take i) ++ [c] else moreC cs (ds.take i) := filter_next (fun d : Cl => decide (d.1 ∉ cs.map fun c : Cl => c.1)) hc
    rw [Bool.bne_true, ← decide_not, en]
    have lf : zs.length < sizeLine := lt_line (by omega)
    refine iteB (fun e => ?_) (fun e => ?_)
    · rw [if_pos e]
      refine ⟨_, rfl, zs, s3 _ _ hD, lf, zs ++ [.ref ca], same_mut (s2.trans s3) nD, upd_same, by rw [List.length_append]; exact Nat.add_le_add_right lz 1, ?_⟩
      rw [List.map_append]
      exact DpAll.append dz (.cons (.tup hca (strs_dp [c.1, c.2])) .nil)
    · rw [if_neg (by rw [e]; decide)]
      exact ⟨zs, s2.trans s3, s3 _ _ hD, Nat.le_succ_of_le lz, dz⟩
  · rintro H' ⟨zs, s2, hD, lz, dz⟩
    rw [lx, List.take_length] at dz
    exact q H' D zs s2 hD (DpAll.mono s2 dz)
theorem read_ties (h : Dp K H va (dNet cs ts)) (hb : Dp K H vb (dNet ds us)) (okt : ∀ t ∈ ts, NmOk t.1 ∧ NmOk t.2.1 ∧ NmOk t.2.2) (oku : ∀ t ∈ us, NmOk t.1 ∧ NmOk t.2.1 ∧ NmOk t.2.2) (few : us.length ≤ 1000) (q : ∀ (H' : Hp) (D : Addr) (zs : List V), Same H H' → H' D = some (.lst zs) → DpAll K H' zs ((moreT ts us).map dTi) → Q (.ref D) H') :
    tLc (iList K (tOp (rIxT K) (tVar 6) (tC (V.int 1)))) (gName 17) (tTest (tOp (rNotInD K) (tVar 17) (tOp (rIxT K) (tVar 5) (tC (V.int 1))))) (tVar 17) [17]
      [o0, o1, o2, o3, o4, some va, some vb, o7, o8, o9, o10, o11, o12, o13, o14, o15, o16, o17] H Q := by
  obtain ⟨a, p1, p2, xs, ys, rfl, ha, _, _, h1, d1⟩ := dnet_cells h
  obtain ⟨b, q1, q2, xs2, ys2, rfl, hb, _, _, h2, d2⟩ := dnet_cells hb
  have lx : ys2.length = us.length := by rw [DpAll.length d2, List.length_map]
  refine ⟨_, rfl, b, _, (1 : Int), .ref q2, rfl, rfl, hb, rfl, q2, rfl, ⟨_, h2⟩, fun D nD => ?_⟩
  refine lc_it walk_list (fun i H' => ∃ zs, Same H H' ∧ H' D = some (.lst zs) ∧ zs.length ≤ i ∧ DpAll K H zs ((moreT ts (us.take i)).map dTi)) ⟨[], same_new nD, upd_same, Nat.le_refl _, .nil⟩ (fun i H' _ ⟨_, s, _⟩ => s.seq h2) ?_ ?_
  · rintro i z H' H'' hi ⟨zs, s2, hD, lz, dz⟩ ⟨rfl, ez⟩
    obtain ⟨t, ta, ht, rfl, hta⟩ := dp_ti d2 ez
    obtain ⟨k1, k2, k3⟩ := oku t (List.mem_of_getElem? ht)
    refine ⟨rfl, _, rfl, _, rfl, a, _, (1 : Int), .ref p2, rfl, rfl, Same.tup s2 ha, rfl, ?_⟩
    refine ⟨dTi t, ts.map dTi, .tup (Same.tup s2 hta) (strs_dp [t.1, t.2.1, t.2.2]), .lst (s2.seq h1) (DpAll.mono s2 d1), shaped_ti k1 k2 k3, shaped_tis okt, ?_⟩
    rw [show ((ts.map dTi).any fun z => PyData.eqv z (dTi t)) = decide (t ∈ ts) from (apt_tie.any t ts).trans (decide_eq_decide.mpr Iff.rfl)]
    have en : moreT ts (us.take (i + 1)) = if decide (t ∉ ts) = true then moreT ts (us.take i) ++ [t] else moreT ts (us.take i) := filter_next (fun u : Ti => decide (u ∉ ts)) ht
    rw [en, ← decide_not]
    have lf : zs.length < sizeLine := lt_line (by omega)
    refine ⟨_, rfl, ?_⟩
    refine iteB (fun e => ?_) (fun e => ?_)
    · rw [if_pos e]
      refine ⟨_, rfl, zs, hD, lf, zs ++ [.ref ta], same_mut s2 nD, upd_same, by rw [List.length_append]; exact Nat.add_le_add_right lz 1, ?_⟩
      rw [List.map_append]
      exact DpAll.append dz (.cons (.tup hta (strs_dp [t.1, t.2.1, t.2.2])) .nil)
    · rw [if_neg (by rw [e]; decide)]
      exact ⟨zs, s2, hD, Nat.le_succ_of_le lz, dz⟩
  · rintro H' ⟨zs, s2, hD, lz, dz⟩
    rw [lx, List.take_length] at dz
    exact q H' D zs s2 hD (DpAll.mono s2 dz)
end
end Bh

set_option Elab.async false
set_option linter.all false
set_option maxRecDepth 100000
set_option maxHeartbeats 1000000
set_option autoImplicit false
namespace Bh
open PySem PySem.Spec PyProof.Rows L2 LamX
theorem dpall_perm {α : Type} {f : α → PyData} {K : PySem.W.Frag} {H : Hp} {xs zs : List V} (pm : xs.Perm zs) : ∀ {cs : List α}, DpAll K H xs (cs.map f) → ∃ cs' : List α, cs.Perm cs' ∧ DpAll K H zs (cs'.map f) := by
  induction pm with
  | nil =>
    intro cs h
    cases cs with
    | nil => exact ⟨[], .refl _, .nil⟩
    | cons c cs => cases h
  | cons x p ih =>
    intro cs h
    cases cs with
    | nil => cases h
    | cons c cs =>
      cases h with
      | cons h1 h2 =>
      obtain ⟨cs', p', d'⟩ := ih h2
      exact ⟨c :: cs', p'.cons c, .cons h1 d'⟩
  | swap x y l =>
    intro cs h
    cases cs with
    | nil => cases h
    | cons c cs =>
      cases cs with
      | nil =>
        cases h with
        | cons h1 h2 => cases h2
      | cons d cs =>
        cases h with
        | cons h1 h2 =>
        cases h2 with
        | cons h2 h3 => exact ⟨d :: c :: cs, .swap .., .cons h2 (.cons h1 h3)⟩
  | trans p q ih1 ih2 =>
    intro cs h
    obtain ⟨c1, p1, d1⟩ := ih1 h
    obtain ⟨c2, p2, d2⟩ := ih2 d1
    exact ⟨c2, p1.trans p2, d2⟩
theorem CsOk.perm {cs ds : List Cl} (h : CsOk cs) (p : cs.Perm ds) : CsOk ds :=
  ⟨(p.map _).nodup_iff.mp h.nd, fun c hc => h.nm c (p.mem_iff.mpr hc), by rw [← p.length_eq]; exact h.few⟩
theorem TsOk.perm {cs ds : List Cl} {ts us : List Ti} (h : TsOk cs ts) (p : cs.Perm ds) (q : ts.Perm us) : TsOk ds us :=
  ⟨q.nodup_iff.mp h.nd, fun t ht => by
    obtain ⟨h1, h2, h3⟩ := h.nm t (q.mem_iff.mpr ht)
    exact ⟨h1, (p.map _).mem_iff.mp h2, (p.map _).mem_iff.mp h3⟩, by rw [← q.length_eq]; exact h.few⟩
theorem CsOk.more {cs : List Cl} {n k : Str} (h : CsOk cs) (nm : NmOk n) (kd : KdOk k) (nin : n ∉ cs.map (·.1)) (few : cs.length < 1000) : CsOk (cs ++ [(n, k)]) := by
  refine ⟨?_, fun c hc => ?_, by rw [List.length_append]; show _ + 1 ≤ _; omega⟩
  · rw [List.map_append, List.nodup_append]
    refine ⟨h.nd, by simp, fun a ha b hb => ?_⟩
    have e : b = n := by simpa using hb
    rw [e]
    exact fun z => nin (z ▸ ha)
  · rcases List.mem_append.mp hc with h' | h'
    · exact h.nm c h'
    · have e : c = (n, k) := by simpa using h'
      rw [e]
      exact ⟨nm, kd⟩
structure WebO (K : PySem.W.Frag) (H : Hp) (a p1 p2 : Addr) (xs ys : List V) (cs : List Cl) (ts : List Ti) : Prop where
  h0 : H a = some (.tup [.ref p1, .ref p2])
  h1 : H p1 = some (.lst xs)
  d1 : DpAll K H xs (cs.map dCell)
  h2 : H p2 = some (.lst ys)
  d2 : DpAll K H ys (ts.map dTi)
theorem WebAt.o {K : PySem.W.Frag} {H : Hp} {v : V} {cs : List Cl} {ts : List Ti} (h : WebAt K H v cs ts) : ∃ (a p1 p2 : Addr) (xs ys : List V), v = .ref a ∧ WebO K H a p1 p2 xs ys cs ts := by
  obtain ⟨a, p1, p2, xs, ys, rfl, h0, h1, d1, h2, d2⟩ := h
  exact ⟨a, p1, p2, xs, ys, rfl, ⟨h0, h1, d1, h2, d2⟩⟩
theorem WebO.mono {K : PySem.W.Frag} {H H' : Hp} {a p1 p2 : Addr} {xs ys : List V} {cs : List Cl} {ts : List Ti} (s : Same H H') (h : WebO K H a p1 p2 xs ys cs ts) : WebO K H' a p1 p2 xs ys cs ts :=
  ⟨s _ _ h.h0, s _ _ h.h1, DpAll.mono s h.d1, s _ _ h.h2, DpAll.mono s h.d2⟩
theorem WebO.dp {K : PySem.W.Frag} {H : Hp} {a p1 p2 : Addr} {xs ys : List V} {cs : List Cl} {ts : List Ti} (h : WebO K H a p1 p2 xs ys cs ts) : Dp K H (.ref a) (dNet cs ts) :=
  .tup (SqT.of h.h0) (.cons (.lst (SqL.of h.h1) h.d1) (.cons (.lst (SqL.of h.h2) h.d2) .nil))
theorem WebO.kp {K : PySem.W.Frag} {H H' : Hp} {S : List Addr} {a p1 p2 : Addr} {xs ys : List V} {cs : List Cl} {ts : List Ti} (e : Kp S H H') (n1 : p1 ∉ S) (n2 : p2 ∉ S) (h : WebO K H a p1 p2 xs ys cs ts) : WebO K H' a p1 p2 xs ys cs ts :=
  ⟨e.tup h.h0, e.lst h.h1 n1, e.dps (fun _ => rfl) h.d1, e.lst h.h2 n2, e.dps (fun _ => rfl) h.d2⟩
theorem eqNet_more {cs ds : List Cl} {ts us : List Ti} (h : cs.length ≠ ds.length) : eqNet cs ds ts us = false := by
  unfold eqNet
  rw [show (cs.length == ds.length) = false from by simpa using h]
  rfl
theorem partNet_no {cs ds : List Cl} {ts us : List Ti} {c : Cl} (m : c ∈ cs) (n : c.1 ∉ ds.map (·.1)) : partNet cs ds ts us = false := by
  unfold partNet
  rw [show (cs.all fun c => decide (kindAt ds c.1 = some c.2)) = false from ?_]
  · rfl
  · rw [List.all_eq_false]
    refine ⟨c, m, ?_⟩
    rw [kindAt_none n]
    simp
theorem no_clash {cs ds : List Cl} (h : clashes cs ds = []) : ∀ c ∈ cs, clashC ds c = false := fun c hc => by
  unfold clashes at h
  have h1 := List.map_eq_nil_iff.mp h
  have h2 := List.filter_eq_nil_iff.mp h1 c hc
  exact Bool.eq_false_iff.mpr h2
theorem first_clash {ds : List Cl} {n : Str} {r : List Str} : ∀ {cs : List Cl}, clashes cs ds = n :: r → ∃ (i : Nat) (c : Cl), cs[i]? = some c ∧ c.1 = n ∧ clashC ds c = true ∧ ∀ (j : Nat) (d : Cl), j < i → cs[j]? = some d → clashC ds d = false
  | [], h => by cases h
  | c :: cs, h => by
    by_cases e : clashC ds c = true
    · unfold clashes at h
      rw [List.filter_cons_of_pos e, List.map_cons] at h
      exact ⟨0, c, rfl, (List.cons.inj h).1, e, fun j d hj => absurd hj (Nat.not_lt_zero _)⟩
    · unfold clashes at h
      rw [List.filter_cons_of_neg e] at h
      obtain ⟨i, d, h1, h2, h3, h4⟩ := first_clash (cs := cs) h
      refine ⟨i + 1, d, by rw [List.getElem?_cons_succ]; exact h1, h2, h3, fun j u hj ej => ?_⟩
      cases j with
      | zero =>
        rw [List.getElem?_cons_zero] at ej
        cases ej
        exact Bool.eq_false_iff.mpr e
      | succ j =>
        rw [List.getElem?_cons_succ] at ej
        exact h4 j u (by omega) ej
def dDue (cs ds : List Cl) (ts us : List Ti) : PyData := match clashes cs ds with
  | [] => .tuple [.str "value", dNet (cs ++ moreC cs ds) (ts ++ moreT ts us)]
  | n :: _ => .tuple [.str "KindsDiffer", .str n]
theorem due_nil {cs ds : List Cl} {ts us : List Ti} (h : clashes cs ds = []) : dDue cs ds ts us = .tuple [.str "value", dNet (cs ++ moreC cs ds) (ts ++ moreT ts us)] := by
  unfold dDue
  rw [h]
theorem due_cons {cs ds : List Cl} {ts us : List Ti} {n : Str} {r : List Str} (h : clashes cs ds = n :: r) : dDue cs ds ts us = .tuple [.str "KindsDiffer", .str n] := by
  unfold dDue
  rw [h]
theorem due_way {K : PySem.W.Frag} {H : Hp} {v : V} {cs ds : List Cl} {ts us : List Ti} (h : Dp K H v (dDue cs ds ts us)) : DueWay K H v cs ds ts us := by
  cases e : clashes cs ds with
  | nil =>
    rw [due_nil e] at h
    exact .inl ⟨no_clash e, h⟩
  | cons n r =>
    rw [due_cons e] at h
    obtain ⟨i, c, h1, rfl, h3, h4⟩ := first_clash e
    exact .inr ⟨i, c, h1, h3, h4, h⟩
theorem sh_dDue {n : Nat} {cs ds : List Cl} {ts us : List Ti} (h1 : cs.length + ds.length ≤ 1000) (h2 : ts.length + us.length ≤ 1000) : Sh (n + 4) (dDue cs ds ts us) := by
  cases e : clashes cs ds with
  | nil =>
    rw [due_nil e]
    refine .tup (by show 2 ≤ 100000; decide) fun d hd => ?_
    have l1 : (moreC cs ds).length ≤ ds.length := List.length_filter_le _ _
    have l2 : (moreT ts us).length ≤ us.length := List.length_filter_le _ _
    rcases (by simpa using hd : d = .str "value" ∨ d = dNet (cs ++ moreC cs ds) (ts ++ moreT ts us)) with rfl | rfl
    · exact .str
    · exact sh_net (by rw [List.length_append]; omega) (by rw [List.length_append]; omega)
  | cons m r =>
    rw [due_cons e]
    refine .tup (by show 2 ≤ 100000; decide) fun d hd => ?_
    rcases (by simpa using hd : d = .str "KindsDiffer" ∨ d = .str m) with rfl | rfl <;> exact .str
theorem try_net {K : PySem.W.Frag} {mg : Str → Option Value} {R : NtC K mg} (T : Top K mg) {H : Hp} {Q : VK} {σ : L2.St} {i j : Nat} {x dc dt y ec et : Addr} {cs ds : List Cl} {ts us : List Ti} (ei : σ[i]? = some (some (.ref x))) (ej : σ[j]? = some (some (.ref y)))
    (two : Two H R.C x dc dt y ec et cs ds ts us) (q : ∀ (H3 : Hp) (v : V), Same H H3 → Dp K H3 v (dDue cs ds ts us) → Q v H3) :
    TTryE K T.cBE T.cMS exPairs (fun E H' Q' => tCall (spNetOf K R.C) [] E0 (tCons (tOp (rOrIns R.C (spOr R.C T.r_KindsDiffer.c) E) (tVar i) (tVar j)) tNil) σ H' Q') H Q := by
  obtain ⟨dx, h0, _, _⟩ := id two.a
  obtain ⟨dy, g0, _, _⟩ := id two.b
  cases e : clashes cs ds with
  | nil =>
    rw [due_nil e] at q
    refine ⟨fun _ _ _ => False, fun v H2 => Same H H2 ∧ Dp K H2 v (dNet (cs ++ moreC cs ds) (ts ++ moreT ts us)), ?_, fun _ _ _ z => z.elim, fun v H2 ⟨s, d⟩ p np => ?_⟩
    · refine ⟨_, ei, _, ej, x, dx, _, y, dy, _, rfl, h0, rfl, g0, x, dc, dt, y, ec, et, cs, ds, ts, us, rfl, two, .inl ⟨no_clash e, fun H1 z zc zt nz nzc nzt s1 na1 => ⟨⟨z, rfl⟩, ?_⟩⟩⟩
      have okc := cs_join two.ca two.cb (by have := two.fc; omega)
      exact ⟨z, zc, zt, _, _, rfl, na1, okc, fun H2 v s2 hv => ⟨s1.trans s2, hv⟩⟩
    · have s2 : Same H2 (upd H2 p (.tup [.str "value", v])) := same_new np
      exact q _ _ (s.trans s2) (.tup (SqT.of upd_same) (.cons (.str _) (.cons (Dp.mono s2 d) .nil)))
  | cons n r =>
    rw [due_cons e] at q
    obtain ⟨m, c, h1, rfl, h3, h4⟩ := first_clash e
    refine ⟨fun cls d H2 => ∃ dd, cls = .ref T.r_KindsDiffer.c ∧ d = some dd ∧ Same H H2 ∧ H2 dd = some (.xd [("code", .str "KindsDiffer"), ("name", .str c.1)]), fun _ _ => False, ?_, ?_, fun _ _ z => z.elim⟩
    · exact ⟨_, ei, _, ej, x, dx, _, y, dy, _, rfl, h0, rfl, g0, x, dc, dt, y, ec, et, cs, ds, ts, us, rfl, two, .inr ⟨m, c, h1, h3, h4, fun dd H2 _ s e => ⟨dd, rfl, rfl, s, e⟩⟩⟩
    · rintro cls d H2 ⟨dd, rfl, rfl, s, e⟩
      exact ⟨_, dd, "KindsDiffer", "name", .str c.1, rfl, rfl, e, T.e_KindsDiffer, List.mem_singleton.mpr rfl, fun H3 p s3 e3 => q H3 _ (s.trans s3) (.tup (SqT.of e3) (strs_dp ["KindsDiffer", c.1]))⟩
section
variable {K : PySem.W.Frag} {H : Hp} {Q : VK} {o0 o1 o2 o3 o4 o5 o6 o7 o8 o9 o11 o12 o14 o15 o16 o17 : Option V} {cs ds : List Cl} {ts us : List Ti}
theorem read_due {pc : Addr} {v : V} (hc : H pc = some (.lst ((clashes cs ds).map V.str))) (hv : Dp K H v (dNet (cs ++ moreC cs ds) (ts ++ moreT ts us))) (q : ∀ (H' : Hp) (v' : V), Same H H' → Dp K H' v' (dDue cs ds ts us) → Q v' H') :
    tIf (tTest (tOp (rEqP K) (tVar 10) (tLst tNil))) (tTup (tCons (tC (V.str (Str.ofString "value"))) (tCons (tVar 13) tNil))) (tTup (tCons (tC (V.str (Str.ofString "KindsDiffer"))) (tCons (tOp (rIxL K) (tVar 10) (tC (V.int 0))) tNil)))
      [o0, o1, o2, o3, o4, o5, o6, o7, o8, o9, some (.ref pc), o11, o12, some v, o14, o15, o16, o17] H Q := by
  refine ⟨_, rfl, Nat.zero_le _, fun p np => ?_⟩
  have s1 : Same H (upd H p (.lst [])) := same_new np
  refine ⟨.list ((clashes cs ds).map PyData.str), .list [], .lst (SqL.of (s1 _ _ hc)) (strs_dp _), .lst (SqL.of upd_same) .nil, Nat.le_trans (Nat.min_le_right _ _) (by decide), _, rfl, ?_⟩
  rw [eqv_nil]
  have hv1 := Dp.mono s1 hv
  have hc1 := s1 _ _ hc
  generalize upd H p (.lst []) = H1 at s1 hv1 hc1
  cases e : clashes cs ds with
  | nil =>
    rw [due_nil e] at q
    rw [show decide ((([] : List Str).map PyData.str) = []) = true from rfl]
    refine iteT ?_
    refine ⟨_, rfl, (by show 2 ≤ sizeLine; decide), fun t nt => ?_⟩
    have s2 : Same H1 (upd H1 t (.tup [.str "value", v])) := same_new nt
    exact q _ _ (s1.trans s2) (.tup (SqT.of upd_same) (.cons (.str _) (.cons (Dp.mono s2 hv1) .nil)))
  | cons n r =>
    rw [due_cons e] at q
    rw [show decide (((n :: r).map PyData.str) = []) = false from rfl]
    refine iteF ?_
    rw [e] at hc1
    refine ⟨_, rfl, pc, _, (0 : Int), .str n, rfl, rfl, SqL.of hc1, at_nn (by decide) rfl, (by show 2 ≤ sizeLine; decide), fun t nt => ?_⟩
    have s2 : Same H1 (upd H1 t (.tup [.str "KindsDiffer", .str n])) := same_new nt
    exact q _ _ (s1.trans s2) (.tup (SqT.of upd_same) (strs_dp ["KindsDiffer", n]))
theorem sq_ifs {tt : TT} {ta B : TS} {D : Ends} {σ : L2.St} {H : Hp} (h : tt σ H fun b H1 => if b = true then ta { D with nx := B D } σ H1 else B D σ H1) : tSeq (tIfS tt ta tNext) B D σ H := h
theorem read_put {C x dc dt y ec et pc : Addr} {va : V} {kk : Bool → Hp → Prop} {o13 : Option V} (hc : H pc = some (.lst ((clashes cs ds).map V.str))) (two : Two H C x dc dt y ec et cs ds ts us) (hva : Dp K H va (dNet cs ts)) (q : ∀ H' : Hp, Same H H' → kk false H') :
    tAnd (tTest (tOp (rEqP K) (tVar 10) (tLst tNil))) (tNot (tB (tCall (spPutIn K C) [] E0 (tCons (tVar 7) (tCons (tVar 8) (tCons (tVar 5) tNil))))))
      [o0, o1, o2, o3, o4, some va, o6, some (.ref x), some (.ref y), o9, some (.ref pc), o11, o12, o13, o14, o15, o16, o17] H kk := by
  refine ⟨_, rfl, Nat.zero_le _, fun p np => ?_⟩
  have s1 : Same H (upd H p (.lst [])) := same_new np
  refine ⟨.list ((clashes cs ds).map PyData.str), .list [], .lst (SqL.of (s1 _ _ hc)) (strs_dp _), .lst (SqL.of upd_same) .nil, Nat.le_trans (Nat.min_le_right _ _) (by decide), _, rfl, ?_⟩
  rw [eqv_nil]
  have hv1 := Dp.mono s1 hva
  have two1 := two.mono s1
  generalize upd H p (.lst []) = H1 at s1 hv1 two1
  cases e : clashes cs ds with
  | nil =>
    rw [show decide ((([] : List Str).map PyData.str) = []) = true from rfl]
    refine iteT ?_
    exact ⟨_, rfl, _, rfl, _, rfl, x, dc, dt, y, ec, et, va, cs, ds, ts, us, rfl, two1, hv1, no_clash e, fun H' s' => ⟨_, rfl, q H' (s1.trans s')⟩⟩
  | cons n r =>
    rw [show decide (((n :: r).map PyData.str) = []) = false from rfl]
    refine iteF ?_
    exact q _ s1
end
end Bh

set_option Elab.async false
set_option linter.all false
set_option maxRecDepth 100000
set_option maxHeartbeats 4000000
set_option autoImplicit false
namespace Bh
open PySem PySem.Spec PyProof.Rows L2 LamX
theorem kd_root : KdOk "root" := by
  have h : kindB "root" = true ∧ ("root" : Str).length ≤ 1000 := by decide +kernel
  exact h
theorem dp_kp {K : PySem.W.Frag} {H H' : Hp} {v : V} {d : PyData} (e : Kp [] H H') (h : Dp K H v d) : Dp K H' v d := by
  refine Dp.mono (fun a o k => ?_) (Dp.nTb h)
  exact e a o (noTb_le _ _ k) (noTb_not k) (fun m => by cases m)
def spLaw (K : PySem.W.Frag) (TL : List (Addr × Str)) : Sp := fun vs H Q _ => ∃ (a : Addr) (ns : List Int), vs = [.ref a] ∧ SqL K H a (ns.map V.int) ∧ ns.length ≤ 63 ∧ Tabs TL H ∧ ∀ H', Q (.bl true) H'
section
variable {P : Program} {w : World} {K : PySem.W.Frag} {mg : Str → Option Value} {base : Heap} {R : NtC K mg} {cS tabS cL tabL : Addr} {TL : List (Addr × Str)}
theorem ok_law {f : Addr} {od an : Option Addr} {oc kV doc pm ct : Value} {osl : Array (Option Value)} (T : Top K mg) (M : NtM K mg R) (S : SmM K mg cS) (TBS : TabB base mg cS tabS) (mS0 : (tabS, smQ) ∈ TL) (uS0 : ∀ p ∈ TL, p.1 = tabS → p.2 = smQ)
    (TB : TabB base mg cL tabL) (mL0 : (tabL, lawQ) ∈ TL) (uL0 : ∀ p ∈ TL, p.1 = tabL → p.2 = lawQ)
    (lk : K.lookup f = some ⟨oc, od, .func (PySem.W.fnOf "law" "law" (defArgs s_law) (defBody s_law) (defScope s_law) .none kV doc pm an (.ref cL) ct), osl⟩) (hcd : PySem.W.codeIn K (.ref cL) "law" = true) :
    FnOk P w K mg base CX0 14 f (PySem.W.fnOf "law" "law" (defArgs s_law) (defBody s_law) (defScope s_law) .none kV doc pm an (.ref cL) ct) ["_law_script"] (spLaw K TL) := by
  have mT : (tabL, ("law.<locals>." : Str) ++ "<lambda>") ∈ TL := by
    rw [show (("law.<locals>." : Str) ++ "<lambda>") = lawQ by decide +kernel]
    exact mL0
  have uT : ∀ p ∈ TL, p.1 = tabL → p.2 = ("law.<locals>." : Str) ++ "<lambda>" := fun p hp e => (uL0 p hp e).trans (show lawQ = ("law.<locals>." : Str) ++ "<lambda>" by decide +kernel)
  have G_l_bag := ok_bag (P := P) (w := w) (base := base) T
  have G_l_any := ok_any (P := P) (w := w) (base := base) T
  have G_l_mixed := ok_mixed (P := P) (w := w) (base := base) T
  have G_l_words := ok_words (P := P) (w := w) (base := base) T
  have G_l_drawn_web := ok_drawnweb (P := P) (w := w) (base := base) T
  have G_l_web := ok_web (P := P) (w := w) (base := base) T M
  have G_l_net_of := ok_netof (P := P) (w := w) (base := base) T M
  have G_l_compared := ok_compared (P := P) (w := w) (base := base) T M
  have G_l_put_in := ok_putin (P := P) (w := w) (base := base) T M
  have G_l_put_in_so := ok_putinso (P := P) (w := w) (base := base) T M
  have G_l_small_example := ok_small (P := P) (w := w) (base := base) T M S TBS mS0 uS0
  have G_m_eq := ok_meq (P := P) (w := w) (base := base) T M
  have G_m_or := ok_mor (P := P) (w := w) (base := base) T M
  have G_m_part := ok_mpart (P := P) (w := w) (base := base) T M
  have G_m_contains := ok_mcontains (P := P) (w := w) (base := base) T M
  have G_m_add_cell := ok_maddcell (P := P) (w := w) (base := base) T M
  have G_Network := ok_mnetinit (P := P) (w := w) (base := base) T M
  have G_l_like := ok_like (P := P) (w := w) (base := base) T 6
  obtain ⟨oc2, od2, kV2, doc2, pm2, an2, cdvT, ct2, osl2, eT, lkT, hcT⟩ := T.d_l_try.F.ex
  have bT := T.d_l_try.b
  rw [eT] at bT lkT
  refine fn_of lk hcd sc_law (fun vs H Q E h => ?_) (fun A outer s H vs Q E hr h => ?_)
  · obtain ⟨a, ns, rfl, _⟩ := h
    rfl
  obtain ⟨a, ns, rfl, hS, h63, tb, q⟩ := h
  refine ⟨_, PSs.nox (pss_cons (ps_set (i := 1) sc_law.nd rfl (Or.inl rfl) (pe_call G_l_bag (hr.mono (by decide)) (by rfl) T.d_l_bag.g T.d_l_bag.kp T.d_l_bag.b .nil pass0 (pa_cons (pv 0) pa_nil)))
    (pss_cons (ps_set (i := 2) sc_law.nd rfl (Or.inl rfl) (pe_call G_l_words (hr.mono (by decide)) (by rfl) T.d_l_words.g T.d_l_words.kp T.d_l_words.b .nil pass0 (pa_cons (pv 1) (pa_cons pe_int pa_nil))))
    (pss_cons (ps_for PassesOwn.never rfl (pi_range1 rfl T.b_range (pa_cons pe_int pa_nil)) (pg_name (i := 3) sc_law.nd rfl (Or.inl rfl))
      (pss_cons (ps_set (i := 4) sc_law.nd rfl (Or.inl rfl) (pe_call G_l_any (hr.mono (by decide)) (by rfl) T.d_l_any.g T.d_l_any.kp T.d_l_any.b .nil pass0 (pa_cons (pv 1) (pa_cons (pe_lst (pa_cons (pe_lst (pa_cons pe_str pa_nil)) (pa_cons (pe_lst (pa_cons pe_str pa_nil)) (pa_cons (pe_lst (pa_cons pe_str (pa_cons pe_str pa_nil))) pa_nil)))) pa_nil))))
      (pss_cons (ps_asg (pe_tup (pa_cons (pe_call G_l_drawn_web (hr.mono (by decide)) (by rfl) T.d_l_drawn_web.g T.d_l_drawn_web.kp T.d_l_drawn_web.b .nil pass0 (pa_cons (pv 1) (pa_cons (pv 2) (pa_cons (pv 4) pa_nil)))) (pa_cons (pe_call G_l_drawn_web (hr.mono (by decide)) (by rfl) T.d_l_drawn_web.g T.d_l_drawn_web.kp T.d_l_drawn_web.b .nil pass0 (pa_cons (pv 1) (pa_cons (pv 2) (pa_cons (pv 4) pa_nil)))) pa_nil))) (pg_tup_K (K := K) (by rfl) (n := 2) (by rfl) (pgs_cons (pg_name (i := 5) sc_law.nd rfl (Or.inr rfl)) (pgs_cons (pg_name (i := 6) sc_law.nd rfl (Or.inl rfl)) pgs_nil))))
      (pss_cons (ps_asg (pe_tup (pa_cons (pe_call G_l_web (hr.mono (by decide)) (by rfl) T.d_l_web.g T.d_l_web.kp T.d_l_web.b .nil pass0 (pa_cons (pv 5) pa_nil)) (pa_cons (pe_call G_l_web (hr.mono (by decide)) (by rfl) T.d_l_web.g T.d_l_web.kp T.d_l_web.b .nil pass0 (pa_cons (pv 6) pa_nil)) (pa_cons (pe_callTy (call_dictPK (K := K) (by rfl) (by rfl)) (by rfl) T.b_dict (by decide +kernel) (pa_cons (pe_ix (ix_tup_K (K := K) (by rfl)) (pv 6) pe_int (fun _ _ => rfl)) pa_nil)) pa_nil)))) (pg_tup_K (K := K) (by rfl) (n := 3) (by rfl) (pgs_cons (pg_name (i := 7) sc_law.nd rfl (Or.inr rfl)) (pgs_cons (pg_name (i := 8) sc_law.nd rfl (Or.inr rfl)) (pgs_cons (pg_name (i := 9) sc_law.nd rfl (Or.inr rfl)) pgs_nil)))))
      (pss_cons (ps_setLc (i := 10) (own := [("_law_cell", 15), ("_law_kind", 16)]) rfl sc_law.nd rfl rfl (sw_true rfl rfl rfl (by decide +kernel)) (pi_list_K (K := K) (by rfl) (pe_ix (ix_tup_K (K := K) (by rfl)) (pv 5) pe_int (fun _ _ => rfl))) (blkOk_by (own := [("_law_cell", 15), ("_law_kind", 16)]) (N := ["_law_script", "_law_bag_here", "_law_names", "_law_turn", "_law_words_here", "_law_a", "_law_b", "_law_one", "_law_two", "_law_there", "_law_clash", "_law_told", "_law_more", "_law_due", "_law_late", "_law_cell", "_law_kind", "_law_row"]) (sc := defScope s_law) (by decide +kernel)) (fun _ _ _ _ _ => by exact (pg_tup_K (K := K) (by rfl) (n := 2) (by rfl) (pgs_cons (pg_name (i := 15) sc_law.nd rfl (Or.inl rfl)) (pgs_cons (pg_name (i := 16) sc_law.nd rfl (Or.inl rfl)) pgs_nil)))) (fun _ _ _ _ _ => by exact (pts_one (pt_cmpR op_ne (pv 16) (pe_dget2 (by exact (u1 hr)) (pv 9) (pv 15) (pv 16) ⟨rfl, rfl, rfl, rfl⟩) (nomark _)))) (fun _ _ _ _ _ => by exact (pv 15)))
      (pss_cons (ps_set (i := 11) sc_law.nd rfl (Or.inl rfl) (LamX.pe_lamcall (T := TL) (TT := TTryE K T.cBE T.cMS exPairs) (x := "_law_try") (a := "_law_ask") (Ng := ["_law_ask", "_law_found", "_law_e"]) (k := 9) (t := fun E => tCall (spNetOf K R.C) [] E0 (tCons (tOp (rOrIns R.C (spOr R.C T.r_KindsDiffer.c) E) (tVar 7) (tVar 8)) tNil)) (by rfl) T.d_l_try.g T.d_l_try.kp lkT hcT bT sc_l_try rfl (.inl (by rfl)) (try_givesT (X := (cxOf CX0 P w K mg base ["_law_script", "_law_bag_here", "_law_names", "_law_turn", "_law_words_here", "_law_a", "_law_b", "_law_one", "_law_two", "_law_there", "_law_clash", "_law_told", "_law_more", "_law_due", "_law_late", "_law_cell", "_law_kind", "_law_row"] "law" (defScope s_law) f (.ref cL) A outer s H E).nox) T (hr.mono (by decide)) cdvT _) TB rfl mT uT (hr.mono (by decide)) (LamX.lamS_by (sc := defScope s_law) (by decide +kernel)) rfl (fun _ _ _ _ _ => rfl) (fun A outer s H E f c' hr2 => by exact (pe_call G_l_net_of (hr2.mono (by decide)) (by rfl) T.d_l_net_of.g T.d_l_net_of.kp T.d_l_net_of.b .nil pass0 (pa_cons (pe_op (op_orIns G_m_or M.oo M.or_.M.fn M.sf M.or_.b (passes_call (takes_of rfl rfl rfl rfl) (fun _ _ _ _ z => z)) (hr2.mono (by decide))) (pv 7) (pv 8)) pa_nil)))))
      (pss_cons (ps_setLc (i := 12) (own := [("_law_row", 17)]) rfl sc_law.nd rfl rfl (sw_true rfl rfl rfl (by decide +kernel)) (pi_list_K (K := K) (by rfl) (pe_ix (ix_tup_K (K := K) (by rfl)) (pv 6) pe_int (fun _ _ => rfl))) (blkOk_by (own := [("_law_row", 17)]) (N := ["_law_script", "_law_bag_here", "_law_names", "_law_turn", "_law_words_here", "_law_a", "_law_b", "_law_one", "_law_two", "_law_there", "_law_clash", "_law_told", "_law_more", "_law_due", "_law_late", "_law_cell", "_law_kind", "_law_row"]) (sc := defScope s_law) (by decide +kernel)) (fun _ _ _ _ _ => by exact (pg_name (i := 17) sc_law.nd rfl (Or.inl rfl))) (fun _ _ _ _ _ => by exact (pts_one (pt_cmpR (op_notInD (by exact (u1 hr))) (pe_ix (ix_tup_K (K := K) (by rfl)) (pv 17) pe_int (fun _ _ => rfl)) (pe_callTy (call_dictPK (K := K) (by rfl) (by rfl)) (by rfl) T.b_dict (by decide +kernel) (pa_cons (pe_ix (ix_tup_K (K := K) (by rfl)) (pv 5) pe_int (fun _ _ => rfl)) pa_nil)) (by rfl)))) (fun _ _ _ _ _ => by exact (pv 17)))
      (pss_cons (ps_set (i := 13) sc_law.nd rfl (Or.inl rfl) (pe_tup (pa_cons (pe_op op_cat (pe_ix (ix_tup_K (K := K) (by rfl)) (pv 5) pe_int (fun _ _ => rfl)) (pv 12)) (pa_cons (pe_op op_cat (pe_ix (ix_tup_K (K := K) (by rfl)) (pv 5) pe_int (fun _ _ => rfl)) (pe_lc (own := [("_law_row", 17)]) rfl sc_law.nd (pi_list_K (K := K) (by rfl) (pe_ix (ix_tup_K (K := K) (by rfl)) (pv 6) pe_int (fun _ _ => rfl))) (blkOk_by (own := [("_law_row", 17)]) (N := ["_law_script", "_law_bag_here", "_law_names", "_law_turn", "_law_words_here", "_law_a", "_law_b", "_law_one", "_law_two", "_law_there", "_law_clash", "_law_told", "_law_more", "_law_due", "_law_late", "_law_cell", "_law_kind", "_law_row"]) (sc := defScope s_law) (by decide +kernel)) (fun _ _ _ _ _ => by exact (pg_name (i := 17) sc_law.nd rfl (Or.inl rfl))) (fun _ _ _ _ _ => by exact (pts_one (pt_cmpR (op_notInDK (K := K) (by rfl) (by exact (r65 hr))) (pv 17) (pe_ix (ix_tup_K (K := K) (by rfl)) (pv 5) pe_int (fun _ _ => rfl)) (by rfl)))) (fun _ _ _ _ _ => by exact (pv 17)))) pa_nil))))
      (pss_cons (ps_set (i := 13) sc_law.nd rfl (Or.inl rfl) (pe_ifExp (pt_cmpR (op_eqP (K := K) (by rfl) hr.units) (pv 10) (pe_lst pa_nil) (nomark _)) (pe_tup (pa_cons pe_str (pa_cons (pv 13) pa_nil))) (pe_tup (pa_cons pe_str (pa_cons (pe_ix (ix_list_K (K := K) (by rfl)) (pv 10) pe_int (fun _ _ => rfl)) pa_nil)))))
      (pss_cons (ps_if (pt_not (pt_val (pe_call G_l_like (hr.mono (by decide)) (by rfl) T.d_l_like.g T.d_l_like.kp T.d_l_like.b .nil pass0 (pa_cons (pe_lst (pa_cons (pv 11) (pa_cons (pe_call G_l_net_of (hr.mono (by decide)) (by rfl) T.d_l_net_of.g T.d_l_net_of.kp T.d_l_net_of.b .nil pass0 (pa_cons (pv 7) pa_nil)) (pa_cons (pe_call G_l_net_of (hr.mono (by decide)) (by rfl) T.d_l_net_of.g T.d_l_net_of.kp T.d_l_net_of.b .nil pass0 (pa_cons (pv 8) pa_nil)) pa_nil)))) (pa_cons (pe_lst (pa_cons (pv 13) (pa_cons (pv 5) (pa_cons (pv 6) pa_nil)))) pa_nil))))) (pss_one (ps_ret pe_bl)) pss_nil)
      (pss_cons (ps_if (PW.pt (pw_or (pt_not (pt_val (pe_call G_l_compared (hr.mono (by decide)) (by rfl) T.d_l_compared.g T.d_l_compared.kp T.d_l_compared.b .nil pass0 (pa_cons (pv 7) (pa_cons (pv 8) (pa_cons (pv 5) (pa_cons (pv 6) pa_nil))))))) (pw_or1 (pt_not (pt_val (pe_call G_l_put_in_so (hr.mono (by decide)) (by rfl) T.d_l_put_in_so.g T.d_l_put_in_so.kp T.d_l_put_in_so.b .nil pass0 (pa_cons (pv 7) (pa_cons (pv 8) (pa_cons (pv 13) (pa_cons (pv 6) pa_nil)))))))))) (pss_one (ps_ret pe_bl)) pss_nil)
      (pss_cons (ps_if (PW.pt (pw_and (pt_cmpR (op_eqP (K := K) (by rfl) hr.units) (pv 10) (pe_lst pa_nil) (nomark _)) (pw_and1 (pt_not (pt_val (pe_call G_l_put_in (hr.mono (by decide)) (by rfl) T.d_l_put_in.g T.d_l_put_in.kp T.d_l_put_in.b .nil pass0 (pa_cons (pv 7) (pa_cons (pv 8) (pa_cons (pv 5) pa_nil))))))))) (pss_one (ps_ret pe_bl)) pss_nil)
      (pss_cons (ps_set (i := 14) sc_law.nd rfl (Or.inl rfl) (pe_makeK0 M.mkr G_Network (hr.mono (by decide)) (by rfl) R.g (kb_cells_ties M) pass0 (pk_cons (pe_call G_l_mixed (hr.mono (by decide)) (by rfl) T.d_l_mixed.g T.d_l_mixed.kp T.d_l_mixed.b .nil pass0 (pa_cons (pv 1) (pa_cons (pe_ix (ix_tup_K (K := K) (by rfl)) (pv 5) pe_int (fun _ _ => rfl)) pa_nil))) (pk_cons (pe_call G_l_mixed (hr.mono (by decide)) (by rfl) T.d_l_mixed.g T.d_l_mixed.kp T.d_l_mixed.b .nil pass0 (pa_cons (pv 1) (pa_cons (pe_ix (ix_tup_K (K := K) (by rfl)) (pv 5) pe_int (fun _ _ => rfl)) pa_nil))) pk_nil))))
      (pss_cons (ps_if (PW.pt (pw_or (pt_cmpR (op_neIns G_m_eq M.ne M.eq.b (hr.mono (by decide))) (pv 14) (pv 7) (nomark _)) (pw_or (pt_not (pt_cmpR (op_eqX G_m_eq M.eq.M.at_ M.eq.M.fn M.eq.b (hr.mono (by decide)) R.t2 R.t3) (pv 14) (pv 7) (nomark _))) (pw_or (pt_cmpR (op_eqX G_m_eq M.eq.M.at_ M.eq.M.fn M.eq.b (hr.mono (by decide)) R.t2 R.t3) (pv 7) (pv 5) (nomark _)) (pw_or1 (pt_cmpR (op_eqX G_m_eq M.eq.M.at_ M.eq.M.fn M.eq.b (hr.mono (by decide)) R.t2 R.t3) (pv 7) pe_str (nomark _))))))) (pss_one (ps_ret pe_bl)) pss_nil)
      (pss_cons (ps_expr (pe_meth (pv 14) R.cl M.add_cell.M G_m_add_cell (hr.mono (by decide)) M.add_cell.b .nil pass0 (pa_cons pe_str (pa_cons pe_str pa_nil))))
      (pss_cons (ps_set (i := 11) sc_law.nd rfl (Or.inl rfl) (pe_lst (pa_cons (pe_cmpR (op_eqX G_m_eq M.eq.M.at_ M.eq.M.fn M.eq.b (hr.mono (by decide)) R.t2 R.t3) (pv 14) (pv 7) (nomark _)) (pa_cons (pe_meth (pv 7) R.cl M.part.M G_m_part (hr.mono (by decide)) M.part.b .nil pass0 (pa_cons (pv 14) pa_nil)) (pa_cons (pe_meth (pv 14) R.cl M.part.M G_m_part (hr.mono (by decide)) M.part.b .nil pass0 (pa_cons (pv 7) pa_nil)) pa_nil)))))
      (pss_one (ps_if (pt_not (pt_val (pe_call G_l_like (hr.mono (by decide)) (by rfl) T.d_l_like.g T.d_l_like.kp T.d_l_like.b .nil pass0 (pa_cons (pe_op op_cat (pv 11) (pe_lst (pa_cons (pe_cmpR (op_inIns G_m_contains M.contains.M.at_ M.contains.M.fn M.contains.b pass0 (hr.mono (by decide))) pe_str (pv 7) (by rfl)) pa_nil))) (pa_cons (pe_lst (pa_cons pe_bl (pa_cons pe_bl (pa_cons pe_bl (pa_cons pe_bl pa_nil))))) pa_nil))))) (pss_one (ps_ret pe_bl)) pss_nil))))))))))))))))))
    (pss_one (ps_ret (pe_call0 G_l_small_example (hr.mono (by decide)) (by rfl) S.g S.kp S.b .nil pass0)))))), ?_⟩
  rw [show L2.start ["_law_script", "_law_bag_here", "_law_names", "_law_turn", "_law_words_here", "_law_a", "_law_b", "_law_one", "_law_two", "_law_there", "_law_clash", "_law_told", "_law_more", "_law_due", "_law_late", "_law_cell", "_law_kind", "_law_row"] [.ref a] = [some (.ref a), none, none, none, none, none, none, none, none, none, none, none, none, none, none, none, none, none] from rfl]
  refine ⟨_, rfl, a, ns, rfl, hS, h63, fun b l H1 nb nl s1 hb => ?_⟩
  have tb1 : Tabs TL H1 := tb.ext s1
  have wd := wd_start nb nl s1 hb
  refine ⟨_, rfl, b, l, H, 6, rfl, by decide, by decide, wd, fun G2 H2 pn ws s2 w2 hpn lw ndw nmw => ?_⟩
  have tb2 : Tabs TL H2 := (tb.ext s2).ext w2.sm
  have pnb : pn ≠ b := ne_of_none hpn w2.nb
  have pnl : pn ≠ l := ne_of_none hpn w2.nl
  have hpn2 := w2.sm _ _ hpn
  have bag2 := w2.bag
  clear wd tb1 hb hS s1 nb nl s2 w2 hpn tb
  refine ⟨_, rfl, by omega, by omega, ?_⟩
  refine for_it walk_range (fun i σ H' => ∃ x3 x4 x5 x6 x7 x8 x9 x10 x11 x12 x13 x14, σ = [some (.ref a), some (.ref b), some (.ref pn), x3, x4, x5, x6, x7, x8, x9, x10, x11, x12, x13, x14, none, none, none] ∧ BagAt b l H' ∧ Tabs TL H' ∧ H' pn = some (.lst (ws.map V.str)))
    ⟨none, none, none, none, none, none, none, none, none, none, none, none, rfl, bag2, tb2, hpn2⟩ (fun _ _ _ _ _ => True.intro) ?_ ?_
  · clear tb2 bag2 hpn2
    rintro i v σ H0 H0' hi ⟨x3, x4, x5, x6, x7, x8, x9, x10, x11, x12, x13, x14, rfl, hb, tb, hpn⟩ ⟨rfl, rfl⟩
    have w0 := hb.wd
    have tbG : Tabs TL (noBag b l H0') := fun a ha => tab_noBag (tb a ha) hb
    have hpG : noBag b l H0' pn = some (.lst (ws.map V.str)) := by
      unfold noBag
      rw [hid_ne pnb, hid_ne pnl]
      exact hpn
    clear hb tb hpn
    generalize noBag b l H0' = G0 at w0 tbG hpG
    refine ⟨_, rfl, (by show 1 ≤ sizeLine; decide), fun q1 nq1 => ⟨(by show 1 ≤ sizeLine; decide), fun q2 nq2 => ⟨(by show 2 ≤ sizeLine; decide), fun q3 nq3 => ⟨(by show 3 ≤ sizeLine; decide), fun q4 nq4 => ?_⟩⟩⟩⟩
    have w1 := w0.new (o := .lst [.str "plain"]) nq1
    have g1 := w0.sameG (o := .lst [.str "plain"]) nq1
    have w2 := w1.new (o := .lst [.str "plain"]) nq2
    have g2 := w1.sameG (o := .lst [.str "plain"]) nq2
    have w3 := w2.new (o := .lst [.str "plain", .str "root"]) nq3
    have g3 := w2.sameG (o := .lst [.str "plain", .str "root"]) nq3
    have w4 := w3.new (o := .lst [.ref q1, .ref q2, .ref q3]) nq4
    have g4 := w3.sameG (o := .lst [.ref q1, .ref q2, .ref q3]) nq4
    have k1 := (g2.trans (g3.trans g4)) _ _ (show upd G0 q1 (.lst [.str "plain"]) q1 = some (.lst ((["plain"] : List Str).map V.str)) from upd_same)
    have k2 := (g3.trans g4) _ _ (show upd (upd G0 q1 (.lst [.str "plain"])) q2 (.lst [.str "plain"]) q2 = some (.lst ((["plain"] : List Str).map V.str)) from upd_same)
    have k3 := g4 _ _ (show upd (upd (upd G0 q1 (.lst [.str "plain"])) q2 (.lst [.str "plain"])) q3 (.lst [.str "plain", .str "root"]) q3 = some (.lst ((["plain", "root"] : List Str).map V.str)) from upd_same)
    have k4 : upd (upd (upd (upd G0 q1 (.lst [.str "plain"])) q2 (.lst [.str "plain"])) q3 (.lst [.str "plain", .str "root"])) q4 (.lst [.ref q1, .ref q2, .ref q3]) q4 = some (.lst [.ref q1, .ref q2, .ref q3]) := upd_same
    have g := g1.trans (g2.trans (g3.trans g4))
    have tbG4 := tbG.ext g
    have hpG4 := g _ _ hpG
    clear g1 g2 g3 g4 w1 w2 w3 w0 nq1 nq2 nq3 nq4 tbG hpG g
    generalize upd (upd (upd (upd G0 q1 (.lst [.str "plain"])) q2 (.lst [.str "plain"])) q3 (.lst [.str "plain", .str "root"])) q4 (.lst [.ref q1, .ref q2, .ref q3]) = G4 at w4 k1 k2 k3 k4 tbG4 hpG4
    generalize upd (upd (upd (upd H0' q1 (.lst [.str "plain"])) q2 (.lst [.str "plain"])) q3 (.lst [.str "plain", .str "root"])) q4 (.lst [.ref q1, .ref q2, .ref q3]) = H4 at w4 ⊢
    refine ⟨b, l, q4, G4, _, rfl, .inl (SqL.of k4), (fun z => by cases z), (by show 3 ≤ 100000; decide), w4, fun x H5 hx w5 => ?_⟩
    obtain ⟨pw, kd, rfl, hpw, kd0, kd2, kdp⟩ : ∃ (pw : Addr) (kd : List Str), x = .ref pw ∧ G4 pw = some (.lst (kd.map V.str)) ∧ kd ≠ [] ∧ kd.length ≤ 2 ∧ ∀ k ∈ kd, k = "plain" ∨ k = "root" := by
      simp only [List.mem_cons, List.not_mem_nil, or_false] at hx
      rcases hx with rfl | rfl | rfl
      · exact ⟨_, _, rfl, k1, (by decide), (by decide), by simp⟩
      · exact ⟨_, _, rfl, k2, (by decide), (by decide), by simp⟩
      · exact ⟨_, _, rfl, k3, (by decide), (by decide), by simp⟩
    clear k1 k2 k3 k4 w4 hx
    have kdok : ∀ k ∈ kd, KdOk k := fun k hk => by
      rcases kdp k hk with rfl | rfl
      · exact kd_plain
      · exact kd_root
    have kds : ∀ k ∈ kd, PySem.PyData.strOk k = true := fun k hk => by
      rcases kdp k hk with rfl | rfl
      · decide +kernel
      · decide +kernel
    have nmo : ∀ n ∈ ws, NmOk n := fun n hn => (nmw n hn).1.ok
    refine gn_step ?_
    dsimp only [List.set]
    refine ⟨_, rfl, _, rfl, _, rfl, b, l, pn, pw, G4, ws, kd, rfl, w5, hpG4, lw, ndw, nmo, hpw, kd0, kd2, kdok, fun G6 H6 va cs ts s6 w6 dva okc okt cin tin lc lt kc => ?_⟩
    obtain ⟨vaA, p1, p2, xs, ys, rfl, oa⟩ := dva.o
    have pS1 : p1 ∉ [b, l] := by
      simp only [List.mem_cons, List.not_mem_nil, or_false, not_or]
      exact ⟨ne_of_none oa.h1 w6.nb, ne_of_none oa.h1 w6.nl⟩
    have pS2 : p2 ∉ [b, l] := by
      simp only [List.mem_cons, List.not_mem_nil, or_false, not_or]
      exact ⟨ne_of_none oa.h2 w6.nb, ne_of_none oa.h2 w6.nl⟩
    refine ⟨_, rfl, _, rfl, _, rfl, b, l, pn, pw, G6, ws, kd, rfl, w6, s6 _ _ hpG4, lw, ndw, nmo, s6 _ _ hpw, kd0, kd2, kdok, fun G7 H7 vb ds us s7 w7 dvb okd oku din uin ld lu kdd => ?_⟩
    obtain ⟨vbA, r1, r2, bxs, bys, rfl, ob⟩ := dvb.o
    refine ⟨(by show 2 ≤ sizeLine; decide), fun t nt => ?_⟩
    have w8 := w7.new (o := .tup [.ref vaA, .ref vbA]) nt
    have g8 := w7.sameG (o := .tup [.ref vaA, .ref vbA]) nt
    refine ⟨t, _, rfl, .inl (.inl upd_same), rfl, _, _, rfl, _, _, rfl, rfl, ?_⟩
    have hva := ((oa.mono s7).mono g8).mono w8.sm
    have hvb := (ob.mono g8).mono w8.sm
    have s48 := s6.trans (s7.trans (g8.trans w8.sm))
    have tb8 := tbG4.ext s48
    have hp8 := s48 _ _ hpG4
    have bag8 := w8.bag
    have lyc : LayC cs := fun c hc => kds _ (kc c hc)
    have lyd : LayC ds := fun c hc => kds _ (kdd c hc)
    clear s48 w8 g8 nt w7 s7 dvb ob w6 s6 dva oa w5 hpw tbG4 hpG4 kc kdd kd0 kd2 kdp kdok kds
    generalize upd H7 t (.tup [.ref vaA, .ref vbA]) = H8 at hva hvb tb8 hp8 bag8 ⊢
    dsimp only [List.set]
    refine ⟨_, rfl, .ref vaA, cs, ts, rfl, hva.dp, okc, okt, fun H9 x dc dt nx ndc ndt s9 na9 => ?_⟩
    refine ⟨_, rfl, .ref vbA, ds, us, rfl, (hvb.mono s9).dp, okd, oku, fun H10 y ec et ny nec net s10 nb10 => ?_⟩
    have s810 := s9.trans s10
    refine ⟨_, rfl, vbA, _, (0 : Int), .ref r1, rfl, rfl, SqT.of (s810 _ _ hvb.h0), rfl, ?_⟩
    dsimp only [tNil]
    refine read_dict (SqL.of (s810 _ _ hvb.h1)) (DpAll.mono s810 hvb.d1) okd.nd fun d nd => ⟨(by show 3 ≤ sizeLine; decide), fun t3 nt3 => ⟨t3, _, rfl, .inl (.inl upd_same), rfl, _, _, rfl, _, _, rfl, _, _, rfl, rfl, ?_⟩⟩
    obtain ⟨f1, f2, f3⟩ := NetA.fresh (C := R.C) na9 ny nec net
    have two10 : Two H10 R.C x dc dt y ec et cs ds ts us := ⟨na9.mono s10, nb10, f1, f2, f3, okc, okt, okd, oku, by omega, by omega⟩
    have s11 : Same H10 (upd H10 d (.dK (ds.map eC))) := same_new nd
    have s12 : Same (upd H10 d (.dK (ds.map eC))) (upd (upd H10 d (.dK (ds.map eC))) t3 (.tup [.ref x, .ref y, .ref d])) := same_new nt3
    have two12 := two10.mono (s11.trans s12)
    have hd12 := s12 _ _ (show upd H10 d (.dK (ds.map eC)) d = some (.dK (ds.map eC)) from upd_same)
    have s812 := s810.trans (s11.trans s12)
    have hva12 := hva.mono s812
    have hvb12 := hvb.mono s812
    have tb12 := tb8.ext s812
    have hp12 := s812 _ _ hp8
    have bag12 := bag8.same s812
    generalize upd (upd H10 d (.dK (ds.map eC))) t3 (.tup [.ref x, .ref y, .ref d]) = H12 at two12 hd12 hva12 hvb12 tb12 hp12 bag12 ⊢
    clear s812 s12 s11 two10 f1 f2 f3 nd nt3 s810 s9 s10 nx ndc ndt na9 ny nec net nb10 hva hvb tb8 hp8 bag8
    dsimp only [List.set]
    refine sq_asg ?_
    refine read_clash hva12.dp hd12 (by omega) fun H13 pc s13 nc13 hc13 => ?_
    refine gn_step ?_
    dsimp only [List.set]
    have two13 := two12.mono s13
    have hva13 := hva12.mono s13
    have hvb13 := hvb12.mono s13
    have hp13 := s13 _ _ hp12
    have tb13 := tb12.ext s13
    have bag13 := bag12.same s13
    clear hd12 two12 hva12 hvb12 tb12 hp12 bag12
    refine sq_asg ⟨tb13, fun H14 x34 tb14 => ?_⟩
    have k34 : Kp [] H13 H14 := kp_ext x34
    refine try_net T rfl rfl (two13.kp k34) fun H15 vt s15 hvt => ?_
    have k35 := k34.trans (Same.kp s15)
    have two15 := two13.kp k35
    have hva15 := hva13.kp k35 (by simp) (by simp)
    have hvb15 := hvb13.kp k35 (by simp) (by simp)
    have hp15 := k35.lst hp13 (by simp)
    have tb15 := tb14.ext s15
    have bag15 := bag13.kp k35 (by simp) (by simp)
    have hc15 := k35.lst hc13 (by simp)
    clear k35 k34 two13 hva13 hvb13 hp13 tb13 bag13 hc13 s13 s15 x34 tb14 nc13
    refine gn_step ?_
    dsimp only [List.set]
    refine sq_asg ?_
    refine read_more hva15.dp hvb15.dp okc.nd (by omega) fun H16 pm zs s16 hm16 dm16 => ?_
    refine gn_step ?_
    dsimp only [List.set]
    have two16 := two15.mono s16
    have hva16 := hva15.mono s16
    have hvb16 := hvb15.mono s16
    have hvt16 := Dp.mono s16 hvt
    have hp16 := s16 _ _ hp15
    have tb16 := tb15.ext s16
    have bag16 := bag15.same s16
    have hc16 := s16 _ _ hc15
    clear s16 two15 hva15 hvb15 hvt hp15 tb15 bag15 hc15
    obtain ⟨ha0, ha1, da1, ha2, da2⟩ := id hva16
    have lx : xs.length = cs.length := by rw [DpAll.length da1, List.length_map]
    have ly : ys.length = ts.length := by rw [DpAll.length da2, List.length_map]
    have lz : zs.length ≤ ds.length := by
      rw [DpAll.length dm16, List.length_map]
      exact List.length_filter_le _ _
    refine sq_asg ?_
    refine ⟨_, rfl, vaA, _, (0 : Int), .ref p1, rfl, rfl, SqT.of ha0, rfl, _, rfl, p1, pm, xs, zs, rfl, rfl, ha1, hm16, le_line (by omega), fun pC nC => ?_⟩
    have s17 : Same H16 (upd H16 pC (.lst (xs ++ zs))) := same_new nC
    refine ⟨_, rfl, vaA, _, (1 : Int), .ref p2, rfl, rfl, SqT.of (s17 _ _ ha0), rfl, ?_⟩
    refine read_ties (hva16.mono s17).dp (hvb16.mono s17).dp (fun t ht => ⟨(okt.nm t ht).1, name_ok okc (okt.nm t ht).2.1, name_ok okc (okt.nm t ht).2.2⟩) (fun t ht => ⟨(oku.nm t ht).1, name_ok okd (oku.nm t ht).2.1, name_ok okd (oku.nm t ht).2.2⟩) (by omega) fun H18 pt zt s18 ht18 dt18 => ?_
    have lzt : zt.length ≤ us.length := by
      rw [DpAll.length dt18, List.length_map]
      exact List.length_filter_le _ _
    refine ⟨p2, pt, ys, zt, rfl, rfl, (s17.trans s18) _ _ ha2, ht18, le_line (by omega), fun pT nT => ⟨(by show 2 ≤ sizeLine; decide), fun tD nD => ?_⟩⟩
    have s19 : Same H18 (upd H18 pT (.lst (ys ++ zt))) := same_new nT
    have s20 : Same (upd H18 pT (.lst (ys ++ zt))) (upd (upd H18 pT (.lst (ys ++ zt))) tD (.tup [.ref pC, .ref pT])) := same_new nD
    have s1820 := s18.trans (s19.trans s20)
    have s1620 := s17.trans s1820
    have hvd : Dp K (upd (upd H18 pT (.lst (ys ++ zt))) tD (.tup [.ref pC, .ref pT])) (.ref tD) (dNet (cs ++ moreC cs ds) (ts ++ moreT ts us)) := by
      refine .tup (SqT.of upd_same) (.cons (.lst (SqL.of (s1820 _ _ upd_same)) ?_) (.cons (.lst (SqL.of (s20 _ _ upd_same)) ?_) .nil))
      · rw [List.map_append]
        exact DpAll.append (DpAll.mono s1620 da1) (DpAll.mono s1620 dm16)
      · rw [List.map_append]
        exact DpAll.append (DpAll.mono s1620 da2) (DpAll.mono (s19.trans s20) dt18)
    have two20 := two16.mono s1620
    have hva20 := hva16.mono s1620
    have hvb20 := hvb16.mono s1620
    have hvt20 := Dp.mono s1620 hvt16
    have hp20 := s1620 _ _ hp16
    have tb20 := tb16.ext s1620
    have bag20 := bag16.same s1620
    have hc20 := s1620 _ _ hc16
    generalize upd (upd H18 pT (.lst (ys ++ zt))) tD (.tup [.ref pC, .ref pT]) = H20 at hvd two20 hva20 hvb20 hvt20 hp20 tb20 bag20 hc20 ⊢
    clear s1620 s1820 s20 s19 s18 s17 nT nD nC two16 hva16 hvb16 hvt16 hp16 tb16 bag16 hc16 ha0 ha1 da1 ha2 da2 dm16 hm16 dt18 ht18
    refine gn_step ?_
    dsimp only [List.set]
    refine sq_asg ?_
    refine read_due hc20 hvd fun H21 vd s21 hvd => ?_
    refine gn_step ?_
    dsimp only [List.set]
    have two21 := two20.mono s21
    have hva21 := hva20.mono s21
    have hvb21 := hvb20.mono s21
    have hvt21 := Dp.mono s21 hvt20
    have hp21 := s21 _ _ hp20
    have tb21 := tb20.ext s21
    have bag21 := bag20.same s21
    have hc21 := s21 _ _ hc20
    clear s21 two20 hva20 hvb20 hvt20 hp20 tb20 bag20 hc20
    have nlo : ("other" : Str) ∉ (cs ++ moreC cs ds).map (·.1) := fun m => by
      obtain ⟨c, hc, e⟩ := List.mem_map.mp m
      rcases List.mem_append.mp hc with h | h
      · exact (nmw _ (cin c h)).2 e
      · exact (nmw _ (din c (List.mem_filter.mp h).1)).2 e
    have nzz : ∀ t ∈ ts ++ moreT ts us, t.1 ≠ "zz" := fun t ht e => by
      have h : t.1 ∈ (["t", "link"] : List Str) := by
        rcases List.mem_append.mp ht with h | h
        · exact tin t h
        · exact uin t (List.mem_filter.mp h).1
      rw [e] at h
      exact absurd h (by decide +kernel)
    refine sq_ifs ?_
    refine ⟨_, rfl, _, rfl, x, dc, dt, cs, ts, rfl, two21.a, okc, fun H22 v1 s22 hv1 => ⟨_, rfl, y, ec, et, ds, us, rfl, two21.b.mono s22, okd, fun H23 v2 s23 hv2 => ⟨(by show 3 ≤ sizeLine; decide), fun l1 nl1 => ?_⟩⟩⟩
    refine ⟨_, rfl, _, rfl, _, rfl, (by show 3 ≤ sizeLine; decide), fun l2 nl2 => ?_⟩
    have s24 : Same H23 (upd H23 l1 (.lst [vt, v1, v2])) := same_new nl1
    have s25 : Same _ (upd (upd H23 l1 (.lst [vt, v1, v2])) l2 (.lst [vd, .ref vaA, .ref vbA])) := same_new nl2
    have s225 := s23.trans (s24.trans s25)
    have s2125 := s22.trans s225
    refine ⟨.ref l1, .ref l2, .list [dDue cs ds ts us, dNet cs ts, dNet ds us], rfl, .lst (SqL.of (s25 _ _ upd_same)) (.cons (Dp.mono s2125 hvt21) (.cons (Dp.mono s225 hv1) (.cons (Dp.mono (s24.trans s25) hv2) .nil))),
      .lst (SqL.of upd_same) (.cons (Dp.mono s2125 hvd) (.cons (Dp.mono s2125 hva21.dp) (.cons (Dp.mono s2125 hvb21.dp) .nil))), ?_, fun H26 s26 => ⟨_, rfl, iteF ?_⟩⟩
    · refine .lst (by show 3 ≤ 100000; decide) fun d hd => ?_
      rcases (by simpa using hd : d = dDue cs ds ts us ∨ d = dNet cs ts ∨ d = dNet ds us) with rfl | rfl | rfl
      · exact sh_dDue (n := 0) (cs := cs) (ds := ds) (ts := ts) (us := us) (by omega) (by omega)
      · exact sh_net (n := 1) (cs := cs) (ts := ts) (by omega) (by omega)
      · exact sh_net (n := 1) (cs := ds) (ts := us) (by omega) (by omega)
    have s2126 := s2125.trans s26
    clear s22 hv1 s23 hv2 nl1 nl2 s24 s25 s225 s2125 s26 hvt21
    refine sq_ifs ?_
    refine ⟨_, rfl, _, rfl, _, rfl, _, rfl, x, dc, dt, y, ec, et, .ref vaA, .ref vbA, cs, ds, ts, us, rfl, two21.mono s2126, Dp.mono s2126 hva21.dp, Dp.mono s2126 hvb21.dp, lyc, lyd, fun H27 s27 => ⟨_, rfl, iteF ?_⟩⟩
    have s2127 := s2126.trans s27
    refine ⟨_, rfl, _, rfl, _, rfl, _, rfl, x, dc, dt, y, ec, et, vd, .ref vbA, cs, ds, ts, us, rfl, two21.mono s2127, due_way (Dp.mono s2127 hvd), Dp.mono s2127 hvb21.dp, nlo, nzz, fun H28 s28 => ⟨_, rfl, iteF ?_⟩⟩
    have s2128 := s2127.trans s28
    clear s2126 s27 s2127 s28 hvd
    refine sq_ifs (read_put (s2128 _ _ hc21) (two21.mono s2128) (Dp.mono s2128 hva21.dp) fun H29 s29 => iteF ?_)
    have s2129 := s2128.trans s29
    have two29 := two21.mono s2129
    have hva29 := hva21.mono s2129
    have hp29 := s2129 _ _ hp21
    have tb29 := tb21.ext s2129
    have bag29 := bag21.same s2129
    clear s2128 s29 s2129 two21 hva21 hvb21 hp21 tb21 bag21 hc21
    have w29 := bag29.wd
    have kB := bag29.kpB
    have hvaG := hva29.kp kB pS1 pS2
    have naG := two29.a.kp kB
    have tbG : Tabs TL (noBag b l H29) := fun a ha => tab_noBag (tb29 a ha) bag29
    have hpG := kB.lst hp29 (by simp only [List.mem_cons, List.not_mem_nil, or_false, not_or]; exact ⟨pnb, pnl⟩)
    clear kB two29 hva29 hp29 tb29 bag29
    generalize noBag b l H29 = GN at w29 hvaG naG tbG hpG
    have lx : xs.length = cs.length := by rw [DpAll.length hvaG.d1, List.length_map]
    have ly : ys.length = ts.length := by rw [DpAll.length hvaG.d2, List.length_map]
    refine sq_asg ?_
    refine ⟨_, rfl, _, rfl, vaA, _, (0 : Int), .ref p1, rfl, rfl, SqT.of (w29.sm _ _ hvaG.h0), rfl, b, l, p1, GN, xs, rfl, SqL.of hvaG.h1, by omega, w29, fun G30 H30 q1 zs1 s30 w30 hq1 pm1 => ?_⟩
    have hva30 := hvaG.mono s30
    refine ⟨_, rfl, _, rfl, vaA, _, (1 : Int), .ref p2, rfl, rfl, SqT.of (w30.sm _ _ hva30.h0), rfl, b, l, p2, G30, ys, rfl, SqL.of hva30.h2, by omega, w30, fun G31 H31 q2 zs2 s31 w31 hq2 pm2 => ⟨rfl, rfl, fun z dz nz ndz nez => ?_⟩⟩
    have sG := s30.trans s31
    have sH := sG.trans w31.sm
    obtain ⟨cs', pc1, dc1⟩ := dpall_perm pm1.symm (DpAll.mono sH hvaG.d1)
    obtain ⟨ts', pt1, dt1⟩ := dpall_perm pm2.symm (DpAll.mono sH hvaG.d2)
    have hq1' := w31.sm _ _ (s31 _ _ hq1)
    have hq2' := w31.sm _ _ hq2
    have okc' := okc.perm pc1
    have okt' := okt.perm pc1 pt1
    have bag31 := w31.bag
    have na31 := naG.mono sH
    have tb31 := tbG.ext sH
    have hp31 := sH _ _ hpG
    have hva31 := hvaG.mono sH
    clear sG sH s30 s31 w30 w31 w29 hva30 hvaG naG tbG hpG hq1 hq2
    refine net_made nz ndz nez ⟨q1, zs1, rfl, .inl (SqL.of hq1'), dc1⟩ ⟨q2, zs2, rfl, .inl (SqL.of hq2'), dt1⟩ okc' okt' fun H32 zc zt s32 nzc nzt naz => ?_
    clear dc1 dt1 hq1' hq2' ndz nez
    refine gn_step ?_
    dsimp only [List.set]
    have na32 := na31.mono s32
    obtain ⟨dx, x0, _, _⟩ := id na32
    obtain ⟨dzz, z0, _, _⟩ := id naz
    have h32 := s32 _ _ hva31.h0
    refine sq_ifs ?_
    refine ⟨_, rfl, _, rfl, z, dzz, _, x, dx, _, rfl, z0, rfl, x0, z, zc, zt, cs', ts', .ref x, rfl, naz, .inl ⟨x, dc, dt, cs, ts, rfl, na32, _, rfl, _, rfl, ?_⟩⟩
    rw [eqNet_perm okc' okc okt' pc1.symm pt1.symm]
    refine iteF ?_
    refine ⟨_, rfl, _, rfl, z, dzz, _, rfl, z0, .inl ⟨x, dx, _, rfl, x0⟩, z, zc, zt, cs', ts', .ref x, rfl, naz, .inl ⟨x, dc, dt, cs, ts, rfl, na32, ⟨_, rfl⟩, _, rfl, ?_⟩⟩
    rw [eqNet_perm okc' okc okt' pc1.symm pt1.symm]
    refine iteF ?_
    refine ⟨_, rfl, _, rfl, x, dx, _, rfl, x0, .inr (.inl ⟨vaA, _, rfl, SqT.of h32⟩), x, dc, dt, cs, ts, .ref vaA, rfl, na32, .inr (.inl ⟨vaA, _, rfl, SqT.of h32, ⟨_, rfl⟩, _, rfl, iteF ?_⟩)⟩
    refine ⟨_, rfl, x, dx, _, rfl, x0, .inr (.inr ⟨_, rfl⟩), x, dc, dt, cs, ts, .str "Network", rfl, na32, .inr (.inr ⟨_, rfl, ⟨_, rfl⟩, _, rfl, iteF ?_⟩)⟩
    have no' : ("other" : Str) ∉ cs'.map (·.1) := fun m => nlo (by
      rw [List.map_append]
      exact List.mem_append_left _ ((pc1.map _).mem_iff.mpr m))
    have noc : ("other" : Str) ∉ cs.map (·.1) := fun m => nlo (by rw [List.map_append]; exact List.mem_append_left _ m)
    have lc' : cs'.length = cs.length := pc1.length_eq.symm
    refine ⟨_, rfl, z, dzz, _, rfl, z0, rfl, z, zc, zt, cs', ts', "other", "plain", rfl, naz, nm_other, kd_plain, no', by omega, fun H33 zt6 hz6 s33 na6 => ?_⟩
    have s3133 : Same H31 H33 := same_h3_new s32 nz nzc nzt s33
    have na33 := na31.mono s3133
    obtain ⟨f1, f2, f3⟩ := NetA.fresh (C := R.C) na31 nz nzc nzt
    have f3' : dt ≠ zt6 := by
      rcases hz6 with e | e
      · rw [e]; exact f3
      · obtain ⟨_, _, _, k⟩ := id na32
        intro q
        rw [← q, k] at e
        cases e
    obtain ⟨dx3, x3', _, _⟩ := id na33
    obtain ⟨dz6, z6', _, _⟩ := id na6
    have lp : (cs' ++ [(("other" : Str), ("plain" : Str))]).length = cs.length + 1 := by rw [List.length_append, lc']; rfl
    have lt' : ts'.length = ts.length := pt1.length_eq.symm
    have bag33 := bag31.same s3133
    have tb33 := tb31.ext s3133
    have hp33 := s3133 _ _ hp31
    clear s3133 s33 hz6 nz nzc nzt s32 bag31 tb31 hp31 hva31 na31 na32 naz x0 z0 h32
    refine ⟨_, rfl, _, rfl, z, dz6, _, rfl, z6', .inl ⟨x, dx3, _, rfl, x3'⟩, z, zc, zt6, _, ts', .ref x, rfl, na6, .inl ⟨x, dc, dt, cs, ts, rfl, na33, ⟨_, rfl⟩, ?_⟩⟩
    rw [eqNet_more (by rw [lp]; omega)]
    refine ⟨_, rfl, x, dx3, _, rfl, x3', rfl, _, rfl, x, dc, dt, z, zc, zt6, _, _, _, _, rfl, na33, na6, f1, f2, f3', by omega, by omega, fun H34 s34 => ?_⟩
    rw [partNet_sub (okc'.more nm_other kd_plain no' (by omega)) (fun c hc => List.mem_append_left _ (pc1.mem_iff.mp hc)) (fun t ht => pt1.mem_iff.mp ht)]
    refine ⟨_, rfl, z, dz6, _, rfl, s34 _ _ z6', rfl, _, rfl, z, zc, zt6, x, dc, dt, _, _, _, _, rfl, na6.mono s34, na33.mono s34, Ne.symm f1, Ne.symm f2, Ne.symm f3', by omega, by omega, fun H35 s35 => ?_⟩
    rw [partNet_no (List.mem_append_right _ (List.mem_singleton.mpr rfl)) noc]
    refine ⟨(by show 3 ≤ sizeLine; decide), fun l1 nl1 => ?_⟩
    have s36 : Same H35 (upd H35 l1 (.lst [.bl false, .bl true, .bl false])) := same_new nl1
    have s3336 := s34.trans (s35.trans s36)
    have na36 := na33.mono s3336
    have bag36 := bag33.same s3336
    have tb36 := tb33.ext s3336
    have hp36 := s3336 _ _ hp33
    have x36 := s3336 _ _ x3'
    have hl1 : upd H35 l1 (.lst [.bl false, .bl true, .bl false]) l1 = some (.lst [.bl false, .bl true, .bl false]) := upd_same
    generalize upd H35 l1 (.lst [.bl false, .bl true, .bl false]) = H36 at na36 bag36 tb36 hp36 x36 hl1 ⊢
    clear s3336 s36 s35 s34 nl1 na33 na6 bag33 tb33 hp33 x3' z6'
    refine gn_step ?_
    dsimp only [List.set]
    refine ⟨_, rfl, _, rfl, x, dx3, _, rfl, x36, x, dc, dt, cs, ts, .str "other", _, rfl, na36, .inl ⟨"other", rfl, rfl⟩, _, rfl, (by show 1 ≤ sizeLine; decide), fun l2 nl2 => ?_⟩
    rw [decide_eq_false noc]
    have t1 : Same H36 (upd H36 l2 (.lst [.bl (false != false)])) := same_new nl2
    refine ⟨l1, l2, [.bl false, .bl true, .bl false], [.bl false], rfl, rfl, t1 _ _ hl1, upd_same, (by show 4 ≤ sizeLine; decide), fun l3 nl3 => ⟨(by show 4 ≤ sizeLine; decide), fun l4 nl4 => ?_⟩⟩
    have t2 : Same (upd H36 l2 (.lst [.bl (false != false)])) _ := same_new (o := .lst ([.bl false, .bl true, .bl false] ++ [.bl false])) nl3
    have t3 : Same (upd (upd H36 l2 (.lst [.bl (false != false)])) l3 (.lst ([.bl false, .bl true, .bl false] ++ [.bl false]))) _ := same_new (o := .lst [.bl false, .bl true, .bl false, .bl false]) nl4
    refine ⟨.ref l3, .ref l4, .list [.bool false, .bool true, .bool false, .bool false], rfl, .lst (SqL.of (t3 _ _ upd_same)) (.cons (.bl _) (.cons (.bl _) (.cons (.bl _) (.cons (.bl _) .nil)))), .lst (SqL.of upd_same) (.cons (.bl _) (.cons (.bl _) (.cons (.bl _) (.cons (.bl _) .nil)))), ?_, fun H40 s40 => ⟨_, rfl, iteF ?_⟩⟩
    · refine .lst (by show 4 ≤ 100000; decide) fun d hd => ?_
      simp only [List.mem_cons, List.not_mem_nil, or_false] at hd
      rcases hd with rfl | rfl | rfl | rfl <;> exact .bl
    have s3640 := t1.trans (t2.trans (t3.trans s40))
    exact ⟨_, _, _, _, _, _, _, _, _, _, _, _, rfl, bag36.same s3640, tb36.ext s3640, s3640 _ _ hp36⟩
  · rintro σ H' ⟨x3, x4, x5, x6, x7, x8, x9, x10, x11, x12, x13, x14, rfl, hb, tb, hpn⟩
    exact ⟨rfl, tb, q⟩
end
end Bh

set_option Elab.async false
set_option linter.all false
set_option maxRecDepth 100000
set_option maxHeartbeats 2000000
namespace Bh
open PySem PySem.Spec PyProof.Rows L2
/-! ### the end of a law by one run of the top: facts out of a Hook -/
section
variable {K : PySem.W.Frag} {h : Heap} {mg : Str → Option Value} {fa : List He.Fa} {fn : List He.DefD}
theorem funD_none {x q : Str} {ar : Arguments} {bd : List Stmt} {sc : Scope} {f : Addr} {fd : FuncData} (F : FunD K x q ar bd sc [] [] f fd) :
    ∃ (oc : Value) (od : Option Addr) (kV doc pm : Value) (an : Option Addr) (cdv ct : Value) (osl : Array (Option Value)), fd = PySem.W.fnOf x q ar bd sc .none kV doc pm an cdv ct ∧ K.lookup f = some ⟨oc, od, .func fd, osl⟩ ∧ PySem.W.codeIn K cdv q = true := by
  obtain ⟨oc, od, dV, kV, doc, pm, an, cdv, ct, osl, e, lk, hc, hd, _⟩ := F.ex
  rcases hd with ⟨_, e2⟩ | ⟨e2, _⟩
  · rw [e2] at e
    exact ⟨oc, od, kV, doc, pm, an, cdv, ct, osl, e, lk, hc⟩
  · exact absurd rfl e2
theorem fun_ofD {x q : Str} {st : Stmt} {f : Addr} {fd : FuncData} (F : FunD K x q (defArgs st) (defBody st) (defScope st) [] [] f fd) : Fun K x q st f fd := ⟨funD_none F, F.kp⟩
abbrev BindsAs (x q : Str) (st : Stmt) (ps : List Str) : Prop := ∀ (kV doc pm : Value) (an : Option Addr) (cdv ct : Value) (us : List Value), us.length = ps.length → bindArgs (PySem.W.fnOf x q (defArgs st) (defBody st) (defScope st) .none kV doc pm an cdv ct) ⟨us, []⟩ = pure (ps.zip us)
theorem df_of (c : He.SaysD fa fn K) (X : K.In h) (G : h.Ns mainGlobals mg) {x : Str} {st : Stmt} {ps : List Str} (i j : Nat) (hb : BindsAs x x st ps) (h1 : fn[i]? = some (dd x st)) (h2 : fa[j]? = some (.glo x)) : ∃ fd, Df K mg x st ps (He.ga K x) fd := by
  obtain ⟨fd, F⟩ := c.def_ i (d := dd x st) h1
  have F2 : Fun K x x st (He.ga K x) fd := fun_ofD F
  exact ⟨fd, F2, He.glo_ok X G (c.fact j h2), F2.binds hb⟩
theorem meth_of (c : He.SaysD fa fn K) {C m q : Str} {st : Stmt} {ps : List Str} (i j : Nat) (hb : BindsAs m q st ps) (h1 : fn[i]? = some (dm C m q st)) (h2 : fa[j]? = some (.meth C m)) :
    ∃ fd, Fun K m q st (He.ma K (He.ga K C) m) fd ∧ Meth K (He.ga K C) m (He.ma K (He.ga K C) m) ∧ Binds K fd ps [] := by
  obtain ⟨fd, F⟩ := c.def_ i (d := dm C m q st) h1
  have F2 : Fun K m q st (He.ma K (He.ga K C) m) fd := fun_ofD F
  exact ⟨fd, F2, He.meth_ok (c.fact j h2), F2.binds hb⟩
/-- a def whose table of code objects is wanted -/
theorem tab_def (c : He.SaysD fa fn K) {d : He.DefD} (i : Nat) (h1 : fn[i]? = some d) (hd : d.dfl = []) (hk : d.kwd = []) :
    ∃ (oc : Value) (od : Option Addr) (kV doc pm : Value) (an : Option Addr) (ct : Value) (osl : Array (Option Value)), K.lookup (He.fAd K d.at_) = some ⟨oc, od, .func (PySem.W.fnOf d.name d.qual d.params d.body d.scope .none kV doc pm an (.ref (He.cT K d.at_).1) ct), osl⟩ ∧ PySem.W.codeIn K (.ref (He.cT K d.at_).1) d.qual = true := by
  obtain ⟨fd, F⟩ := c.def_ i (d := d) h1
  have e1 : d.dvs K = [] := by unfold He.DefD.dvs; rw [hd]; rfl
  have e2 : d.kws K = [] := by unfold He.DefD.kws; rw [hk]; rfl
  rw [e1, e2] at F
  obtain ⟨oc, od, kV, doc, pm, an, cdv, ct, osl, e, lk, hc⟩ := funD_none F
  obtain ⟨cc, rfl⟩ := He.codeIn_ref hc
  have k := He.codeOf_eq lk (by rw [e])
  refine ⟨oc, od, kV, doc, pm, an, ct, osl, ?_, ?_⟩
  · show K.lookup (He.fAd K d.at_) = some ⟨oc, od, .func (PySem.W.fnOf d.name d.qual d.params d.body d.scope .none kV doc pm an (.ref (He.codeOf K d.at_)) ct), osl⟩
    rw [k, ← e]
    exact lk
  · show PySem.W.codeIn K (.ref (He.codeOf K d.at_)) d.qual = true
    rw [k]
    exact hc
/-! ### own exceptions -/
theorem fam_of {C : Addr} {B newId initId : String} {bmB : List Value} (FB : ExcBaseFacts B newId initId bmB) (SF : StoreFacts B bmB "object.__setattr__" "object") (q : PySem.W.excInitIn K C bmB newId = true) (ov : PySem.W.excOver K C bmB = true) (hd : PySem.W.hasDictIn K C = true) :
    ∃ (B newId initId : String) (bmB : List Value), ExcBaseFacts B newId initId bmB ∧ StoreFacts B bmB "object.__setattr__" "object" ∧ PySem.W.excOver K C bmB = true ∧
    ∃ nm q N bs bm sn sub ab col dd k0 k1 k2 k3 k5, K.lookup C = some (excClassObj nm q C N bs bm true sn sub ab col dd k0 k1 k2 k3 k5 newId) ∧ ∀ Y : String, bm.contains (.type Y) = bmB.contains (.type Y) := by
  refine ⟨B, newId, initId, bmB, FB, SF, ov, ?_⟩
  unfold PySem.W.excInitIn at q
  split at q
  · rename_i d1 cd1 sl1 look
    split at q
    · rename_i C2 bm2 z0 z1 z2 z3 n z5 em es
      rw [Bool.and_eq_true, Bool.and_eq_true, Bool.and_eq_true, beq_iff_eq, beq_iff_eq, Bool.not_eq_true'] at q
      obtain ⟨⟨⟨e1, e2⟩, e3⟩, tl⟩ := q
      subst e1 e2
      have hh : (PySem.W.clsIn K C2).any (·.hasDict) = true := hd
      unfold PySem.W.clsIn at hh
      rw [look] at hh
      obtain ⟨a1, a2, a3, a4, a5, a6, a7, a8, a9, a10, a11⟩ := cd1
      have h6 : a6 = true := hh
      have em2 : a3 = .ref C2 :: bm2 := em
      have e32 : a11 = false := e3
      subst h6 em2 e32
      have e6 : sl1 = #[z0, z1, z2, z3, some (.builtin n), z5] := by
        exact Array.ext' es
      subst e6
      exact ⟨_, _, _, _, _, _, _, _, _, _, _, _, _, _, _, look, fun Y => PySem.W.excTail_contains Y _ tl⟩
    · cases q
  · cases q
theorem exg_of {x : Str} {B newId initId : String} {bmB : List Value} (FB : ExcBaseFacts B newId initId bmB) (SF : StoreFacts B bmB "object.__setattr__" "object") (p : ExcP K x bmB newId) : ExG K (He.ga K x) :=
  ⟨fam_of FB SF p.1 p.2.1 p.2.2.1, p.2.2.2.1, p.2.2.2.2.2.2.2.2.2.2.2.1, p.2.2.2.2.2.2.2.2.2.2.2.2, p.2.2.2.2.2.2.2.2.2.2.1, p.2.2.1⟩
theorem xfc_of {x : Str} {newId : String} {bmB : List Value} (p : ExcP K x bmB newId) : XfC K (He.ga K x) :=
  ⟨p.2.2.2.2.1, p.2.2.2.2.2.1, p.2.2.2.2.2.2.2.2.2.2.2.1, p.2.2.1⟩
theorem excc_of {x : Str} {newId : String} {bmB : List Value} (p : ExcP K x bmB newId) : ExcC K (He.ga K x) :=
  ⟨p.2.2.2.2.1, p.2.2.2.2.2.1, p.2.2.2.2.2.2.2.2.2.2.2.1, p.2.2.1, p.2.2.2.2.2.2.1, p.2.2.2.2.2.2.2.2.1, p.2.2.2.2.2.2.2.2.2.1, p.2.2.2.2.2.2.2.1⟩
theorem exr_of (c : He.SaysD fa fn K) (X : K.In h) (G : h.Ns mainGlobals mg) {x q : Str} {st : Stmt} {ps at_ : List Str} {B newId initId : String} {bmB : List Value} (FB : ExcBaseFacts B newId initId bmB) (SF : StoreFacts B bmB "object.__setattr__" "object") (i j : Nat)
    (p : ExcP K x bmB newId) (p2 : ExcI K x) (p3 : NoAt K x at_) (hb : BindsAs "__init__" q st ps) (h1 : fn[i]? = some (dm x "__init__" q st)) (h2 : fa[j]? = some (.glo x)) : ∃ r : ExR K mg x q st ps at_, r.c = He.ga K x := by
  obtain ⟨fd, F⟩ := c.def_ i (d := dm x "__init__" q st) h1
  have F2 : Fun K "__init__" q st (He.ma K (He.ga K x) "__init__") fd := fun_ofD F
  exact ⟨⟨He.ga K x, He.ma K (He.ga K x) "__init__", fd, F2, F2.binds hb, He.glo_ok X G (c.fact j h2), exg_of FB SF p, p2.1, p2.2, p3, xfc_of p, excc_of p⟩, rfl⟩
theorem erc_of {x y1 y2 f : Str} {newId : String} {bmB : List Value} (p : ExcP K x bmB newId) (p3 : NoAt K x ["code", f]) (h1 : PySem.W.exmAny K (.ref (He.ga K x)) [.ref (He.ga K y1), .ref (He.ga K y2)] = some true) : ErC K (He.ga K y1) (He.ga K y2) (He.ga K x) x f :=
  ⟨xfc_of p, p3 _ (List.mem_cons_self ..), p3 _ (List.mem_cons_of_mem _ (List.mem_cons_self ..)), h1⟩
/-! ### classes -/
theorem callO_of {x : Str} (p : CallP K x) (m : Meth K (He.ga K x) "__call__" (He.ma K (He.ga K x) "__call__")) : StX.CallO K (He.ga K x) (He.ma K (He.ga K x) "__call__") := ⟨m.at_, m.fn, p⟩
end
end Bh

set_option Elab.async false
set_option linter.all false
set_option maxRecDepth 100000
set_option maxHeartbeats 2000000
namespace Bh
open PySem PySem.Spec PyProof.Rows L2
/-! ### a class over object alone; defaults that are empty tuples -/
theorem neC_of {K : PySem.W.Frag} {C f : Addr} (q : neB K C f = true) (p : fnB K f = true) : NeC K C f := by
  refine ⟨?_, ?_⟩
  · unfold neB at q
    split at q
    · rename_i d1 cd1 sl1 look
      split at q
      · rename_i C2 o2 z0 z1 z2 z3 n z5 em es
        rw [Bool.and_eq_true, Bool.and_eq_true, Bool.and_eq_true, Bool.and_eq_true, beq_iff_eq, decide_eq_true_eq, Bool.not_eq_true'] at q
        obtain ⟨e1, e2, e3, e4, e5⟩ := q
        subst e1 e2
        obtain ⟨a1, a2, a3, a4, a5, a6, a7, a8, a9, a10, a11⟩ := cd1
        have em2 : a3 = [.ref C2, .type "object"] := em
        have e32 : a11 = false := e3
        have h6 : a6 = true := e4
        subst em2 e32 h6
        have e6 : sl1 = #[z0, z1, z2, z3, some (.builtin n), z5] := Array.ext' es
        subst e6
        exact ⟨_, _, _, _, _, _, _, _, _, _, _, _, _, _, _, _, look, e5⟩
      · cases q
    · cases q
  · unfold fnB at p
    split at p
    · rename_i c d dt sl look
      rw [decide_eq_true_eq] at p
      subst p
      exact ⟨_, look, rfl⟩
    · cases p
theorem tupE_ok {K : PySem.W.Frag} {z : Addr} (h : tupE K z = true) (H : Hp) : SqT K H z [] := by
  unfold tupE at h
  split at h
  · rename_i c d its n sl look
    rw [Bool.and_eq_true, decide_eq_true_eq, decide_eq_true_eq] at h
    obtain ⟨h1, h2⟩ := h
    subst h1
    have e : its = #[] := Array.ext' h2
    subst e
    exact .inr ⟨_, _, _, look, rfl, rfl, Nat.zero_le _, .nil⟩
  · cases h
end Bh

set_option Elab.async false
set_option linter.all false
set_option maxRecDepth 100000
set_option maxHeartbeats 4000000
set_option synthInstance.maxSize 10000
set_option synthInstance.maxHeartbeats 400000
namespace Bh
open PySem PySem.Spec PyProof.Rows L2
open LamX NdefX
theorem law_at {l : PySem.W.OpenLaw} {w : World} {K : PySem.W.Frag} {h : Heap} {mg : Str → Option Value} {fa : Addr} (X : K.In h) (G : h.Ns mainGlobals mg) (hfa : mg "law" = some (.ref fa)) (c : He.SaysX hFa hFn [] hTf hEx w h K) :
    LamX.LawAtS l w K CX0 14 63 "_law_script" mg fa h := by
  have D := c.t.d
  obtain ⟨⟨E0, E1, E2, E3, E4, E5, E6, E7, E8, E9, E10, E11⟩, ⟨E12, E13, E14, E15, E16, E17, E18, E19, E20, E21⟩⟩ := hEx_of c.more
  obtain ⟨f_copy_of, d_copy_of⟩ := df_of (ps := ["value"]) D X G 0 0 (fun _ _ _ _ _ _ us hl => match us, hl with | [_], _ => rfl) rfl rfl
  obtain ⟨f_is_name, d_is_name⟩ := df_of (ps := ["value"]) D X G 1 1 (fun _ _ _ _ _ _ us hl => match us, hl with | [_], _ => rfl) rfl rfl
  obtain ⟨f_is_word, d_is_word⟩ := df_of (ps := ["value", "characters"]) D X G 2 2 (fun _ _ _ _ _ _ us hl => match us, hl with | [_, _], _ => rfl) rfl rfl
  obtain ⟨f_kinds_of, d_kinds_of⟩ := df_of (ps := ["cells"]) D X G 3 3 (fun _ _ _ _ _ _ us hl => match us, hl with | [_], _ => rfl) rfl rfl
  obtain ⟨f_ties_between, d_ties_between⟩ := df_of (ps := ["kinds", "ties"]) D X G 4 4 (fun _ _ _ _ _ _ us hl => match us, hl with | [_, _], _ => rfl) rfl rfl
  obtain ⟨f_check_cell, d_check_cell⟩ := df_of (ps := ["kinds", "name", "kind"]) D X G 5 5 (fun _ _ _ _ _ _ us hl => match us, hl with | [_, _, _], _ => rfl) rfl rfl
  obtain ⟨f_check_tie, d_check_tie⟩ := df_of (ps := ["kinds", "ties", "tie", "source", "target"]) D X G 6 6 (fun _ _ _ _ _ _ us hl => match us, hl with | [_, _, _, _, _], _ => rfl) rfl rfl
  obtain ⟨f_is_kind, d_is_kind⟩ := df_of (ps := ["value"]) D X G 7 7 (fun _ _ _ _ _ _ us hl => match us, hl with | [_], _ => rfl) rfl rfl
  obtain ⟨f_l_bag, d_l_bag⟩ := df_of (ps := ["_law_script"]) D X G 8 8 (fun _ _ _ _ _ _ us hl => match us, hl with | [_], _ => rfl) rfl rfl
  obtain ⟨f_l_draw, d_l_draw⟩ := df_of (ps := ["_law_bag_here", "_law_many"]) D X G 9 9 (fun _ _ _ _ _ _ us hl => match us, hl with | [_, _], _ => rfl) rfl rfl
  obtain ⟨f_l_any, d_l_any⟩ := df_of (ps := ["_law_bag_here", "_law_row"]) D X G 10 10 (fun _ _ _ _ _ _ us hl => match us, hl with | [_, _], _ => rfl) rfl rfl
  obtain ⟨f_l_mixed, d_l_mixed⟩ := df_of (ps := ["_law_bag_here", "_law_row"]) D X G 11 11 (fun _ _ _ _ _ _ us hl => match us, hl with | [_, _], _ => rfl) rfl rfl
  obtain ⟨f_l_like, d_l_like⟩ := df_of (ps := ["_law_found", "_law_due"]) D X G 12 12 (fun _ _ _ _ _ _ us hl => match us, hl with | [_, _], _ => rfl) rfl rfl
  obtain ⟨f_l_given, d_l_given⟩ := df_of (ps := ["_law_e"]) D X G 13 13 (fun _ _ _ _ _ _ us hl => match us, hl with | [_], _ => rfl) rfl rfl
  obtain ⟨f_l_try, d_l_try⟩ := df_of (ps := ["_law_ask"]) D X G 14 14 (fun _ _ _ _ _ _ us hl => match us, hl with | [_], _ => rfl) rfl rfl
  obtain ⟨f_l_words, d_l_words⟩ := df_of (ps := ["_law_bag_here", "_law_many"]) D X G 15 15 (fun _ _ _ _ _ _ us hl => match us, hl with | [_, _], _ => rfl) rfl rfl
  obtain ⟨f_l_web, d_l_web⟩ := df_of (ps := ["_law_net"]) D X G 16 16 (fun _ _ _ _ _ _ us hl => match us, hl with | [_], _ => rfl) rfl rfl
  obtain ⟨f_l_net_of, d_l_net_of⟩ := df_of (ps := ["_law_web_here"]) D X G 17 17 (fun _ _ _ _ _ _ us hl => match us, hl with | [_], _ => rfl) rfl rfl
  obtain ⟨f_l_drawn_web, d_l_drawn_web⟩ := df_of (ps := ["_law_bag_here", "_law_names", "_law_words_here"]) D X G 18 18 (fun _ _ _ _ _ _ us hl => match us, hl with | [_, _, _], _ => rfl) rfl rfl
  obtain ⟨f_l_small_example, d_l_small_example⟩ := df_of (ps := []) D X G 19 19 (fun _ _ _ _ _ _ us hl => match us, hl with | [], _ => rfl) rfl rfl
  obtain ⟨f_l_compared, d_l_compared⟩ := df_of (ps := ["_law_one", "_law_two", "_law_a", "_law_b"]) D X G 20 20 (fun _ _ _ _ _ _ us hl => match us, hl with | [_, _, _, _], _ => rfl) rfl rfl
  obtain ⟨f_l_put_in, d_l_put_in⟩ := df_of (ps := ["_law_one", "_law_two", "_law_a"]) D X G 21 21 (fun _ _ _ _ _ _ us hl => match us, hl with | [_, _, _], _ => rfl) rfl rfl
  obtain ⟨f_l_put_in_so, d_l_put_in_so⟩ := df_of (ps := ["_law_one", "_law_two", "_law_due", "_law_b"]) D X G 22 22 (fun _ _ _ _ _ _ us hl => match us, hl with | [_, _, _, _], _ => rfl) rfl rfl
  have n_KindsDiffer : NoAt K "KindsDiffer" ["code", "name"] := (fun y hy => by
    rcases List.mem_cons.mp hy with e | hy
    · rw [e]; exact E3
    · rw [List.mem_singleton.mp hy]; exact E4)
  obtain ⟨r_KindsDiffer, hr_KindsDiffer⟩ := exr_of (ps := ["self", "name"]) D X G PySem.F.excBase_ValueError PySem.F.store_ValueError 24 39 E1 E2 n_KindsDiffer (fun _ _ _ _ _ _ us hl => match us, hl with | [_, _], _ => rfl) rfl rfl
  have T : Top K mg := {
    a_copy_of := _, fd_copy_of := f_copy_of, d_copy_of := d_copy_of,
    a_is_name := _, fd_is_name := f_is_name, d_is_name := d_is_name,
    a_is_word := _, fd_is_word := f_is_word, d_is_word := d_is_word,
    a_kinds_of := _, fd_kinds_of := f_kinds_of, d_kinds_of := d_kinds_of,
    a_ties_between := _, fd_ties_between := f_ties_between, d_ties_between := d_ties_between,
    a_check_cell := _, fd_check_cell := f_check_cell, d_check_cell := d_check_cell,
    a_check_tie := _, fd_check_tie := f_check_tie, d_check_tie := d_check_tie,
    a_is_kind := _, fd_is_kind := f_is_kind, d_is_kind := d_is_kind,
    a_l_bag := _, fd_l_bag := f_l_bag, d_l_bag := d_l_bag,
    a_l_draw := _, fd_l_draw := f_l_draw, d_l_draw := d_l_draw,
    a_l_any := _, fd_l_any := f_l_any, d_l_any := d_l_any,
    a_l_mixed := _, fd_l_mixed := f_l_mixed, d_l_mixed := d_l_mixed,
    a_l_like := _, fd_l_like := f_l_like, d_l_like := d_l_like,
    a_l_given := _, fd_l_given := f_l_given, d_l_given := d_l_given,
    a_l_try := _, fd_l_try := f_l_try, d_l_try := d_l_try,
    a_l_words := _, fd_l_words := f_l_words, d_l_words := d_l_words,
    a_l_web := _, fd_l_web := f_l_web, d_l_web := d_l_web,
    a_l_net_of := _, fd_l_net_of := f_l_net_of, d_l_net_of := d_l_net_of,
    a_l_drawn_web := _, fd_l_drawn_web := f_l_drawn_web, d_l_drawn_web := d_l_drawn_web,
    a_l_compared := _, fd_l_compared := f_l_compared, d_l_compared := d_l_compared,
    a_l_put_in := _, fd_l_put_in := f_l_put_in, d_l_put_in := d_l_put_in,
    a_l_put_in_so := _, fd_l_put_in_so := f_l_put_in_so, d_l_put_in_so := d_l_put_in_so,
    b_all := He.free_ok X G (D.fact 24 rfl),
    b_dict := He.free_ok X G (D.fact 25 rfl),
    b_isinstance := He.free_ok X G (D.fact 26 rfl),
    b_len := He.free_ok X G (D.fact 27 rfl),
    b_list := He.free_ok X G (D.fact 28 rfl),
    b_range := He.free_ok X G (D.fact 29 rfl),
    b_sorted := He.free_ok X G (D.fact 30 rfl),
    b_tuple := He.free_ok X G (D.fact 31 rfl),
    b_int := He.free_ok X G (D.fact 32 rfl),
    b_zip := He.free_ok X G (D.fact 33 rfl),
    b_bool := He.free_ok X G (D.fact 34 rfl),
    b_str := He.free_ok X G (D.fact 35 rfl),
    g_LETTERS := He.str_ok X G (D.fact 36 rfl),
    g_LONGEST := He.int_ok X G (D.fact 37 rfl),
    a_NUMBERS := _, g_NUMBERS := He.glo_ok X G (D.fact 38 rfl), k_NUMBERS := He.tupB_ok E0,
    r_KindsDiffer := r_KindsDiffer,
    e_KindsDiffer := (by rw [hr_KindsDiffer]; exact erc_of E1 n_KindsDiffer E5),
    cBE := He.ga K "BestError", cMS := He.ga K "Missing", gBE := He.glo_ok X G (D.fact 40 rfl), gMS := He.glo_ok X G (D.fact 41 rfl), x_KindsDiffer := (by rw [hr_KindsDiffer]; exact E17) }
  obtain ⟨f_Network_add_cell, F_Network_add_cell, M_Network_add_cell, B_Network_add_cell⟩ := meth_of (ps := ["self", "name", "kind"]) D 25 47 (fun _ _ _ _ _ _ us hl => match us, hl with | [_, _, _], _ => rfl) rfl rfl
  obtain ⟨f_Network_add_tie, F_Network_add_tie, M_Network_add_tie, B_Network_add_tie⟩ := meth_of (ps := ["self", "tie", "source", "target"]) D 26 48 (fun _ _ _ _ _ _ us hl => match us, hl with | [_, _, _, _], _ => rfl) rfl rfl
  obtain ⟨f_Network_cells, F_Network_cells, M_Network_cells, B_Network_cells⟩ := meth_of (ps := ["self"]) D 27 49 (fun _ _ _ _ _ _ us hl => match us, hl with | [_], _ => rfl) rfl rfl
  obtain ⟨f_Network_ties, F_Network_ties, M_Network_ties, B_Network_ties⟩ := meth_of (ps := ["self"]) D 28 50 (fun _ _ _ _ _ _ us hl => match us, hl with | [_], _ => rfl) rfl rfl
  obtain ⟨f_Network__getitem, F_Network__getitem, M_Network__getitem, B_Network__getitem⟩ := meth_of (ps := ["self", "name"]) D 29 51 (fun _ _ _ _ _ _ us hl => match us, hl with | [_, _], _ => rfl) rfl rfl
  obtain ⟨f_Network__contains, F_Network__contains, M_Network__contains, B_Network__contains⟩ := meth_of (ps := ["self", "name"]) D 30 52 (fun _ _ _ _ _ _ us hl => match us, hl with | [_, _], _ => rfl) rfl rfl
  obtain ⟨f_Network__eq, F_Network__eq, M_Network__eq, B_Network__eq⟩ := meth_of (ps := ["self", "other"]) D 31 53 (fun _ _ _ _ _ _ us hl => match us, hl with | [_, _], _ => rfl) rfl rfl
  obtain ⟨f_Network_check_known, F_Network_check_known, M_Network_check_known, B_Network_check_known⟩ := meth_of (ps := ["self", "name"]) D 32 54 (fun _ _ _ _ _ _ us hl => match us, hl with | [_, _], _ => rfl) rfl rfl
  obtain ⟨f_Network_check_kinds, F_Network_check_kinds, M_Network_check_kinds, B_Network_check_kinds⟩ := meth_of (ps := ["self", "other"]) D 33 55 (fun _ _ _ _ _ _ us hl => match us, hl with | [_, _], _ => rfl) rfl rfl
  obtain ⟨f_Network_is_part_of, F_Network_is_part_of, M_Network_is_part_of, B_Network_is_part_of⟩ := meth_of (ps := ["self", "other"]) D 34 56 (fun _ _ _ _ _ _ us hl => match us, hl with | [_, _], _ => rfl) rfl rfl
  obtain ⟨f_Network__or, F_Network__or, M_Network__or, B_Network__or⟩ := meth_of (ps := ["self", "other"]) D 35 57 (fun _ _ _ _ _ _ us hl => match us, hl with | [_, _], _ => rfl) rfl rfl
  obtain ⟨f_Network__ior, F_Network__ior, M_Network__ior, B_Network__ior⟩ := meth_of (ps := ["self", "other"]) D 36 58 (fun _ _ _ _ _ _ us hl => match us, hl with | [_, _], _ => rfl) rfl rfl
  obtain ⟨f_Network_clone, F_Network_clone, M_Network_clone, B_Network_clone⟩ := meth_of (ps := ["self"]) D 37 59 (fun _ _ _ _ _ _ us hl => match us, hl with | [_], _ => rfl) rfl rfl
  obtain ⟨f_Network_text, F_Network_text, M_Network_text, B_Network_text⟩ := meth_of (ps := ["self"]) D 38 60 (fun _ _ _ _ _ _ us hl => match us, hl with | [_], _ => rfl) rfl rfl
  obtain ⟨oc_0, od_0, kV_0, dc_0, pm_0, an_0, ct_0, sl_0, lk_0, hc_0⟩ := tab_def D 19 rfl rfl rfl
  obtain ⟨oc_1, od_1, kV_1, dc_1, pm_1, an_1, ct_1, sl_1, lk_1, hc_1⟩ := tab_def D 23 rfl rfl rfl
  have e0 := hfa.symm.trans (He.glo_ok X G (D.fact 23 rfl))
  cases e0
  let R : NtC K mg := { C := He.ga K "Network", g := He.glo_ok X G (D.fact 42 rfl), cl := He.cls_ok (D.fact 43 rfl), n1 := He.noat_ok (D.fact 45 rfl), n2 := He.noat_ok (D.fact 46 rfl), ha := E6.1, hn := E6.2.1, ht := E6.2.2.1, hm := E6.2.2.2.1, k1 := E6.2.2.2.2.1, nq := E8, t2 := E9, t3 := E10, kt := E11, ks := E12 }
  obtain ⟨f_I, F_I⟩ := D.def_ 39 (d := ⟨("Network", some "__init__"), "__init__", "Network.__init__", defArgs s_Network__init, defBody s_Network__init, defScope s_Network__init, [], [("cells", .adr (kwAd "Network" "__init__" "cells")), ("ties", .adr (kwAd "Network" "__init__" "ties"))]⟩) rfl
  have M : NtM K mg R := {
    fI := _, fdI := f_I, z1 := kwAd "Network" "__init__" "cells" K, z2 := kwAd "Network" "__init__" "ties" K, e1 := tupE_ok E20, e2 := tupE_ok E21, FI := F_I, mkr := He.mkr_ok (D.fact 44 rfl),
    add_cell := ⟨_, f_Network_add_cell, F_Network_add_cell, M_Network_add_cell, B_Network_add_cell⟩,
    add_tie := ⟨_, f_Network_add_tie, F_Network_add_tie, M_Network_add_tie, B_Network_add_tie⟩,
    cells := ⟨_, f_Network_cells, F_Network_cells, M_Network_cells, B_Network_cells⟩,
    ties := ⟨_, f_Network_ties, F_Network_ties, M_Network_ties, B_Network_ties⟩,
    getitem := ⟨_, f_Network__getitem, F_Network__getitem, M_Network__getitem, B_Network__getitem⟩,
    contains := ⟨_, f_Network__contains, F_Network__contains, M_Network__contains, B_Network__contains⟩,
    eq := ⟨_, f_Network__eq, F_Network__eq, M_Network__eq, B_Network__eq⟩,
    check_known := ⟨_, f_Network_check_known, F_Network_check_known, M_Network_check_known, B_Network_check_known⟩,
    check_kinds := ⟨_, f_Network_check_kinds, F_Network_check_kinds, M_Network_check_kinds, B_Network_check_kinds⟩,
    part := ⟨_, f_Network_is_part_of, F_Network_is_part_of, M_Network_is_part_of, B_Network_is_part_of⟩,
    or_ := ⟨_, f_Network__or, F_Network__or, M_Network__or, B_Network__or⟩,
    ior := ⟨_, f_Network__ior, F_Network__ior, M_Network__ior, B_Network__ior⟩,
    clone := ⟨_, f_Network_clone, F_Network_clone, M_Network_clone, B_Network_clone⟩,
    text := ⟨_, f_Network_text, F_Network_text, M_Network_text, B_Network_text⟩,
    gi := E13, oo := E14, oi := E15, sf := E16, ne := neC_of E18 E19 }
  have S : SmM K mg (He.cT K ("_law_small_example", none)).1 := { f := _, od := od_0, an := an_0, oc := oc_0, kV := kV_0, doc := dc_0, pm := pm_0, ct := ct_0, osl := sl_0, lk := lk_0, hcd := hc_0, g := He.glo_ok X G (D.fact 19 rfl), kp := d_l_small_example.F.kp, b := (fun_mk (st := s_l_small_example) lk_0 hc_0 d_l_small_example.F.kp).binds (ps := []) (fun _ _ _ _ _ _ us hl => match us, hl with | [], _ => rfl) }
  have q1 : He.cT K ("_law_small_example", none) ∈ hTf.map (He.cT K) := List.mem_map_of_mem (a := (("_law_small_example", none) : He.Defn)) (List.mem_cons_self ..)
  have q2 : He.cT K ("law", none) ∈ hTf.map (He.cT K) := List.mem_map_of_mem (a := (("law", none) : He.Defn)) (List.mem_cons_of_mem _ (List.mem_singleton.mpr rfl))
  have tl : ∀ p ∈ [((He.cT K ("_law_small_example", none)).2, smQ), ((He.cT K ("law", none)).2, lawQ)], (p.1 = (He.cT K ("_law_small_example", none)).2 → p.2 = smQ) ∧ (p.1 = (He.cT K ("law", none)).2 → p.2 = lawQ) := fun p hp => by
    simp only [List.mem_cons, List.not_mem_nil, or_false] at hp
    rcases hp with rfl | rfl
    · exact ⟨fun _ => rfl, fun e => absurd e E7⟩
    · exact ⟨fun e => absurd e.symm E7, fun _ => rfl⟩
  refine ⟨_, hTf.map (He.cT K), spLaw K [((He.cT K ("_law_small_example", none)).2, smQ), ((He.cT K ("law", none)).2, lawQ)], fun p hp => ?_, fun p hp => ?_, fun p hp => ?_, fun s u => .of_eq rfl, fun H a ns hl _ hH hS => ⟨a, ns, rfl, hS, hl, fun p hp => ?_, fun _ => rfl⟩,
    fun base _ _ hTB => ok_law T M S (hTB _ q1) (List.mem_cons_self ..) (fun p hp => (tl p hp).1) (hTB _ q2) (List.mem_cons_of_mem _ (List.mem_singleton.mpr rfl)) (fun p hp => (tl p hp).2) lk_1 hc_1⟩
  · obtain ⟨z, hz, rfl⟩ := List.mem_map.mp hp
    exact c.empty z hz
  · obtain ⟨z, hz, rfl⟩ := List.mem_map.mp hp
    exact c.out z hz
  · obtain ⟨z, hz, rfl⟩ := List.mem_map.mp hp
    exact PySem.W.codeHd_of_K X (c.hd z hz)
  · simp only [List.mem_cons, List.not_mem_nil, or_false] at hp
    rcases hp with rfl | rfl
    · exact TabS.nil (hH _ q1)
    · exact TabS.nil (hH _ q2)
end Bh

open PySem PySem.W PySem.Calls PyProof.Rows in
set_option maxRecDepth 100000 in
set_option maxHeartbeats 0 in
theorem PySem.Challenge.cw_bestheard_k14_networks_joined_and_compar_holds : PySem.Challenge.rw_bestheard_k14_networks_joined_and_compar.Holds := by
  w_on; o_law
  refine HandSHeadRun.head_any (r := OpenLaw.row PySem.Challenge.rw_bestheard_k14_networks_joined_and_compar) (q := view (OpenLaw.row PySem.Challenge.rw_bestheard_k14_networks_joined_and_compar).prog [41]) (H := Bh.hHk) (ob := Bh.hOb) (M := 7000) (loose := Bh.hLo) (d := HandSHeadRun.topDef (OpenLaw.row PySem.Challenge.rw_bestheard_k14_networks_joined_and_compar).prog 41) (kwd := []) Bh.hOb_eq
    (by kernel_rfl) (fun s => by kernel_rfl) Bh.hRun (by kernel_rfl) (by kernel_rfl) (by kernel_rfl) (by rfl) (by first | assumption | decide +kernel) (by decide +kernel) ⟨rfl, rfl, rfl, rfl, rfl, by decide +kernel⟩ ?hw ?hc
  case hw => w_witness2
  case hc =>
    refine LamX.walk_ofTsE (l := PySem.Challenge.rw_bestheard_k14_networks_joined_and_compar) (n := 63) (k := 14) (x := "_law_script") (CX := fun _ => L2.CX0) rfl (by decide) (by kernel_rfl) ⟨rfl, by decide, by decide⟩ ?F (fun _ _ _ _ _ z => z)
    intro w mg fa h Y G hmg0
    obtain ⟨K, KX, c⟩ := Y
    have hmg : mg ("law" : PySem.Str) = some (.ref fa) := by
      have e : (HandSHeadRun.topDef (OpenLaw.row PySem.Challenge.rw_bestheard_k14_networks_joined_and_compar).prog 41).name = ("law" : PySem.Str) := by kernel_rfl
      rw [← e]
      exact hmg0
    exact ⟨K, KX, Bh.law_at KX G hmg c⟩
