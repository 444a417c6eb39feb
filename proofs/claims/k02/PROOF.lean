import PyProof.Rows.All
import Wide.All
import OpenK.AllK
import Wide.FinOn
import HandS.ForMost
import HandS.Walk
import HandS.IsInst
import HandS.Deep
import HandS.Defaults
import HandS.Evl
import HandS.Steps
import HandS.More
import HandS.Zip
import HandS.Strs
import HandS.TupAny
import HandS.TupMul
import HandS.StrMore
import HandS.Style
import KE.DataEq
import HandS.StrSplit
import HandS.ExcField
import HandS.ExcInit
import HandS.ExcIs
import KE.KTryMore
import KE.KExcIs
import KE.KExcInit
import HandS.HotCalls
import HandS.Lambda
import HandS.EndTab
import PySem.Challenge.RW_bestheard_k02_names_and_options
import HandS.WordsExc
import PyProof.ListStr
set_option Elab.async false
set_option linter.all false
set_option maxRecDepth 100000
namespace Bh
open PySem PySem.Spec PyProof.Rows L2
/-! ### what the laws of this set have in common: constants, defs of the top, the drawing bag -/
section
variable {X : Cx} {x z : Str} {i : Int} {a : Addr} {pos : Pos}
theorem pe_gS (hg : Gl X x) (hm : ∃ t, X.mg x = some (.str z t)) (hd : (x == ("__debug__" : Str)) = false := by decide) : PE X (.Name x pos) (tC (.str z)) := by
  obtain ⟨t, hm⟩ := hm
  exact pe_glob hg hm ⟨t, rfl⟩ hd
theorem pe_gI (hg : Gl X x) (hm : ∃ t, X.mg x = some (.int i t)) (hd : (x == ("__debug__" : Str)) = false := by decide) : PE X (.Name x pos) (tC (.int i)) := by
  obtain ⟨t, hm⟩ := hm
  exact pe_glob hg hm ⟨t, rfl⟩ hd
theorem pe_gR (hg : Gl X x) (hm : X.mg x = some (.ref a)) (hd : (x == ("__debug__" : Str)) = false := by decide) : PE X (.Name x pos) (tC (.ref a)) :=
  pe_glob hg hm rfl hd
end
theorem pe_tyN {X : Cx} {x : Str} {pos : Pos} (n : String) (hg : Gl X x) (hm : X.mg x = none) (hv : bootBuiltins x = some (.type n)) (hnn : x ≠ "__name__" := by decide) (hdb : (x == ("__debug__" : Str)) = false := by decide) : PE X (.Name x pos) (tC (.ty n)) := pe_bltn hg hm hv rfl hnn hdb
/-- a def of the top: where it stands, what its name holds, how it binds -/
structure Df (K : PySem.W.Frag) (mg : Str → Option Value) (x : Str) (st : Stmt) (ps : List Str) (f : Addr) (fd : FuncData) : Prop where
  F : Fun K x x st f fd
  g : mg x = some (.ref f)
  b : Binds K fd ps []
theorem Df.kp {K : PySem.W.Frag} {mg : Str → Option Value} {x : Str} {st : Stmt} {ps : List Str} {f : Addr} {fd : FuncData} (d : Df K mg x st ps f fd) : PySem.W.keepIn K (.ref f) = true := d.F.kp
theorem same_new {H : Hp} {p : Addr} {o : HO} (h : H p = none) : Same H (upd H p o) := fun b u e => by
  rw [upd_ne (ne_of_none e h)]
  exact e
theorem Same.tup {K : PySem.W.Frag} {H H' : Hp} {a : Addr} {xs : List V} (e : Same H H') (h : SqT K H a xs) : SqT K H' a xs := by
  rcases h with (h | ⟨o, h⟩) | h
  · exact .inl (.inl (e _ _ h))
  · exact .inl (.inr ⟨o, e _ _ h⟩)
  · exact .inr h
/-- the bag of a law: the script's ints at l, how many are taken, what is left of a great one, the seed -/
def BagAt (b l : Addr) (H : Hp) : Prop := ∃ (ns : List Int) (i c s : Int), H b = some (.lst [.ref l, .int i, .int c, .int s]) ∧ H l = some (.lst (ns.map V.int)) ∧ ns.length ≤ 63 ∧ 0 ≤ i ∧ i ≤ (ns.length : Int) ∧ 0 ≤ c ∧ 0 ≤ s ∧ s < 2147483647
/-- G: all that is known apart from the bag at b, l -/
structure Wd (b l : Addr) (G H : Hp) : Prop where
  nb : G b = none
  nl : G l = none
  sm : Same G H
  bag : BagAt b l H
section
variable {b l p q : Addr} {G G' H H' : Hp} {o o' : HO}
theorem BagAt.b_some (h : BagAt b l H) : ∃ o, H b = some o := by
  obtain ⟨_, _, _, _, h, _⟩ := h
  exact ⟨_, h⟩
theorem BagAt.l_some (h : BagAt b l H) : ∃ o, H l = some o := by
  obtain ⟨_, _, _, _, _, h, _⟩ := h
  exact ⟨_, h⟩
theorem BagAt.same (h : BagAt b l H) (e : Same H H') : BagAt b l H' := by
  obtain ⟨ns, i, c, s, h1, h2, r⟩ := h
  exact ⟨ns, i, c, s, e _ _ h1, e _ _ h2, r⟩
theorem Wd.b_ne (w : Wd b l G H) (hp : H p = none) : p ≠ b := fun z => by
  obtain ⟨o, e⟩ := w.bag.b_some
  rw [← z, hp] at e
  cases e
theorem Wd.l_ne (w : Wd b l G H) (hp : H p = none) : p ≠ l := fun z => by
  obtain ⟨o, e⟩ := w.bag.l_some
  rw [← z, hp] at e
  cases e
theorem Wd.same (w : Wd b l G H) (e : Same H H') : Wd b l G H' := ⟨w.nb, w.nl, w.sm.trans e, w.bag.same e⟩
/-- a new object -/
theorem Wd.new (w : Wd b l G H) (hp : H p = none) : Wd b l (upd G p o) (upd H p o) := by
  refine ⟨?_, ?_, fun a u e => ?_, w.bag.same (same_new hp)⟩
  · rw [upd_ne (w.b_ne hp).symm]
    exact w.nb
  · rw [upd_ne (w.l_ne hp).symm]
    exact w.nl
  · by_cases h : a = p
    · rw [h, upd_same] at e ⊢
      exact e
    · rw [upd_ne h] at e ⊢
      exact w.sm _ _ e
theorem Wd.free (w : Wd b l G H) (hp : H p = none) : G p = none := w.sm.free hp
theorem Wd.sameG (w : Wd b l G H) (hp : H p = none) : Same G (upd G p o) := same_new (w.free hp)
/-- an object that is known changes -/
theorem Wd.mut (w : Wd b l G H) (hq : G q = some o) : Wd b l (upd G q o') (upd H q o') := by
  have nb : q ≠ b := fun z => by
    rw [z, w.nb] at hq
    cases hq
  have nl : q ≠ l := fun z => by
    rw [z, w.nl] at hq
    cases hq
  obtain ⟨ns, i, c, s, h1, h2, r⟩ := w.bag
  refine ⟨?_, ?_, fun a u e => ?_, ns, i, c, s, ?_, ?_, r⟩
  · rw [upd_ne nb.symm]
    exact w.nb
  · rw [upd_ne nl.symm]
    exact w.nl
  · by_cases h : a = q
    · rw [h, upd_same] at e ⊢
      exact e
    · rw [upd_ne h] at e ⊢
      exact w.sm _ _ e
  · rw [upd_ne nb.symm]
    exact h1
  · rw [upd_ne nl.symm]
    exact h2
/-- what a def leaves that knows nothing of the bag: G' has more, new things -/
theorem Wd.grow (w : Wd b l G H) (e : Same H H') (g : Same G' H') (n : ∀ a o, G' a = some o → G a = none → H a = none) : Wd b l G' H' := by
  have key : ∀ a, G a = none → (∃ o, H a = some o) → G' a = none := fun a ha ⟨o, ho⟩ => by
    cases q : G' a with
    | none => rfl
    | some u =>
      have z := n a u q ha
      rw [ho] at z
      cases z
  exact ⟨key _ w.nb w.bag.b_some, key _ w.nl w.bag.l_some, g, w.bag.same e⟩
/-- the bag alone changes -/
theorem Wd.bagged (w : Wd b l G H) (h : BagAt b l (upd H b o)) : Wd b l G (upd H b o) := by
  refine ⟨w.nb, w.nl, fun a u e => ?_, h⟩
  rw [upd_ne (ne_of_none e w.nb)]
  exact w.sm _ _ e
end
theorem p31 : (0 : Int) < 2147483647 := by decide
theorem p8117 : (0 : Int) < 8117 := by decide
/-! ### the promises of the bag's defs -/
def spBag (K : PySem.W.Frag) : Sp := fun vs H Q _ => ∃ (a : Addr) (ns : List Int), vs = [.ref a] ∧ SqL K H a (ns.map V.int) ∧ ns.length ≤ 63 ∧ ∀ (b l : Addr) (H' : Hp), H b = none → H l = none → Same H H' → BagAt b l H' → Q (.ref b) H'
def spDraw : Sp := fun vs H Q _ => ∃ (b l : Addr) (G : Hp) (n : Int), vs = [.ref b, .int n] ∧ 0 < n ∧ n < 1073741824 ∧ Wd b l G H ∧ ∀ (r : Int) (H' : Hp), 0 ≤ r → r < n → Wd b l G H' → Q (.int r) H'
/-- the same, by what any def that draws may lean on -/
theorem wd_start {b l : Addr} {H H' : Hp} (hb : H b = none) (hl : H l = none) (e : Same H H') (h : BagAt b l H') : Wd b l H H' := ⟨hb, hl, e, h⟩
theorem get_map {ns : List Int} {i : Nat} {v : V} (h : (ns.map V.int)[i]? = some v) : ∃ z, ns[i]? = some z ∧ v = .int z := by
  rw [List.getElem?_map] at h
  cases e : ns[i]? with
  | none =>
    rw [e] at h
    cases h
  | some z =>
    rw [e] at h
    exact ⟨z, rfl, (Option.some.inj h).symm⟩
theorem at_nn {α : Type} {xs : List α} {i : Int} {v : α} (h0 : 0 ≤ i) (h : xs[i.toNat]? = some v) : atI xs i = some v := by
  have e : i = ((i.toNat : Nat) : Int) := by omega
  rw [e]
  exact atI_nat h
theorem at_lt {α : Type} {xs : List α} {i : Int} (h0 : 0 ≤ i) (h1 : i < (xs.length : Int)) : ∃ v, atI xs i = some v ∧ v ∈ xs := by
  have h : i.toNat < xs.length := by omega
  exact ⟨xs[i.toNat], at_nn h0 (List.getElem?_eq_getElem h), List.getElem_mem h⟩
end Bh

set_option Elab.async false
set_option linter.all false
set_option maxRecDepth 100000
namespace Bh
open PySem PySem.Spec PyProof.Rows L2
/-! ### one of two rules -/
section
variable {X : Cx}
theorem pe_or {e : Expr} {t u : TE} (h1 : PE X e t) (h2 : PE X e u) : PE X e (fun σ H Q => t σ H Q ∨ u σ H Q) :=
  ⟨fun pins s σ H Q I h => h.elim (h1.run pins s σ H Q I) (h2.run pins s σ H Q I)⟩
theorem pi_or {tg it : Expr} {w v : TI} (h1 : PI X tg it w) (h2 : PI X tg it v) : PI X tg it (fun σ H R => w σ H R ∨ v σ H R) :=
  ⟨fun pins s σ H R I h => h.elim (h1.run pins s σ H R I) (h2.run pins s σ H R I)⟩
/-- a list or a tuple -/
theorem pi_seq {tg l : Expr} {tl : TE} (hl : PE X l tl) : PI X tg l (fun σ H R => iList X.K tl σ H R ∨ iTup X.K tl σ H R) := pi_or (pi_list hl) (pi_tup hl)
/-- f(k = v, ..) -/
theorem pe_callN0 {CX : CXT} {k : Nat} {f : Addr} {fd : FuncData} {ps ks : List Str} {sp : Sp} {E : XK} {x : Str} {p pos : Pos} {kws : List Keyword} {tk : TA} {g : List Value → List Value → List Value} {gV : List V → List V → List V}
    (F : FnOk X.prog X.w X.K X.mg X.base CX k f fd ps sp) (hr : Room k X.A) (hg : Gl X x) (hm : X.mg x = some (.ref f)) (hk : PySem.W.keepIn X.K (.ref f) = true) (hb : KBn X.K fd ps 0 ks g gV) (hx : Passes CX X E)
    (hkw : PK X kws tk) (hall : (backToKw pos (keywordEach kws X.env)).all (·.1.isSome) = true := by rfl) (hks : (backToKw pos (keywordEach kws X.env)).filterMap (·.1) = ks := by rfl)
    (hdb : (x == ("__debug__" : Str)) = false := by decide) (hpl : ((backTo pos (starEach [] X.env)).any (·.1) || (backToKw pos (keywordEach kws X.env)).any (·.1.isNone)) = false := by rfl) :
    PE X (.Call (.Name x p) [] kws pos) (tCallN 0 ks.length sp gV E tNil tk) := by
  refine ⟨fun pins s σ H Q I h => ?_⟩
  refine wpAny_Call_Name_kw (ld_glob I hg hm ?_ hdb)
  refine PySem.W.callWith_KW0 (h₀ := X.base) I.ok.mod.kin hk hall ?_ hpl
  refine thn (hkw.run pos pins s σ H _ I h) fun ws s2 ⟨zs, H2, I2, rz, l1, l2, q2⟩ => ⟨I2.kIn, ?_⟩
  rw [hks]
  exact run_fnN (us := []) (vs := []) F hr hb hx I2 .nil rz rfl l2 q2
end
/-! ### data of any depth -/
section
variable {K : PySem.W.Frag} {H H' : Hp} {v x y : V} {xs ys : List V} {d e : PyData} {ds es : List PyData} {a : Addr}
mutual
theorem Dp.mono (g : Same H H') : ∀ {v : V} {d : PyData}, Dp K H v d → Dp K H' v d
  | _, _, .non => .non
  | _, _, .bl b => .bl b
  | _, _, .int i => .int i
  | _, _, .str x => .str x
  | _, _, .lst h all => .lst (g.seq h) (DpAll.mono g all)
  | _, _, .tup h all => .tup (Same.tup g h) (DpAll.mono g all)
theorem DpAll.mono (g : Same H H') : ∀ {vs : List V} {ds : List PyData}, DpAll K H vs ds → DpAll K H' vs ds
  | _, _, .nil => .nil
  | _, _, .cons h t => .cons (Dp.mono g h) (DpAll.mono g t)
end
theorem DpAll.length : ∀ {xs : List V} {ds : List PyData}, DpAll K H xs ds → xs.length = ds.length
  | _, _, .nil => rfl
  | _, _, .cons _ t => congrArg Nat.succ (DpAll.length t)
theorem DpAll.get : ∀ {xs : List V} {ds : List PyData} {i : Nat} {x : V}, DpAll K H xs ds → xs[i]? = some x → ∃ d, ds[i]? = some d ∧ Dp K H x d
  | _, _, _, _, .nil, e => by simp at e
  | _, _, 0, _, .cons h _, e => by
    simp at e
    subst e
    exact ⟨_, rfl, h⟩
  | _, _, i + 1, x, .cons _ t, e => by
    obtain ⟨d, h1, h2⟩ := DpAll.get (i := i) (x := x) t (by simpa using e)
    exact ⟨d, by simpa using h1, h2⟩
theorem DpAll.getD : ∀ {xs : List V} {ds : List PyData} {i : Nat} {d : PyData}, DpAll K H xs ds → ds[i]? = some d → ∃ x, xs[i]? = some x ∧ Dp K H x d
  | _, _, _, _, .nil, e => by simp at e
  | _, _, 0, _, .cons h _, e => by
    simp at e
    subst e
    exact ⟨_, rfl, h⟩
  | _, _, i + 1, x, .cons _ t, e => by
    obtain ⟨d, h1, h2⟩ := DpAll.getD (i := i) (d := x) t (by simpa using e)
    exact ⟨d, by simpa using h1, h2⟩
theorem DpAll.append : ∀ {xs ys : List V} {ds es : List PyData}, DpAll K H xs ds → DpAll K H ys es → DpAll K H (xs ++ ys) (ds ++ es)
  | _, _, _, _, .nil, k => k
  | _, _, _, _, .cons h t, k => .cons h (DpAll.append t k)
theorem DpAll.take : ∀ {xs : List V} {ds : List PyData} (n : Nat), DpAll K H xs ds → DpAll K H (xs.take n) (ds.take n)
  | _, _, 0, _ => .nil
  | _, _, _ + 1, .nil => .nil
  | _, _, n + 1, .cons h t => .cons h (DpAll.take n t)
theorem DpAll.drop : ∀ {xs : List V} {ds : List PyData} (n : Nat), DpAll K H xs ds → DpAll K H (xs.drop n) (ds.drop n)
  | _, _, 0, h => h
  | _, _, _ + 1, .nil => .nil
  | _, _, n + 1, .cons _ t => DpAll.drop n t
theorem dp_strs : ∀ {xs : List V} {zs : List Str}, DpAll K H xs (zs.map PyData.str) → xs = zs.map V.str
  | _, [], .nil => rfl
  | _, z :: zs, .cons h t => by
    cases h
    rw [dp_strs t]
    rfl
theorem strs_dp : ∀ (zs : List Str), DpAll K H (zs.map V.str) (zs.map PyData.str)
  | [] => .nil
  | z :: zs => .cons (.str z) (strs_dp zs)
theorem dp_str {z : Str} (h : Dp K H v (.str z)) : v = .str z := by
  cases h
  rfl
theorem dp_non (h : Dp K H v .none) : v = .non := by
  cases h
  rfl
theorem dp_tup (h : Dp K H v (.tuple ds)) : ∃ a xs, v = .ref a ∧ SqT K H a xs ∧ DpAll K H xs ds := by
  cases h with
  | tup h1 h2 => exact ⟨_, _, rfl, h1, h2⟩
theorem dp_lst (h : Dp K H v (.list ds)) : ∃ a xs, v = .ref a ∧ SqL K H a xs ∧ DpAll K H xs ds := by
  cases h with
  | lst h1 h2 => exact ⟨_, _, rfl, h1, h2⟩
theorem dpa_cons (h : DpAll K H xs (d :: ds)) : ∃ x r, xs = x :: r ∧ Dp K H x d ∧ DpAll K H r ds := by
  cases h with
  | cons h1 h2 => exact ⟨_, _, rfl, h1, h2⟩
theorem dpa_nil (h : DpAll K H xs []) : xs = [] := by
  cases h
  rfl
/-- a list or a tuple of these -/
def DpS (K : PySem.W.Frag) (H : Hp) (v : V) (ds : List PyData) : Prop := ∃ a xs, v = .ref a ∧ (SqL K H a xs ∨ SqT K H a xs) ∧ DpAll K H xs ds
theorem DpS.mono (g : Same H H') (h : DpS K H v ds) : DpS K H' v ds := by
  obtain ⟨a, xs, e, h1, h2⟩ := h
  exact ⟨a, xs, e, h1.imp g.seq (Same.tup g), DpAll.mono g h2⟩
theorem DpS.ofT (h : Dp K H v (.tuple ds)) : DpS K H v ds := by
  obtain ⟨a, xs, e, h1, h2⟩ := dp_tup h
  exact ⟨a, xs, e, .inr h1, h2⟩
theorem DpS.ofL (h : Dp K H v (.list ds)) : DpS K H v ds := by
  obtain ⟨a, xs, e, h1, h2⟩ := dp_lst h
  exact ⟨a, xs, e, .inl h1, h2⟩
/-- how deep data are -/
inductive Sh : Nat → PyData → Prop
  | non {n : Nat} : Sh n .none
  | bl {n : Nat} {b : Bool} : Sh n (.bool b)
  | int {n : Nat} {i : Int} : Sh n (.int i)
  | str {n : Nat} {z : Str} : Sh n (.str z)
  | lst {n : Nat} {ds : List PyData} (hl : ds.length ≤ 100000) (h : ∀ d ∈ ds, Sh n d) : Sh (n + 1) (.list ds)
  | tup {n : Nat} {ds : List PyData} (hl : ds.length ≤ 100000) (h : ∀ d ∈ ds, Sh n d) : Sh (n + 1) (.tuple ds)
theorem tyL (h : SqL K H a xs) : TyX K H (.ref a) (.type "list") := by
  rcases h with (h | ⟨o, h⟩) | ⟨o, its, n, h1, h2, _⟩
  · exact .base (.lst h)
  · exact .base (.frz h)
  · exact .kList h1 h2
theorem tyT (h : SqT K H a xs) : TyX K H (.ref a) (.type "tuple") := by
  rcases h with (h | ⟨o, h⟩) | ⟨o, its, n, h1, h2, _⟩
  · exact .base (.tup h)
  · exact .fTuple h
  · exact .kTuple h1 h2
/-- the type of data, by its name -/
def tyN : PyData → String
  | .none => "NoneType"
  | .bool _ => "bool"
  | .int _ => "int"
  | .str _ => "str"
  | .list _ => "list"
  | .tuple _ => "tuple"
  | .dict _ => "dict"
theorem tyD (h : Dp K H v d) : TyX K H v (.type (tyN d)) := by
  cases h with
  | non => exact .base .non
  | bl b => exact .base (.bl b)
  | int i => exact .base (.int i)
  | str x => exact .base (.str x)
  | lst h1 h2 => exact tyL h1
  | tup h1 h2 => exact tyT h1
end
/-! ### zip of two tuples, as a walk -/
theorem walk_zipT {K : PySem.W.Frag} {a b : Addr} {xs ys : List V} {n : Nat} (hn : n = min xs.length ys.length) : Walk (RZ.ItzT K a b) n (fun H => SqT K H a xs ∧ SqT K H b ys) (YPair (fun i => xs[i]?) (fun i => ys[i]?)) := by
  subst hn
  refine ⟨fun i _ hi q => ?_, fun _ q => ⟨xs, ys, q.1, q.2, by omega⟩, fun i H v H' _ q y => ?_⟩
  · have h1 : i < xs.length := by omega
    have h2 : i < ys.length := by omega
    exact ⟨xs, ys, xs[i], ys[i], q.1, q.2, by simp [h1], by simp [h2]⟩
  · obtain ⟨T, x, z, h1, h2, h3, h4, h5⟩ := y
    exact ⟨T, x, z, h1, h2, h3, h4 xs q.1, h5 ys q.2⟩
end Bh
namespace Bh
open PySem PySem.Spec PyProof.Rows L2
theorem iteN {p A B : Prop} [Decidable p] (h : ¬ p) (b : B) : if decide p = true then A else B := by
  rw [decide_eq_false h]
  exact iteF b
theorem iteY {p A B : Prop} [Decidable p] (h : p) (a : A) : if decide p = true then A else B := by
  rw [decide_eq_true h]
  exact iteT a
theorem ite3 {p A B : Prop} [Decidable p] (h1 : p → A) (h2 : ¬ p → B) : if decide p = true then A else B := by
  by_cases h : p
  · exact iteY h (h1 h)
  · exact iteN h (h2 h)
/-- the promise of the laws' comparison: both sides are the same data (n: how deep, one more) -/
def spLk (K : PySem.W.Frag) : Nat → Sp
  | 0 => fun _ _ _ _ => False
  | n + 1 => fun vs H Q _ => ∃ (x y : V) (d : PyData), vs = [x, y] ∧ Dp K H x d ∧ Dp K H y d ∧ Sh n d ∧ ∀ H', Same H H' → Q (.bl true) H'
theorem bls_true (n : Nat) : (List.replicate n true).all id = true := by
  induction n with
  | zero => rfl
  | succ n ih => rw [List.replicate_succ, List.all_cons, ih]; rfl
end Bh

set_option Elab.async false
set_option linter.all false
set_option maxRecDepth 100000
namespace Bh
open PySem PySem.Spec PyProof.Rows L2
/-! ### the rules that lean on the written part, told over a named one -/
def rLenS (K : PySem.W.Frag) : List V → Hp → VK → Prop := fun xs H Q => ∃ p ys, xs = [.ref p] ∧ (SqL K H p ys ∨ SqT K H p ys) ∧ Q (.int ys.length) H
def rListOf (K : PySem.W.Frag) : List V → Hp → VK → Prop := fun xs H Q => ∃ p ys, xs = [.ref p] ∧ (SqL K H p ys ∨ SqT K H p ys) ∧ ∀ l, H l = none → Q (.ref l) (upd H l (.lst ys))
def rTupOf (K : PySem.W.Frag) : List V → Hp → VK → Prop := fun xs H Q => ∃ p ys, xs = [.ref p] ∧ ((SqL K H p ys ∧ ∀ l, H l = none → Q (.ref l) (upd H l (.tup ys))) ∨ (SqT K H p ys ∧ Q (.ref p) H))
def rTupIx (K : PySem.W.Frag) : V → List V → Hp → VK → Prop := fun x xs H Q => ∃ p, ∃ ys : List Str, ∃ z j, x = .ref p ∧ xs = [.str z] ∧ SqT K H p (ys.map V.str) ∧ ys[j]? = some z ∧ (∀ m, m < j → ys[m]? ≠ some z) ∧ Q (.int (j : Nat)) H
def rJoin (K : PySem.W.Frag) : V → List V → Hp → VK → Prop := fun x xs H Q => ∃ a p, ∃ ys : List Str, x = .str a ∧ xs = [.ref p] ∧ (SqL K H p (ys.map V.str) ∨ SqT K H p (ys.map V.str)) ∧ (ys.map (·.length)).sum + ys.length * a.length ≤ 16777216 ∧ Q (.str (Txt.join a ys)) H
def iSeq (K : PySem.W.Frag) (tl : TE) : TI := fun σ H R => iList K tl σ H R ∨ iTup K tl σ H R
section
variable {X : Cx} {K : PySem.W.Frag} (hK : X.K = K)
include hK
theorem pg_tup_K {es : List Expr} {k : Nat} {t : TGs} {n : Nat} {pos : Pos} (hc : X.calm = true) (h : PGs X es t) (hn : (assignEach es X.env).length = n := by rfl) (hst : (assignEach es X.env).findIdx? (·.1) = none := by rfl) : PG X (.Tuple es k pos) (gTup K n t) := by
  subst hK
  exact pg_tup hc h hn hst
theorem pi_list_K {tg l : Expr} {tl : TE} (hl : PE X l tl) : PI X tg l (iList K tl) := by subst hK; exact pi_list hl
theorem pi_tup_K {tg l : Expr} {tl : TE} (hl : PE X l tl) : PI X tg l (iTup K tl) := by subst hK; exact pi_tup hl
theorem pi_seq_K {tg l : Expr} {tl : TE} (hl : PE X l tl) : PI X tg l (iSeq K tl) := by subst hK; exact pi_seq hl
theorem pi_zipA_K {e e2 : Expr} {ta : TA} {p pos tpos : Pos} {elts : List Expr} {kk : Nat} (hg : Gl X "zip") (hm : X.mg "zip" = none) (ha : PA X [e, e2] ta)
    (hs : starEach [e, e2] X.env = (false, eval e X.env) :: starEach [e2] X.env := by rfl) (hpl : (backTo pos (starEach [e2] X.env)).any (·.1) = false := by rfl) :
    PI X (.Tuple elts kk tpos) (.Call (.Name "zip" p) [e, e2] [] pos) (RZ.iZipA K ta) := by subst hK; exact RZ.pi_zipA hg hm ha hs hpl
theorem call_len_seq_K : CallR X (.builtin "len") (rLenS K) := by subst hK; exact call_len_seq
theorem call_list_of_K : CallR X (.type "list") (rListOf K) := by subst hK; exact call_list_of
theorem call_tuple_of_K : CallR X (.type "tuple") (rTupOf K) := by subst hK; exact call_tuple_of
theorem ix_list_K : IxR X (rIxL K) := by subst hK; exact ix_list
theorem ix_tup_K : IxR X (rIxT K) := by subst hK; exact ix_tup
theorem ix_seq_K : IxR X (rIx K) := by subst hK; exact ix_seq
theorem sl_list_K : SlR X (rSlL K) := by subst hK; exact sl_list
theorem sl_tupA_K : SlR X (rSlA K) := by subst hK; exact sl_tupA
theorem cr_all_K (hc : X.calm = true) : CallR X (.builtin "all") (rAll K) := by subst hK; exact cr_all hc
theorem cr_any_K (hc : X.calm = true) : CallR X (.builtin "any") (rAny K) := by subst hK; exact cr_any hc
theorem op_in_seq_K : OpR X (compareOp .In) (rIn K false) := by subst hK; exact op_in_seq
theorem op_notIn_seq_K : OpR X (compareOp .NotIn) (rIn K true) := by subst hK; exact op_notIn_seq
theorem op_catA_K : OpR X (binaryOp .Add) (rCatA K) := by subst hK; exact op_catA
theorem op_repT_K : OpR X (binaryOp .Mult) (rRepT K) := by subst hK; exact op_repT
theorem mt_index_K : MtR X "list.index" (rIndex K) := by subst hK; exact mt_index
theorem mt_tup_index_K : MtR X "tuple.index" (rTupIx K) := by subst hK; exact mt_tup_index
theorem mt_join_K : MtR X "str.join" (rJoin K) := by subst hK; exact mt_join
theorem call_isi_K : CallR X (.builtin "isinstance") (rIsi K) := by subst hK; exact call_isi
theorem call_isiT_K : CallR X (.builtin "isinstance") (rIsiT K) := by subst hK; exact call_isiT
theorem op_eqD_K (hu : X.A.units + 64 < cLine) : OpR X (compareOp .Eq) (rEqD K) := by subst hK; exact op_eqD hu
theorem op_neD_K (hu : X.A.units + 64 < cLine) : OpR X (compareOp .NotEq) (rNeD K) := by subst hK; exact op_neD hu
theorem pe_bm_K {o e : Expr} {es : List Expr} {to : TE} {t : TA} {name : Str} {apos cpos : Pos} {T id : String} {r : V → List V → Hp → VK → Prop}
    (pa : PlainAttrs T) (slot : Slot T name id) (hty : typeOf (.builtin id) = pure (.type "method_descriptor")) (hm : MtR X id r) (ho : PE X o to) (ha : PA X (e :: es) t)
    (hbase : attributeBase o name X.env (eval o X.env) = eval o X.env := by rfl)
    (hfew : ((backTo cpos (starEach (e :: es) X.env)).all (fun x => !x.1) && (backToKw cpos (keywordEach [] X.env)).all (fun x => x.1.isSome)
      && decide ((e :: es).length + ([] : List Keyword).length + (if ([] : List Keyword).isEmpty then 0 else 1) < 30)) = true := by rfl)
    (hline : (apos.endLine == cpos.line) = true := by rfl) (hs : starEach (e :: es) X.env = (false, eval e X.env) :: starEach es X.env := by rfl) (hplain : (backTo cpos (starEach es X.env)).any (·.1) = false := by rfl) :
    PE X (.Call (.Attribute o name apos) (e :: es) [] cpos) (tBM K T r to t) := by subst hK; exact pe_bm pa slot hty hm ho ha hbase hfew hline hs hplain
end
section
variable {X : Cx} {K : PySem.W.Frag} {o e : Expr} {to te : TE}
theorem pe_join_K (hK : X.K = K) {apos pos : Pos} (ho : PE X o to) (he : PE X e te) (hs : starEach [e] X.env = [(false, eval e X.env)] := by rfl) (hbase : attributeBase o "join" X.env (eval o X.env) = eval o X.env := by rfl) (hline : (apos.endLine == pos.line) = true := by rfl) :
    PE X (.Call (.Attribute o "join" apos) [e] [] pos) (tM1 (rJoin K) to te) := pe_m1 PySem.F.slot_str_join PySem.F.type_str_join (mt_join_K hK) ho he hs hbase hline
end
end Bh
namespace Bh
open PySem PySem.Spec PyProof.Rows L2
theorem q_eq {x : V} {Q : VK} {H : Hp} (h : Q (.bl true) H) : Q (.bl (decide (x = x))) H := by
  rw [decide_eq_true rfl]
  exact h
theorem dpa_at {K : PySem.W.Frag} {H : Hp} {xs ys : List V} {ds : List PyData} {i : Nat} {x y : V} (hx : DpAll K H xs ds) (hy : DpAll K H ys ds) (ex : xs[i]? = some x) (ey : ys[i]? = some y) : ∃ d ∈ ds, Dp K H x d ∧ Dp K H y d := by
  obtain ⟨d, h1, h2⟩ := DpAll.get hx ex
  obtain ⟨e, h3, h4⟩ := DpAll.get hy ey
  rw [h1] at h3
  cases h3
  exact ⟨d, List.mem_of_getElem? h1, h2, h4⟩
theorem rep_snoc (n : Nat) (v : V) : List.replicate n v ++ [v] = List.replicate (n + 1) v := List.replicate_succ'.symm
theorem lt_line {n : Nat} (h : n ≤ 100000) : n < sizeLine := Nat.lt_of_le_of_lt h (by decide)
theorem le_line {n : Nat} (h : n ≤ 100000) : n ≤ sizeLine := Nat.le_of_lt (lt_line h)
end Bh
namespace Bh
open PySem PySem.Spec PyProof.Rows L2
/-! ### tuples without a dict of their own: their methods -/
def SqP (K : PySem.W.Frag) (H : Hp) (a : Addr) (xs : List V) : Prop := (∃ o : Obj, H a = some (.frz o (.tup xs)) ∧ o.dict = none) ∨
  ∃ (o : Obj) (its : Array Value) (n : Nat), K.lookup a = some o ∧ o.cls = .type "tuple" ∧ o.dict = none ∧ o.data = .seq its n ∧ its.size ≤ sizeLine ∧ Vals xs its.toList
section
variable {K : PySem.W.Frag} {H H' : Hp} {a : Addr} {xs : List V}
theorem SqP.sqT (h : SqP K H a xs) : SqT K H a xs := by
  rcases h with ⟨o, h, _⟩ | ⟨o, its, n, h1, h2, _, h3, h4, h5⟩
  · exact .inl (.inr ⟨o, h⟩)
  · exact .inr ⟨o, its, n, h1, h2, h3, h4, h5⟩
theorem SqP.mono (e : Same H H') (h : SqP K H a xs) : SqP K H' a xs := by
  rcases h with ⟨o, h, h2⟩ | h
  · exact .inl ⟨o, e _ _ h, h2⟩
  · exact .inr h
theorem SqP.new {o : Obj} (h : o.dict = none) : SqP K (upd H a (.frz o (.tup xs))) a xs := .inl ⟨o, upd_same, h⟩
end
def rTupOfP (K : PySem.W.Frag) : List V → Hp → VK → Prop := fun xs H Q => ∃ p ys, xs = [.ref p] ∧ ((SqL K H p ys ∧ ∀ (l : Addr) (o : Obj), H l = none → o.dict = none → Q (.ref l) (upd H l (.frz o (.tup ys)))) ∨ (SqT K H p ys ∧ Q (.ref p) H))
section
variable {X : Cx} {K : PySem.W.Frag}
theorem call_tuple_of_P (hK : X.K = K) : CallR X (.type "tuple") (rTupOfP K) := by
  subst hK
  intro pins s σ H xs us Q I r h
  obtain ⟨p, ys, rfl, h⟩ := h
  obtain ⟨u, rfl, rx⟩ := vals1 r
  cases rx
  rcases h with ⟨hq, q⟩ | ⟨hq, q⟩
  · obtain ⟨its, r', pl, hz⟩ := I.list hq
    have hlen := r'.length
    refine call_tuple_list pl.isList (fun h' kp => ?_) (by simp only [List.size_toArray] <;> omega)
    have I1 : Inv X pins σ H { s with heap := h' } := I.kept (t' := s.toks) kp
    have I2 : Inv X pins σ (upd H h'.objs.size (.frz { cls := .type "tuple", data := .seq its.toArray } (.tup ys))) { s with heap := h'.push { cls := .type "tuple", data := .seq its.toArray } } :=
      I1.laid (t' := s.toks) (fun b o e => Heap.get?_push_of_some _ e) (Nat.le_refl _) (show ObjOk X.prog X.w _ _ _ (.frz { cls := .type "tuple", data := .seq its.toArray } (.tup ys)) from ⟨Heap.get?_push_size _ rfl, hz, its, r', IsTup.new _ _⟩)
    exact ⟨.ref h'.objs.size, _, I2, rfl, q _ _ (I1.hok.fresh (Nat.le_refl _)) rfl⟩
  · obtain ⟨its, r', pl, hz⟩ := I.tuple hq
    exact call_tuple_same pl ⟨.ref p, H, I, rfl, q⟩
def tBMP (K : PySem.W.Frag) (r : V → List V → Hp → VK → Prop) (to : TE) (t : TA) : TE := fun σ H Q => to σ H fun x H1 => (∃ a xs, x = .ref a ∧ SqP K H1 a xs) ∧ t σ H1 fun xs H2 => r x xs H2 Q
theorem pe_bm_P (hK : X.K = K) {o e : Expr} {es : List Expr} {to : TE} {t : TA} {name : Str} {apos cpos : Pos} {id : String} {r : V → List V → Hp → VK → Prop}
    (pa : PlainAttrs "tuple") (slot : Slot "tuple" name id) (hty : typeOf (.builtin id) = pure (.type "method_descriptor")) (hm : MtR X id r) (ho : PE X o to) (ha : PA X (e :: es) t)
    (hbase : attributeBase o name X.env (eval o X.env) = eval o X.env := by rfl)
    (hfew : ((backTo cpos (starEach (e :: es) X.env)).all (fun x => !x.1) && (backToKw cpos (keywordEach [] X.env)).all (fun x => x.1.isSome)
      && decide ((e :: es).length + ([] : List Keyword).length + (if ([] : List Keyword).isEmpty then 0 else 1) < 30)) = true := by rfl)
    (hline : (apos.endLine == cpos.line) = true := by rfl) (hs : starEach (e :: es) X.env = (false, eval e X.env) :: starEach es X.env := by rfl) (hplain : (backTo cpos (starEach es X.env)).any (·.1) = false := by rfl) :
    PE X (.Call (.Attribute o name apos) (e :: es) [] cpos) (tBMP K r to t) := by
  subst hK
  refine ⟨fun pins s σ H Q I h => ?_⟩
  refine wpAny_Call_method_late hbase hfew hline rfl (thn (ho.run pins s σ H _ I h) fun v s1 ⟨x, H1, I1, r1, ty, q1⟩ => ?_)
  have hty2 : s1.TypeIs v "tuple" ∧ ∀ a, v = .ref a → ∃ ob, s1.heap.get? a = some ob ∧ ob.dict = none := by
    obtain ⟨a, xs, rfl, hP⟩ := ty
    cases r1
    obtain ⟨its, _, pl, _⟩ := I1.tuple hP.sqT
    refine ⟨pl.typeIs, fun b e => ?_⟩
    cases e
    rcases hP with ⟨ob, hb, hd⟩ | ⟨ob, its, n, hk, hc, hd, _⟩
    · exact ⟨ob, (I1.hok a _ hb).1, hd⟩
    · exact ⟨ob, I1.kIn a ob hk, hd⟩
  obtain ⟨h1, h2⟩ := hty2
  refine ⟨"tuple", id, pa, slot, hty, h1, h2, ?_⟩
  have hA := ha.run cpos pins s1 σ H1 _ I1 q1
  rw [hs] at hA ⊢
  refine Calls.callWith_builtin (by show (false || (backTo cpos (starEach es X.env)).any (·.1)) = false; rw [hplain] <;> rfl) (Calls.evalArgs_plain ?_)
  exact thn hA fun us s2 ⟨vs, H2, I2, r2, q2⟩ => hm pins s2 σ H2 x vs v us Q I2 r1 r2 q2
end
end Bh
namespace Bh
open PySem PySem.Spec PyProof.Rows L2
/-! ### == and != of data of any texts -/
mutual
theorem Dp.plain {K : PySem.W.Frag} {H : Hp} : ∀ {v : V} {d : PyData}, Dp K H v d → d.plain = true
  | _, _, .non => rfl
  | _, _, .bl _ => rfl
  | _, _, .int _ => rfl
  | _, _, .str _ => rfl
  | _, _, .lst _ all => DpAll.plain all
  | _, _, .tup _ all => DpAll.plain all
theorem DpAll.plain {K : PySem.W.Frag} {H : Hp} : ∀ {vs : List V} {ds : List PyData}, DpAll K H vs ds → PyData.plainAll ds = true
  | _, _, .nil => rfl
  | _, _, .cons h t => by
    show (_ && _) = true
    rw [Dp.plain h, DpAll.plain t]
    rfl
end
def rEqP (K : PySem.W.Frag) : R2 := fun x y H Q => ∃ d e, Dp K H x d ∧ Dp K H y e ∧ min d.depth e.depth ≤ 64 ∧ Q (.bl (PyData.eqv d e)) H
def rNeP (K : PySem.W.Frag) : R2 := fun x y H Q => ∃ d e, Dp K H x d ∧ Dp K H y e ∧ min d.depth e.depth ≤ 64 ∧ Q (.bl (!PyData.eqv d e)) H
section
variable {X : Cx} {K : PySem.W.Frag}
theorem op_eqP (hK : X.K = K) (hu : X.A.units + 64 < cLine) : OpR X (compareOp .Eq) (rEqP K) := by
  subst hK
  intro pins s σ H x y v u Q I rx ry h
  obtain ⟨d, e, hd, he, hz, q⟩ := h
  obtain ⟨as, r1⟩ := Dp.reads I d x v hd rx
  obtain ⟨bs, r2⟩ := Dp.reads I e y u he ry
  exact SeqAt.eq_plain r1 r2 (Dp.plain hd) (Dp.plain he) (by omega) ⟨.bl _, H, I, rfl, q⟩
theorem op_neP (hK : X.K = K) (hu : X.A.units + 64 < cLine) : OpR X (compareOp .NotEq) (rNeP K) := by
  subst hK
  intro pins s σ H x y v u Q I rx ry h
  obtain ⟨d, e, hd, he, hz, q⟩ := h
  obtain ⟨as, r1⟩ := Dp.reads I d x v hd rx
  obtain ⟨bs, r2⟩ := Dp.reads I e y u he ry
  exact SeqAt.ne_plain r1 r2 (Dp.plain hd) (Dp.plain he) (by omega) ⟨.bl _, H, I, rfl, q⟩
end
theorem depth_all {n : Nat} : ∀ {ds : List PyData}, (∀ d ∈ ds, d.depth ≤ n) → PyData.depthAll ds ≤ n
  | [], _ => Nat.zero_le _
  | d :: ds, h => Nat.max_le.mpr ⟨h d (List.mem_cons_self ..), depth_all fun e he => h e (List.mem_cons_of_mem _ he)⟩
theorem Sh.depth {n : Nat} {d : PyData} (h : Sh n d) : d.depth ≤ n := by
  induction h with
  | non => exact Nat.zero_le _
  | bl => exact Nat.zero_le _
  | int => exact Nat.zero_le _
  | str => exact Nat.zero_le _
  | lst _ _ ih => exact Nat.succ_le_succ (depth_all ih)
  | tup _ _ ih => exact Nat.succ_le_succ (depth_all ih)
end Bh
namespace Bh
open PySem PySem.Spec PyProof.Rows L2
theorem seq_mono {K : PySem.W.Frag} {H H' : Hp} {a : Addr} {xs : List V} (e : Same H H') (h : SqL K H a xs ∨ SqT K H a xs) : SqL K H' a xs ∨ SqT K H' a xs := h.imp e.seq (Same.tup e)
/-- a new thing, changed since -/
theorem same_mut {H H' : Hp} {p : Addr} {o : HO} (e : Same H H') (h : H p = none) : Same H (upd H' p o) := fun b u k => by
  rw [upd_ne (ne_of_none k h)]
  exact e _ _ k
theorem Wd.sameH {b l : Addr} {G H : Hp} (w : Wd b l G H) : Same G H := w.sm
end Bh
namespace Bh
open PySem PySem.Spec PyProof.Rows L2
/-! ### a heap without one address -/
def hid (p : Addr) (G : Hp) : Hp := fun a => if a = p then none else G a
section
variable {p q : Addr} {G G' : Hp} {o : HO}
theorem hid_ne (h : q ≠ p) : hid p G q = G q := if_neg h
theorem hid_le : Same (hid p G) G := fun a u e => by
  by_cases h : a = p
  · rw [h] at e
    unfold hid at e
    rw [if_pos rfl] at e
    cases e
  · rw [hid_ne h] at e
    exact e
theorem hid_same (e : Same G G') : Same (hid p G) (hid p G') := fun a u k => by
  by_cases h : a = p
  · rw [h] at k
    unfold hid at k
    rw [if_pos rfl] at k
    cases k
  · rw [hid_ne h] at k ⊢
    exact e _ _ k
theorem hid_upd : hid p (upd G p o) = hid p G := by
  funext a
  by_cases h : a = p
  · unfold hid
    rw [if_pos h, if_pos h]
  · rw [hid_ne h, hid_ne h, upd_ne h]
theorem hid_of (e : Same G G') (h : G p = none) : Same G (hid p G') := fun a u k => by
  rw [hid_ne (ne_of_none k h)]
  exact e _ _ k
theorem hid_comm : hid p (hid q G) = hid q (hid p G) := by
  funext a
  unfold hid
  split <;> split <;> rfl
end
end Bh
namespace Bh
open PySem PySem.Spec PyProof.Rows L2
/-! ### what is no list stays where lists alone change -/
def Imm (H H' : Hp) : Prop := ∀ a u, H a = some u → (∀ xs, u ≠ .lst xs) → H' a = some u
section
variable {H H' H1 : Hp} {a p : Addr} {o : HO} {xs ys : List V} {K : PySem.W.Frag}
theorem Same.imm (e : Same H H') : Imm H H' := fun a u h _ => e a u h
theorem Imm.trans (e : Imm H H1) (f : Imm H1 H') : Imm H H' := fun a u h n => f a u (e a u h n) n
theorem imm_upd (h : H p = some (.lst ys)) : Imm H (upd H p o) := fun a u e n => by
  rw [upd_ne (fun z => by rw [z, h] at e; exact n _ (Option.some.inj e).symm)]
  exact e
theorem Imm.tup (e : Imm H H') (h : SqT K H a xs) : SqT K H' a xs := by
  rcases h with (h | ⟨o, h⟩) | h
  · exact .inl (.inl (e _ _ h (fun _ z => by cases z)))
  · exact .inl (.inr ⟨o, e _ _ h (fun _ z => by cases z)⟩)
  · exact .inr h
theorem Imm.sqp (e : Imm H H') (h : SqP K H a xs) : SqP K H' a xs := by
  rcases h with ⟨o, h, d⟩ | h
  · exact .inl ⟨o, e _ _ h (fun _ z => by cases z), d⟩
  · exact .inr h
end
mutual
def noL : PyData → Bool
  | .none | .bool _ | .int _ | .str _ => true
  | .tuple xs => noLs xs
  | .list _ | .dict _ => false
def noLs : List PyData → Bool
  | [] => true
  | d :: ds => noL d && noLs ds
end
mutual
theorem Dp.imm {K : PySem.W.Frag} {H H' : Hp} (e : Imm H H') : ∀ {v : V} {d : PyData}, noL d = true → Dp K H v d → Dp K H' v d
  | _, _, _, .non => .non
  | _, _, _, .bl b => .bl b
  | _, _, _, .int i => .int i
  | _, _, _, .str x => .str x
  | _, _, n, .lst _ _ => nomatch n
  | _, _, n, .tup h all => .tup (e.tup h) (DpAll.imm e n all)
theorem DpAll.imm {K : PySem.W.Frag} {H H' : Hp} (e : Imm H H') : ∀ {vs : List V} {ds : List PyData}, noLs ds = true → DpAll K H vs ds → DpAll K H' vs ds
  | _, _, _, .nil => .nil
  | _, _, n, .cons h t => .cons (Dp.imm e (Bool.and_eq_true_iff.mp n).1 h) (DpAll.imm e (Bool.and_eq_true_iff.mp n).2 t)
end
theorem noLs_map {α : Type} {f : α → PyData} (h : ∀ x, noL (f x) = true) : ∀ l : List α, noLs (l.map f) = true
  | [] => rfl
  | x :: l => by
    show (noL (f x) && noLs (l.map f)) = true
    rw [h x, noLs_map h l]
    rfl
end Bh

set_option Elab.async false
set_option linter.all false
set_option maxRecDepth 100000
namespace Bh
open PySem PySem.Spec PyProof.Rows L2
/-! ### the mirror of programs applied -/
def ix : List Str → Str → Nat
  | [], _ => 0
  | y :: r, x => if y = x then 0 else ix r x + 1
theorem ix_get : ∀ {l : List Str} {x : Str}, x ∈ l → l[ix l x]? = some x
  | y :: r, x, h => by
    unfold ix
    by_cases e : y = x
    · rw [if_pos e, e]
      rfl
    · rw [if_neg e]
      rcases List.mem_cons.mp h with z | z
      · exact absurd z.symm e
      · simpa using ix_get z
theorem ix_first : ∀ {l : List Str} {x : Str} {m : Nat}, m < ix l x → l[m]? ≠ some x
  | [], _, _, h => absurd h (Nat.not_lt_zero _)
  | y :: r, x, m, h => by
    unfold ix at h
    by_cases e : y = x
    · rw [if_pos e] at h
      exact absurd h (Nat.not_lt_zero _)
    · rw [if_neg e] at h
      cases m with
      | zero =>
        intro z
        exact e (Option.some.inj z)
      | succ m =>
        have q := ix_first (l := r) (x := x) (m := m) (by omega)
        simpa using q
theorem ix_lt {l : List Str} {x : Str} (h : x ∈ l) : ix l x < l.length := (List.getElem?_eq_some_iff.mp (ix_get h)).1
/-- the place of an item of different ones -/
theorem ix_at : ∀ {l : List Str} {i : Nat} {x : Str}, l.Nodup → l[i]? = some x → ix l x = i
  | [], _, _, _, h => by simp at h
  | y :: r, 0, x, _, h => by
    have e : y = x := Option.some.inj h
    unfold ix
    rw [if_pos e]
  | y :: r, i + 1, x, nd, h => by
    have hr : r[i]? = some x := by simpa using h
    have hm : x ∈ r := List.mem_of_getElem? hr
    have nd' := List.nodup_cons.mp nd
    have ne : ¬ y = x := fun z => nd'.1 (z ▸ hm)
    unfold ix
    rw [if_neg ne, ix_at nd'.2 hr]
theorem flat_strs (l : List Str) : (l.map V.str).all flatV = true := by
  rw [List.all_map]
  exact List.all_eq_true.mpr fun _ _ => rfl
theorem eqV_str {a b : Str} : eqV (.str a) (.str b) = decide (a = b) := rfl
theorem ixs_at {l : List Str} {x : Str} (h : x ∈ l) : (l.map V.str)[ix l x]? = some (.str x) := by
  rw [List.getElem?_map, ix_get h]
  rfl
theorem ixs_no {l : List Str} {x : Str} : ∀ (m : Nat) (z : V), m < ix l x → (l.map V.str)[m]? = some z → eqV z (.str x) = false := fun m z hm hz => by
  rw [List.getElem?_map] at hz
  cases e : l[m]? with
  | none =>
    rw [e] at hz
    cases hz
  | some y =>
    rw [e] at hz
    cases hz
    rw [eqV_str]
    refine decide_eq_false fun q => ix_first hm ?_
    rw [e, q]
abbrev Fld := Str × List Str
abbrev Tst := Str × Str × Str
abbrev Stp := Str × Str
abbrev Cas := List Tst × Option (List Stp)
def posOf (fs : List Fld) (x : Str) : Nat := ix (fs.map (·.1)) x
def optsOf (fs : List Fld) (x : Str) : List Str := ((fs[posOf fs x]?).map (·.2)).getD []
def nextO (os : List Str) (o : Str) : Str := os.getD (min (ix os o + 1) (os.length - 1)) o
def holdsT (fs : List Fld) (v : List Str) (t : Tst) : Bool :=
  if t.2.1 = "=" then decide (ix (optsOf fs t.1) (v.getD (posOf fs t.1) Str.empty) = ix (optsOf fs t.1) t.2.2)
  else if t.2.1 = "!" then !decide (ix (optsOf fs t.1) (v.getD (posOf fs t.1) Str.empty) = ix (optsOf fs t.1) t.2.2)
  else if t.2.1 = "<" then decide (ix (optsOf fs t.1) (v.getD (posOf fs t.1) Str.empty) < ix (optsOf fs t.1) t.2.2)
  else decide (ix (optsOf fs t.1) t.2.2 < ix (optsOf fs t.1) (v.getD (posOf fs t.1) Str.empty))
def stepO (fs : List Fld) (v : List Str) (s : Stp) : List Str :=
  v.set (posOf fs s.1) (if s.2 = "+" then nextO (optsOf fs s.1) (v.getD (posOf fs s.1) Str.empty) else s.2)
def stepped (fs : List Fld) (ss : List Stp) (v : List Str) : List Str := ss.foldl (stepO fs) v
def applyP (fs : List Fld) : List Cas → List Str → Option (List Str)
  | [], _ => none
  | c :: r, v => if c.1.all (holdsT fs v) = true then c.2.map (fun ss => stepped fs ss v) else applyP fs r v
def applyH (fs : List Fld) (p : List Cas) : Option (List Str) → Option (List Str)
  | none => none
  | some v => applyP fs p v
/-! what fits -/
def FitV (fs : List Fld) (v : List Str) : Prop := v.length = fs.length ∧ ∀ (i : Nat) (f : Fld) (o : Str), fs[i]? = some f → v[i]? = some o → o ∈ f.2
def FitT (fs : List Fld) (t : Tst) : Prop := t.1 ∈ fs.map (·.1) ∧ t.2.2 ∈ optsOf fs t.1
def FitS (fs : List Fld) (s : Stp) : Prop := s.1 ∈ fs.map (·.1) ∧ (s.2 ≠ "+" → s.2 ∈ optsOf fs s.1)
structure FitC (fs : List Fld) (c : Cas) : Prop where
  t : ∀ t ∈ c.1, FitT fs t
  s : ∀ ss, c.2 = some ss → ∀ s ∈ ss, FitS fs s
  lt : c.1.length ≤ 1000
  ls : ∀ ss, c.2 = some ss → ss.length ≤ 1000
theorem pos_at {fs : List Fld} {x : Str} (h : x ∈ fs.map (·.1)) : ∃ f, fs[posOf fs x]? = some f ∧ f.1 = x ∧ f.2 = optsOf fs x := by
  have q := ix_get h
  rw [List.getElem?_map] at q
  unfold optsOf
  show ∃ f, fs[posOf fs x]? = some f ∧ _
  have q' : (fs[posOf fs x]?).map (·.1) = some x := q
  cases e : fs[posOf fs x]? with
  | none =>
    rw [e] at q'
    cases q'
  | some f =>
    rw [e] at q'
    exact ⟨f, rfl, Option.some.inj q', rfl⟩
theorem fit_at {fs : List Fld} {v : List Str} {x : Str} (hv : FitV fs v) (h : x ∈ fs.map (·.1)) : ∃ o, v[posOf fs x]? = some o ∧ o ∈ optsOf fs x ∧ v.getD (posOf fs x) Str.empty = o := by
  obtain ⟨f, h1, h2, h3⟩ := pos_at h
  have hl : posOf fs x < v.length := by
    rw [hv.1]
    exact (List.getElem?_eq_some_iff.mp h1).1
  refine ⟨v[posOf fs x], List.getElem?_eq_getElem hl, ?_, ?_⟩
  · rw [← h3]
    exact hv.2 _ _ _ h1 (List.getElem?_eq_getElem hl)
  · rw [List.getD_eq_getElem?_getD, List.getElem?_eq_getElem hl]
    rfl
theorem next_mem {os : List Str} {o : Str} (h : o ∈ os) : os[min (ix os o + 1) (os.length - 1)]? = some (nextO os o) ∧ nextO os o ∈ os := by
  have hl := ix_lt h
  have hm : min (ix os o + 1) (os.length - 1) < os.length := by omega
  have e : os[min (ix os o + 1) (os.length - 1)]? = some (nextO os o) := by
    unfold nextO
    rw [List.getD_eq_getElem?_getD, List.getElem?_eq_getElem hm]
    rfl
  exact ⟨e, List.mem_of_getElem? e⟩
theorem step_fit {fs : List Fld} {v : List Str} {s : Stp} (hv : FitV fs v) (hs : FitS fs s) : FitV fs (stepO fs v s) := by
  refine ⟨by unfold stepO; rw [List.length_set]; exact hv.1, fun i f o hf ho => ?_⟩
  unfold stepO at ho
  obtain ⟨f', h1, h2, h3⟩ := pos_at hs.1
  obtain ⟨o', g1, g2, g3⟩ := fit_at hv hs.1
  rw [List.getElem?_set] at ho
  by_cases e : posOf fs s.1 = i
  · rw [if_pos e] at ho
    have hl : i < v.length := by
      rw [hv.1]
      exact (List.getElem?_eq_some_iff.mp hf).1
    rw [if_pos (e ▸ hl)] at ho
    have ho' := Option.some.inj ho
    rw [e, hf] at h1
    cases h1
    rw [← ho', h3]
    by_cases z : s.2 = "+"
    · rw [if_pos z, g3]
      exact (next_mem g2).2
    · rw [if_neg z]
      exact hs.2 z
  · rw [if_neg e] at ho
    exact hv.2 i f o hf ho
theorem stepped_fit {fs : List Fld} : ∀ {ss : List Stp} {v : List Str}, (∀ s ∈ ss, FitS fs s) → FitV fs v → FitV fs (stepped fs ss v)
  | [], _, _, hv => hv
  | s :: ss, v, h, hv => stepped_fit (ss := ss) (v := stepO fs v s) (fun s' hs' => h s' (List.mem_cons_of_mem _ hs')) (step_fit hv (h s (List.mem_cons_self ..)))
theorem stepped_take {fs : List Fld} {ss : List Stp} {v : List Str} {i : Nat} {s : Stp} (h : ss[i]? = some s) : stepped fs (ss.take (i + 1)) v = stepO fs (stepped fs (ss.take i) v) s := by
  unfold stepped
  rw [List.take_add_one, h, List.foldl_append]
  rfl
/-! as data -/
def dF (f : Fld) : PyData := .tuple [.str f.1, .tuple (f.2.map PyData.str)]
def dT (t : Tst) : PyData := .tuple [.str t.1, .str t.2.1, .str t.2.2]
def dS (s : Stp) : PyData := .tuple [.str s.1, .str s.2]
def dO : Option (List Stp) → PyData
  | none => .none
  | some ss => .tuple (ss.map dS)
def dC (c : Cas) : PyData := .tuple [.tuple (c.1.map dT), dO c.2]
def dV (v : List Str) : PyData := .tuple (v.map PyData.str)
def dH : Option (List Str) → PyData
  | none => .none
  | some v => dV v
section
variable {K : PySem.W.Frag} {H : Hp} {v : V}
theorem dp_dF {f : Fld} (h : Dp K H v (dF f)) : ∃ a o, v = .ref a ∧ SqT K H a [.str f.1, .ref o] ∧ SqT K H o (f.2.map V.str) := by
  obtain ⟨a, xs, rfl, h1, h2⟩ := dp_tup h
  obtain ⟨x, r, rfl, k1, k2⟩ := dpa_cons h2
  obtain ⟨y, r', rfl, k3, k4⟩ := dpa_cons k2
  cases dpa_nil k4
  cases dp_str k1
  obtain ⟨o, ys, rfl, m1, m2⟩ := dp_tup k3
  rw [dp_strs m2] at m1
  exact ⟨a, o, rfl, h1, m1⟩
theorem dp_dT {t : Tst} (h : Dp K H v (dT t)) : ∃ a, v = .ref a ∧ SqT K H a [.str t.1, .str t.2.1, .str t.2.2] := by
  obtain ⟨a, xs, rfl, h1, h2⟩ := dp_tup h
  obtain ⟨x, r, rfl, k1, k2⟩ := dpa_cons h2
  obtain ⟨y, r', rfl, k3, k4⟩ := dpa_cons k2
  obtain ⟨z, r'', rfl, k5, k6⟩ := dpa_cons k4
  cases dpa_nil k6
  cases dp_str k1
  cases dp_str k3
  cases dp_str k5
  exact ⟨a, rfl, h1⟩
theorem dp_dS {s : Stp} (h : Dp K H v (dS s)) : ∃ a, v = .ref a ∧ SqT K H a [.str s.1, .str s.2] := by
  obtain ⟨a, xs, rfl, h1, h2⟩ := dp_tup h
  obtain ⟨x, r, rfl, k1, k2⟩ := dpa_cons h2
  obtain ⟨y, r', rfl, k3, k4⟩ := dpa_cons k2
  cases dpa_nil k4
  cases dp_str k1
  cases dp_str k3
  exact ⟨a, rfl, h1⟩
theorem dp_dC {c : Cas} (h : Dp K H v (dC c)) : ∃ a t y, v = .ref a ∧ SqT K H a [.ref t, y] ∧ Dp K H (.ref t) (.tuple (c.1.map dT)) ∧ Dp K H y (dO c.2) := by
  obtain ⟨a, xs, rfl, h1, h2⟩ := dp_tup h
  obtain ⟨x, r, rfl, k1, k2⟩ := dpa_cons h2
  obtain ⟨y, r', rfl, k3, k4⟩ := dpa_cons k2
  cases dpa_nil k4
  obtain ⟨t, ys, rfl, m1, m2⟩ := dp_tup k1
  exact ⟨a, t, y, rfl, h1, .tup m1 m2, k3⟩
theorem dp_dV {w : List Str} (h : Dp K H v (dV w)) : ∃ a, v = .ref a ∧ SqT K H a (w.map V.str) := by
  obtain ⟨a, xs, rfl, h1, h2⟩ := dp_tup h
  rw [dp_strs h2] at h1
  exact ⟨a, rfl, h1⟩
theorem dV_dp {w : List Str} {a : Addr} (h : SqT K H a (w.map V.str)) : Dp K H (.ref a) (dV w) := .tup h (strs_dp w)
end
/-! fields as they stand: the options are tuples of which .index is asked -/
def FdAt (K : PySem.W.Frag) (H : Hp) (v : V) (f : Fld) : Prop := ∃ a o, v = .ref a ∧ SqT K H a [.str f.1, .ref o] ∧ SqP K H o (f.2.map V.str)
def FsAt (K : PySem.W.Frag) (H : Hp) (v : V) (fs : List Fld) : Prop := ∃ a xs, v = .ref a ∧ (SqL K H a xs ∨ SqT K H a xs) ∧ Paired (FdAt K H) xs fs
section
variable {K : PySem.W.Frag} {H H' : Hp} {v : V} {f : Fld} {fs : List Fld} {xs : List V}
theorem FdAt.mono (e : Same H H') (h : FdAt K H v f) : FdAt K H' v f := by
  obtain ⟨a, o, h1, h2, h3⟩ := h
  exact ⟨a, o, h1, Same.tup e h2, h3.mono e⟩
theorem fds_mono (e : Same H H') : ∀ {xs : List V} {fs : List Fld}, Paired (FdAt K H) xs fs → Paired (FdAt K H') xs fs
  | _, _, .nil => .nil
  | _, _, .cons h t => .cons (h.mono e) (fds_mono e t)
theorem FsAt.mono (e : Same H H') (h : FsAt K H v fs) : FsAt K H' v fs := by
  obtain ⟨a, xs, h1, h2, h3⟩ := h
  exact ⟨a, xs, h1, h2.imp e.seq (Same.tup e), fds_mono e h3⟩
theorem FdAt.dp (h : FdAt K H v f) : Dp K H v (dF f) := by
  obtain ⟨a, o, rfl, h2, h3⟩ := h
  exact .tup h2 (.cons (.str _) (.cons (.tup h3.sqT (strs_dp _)) .nil))
theorem fds_dp : ∀ {xs : List V} {fs : List Fld}, Paired (FdAt K H) xs fs → DpAll K H xs (fs.map dF)
  | _, _, .nil => .nil
  | _, _, .cons h t => .cons h.dp (fds_dp t)
theorem FsAt.dpS (h : FsAt K H v fs) : DpS K H v (fs.map dF) := by
  obtain ⟨a, xs, h1, h2, h3⟩ := h
  exact ⟨a, xs, h1, h2, fds_dp h3⟩
theorem fds_get : ∀ {xs : List V} {fs : List Fld} {i : Nat} {f : Fld}, Paired (FdAt K H) xs fs → fs[i]? = some f → ∃ x, xs[i]? = some x ∧ FdAt K H x f
  | _, _, _, _, .nil, e => by simp at e
  | _, _, 0, _, .cons h _, e => by
    simp at e
    subst e
    exact ⟨_, rfl, h⟩
  | _, _, i + 1, f, .cons _ t, e => by
    obtain ⟨x, h1, h2⟩ := fds_get (i := i) (f := f) t (by simpa using e)
    exact ⟨x, by simpa using h1, h2⟩
/-- fields[i][1], for the place i of a field x -/
theorem FsAt.opts {x : Str} (h : FsAt K H v fs) (hx : x ∈ fs.map (·.1)) : ∃ a xs t o, v = .ref a ∧ (SqL K H a xs ∨ SqT K H a xs) ∧ atI xs ((posOf fs x : Nat) : Int) = some (.ref t) ∧ SqT K H t [.str x, .ref o] ∧ SqP K H o ((optsOf fs x).map V.str) := by
  obtain ⟨a, xs, h1, h2, h3⟩ := h
  obtain ⟨f, k1, k2, k3⟩ := pos_at hx
  obtain ⟨y, m1, t, o, rfl, m2, m3⟩ := fds_get h3 k1
  rw [k2] at m2
  rw [k3] at m3
  exact ⟨a, xs, t, o, h1, h2, atI_nat m1, m2, m3⟩
end
/-! ### walks over a list or a tuple at a name -/
theorem iSeqV {K : PySem.W.Frag} {σ : L2.St} {H : Hp} {i : Nat} {a : Addr} {xs : List V} {R : It → Hp → Prop} (hσ : σ[i]? = some (some (.ref a))) (h : SqL K H a xs ∨ SqT K H a xs)
    (k : ∀ (J : It) (G : Hp → Prop), Walk J xs.length G (YAt xs) → (∀ H', Same H H' → G H') → R J H) : iSeq K (tVar i) σ H R := by
  rcases h with h | h
  · exact .inl ⟨.ref a, hσ, a, rfl, ⟨xs, h⟩, k _ _ walk_list fun H' e => e.seq h⟩
  · exact .inr ⟨.ref a, hσ, a, rfl, ⟨xs, h⟩, k _ _ walk_tup fun H' e => Same.tup e h⟩
end Bh
namespace Bh
open PySem PySem.Spec PyProof.Rows L2
theorem rIx_go {K : PySem.W.Frag} {H : Hp} {a : Addr} {xs : List V} {i : Int} {v : V} {Q : VK} (h : SqL K H a xs ∨ SqT K H a xs) (e : atI xs i = some v) (q : Q v H) : rIx K (.ref a) (.int i) H Q := by
  rcases h with h | h
  · exact .inl ⟨a, xs, i, v, rfl, rfl, h, e, q⟩
  · exact .inr (.inl ⟨a, xs, i, v, rfl, rfl, h, e, q⟩)
theorem dec_int {m n : Nat} : decide (V.int (m : Int) = V.int (n : Int)) = decide (m = n) := by
  refine decide_eq_decide.mpr ⟨fun h => ?_, fun h => by rw [h]⟩
  have e := V.int.inj h
  omega
theorem dec_lt {m n : Nat} : decide ((m : Int) < (n : Int)) = decide (m < n) := decide_eq_decide.mpr ⟨fun h => by omega, fun h => by omega⟩
theorem str_ne {a b : Str} (h : ¬ V.str a = V.str b) : a ≠ b := fun e => h (by rw [e])
end Bh

set_option Elab.async false
set_option linter.all false
set_option maxRecDepth 100000
namespace Bh
open PySem PySem.Spec PyProof.Rows L2
/-! ### what is drawn: names, options, fields, cases, programs -/
def pool : List Str := ["0", "1", "2", "10", "a", "b", "far", "x9", "zzzzzzzz", "7up"]
def tails : List Str := ["", "a", "qq", "xyz", "mmmmmmm"]
def letters : Str := "abcdefghijklmnopqrstuvwxyz"
theorem pool_nodup : pool.Nodup := by decide +kernel
theorem perm_strs {l : List Str} {ys : List V} (h : ys.Perm (l.map V.str)) : ∃ zs : List Str, zs.Perm l ∧ ys = zs.map V.str := by
  let g : V → Str := fun v => match v with
    | .str z => z
    | _ => Str.empty
  refine ⟨ys.map g, ?_, ?_⟩
  · have q := h.map g
    rw [List.map_map] at q
    have e : (g ∘ V.str) = id := by
      funext z
      rfl
    rw [e, List.map_id] at q
    exact q
  · rw [List.map_map]
    have q : ∀ v ∈ ys, (V.str ∘ g) v = v := fun v hv => by
      obtain ⟨z, _, rfl⟩ := List.mem_map.mp (h.mem_iff.mp hv)
      rfl
    rw [List.map_congr_left q, List.map_id']
/-- a name: one to eight lowercase letters -/
structure IsNm (w : Str) : Prop where
  lo : 1 ≤ w.length
  hi : w.length ≤ 8
  az : ∀ c ∈ w.cps.toList, 97 ≤ c ∧ c ≤ 122
def wordK (z : Str) (k c : Nat) : Str := cutS z none (some (k : Int)) ++ ⟨#[c]⟩ ++ cutS z (some (k : Int)) none
theorem cut_lo (z : Str) (k : Nat) : (cutS z none (some (k : Int))).cps.toList = z.cps.toList.take k := by
  unfold cutS
  rw [HT.sIx_none, HT.sIx_nat]
  show ((z.cps.toList.drop 0).take (min k z.length - 0)) = _
  rw [List.drop_zero, Nat.sub_zero]
  have e1 : z.cps.toList.length = z.cps.size := by simp
  have e2 : z.length = z.cps.size := rfl
  by_cases h : k ≤ z.length
  · rw [Nat.min_eq_left h]
  · rw [Nat.min_eq_right (by omega), List.take_of_length_le (by omega), List.take_of_length_le (by omega)]
theorem cut_hi (z : Str) (k : Nat) (h : k ≤ z.length) : (cutS z (some (k : Int)) none).cps.toList = z.cps.toList.drop k := by
  unfold cutS
  rw [HT.sIx_none, HT.sIx_nat, Nat.min_eq_left h]
  show ((z.cps.toList.drop k).take (z.length - k)) = _
  refine List.take_of_length_le ?_
  rw [List.length_drop]
  have : z.cps.toList.length = z.cps.size := by simp
  have : z.length = z.cps.size := rfl
  omega
theorem wordK_cps (z : Str) (k c : Nat) (h : k ≤ z.length) : (wordK z k c).cps.toList = z.cps.toList.take k ++ (c :: z.cps.toList.drop k) := by
  have e : (wordK z k c).cps = (cutS z none (some (k : Int))).cps ++ #[c] ++ (cutS z (some (k : Int)) none).cps := rfl
  rw [e, Array.toList_append, Array.toList_append, cut_lo, cut_hi z k h]
  simp
theorem wordK_length (z : Str) (k c : Nat) (h : k ≤ z.length) : (wordK z k c).length = z.length + 1 := by
  have e : (wordK z k c).length = (wordK z k c).cps.toList.length := by
    show (wordK z k c).cps.size = _
    simp
  rw [e, wordK_cps z k c h, List.length_append, List.length_take, List.length_cons, List.length_drop]
  have : z.cps.toList.length = z.cps.size := by simp
  have : z.length = z.cps.size := rfl
  omega
theorem wordK_inj {z : Str} {k c d : Nat} (h : k ≤ z.length) (e : wordK z k c = wordK z k d) : c = d := by
  have q := congrArg (fun s : Str => s.cps.toList) e
  simp only [wordK_cps z k _ h] at q
  have q2 := List.append_cancel_left q
  exact (List.cons.inj q2).1
theorem tails_ok : ∀ z ∈ tails, z.length ≤ 7 ∧ ∀ c ∈ z.cps.toList, 97 ≤ c ∧ c ≤ 122 := by
  decide +kernel
theorem wordK_nm {z : Str} (hz : z ∈ tails) {k c : Nat} (h : k ≤ z.length) (h1 : 97 ≤ c) (h2 : c ≤ 122) : IsNm (wordK z k c) := by
  obtain ⟨t1, t2⟩ := tails_ok z hz
  refine ⟨by rw [wordK_length z k c h]; omega, by rw [wordK_length z k c h]; omega, fun d hd => ?_⟩
  rw [wordK_cps z k c h] at hd
  rcases List.mem_append.mp hd with q | q
  · exact t2 d (List.mem_of_mem_take q)
  · rcases List.mem_cons.mp q with q | q
    · rw [q]
      exact ⟨h1, h2⟩
    · exact t2 d (List.mem_of_mem_drop q)
theorem letters_at {j : Int} (h0 : 0 ≤ j) (h1 : j < 26) : atI letters.cps.toList j = some (97 + j.toNat) := by
  have key : ∀ k : _root_.Fin 26, letters.cps.toList[k.val]? = some (97 + k.val) := by decide +kernel
  exact at_nn h0 (key ⟨j.toNat, by omega⟩)
def wordsOf (z : Str) (k : Nat) (s : Int) (n : Nat) : List Str := (List.range n).map fun (i : Nat) => wordK z k (97 + ((s + 5 * (i : Int)) % 26).toNat)
theorem wordsOf_nodup {z : Str} {k : Nat} {s : Int} {n : Nat} (h : k ≤ z.length) (hn : n ≤ 3) : (wordsOf z k s n).Nodup := by
  unfold wordsOf
  refine List.pairwise_map.mpr ((List.pairwise_lt_range (n := n)).imp_of_mem fun {a b} ha hb hab e => ?_)
  have h2 := List.mem_range.mp hb
  have q := wordK_inj h e
  omega
theorem wordsOf_nm {z : Str} (hz : z ∈ tails) {k : Nat} {s : Int} {n : Nat} (h : k ≤ z.length) : ∀ w ∈ wordsOf z k s n, IsNm w := fun w hw => by
  obtain ⟨i, _, rfl⟩ := List.mem_map.mp hw
  exact wordK_nm hz h (by omega) (by omega)
theorem wordsOf_len {z : Str} {k : Nat} {s : Int} {n : Nat} : (wordsOf z k s n).length = n := by
  unfold wordsOf
  rw [List.length_map, List.length_range]
/-- fields as the laws draw them -/
structure FsOk (fs : List Fld) : Prop where
  ne : 1 ≤ fs.length
  le : fs.length ≤ 3
  nd : (fs.map (·.1)).Nodup
  nm : ∀ f ∈ fs, IsNm f.1
  os : ∀ f ∈ fs, f.2.Nodup ∧ 2 ≤ f.2.length ∧ f.2.length ≤ 6 ∧ ∀ o ∈ f.2, o ∈ pool
theorem opts_of {fs : List Fld} (nd : (fs.map (·.1)).Nodup) {f : Fld} (h : f ∈ fs) : optsOf fs f.1 = f.2 := by
  obtain ⟨i, hi⟩ := List.mem_iff_getElem?.mp h
  have e : ix (fs.map (·.1)) f.1 = i := ix_at nd (by rw [List.getElem?_map, hi]; rfl)
  unfold optsOf posOf
  rw [e, hi]
  rfl
/-- signs of tests -/
def signs : List Str := ["=", "!", "<", ">"]
/-! ### promises of the defs that draw -/
def spAny (K : PySem.W.Frag) : Sp := fun vs H Q _ => ∃ (b l a : Addr) (G : Hp) (xs : List V), vs = [.ref b, .ref a] ∧ (SqL K G a xs ∨ SqT K G a xs) ∧ xs ≠ [] ∧ xs.length ≤ 100000 ∧ Wd b l G H ∧ ∀ x H', x ∈ xs → Wd b l G H' → Q x H'
def spMixed (K : PySem.W.Frag) : Sp := fun vs H Q _ => ∃ (b l a : Addr) (G : Hp) (xs : List V), vs = [.ref b, .ref a] ∧ SqL K G a xs ∧ xs.length ≤ 1000 ∧ Wd b l G H ∧
  ∀ (G' H' : Hp) (p : Addr) (ys : List V), Same G G' → Wd b l G' H' → G' p = some (.lst ys) → ys.Perm xs → Q (.ref p) H'
def spWords : Sp := fun vs H Q _ => ∃ (b l : Addr) (G : Hp) (n : Int), vs = [.ref b, .int n] ∧ 0 ≤ n ∧ n ≤ 3 ∧ Wd b l G H ∧
  ∀ (G' H' : Hp) (p : Addr) (ws : List Str), Same G G' → Wd b l G' H' → G' p = some (.lst (ws.map V.str)) → ws.length = n.toNat → ws.Nodup → (∀ w ∈ ws, IsNm w) → Q (.ref p) H'
def spOptions (K : PySem.W.Frag) : Sp := fun vs H Q _ => ∃ (b l : Addr) (G : Hp) (n : Int), vs = [.ref b, .int n] ∧ 2 ≤ n ∧ n ≤ 6 ∧ Wd b l G H ∧
  ∀ (G' H' : Hp) (p : Addr) (os : List Str), Same G G' → Wd b l G' H' → SqP K G' p (os.map V.str) → os.length = n.toNat → os.Nodup → (∀ o ∈ os, o ∈ pool) → Q (.ref p) H'
def spFields (K : PySem.W.Frag) : Sp := fun vs H Q _ => ∃ (b l : Addr) (G : Hp), vs = [.ref b, .int 24] ∧ Wd b l G H ∧
  ∀ (G' H' : Hp) (p : Addr) (xs : List V) (fs : List Fld), Same G G' → Wd b l G' H' → G' p = some (.lst xs) → Paired (FdAt K G') xs fs → FsOk fs → Q (.ref p) H'
def spCase (K : PySem.W.Frag) : Sp := fun vs H Q _ => ∃ (b l a : Addr) (G : Hp) (xs : List V) (fs : List Fld), vs = [.ref b, .ref a] ∧ SqL K G a xs ∧ Paired (FdAt K G) xs fs ∧ FsOk fs ∧ Wd b l G H ∧
  ∀ (G' H' : Hp) (y : V) (c : Cas), Same G G' → Wd b l G' H' → Dp K G' y (dC c) → FitC fs c → c.1.length ≤ 2 → (∀ ss, c.2 = some ss → ss.length ≤ 2) → (∀ t ∈ c.1, t.2.1 ∈ signs) → Q y H'
end Bh
namespace Bh
open PySem PySem.Spec PyProof.Rows L2
theorem cutV_take (xs : List V) {n : Int} (h : 0 ≤ n) : cutV xs none (some n) = xs.take n.toNat := by
  obtain ⟨k, rfl⟩ : ∃ m : Nat, n = (m : Int) := ⟨n.toNat, by omega⟩
  unfold cutV
  rw [HT.sIx_none, show HT.sIx xs.length xs.length (some (k : Int)) = min k xs.length from HT.sIx_nat _ _ k]
  show List.take (min k xs.length - 0) (List.drop 0 xs) = xs.take k
  rw [List.drop_zero, Nat.sub_zero]
  by_cases hk : k ≤ xs.length
  · rw [Nat.min_eq_left hk]
  · rw [Nat.min_eq_right (by omega), List.take_of_length_le (Nat.le_refl _), List.take_of_length_le (by omega)]
theorem fds_mem {K : PySem.W.Frag} {H : Hp} : ∀ {xs : List V} {fs : List Fld} {x : V}, Paired (FdAt K H) xs fs → x ∈ xs → ∃ f ∈ fs, FdAt K H x f
  | _, _, _, .nil, h => by cases h
  | _, _, x, .cons h t, hx => by
    rcases List.mem_cons.mp hx with e | hx
    · rw [e]
      exact ⟨_, List.mem_cons_self .., h⟩
    · obtain ⟨f, h1, h2⟩ := fds_mem t hx
      exact ⟨f, List.mem_cons_of_mem _ h1, h2⟩
theorem fds_len {K : PySem.W.Frag} {H : Hp} : ∀ {xs : List V} {fs : List Fld}, Paired (FdAt K H) xs fs → xs.length = fs.length
  | _, _, .nil => rfl
  | _, _, .cons _ t => congrArg Nat.succ (fds_len t)
theorem fds_snoc {K : PySem.W.Frag} {H : Hp} {x : V} {f : Fld} : ∀ {xs : List V} {fs : List Fld}, Paired (FdAt K H) xs fs → FdAt K H x f → Paired (FdAt K H) (xs ++ [x]) (fs ++ [f])
  | _, _, .nil, h => .cons h .nil
  | _, _, .cons k t, h => .cons k (fds_snoc t h)
theorem min_max_bound (z : Int) : 0 < (if (if z > 1 then z else 1) < 5 then (if z > 1 then z else 1) else 5) ∧ (if (if z > 1 then z else 1) < 5 then (if z > 1 then z else 1) else 5) ≤ (5 : Int) := by
  split <;> split <;> omega
end Bh
namespace Bh
open PySem PySem.Spec PyProof.Rows L2
theorem dpa_snoc {K : PySem.W.Frag} {H : Hp} {x : V} {d : PyData} {xs : List V} {ds : List PyData} (h : DpAll K H xs ds) (k : Dp K H x d) : DpAll K H (xs ++ [x]) (ds ++ [d]) := DpAll.append h (.cons k .nil)
end Bh
namespace Bh
open PySem PySem.Spec PyProof.Rows L2
theorem noL_dV (v : List Str) : noL (dV v) = true := noLs_map (fun _ => rfl) v
theorem noL_dT (t : Tst) : noL (dT t) = true := rfl
theorem noL_dS (s : Stp) : noL (dS s) = true := rfl
theorem noL_dO : ∀ o : Option (List Stp), noL (dO o) = true
  | none => rfl
  | some ss => noLs_map noL_dS ss
theorem noL_dC (c : Cas) : noL (dC c) = true := by
  show (noLs (c.1.map dT) && (noL (dO c.2) && true)) = true
  rw [noLs_map noL_dT, noL_dO]
  rfl
theorem FdAt.imm {K : PySem.W.Frag} {H H' : Hp} {v : V} {f : Fld} (e : Imm H H') (h : FdAt K H v f) : FdAt K H' v f := by
  obtain ⟨a, o, h1, h2, h3⟩ := h
  exact ⟨a, o, h1, e.tup h2, e.sqp h3⟩
theorem fds_imm {K : PySem.W.Frag} {H H' : Hp} (e : Imm H H') : ∀ {xs : List V} {fs : List Fld}, Paired (FdAt K H) xs fs → Paired (FdAt K H') xs fs
  | _, _, .nil => .nil
  | _, _, .cons h t => .cons (h.imm e) (fds_imm e t)
def spProg (K : PySem.W.Frag) : Sp := fun vs H Q _ => ∃ (b l a : Addr) (G : Hp) (n : Int) (xs : List V) (fs : List Fld), vs = [.ref b, .ref a, .int n] ∧ SqL K G a xs ∧ Paired (FdAt K G) xs fs ∧ FsOk fs ∧ 0 < n ∧ n ≤ 8 ∧ Wd b l G H ∧
  ∀ (G' H' : Hp) (y : V) (p : List Cas), Same G G' → Wd b l G' H' → Dp K G' y (.tuple (p.map dC)) → (∀ c ∈ p, FitC fs c ∧ c.1.length ≤ 2 ∧ (∀ ss, c.2 = some ss → ss.length ≤ 2) ∧ ∀ t ∈ c.1, t.2.1 ∈ signs) → 1 ≤ p.length → p.length ≤ 8 → Q y H'
/-! all values -/
def ext1 (acc : List (List Str)) (f : Fld) : List (List Str) := acc.flatMap fun v => f.2.map fun o => v ++ [o]
def vals (fs : List Fld) : List (List Str) := fs.foldl ext1 [[]]
theorem flat_len (os : List Str) : ∀ acc : List (List Str), (acc.flatMap fun v => os.map fun o => v ++ [o]).length = acc.length * os.length
  | [] => by simp
  | v :: r => by
    rw [List.flatMap_cons, List.length_append, List.length_map, flat_len os r, List.length_cons, Nat.succ_mul]
    omega
theorem vals_take {fs : List Fld} {i : Nat} {f : Fld} (h : fs[i]? = some f) : vals (fs.take (i + 1)) = ext1 (vals (fs.take i)) f := by
  unfold vals
  rw [List.take_add_one, h, List.foldl_append]
  rfl
theorem vals_len {fs : List Fld} (h : ∀ f ∈ fs, f.2.length ≤ 6) : ∀ i : Nat, (vals (fs.take i)).length ≤ 6 ^ i
  | 0 => by
    rw [List.take_zero]
    exact Nat.le_refl 1
  | i + 1 => by
    cases e : fs[i]? with
    | none =>
      have hl : fs.length ≤ i := List.getElem?_eq_none_iff.mp e
      rw [List.take_of_length_le (by omega), show fs = fs.take i from (List.take_of_length_le hl).symm]
      refine Nat.le_trans (vals_len h i) ?_
      rw [Nat.pow_succ]
      exact Nat.le_mul_of_pos_right _ (by decide)
    | some f =>
      rw [vals_take e]
      unfold ext1
      rw [flat_len, Nat.pow_succ]
      exact Nat.mul_le_mul (vals_len h i) (h f (List.mem_of_getElem? e))
theorem vals_fit : ∀ (fs done : List Fld) (acc : List (List Str)), (∀ v ∈ acc, FitV done v) → ∀ v ∈ fs.foldl ext1 acc, FitV (done ++ fs) v
  | [], done, acc, h, v, hv => by
    rw [List.append_nil]
    exact h v hv
  | f :: r, done, acc, h, v, hv => by
    have e : done ++ f :: r = (done ++ [f]) ++ r := by simp
    rw [e]
    refine vals_fit r (done ++ [f]) (ext1 acc f) (fun w hw => ?_) v hv
    obtain ⟨u, hu, hw2⟩ := List.mem_flatMap.mp hw
    obtain ⟨o, ho, rfl⟩ := List.mem_map.mp hw2
    obtain ⟨l1, l2⟩ := h u hu
    refine ⟨by rw [List.length_append, List.length_append, l1]; rfl, fun i g o' hg ho' => ?_⟩
    by_cases hi : i < done.length
    · rw [List.getElem?_append_left hi] at hg
      rw [List.getElem?_append_left (by omega)] at ho'
      exact l2 i g o' hg ho'
    · rw [List.getElem?_append_right (by omega)] at hg
      rw [List.getElem?_append_right (by omega), l1] at ho'
      have hz : i - done.length = 0 := by
        have := (List.getElem?_eq_some_iff.mp hg).1
        simp at this
        omega
      rw [hz] at hg ho'
      cases hg
      cases ho'
      exact ho
theorem vals_ok {fs : List Fld} : ∀ v ∈ vals fs, FitV fs v := by
  have q := vals_fit fs [] [[]] (fun v hv => by
    cases List.mem_singleton.mp hv
    exact ⟨rfl, fun i f o h => by simp at h⟩)
  show ∀ v ∈ fs.foldl ext1 [[]], FitV fs v
  simpa using q
def spVals (K : PySem.W.Frag) : Sp := fun vs H Q _ => ∃ (a : Addr) (xs : List V) (fs : List Fld), vs = [.ref a] ∧ SqL K H a xs ∧ Paired (FdAt K H) xs fs ∧ FsOk fs ∧
  ∀ (H' : Hp) (p : Addr) (ys : List V), Same H H' → H' p = some (.lst ys) → DpAll K H' ys ((vals fs).map dV) → Q (.ref p) H'
end Bh

set_option Elab.async false
set_option linter.all false
set_option maxRecDepth 100000
namespace Bh
open PySem PySem.Spec PyProof.Rows L2
/-! ### lines of cases: the mirror -/
def lettersD : Str := "abcdefghijklmnopqrstuvwxyz0123456789"
def wordB (w z : Str) : Bool := decide (1 ≤ w.length ∧ w.length ≤ 8) && (TL.tl w).all (fun c => decide (c ∈ TL.tl z))
def lineT (t : Tst) : Str := t.1 ++ t.2.1 ++ t.2.2
def lineS (s : Stp) : Str := if s.2 = "+" then s.1 ++ "+" else s.1 ++ ":" ++ s.2
def leftL (ts : List Tst) : Str := if ts = [] then "always" else Txt.join " and " (ts.map lineT)
def rightL : Option (List Stp) → Str
  | none => "drop"
  | some ss => if ss = [] then "keep" else Txt.join ", " (ss.map lineS)
def lineC (c : Cas) : Str := "when " ++ leftL c.1 ++ " do " ++ rightL c.2
def seqO {α : Type} : List (Option α) → Option (List α)
  | [] => some []
  | none :: _ => none
  | some x :: r => (seqO r).map (x :: ·)
def allR {α : Type} (l : List (Option α)) : Option (List α) := if l.length ≤ 6 then seqO l else none
def tryT (part s : Str) : Option Tst := if (wordB (Txt.partition part s).1 letters && wordB (Txt.partition part s).2.2 lettersD) = true then some ((Txt.partition part s).1, s, (Txt.partition part s).2.2) else none
def readT (part : Str) : Option Tst := signs.findSome? (tryT part)
def readS (part : Str) : Option Stp :=
  if Txt.endswith part "+" = true then (if wordB (Txt.removesuffix part "+") letters = true then some (Txt.removesuffix part "+", "+") else none)
  else if (wordB (Txt.partition part ":").1 letters && wordB (Txt.partition part ":").2.2 lettersD) = true then some ((Txt.partition part ":").1, (Txt.partition part ":").2.2) else none
def readTs (x : Str) : Option (List Tst) := if x = "always" then some [] else allR ((Txt.split x " and ").map readT)
def readSs (x : Str) : Option (List Stp) := if x = "keep" then some [] else allR ((Txt.split x ", ").map readS)
def readP (before behind : Str) : Option Cas := match readTs before with
  | none => none
  | some ts => if behind = "drop" then some (ts, none) else match readSs behind with
    | none => none
    | some ss => some (ts, some ss)
def readC (l : Str) : Option Cas := if Txt.startswith l "when " = true then readP (Txt.partition (Txt.removeprefix l "when ") " do ").1 (Txt.partition (Txt.removeprefix l "when ") " do ").2.2 else none
/-! what a case is -/
def OkT (t : Tst) : Prop := wordB t.1 letters = true ∧ t.2.1 ∈ signs ∧ wordB t.2.2 lettersD = true
def OkS (s : Stp) : Prop := wordB s.1 letters = true ∧ (s.2 = "+" ∨ wordB s.2 lettersD = true)
structure OkC (c : Cas) : Prop where
  n : c.1.length ≤ 6
  t : ∀ t ∈ c.1, OkT t
  m : ∀ ss, c.2 = some ss → ss.length ≤ 6
  s : ∀ ss, c.2 = some ss → ∀ s ∈ ss, OkS s
/-! words -/
theorem app_assoc (a b c : Str) : a ++ b ++ c = a ++ (b ++ c) := TL.ext_tl (by rw [TL.tl_append, TL.tl_append, TL.tl_append, TL.tl_append, List.append_assoc])
theorem word_len {w z : Str} (h : wordB w z = true) : 1 ≤ w.length ∧ w.length ≤ 8 := of_decide_eq_true (Bool.and_eq_true_iff.mp h).1
theorem word_mem {w z : Str} (h : wordB w z = true) : ∀ c ∈ TL.tl w, c ∈ TL.tl z := fun c hc => of_decide_eq_true (List.all_eq_true.mp (Bool.and_eq_true_iff.mp h).2 c hc)
theorem word_mk {w z : Str} (h1 : 1 ≤ w.length) (h2 : w.length ≤ 8) (h : ∀ c ∈ TL.tl w, c ∈ TL.tl z) : wordB w z = true :=
  Bool.and_eq_true_iff.mpr ⟨decide_eq_true ⟨h1, h2⟩, List.all_eq_true.mpr fun c hc => decide_eq_true (h c hc)⟩
theorem let_letD : ∀ c ∈ TL.tl letters, c ∈ TL.tl lettersD := by decide +kernel
theorem word_letD {w : Str} (h : wordB w letters = true) : wordB w lettersD = true := word_mk (word_len h).1 (word_len h).2 fun c hc => let_letD c (word_mem h c hc)
theorem word_free {w : Str} {c : Nat} (h : wordB w lettersD = true) (hc : c ∉ TL.tl lettersD) : c ∉ TL.tl w := fun z => hc (word_mem h c z)
theorem nm_word {w : Str} (h : IsNm w) : wordB w letters = true := word_mk h.lo h.hi fun c hc => by
  have key : ∀ k : _root_.Fin 26, 97 + k.val ∈ TL.tl letters := by decide +kernel
  obtain ⟨a, b⟩ := h.az c hc
  have q := key ⟨c - 97, by omega⟩
  rw [show 97 + (⟨c - 97, by omega⟩ : _root_.Fin 26).val = c by show 97 + (c - 97) = c; omega] at q
  exact q
theorem pool_word : ∀ o ∈ pool, wordB o lettersD = true := by decide +kernel
theorem empty_word (z : Str) : wordB Str.empty z = false := rfl
theorem nin (c : Nat) (h : c ∉ TL.tl lettersD) {a : Str} (ha : wordB a letters = true) : c ∉ TL.tl a := word_free (word_letD ha) h
/-! partition -/
theorem par_spec {S : List Nat} : ∀ {l acc a b : List Nat}, TL.par S acc l = some (a, b) → acc ++ l = a ++ (S ++ b)
  | [], acc, a, b, h => by cases h
  | c :: r, acc, a, b, h => by
    by_cases hp : TL.pre S (c :: r) = true
    · rw [TL.par_hit hp] at h
      cases h
      have e : (c :: r).take S.length = S := eq_of_beq hp
      conv =>
        lhs
        rw [← List.take_append_drop S.length (c :: r), e]
    · rw [TL.par_miss (Bool.eq_false_iff.mpr hp)] at h
      have q := par_spec h
      rw [← q, List.append_assoc]
      rfl
theorem part_cases (x y : Str) (hy : TL.tl y ≠ []) : (∃ a b, Txt.partition x y = (a, y, b) ∧ x = a ++ y ++ b) ∨ Txt.partition x y = (x, Str.empty, Str.empty) := by
  rw [TL.partition_par x y hy]
  cases h : TL.par (TL.tl y) [] (TL.tl x) with
  | none => exact .inr rfl
  | some p =>
    obtain ⟨a, b⟩ := p
    refine .inl ⟨_, _, rfl, TL.ext_tl ?_⟩
    have q := par_spec h
    rw [TL.tl_append, TL.tl_append, List.append_assoc]
    exact q
/-! prefixes, suffixes -/
theorem at0 {x y : Str} : Builtin.Str.subAt x y 0 = true ↔ (TL.tl x).take (TL.tl y).length = TL.tl y := by
  rw [StrLaws.subAt_eq, List.drop_zero, TL.len_tl y]
  exact ⟨fun h => eq_of_beq h, fun h => by rw [h]; exact beq_self_eq_true _⟩
theorem starts_app (y a : Str) : Txt.startswith (y ++ a) y = true := by
  unfold Txt.startswith
  rw [at0.mpr (by rw [TL.tl_append, List.take_left]), decide_eq_true (by rw [TL.len_tl, TL.len_tl, TL.tl_append, List.length_append]; omega)]
  rfl
theorem removeprefix_app (y a : Str) : Txt.removeprefix (y ++ a) y = a := by
  have h := starts_app y a
  unfold Txt.startswith at h
  rw [StrLaws.removeprefix_eq, if_pos h]
  refine TL.ext_tl ?_
  show List.take _ (List.drop _ (TL.tl (y ++ a))) = TL.tl a
  rw [TL.len_tl, TL.len_tl, TL.tl_append, List.drop_left, List.length_append]
  exact List.take_of_length_le (by omega)
theorem prefix_spec {x y : Str} (h : Txt.startswith x y = true) : x = y ++ Txt.removeprefix x y := by
  unfold Txt.startswith at h
  rw [StrLaws.removeprefix_eq, if_pos h]
  have h1 := at0.mp (Bool.and_eq_true_iff.mp h).2
  refine TL.ext_tl ?_
  rw [TL.tl_append]
  show _ = TL.tl y ++ List.take _ (List.drop _ (TL.tl x))
  rw [TL.len_tl, TL.len_tl, List.take_of_length_le (by rw [List.length_drop]; exact Nat.le_refl _)]
  conv =>
    lhs
    rw [← List.take_append_drop (TL.tl y).length (TL.tl x), h1]
theorem ends_app (a y : Str) : Txt.endswith (a ++ y) y = true := by
  unfold Txt.endswith
  have e : Builtin.Str.subAt (a ++ y) y ((a ++ y).length - y.length) = true := by
    rw [StrLaws.subAt_eq, TL.len_tl, TL.len_tl]
    show ((TL.tl (a ++ y)).drop _).take _ == TL.tl y
    rw [TL.tl_append, List.length_append, Nat.add_sub_cancel, List.drop_left, List.take_length]
    exact beq_self_eq_true _
  rw [e, decide_eq_true (by rw [TL.len_tl, TL.len_tl, TL.tl_append, List.length_append]; omega)]
  rfl
theorem removesuffix_app (a y : Str) : Txt.removesuffix (a ++ y) y = a := by
  have h := ends_app a y
  unfold Txt.endswith at h
  rw [StrLaws.removesuffix_eq, if_pos h]
  refine TL.ext_tl ?_
  show List.take _ (List.drop 0 (TL.tl (a ++ y))) = TL.tl a
  rw [TL.len_tl, TL.len_tl, TL.tl_append, List.drop_zero, List.length_append, Nat.add_sub_cancel, Nat.sub_zero, List.take_left]
theorem suffix_spec {x y : Str} (h : Txt.endswith x y = true) : x = Txt.removesuffix x y ++ y := by
  unfold Txt.endswith at h
  rw [StrLaws.removesuffix_eq, if_pos h]
  have h1 := (Bool.and_eq_true_iff.mp h).2
  rw [StrLaws.subAt_eq] at h1
  have h2 : (List.drop (x.length - y.length) (TL.tl x)).take y.length = TL.tl y := eq_of_beq h1
  have h3 : 0 + y.length ≤ x.length := of_decide_eq_true (Bool.and_eq_true_iff.mp h).1
  refine TL.ext_tl ?_
  rw [TL.tl_append]
  show _ = List.take _ (List.drop 0 (TL.tl x)) ++ TL.tl y
  rw [← h2, List.drop_zero, Nat.sub_zero, List.take_of_length_le (l := List.drop _ _) (by rw [List.length_drop, ← TL.len_tl]; omega), List.take_append_drop]
theorem mem_app {c : Nat} {a b : Str} : c ∈ TL.tl (a ++ b) ↔ c ∈ TL.tl a ∨ c ∈ TL.tl b := by rw [TL.tl_append]; exact List.mem_append
theorem ends_mem {x y : Str} {c : Nat} (h : Txt.endswith x y = true) (hc : c ∈ TL.tl y) : c ∈ TL.tl x := by
  rw [suffix_spec h]
  exact mem_app.mpr (.inr hc)
/-! one test, one step -/
theorem sign_nl : ∀ s ∈ signs, ∀ c ∈ TL.tl s, c ∉ TL.tl lettersD := by decide +kernel
theorem sign_one : ∀ s ∈ signs, ∃ c, TL.tl s = [c] := by
  intro s hs
  simp only [signs, List.mem_cons, List.not_mem_nil, or_false] at hs
  rcases hs with rfl | rfl | rfl | rfl <;> exact ⟨_, rfl⟩
theorem sign_ne : ∀ s ∈ signs, ∀ t ∈ signs, s ≠ t → ∀ c ∈ TL.tl s, c ∉ TL.tl t := by decide +kernel
theorem tryT_hit {t : Tst} (h : OkT t) : tryT (lineT t) t.2.1 = some t := by
  obtain ⟨h1, h2, h3⟩ := h
  obtain ⟨c, hc⟩ := sign_one _ h2
  have nl := sign_nl _ h2 c (by rw [hc]; exact List.mem_singleton.mpr rfl)
  have e : Txt.partition (lineT t) t.2.1 = (t.1, t.2.1, t.2.2) := TL.partition_app hc (nin c nl h1)
  unfold tryT
  rw [e]
  exact if_pos (Bool.and_eq_true_iff.mpr ⟨h1, h3⟩)
theorem tryT_miss {t : Tst} {s : Str} (h : OkT t) (hs : s ∈ signs) (ne : s ≠ t.2.1) : tryT (lineT t) s = none := by
  obtain ⟨h1, h2, h3⟩ := h
  obtain ⟨c, hc⟩ := sign_one _ hs
  have mc : c ∈ TL.tl s := by rw [hc]; exact List.mem_singleton.mpr rfl
  have nl := sign_nl _ hs c mc
  have nf : c ∉ TL.tl (lineT t) := fun z => by
    rcases mem_app.mp z with z | z
    · rcases mem_app.mp z with z | z
      · exact nin c nl h1 z
      · exact sign_ne _ hs _ h2 ne c mc z
    · exact word_free h3 nl z
  have e : Txt.partition (lineT t) s = (lineT t, Str.empty, Str.empty) := TL.partition_none hc nf
  unfold tryT
  rw [e]
  refine if_neg ?_
  rw [empty_word, Bool.and_false]
  exact Bool.false_ne_true
theorem find_one {α β : Type} (f : α → Option β) (y : β) : ∀ (l : List α) (x : α), x ∈ l → f x = some y → (∀ z ∈ l, z ≠ x → f z = none) → l.findSome? f = some y
  | [], x, h, _, _ => by cases h
  | a :: r, x, h, hx, hn => by
    by_cases e : a = x
    · rw [List.findSome?_cons, e, hx]
    · rw [List.findSome?_cons, hn a (List.mem_cons_self ..) e]
      rcases List.mem_cons.mp h with z | z
      · exact absurd z.symm e
      · exact find_one f y r x z hx fun w hw => hn w (List.mem_cons_of_mem _ hw)
theorem readT_line {t : Tst} (h : OkT t) : readT (lineT t) = some t := find_one _ _ signs t.2.1 h.2.1 (tryT_hit h) fun s hs ne => tryT_miss h hs ne
theorem readT_back {part : Str} {t : Tst} (h : readT part = some t) : lineT t = part ∧ OkT t := by
  obtain ⟨s, hs, e⟩ := List.exists_of_findSome?_eq_some h
  unfold tryT at e
  by_cases hw : (wordB (Txt.partition part s).1 letters && wordB (Txt.partition part s).2.2 lettersD) = true
  · rw [if_pos hw] at e
    cases e
    have hw2 := Bool.and_eq_true_iff.mp hw
    refine ⟨?_, hw2.1, hs, hw2.2⟩
    obtain ⟨c, hc⟩ := sign_one _ hs
    rcases part_cases part s (by rw [hc]; simp) with ⟨a, b, e1, e2⟩ | e1
    · rw [e1]
      exact e2.symm
    · rw [e1] at hw2
      exact absurd hw2.2 (by rw [empty_word]; exact Bool.false_ne_true)
  · rw [if_neg hw] at e
    cases e
theorem readS_line {s : Stp} (h : OkS s) : readS (lineS s) = some s := by
  obtain ⟨h1, h2⟩ := h
  obtain ⟨a, b⟩ := s
  by_cases e : b = "+"
  · subst e
    have el : lineS (a, "+") = a ++ "+" := if_pos rfl
    unfold readS
    rw [el, if_pos (ends_app a "+"), removesuffix_app]
    exact if_pos h1
  · have hb : wordB b lettersD = true := h2.resolve_left e
    have el : lineS (a, b) = a ++ ":" ++ b := if_neg e
    have nf : 43 ∉ TL.tl (a ++ ":" ++ b) := fun z => by
      rcases mem_app.mp z with z | z
      · rcases mem_app.mp z with z | z
        · exact nin 43 (by decide +kernel) h1 z
        · exact absurd z (by decide +kernel)
      · exact word_free hb (by decide +kernel) z
    have ne : ¬ Txt.endswith (a ++ ":" ++ b) "+" = true := fun z => nf (ends_mem z (by decide +kernel))
    have ep : Txt.partition (a ++ ":" ++ b) ":" = (a, (":" : Str), b) := TL.partition_app (y := ":") (s := 58) (S := []) rfl (nin 58 (by decide +kernel) h1)
    unfold readS
    rw [el, if_neg ne, ep]
    exact if_pos (Bool.and_eq_true_iff.mpr ⟨h1, hb⟩)
theorem readS_back {part : Str} {s : Stp} (h : readS part = some s) : lineS s = part ∧ OkS s := by
  unfold readS at h
  by_cases e : Txt.endswith part "+" = true
  · rw [if_pos e] at h
    by_cases hw : wordB (Txt.removesuffix part "+") letters = true
    · rw [if_pos hw] at h
      cases h
      refine ⟨?_, hw, .inl rfl⟩
      have q : lineS (Txt.removesuffix part "+", "+") = Txt.removesuffix part "+" ++ "+" := if_pos rfl
      rw [q]
      exact (suffix_spec e).symm
    · rw [if_neg hw] at h
      cases h
  · rw [if_neg e] at h
    by_cases hw : (wordB (Txt.partition part ":").1 letters && wordB (Txt.partition part ":").2.2 lettersD) = true
    · rw [if_pos hw] at h
      cases h
      have hw2 := Bool.and_eq_true_iff.mp hw
      refine ⟨?_, hw2.1, .inr hw2.2⟩
      have nb : (Txt.partition part ":").2.2 ≠ "+" := fun z => by
        rw [z] at hw2
        exact absurd hw2.2 (by decide +kernel)
      have q : lineS ((Txt.partition part ":").1, (Txt.partition part ":").2.2) = (Txt.partition part ":").1 ++ ":" ++ (Txt.partition part ":").2.2 := if_neg nb
      rw [q]
      rcases part_cases part ":" (by decide +kernel) with ⟨a, b, e1, e2⟩ | e1
      · rw [e1]
        exact e2.symm
      · rw [e1] at hw2
        exact absurd hw2.2 (by rw [empty_word]; exact Bool.false_ne_true)
    · rw [if_neg hw] at h
      cases h
/-! all of them -/
theorem seqO_some {α : Type} : ∀ l : List α, seqO (l.map some) = some l
  | [] => rfl
  | x :: r => by
    show (seqO (r.map some)).map (x :: ·) = _
    rw [seqO_some r]
    rfl
theorem seqO_back {α : Type} : ∀ {l : List (Option α)} {ys : List α}, seqO l = some ys → l = ys.map some
  | [], _, h => by cases h; rfl
  | none :: _, _, h => by cases h
  | some x :: r, ys, h => by
    have h' : (seqO r).map (x :: ·) = some ys := h
    cases e : seqO r with
    | none =>
      rw [e] at h'
      cases h'
    | some zs =>
      rw [e] at h'
      cases h'
      rw [seqO_back e]
      rfl
theorem allR_line {α : Type} {line : α → Str} {read : Str → Option α} {l : List α} (h : ∀ x ∈ l, read (line x) = some x) (n : l.length ≤ 6) : allR ((l.map line).map read) = some l := by
  have e : (l.map line).map read = l.map some := by
    rw [List.map_map]
    exact List.map_congr_left fun x hx => h x hx
  unfold allR
  rw [e, if_pos (by rw [List.length_map]; exact n), seqO_some]
theorem allR_back {α : Type} {line : α → Str} {read : Str → Option α} {Ok : α → Prop} {l : List Str} {ys : List α} (hb : ∀ p x, read p = some x → line x = p ∧ Ok x) (h : allR (l.map read) = some ys) : ys.map line = l ∧ ys.length ≤ 6 ∧ ∀ y ∈ ys, Ok y := by
  unfold allR at h
  by_cases hl : (l.map read).length ≤ 6
  · rw [if_pos hl] at h
    have q := seqO_back h
    have key : ∀ (l : List Str) (ys : List α), l.map read = ys.map some → ys.map line = l ∧ ∀ y ∈ ys, Ok y := by
      intro l
      induction l with
      | nil =>
        intro ys q
        cases ys with
        | nil => exact ⟨rfl, fun y hy => by cases hy⟩
        | cons y r => cases q
      | cons p r ih =>
        intro ys q
        cases ys with
        | nil => cases q
        | cons y ys =>
          rw [List.map_cons, List.map_cons] at q
          injection q with q1 q2
          obtain ⟨e1, e2⟩ := ih ys q2
          obtain ⟨f1, f2⟩ := hb p y q1
          refine ⟨by rw [List.map_cons, f1, e1], fun z hz => ?_⟩
          rcases List.mem_cons.mp hz with rfl | hz
          · exact f2
          · exact e2 z hz
    obtain ⟨e1, e2⟩ := key l ys q
    have hl2 : (ys.map some).length ≤ 6 := by
      rw [← q]
      exact hl
    rw [List.length_map] at hl2
    exact ⟨e1, hl2, e2⟩
  · rw [if_neg hl] at h
    cases h
theorem split_ne (x y : Str) : Txt.split x y ≠ [] := by
  unfold Txt.split
  split
  · simp
  · split
    · simp
    · intro h
      rw [StrLaws.partsBetween_eq] at h
      obtain ⟨p, q, e⟩ := StrLaws.partsFrom_ne x y.length 0 (Builtin.Str.occurrences x y 0 x.length (x.length + 1))
      rw [e] at h
      cases h
theorem join_mem {y : Str} {c : Nat} {p : Str} {r : List Str} (h : c ∈ TL.tl p) : c ∈ TL.tl (Txt.join y (p :: r)) := by
  rw [TL.join_eq]
  cases r with
  | nil => exact h
  | cons q r =>
    show c ∈ TL.tl (p ++ y ++ Str.join y (q :: r))
    exact mem_app.mpr (.inl (mem_app.mpr (.inl h)))

/-! the tests of a line, its steps -/
theorem lineT_free {t : Tst} (h : OkT t) : 32 ∉ TL.tl (lineT t) ∧ 3 ≤ (TL.tl (lineT t)).length := by
  obtain ⟨h1, h2, h3⟩ := h
  refine ⟨fun z => ?_, ?_⟩
  · rcases mem_app.mp z with z | z
    · rcases mem_app.mp z with z | z
      · exact nin 32 (by decide +kernel) h1 z
      · have key : ∀ s ∈ signs, 32 ∉ TL.tl s := by decide +kernel
        exact key _ h2 z
    · exact word_free h3 (by decide +kernel) z
  · obtain ⟨c, hc⟩ := sign_one _ h2
    have l1 := (word_len h1).1
    have l3 := (word_len h3).1
    rw [TL.len_tl] at l1 l3
    unfold lineT
    rw [TL.tl_append, TL.tl_append, hc, List.length_append, List.length_append]
    show 3 ≤ _ + 1 + _
    omega
theorem lineT_sign {t : Tst} (h : OkT t) : ∃ c ∈ ([61, 33, 60, 62] : List Nat), c ∈ TL.tl (lineT t) := by
  have key : ∀ s ∈ signs, ∃ c ∈ ([61, 33, 60, 62] : List Nat), c ∈ TL.tl s := by decide +kernel
  obtain ⟨c, h1, h2⟩ := key _ h.2.1
  exact ⟨c, h1, mem_app.mpr (.inl (mem_app.mpr (.inr h2)))⟩
theorem lineS_free {s : Stp} (h : OkS s) : 44 ∉ TL.tl (lineS s) ∧ 32 ∉ TL.tl (lineS s) ∧ ∃ c ∈ ([43, 58] : List Nat), c ∈ TL.tl (lineS s) := by
  obtain ⟨h1, h2⟩ := h
  obtain ⟨a, b⟩ := s
  by_cases e : b = "+"
  · subst e
    have el : lineS (a, "+") = a ++ "+" := if_pos rfl
    rw [el]
    refine ⟨fun z => ?_, fun z => ?_, 43, by decide, mem_app.mpr (.inr (by decide +kernel))⟩
    · rcases mem_app.mp z with z | z
      · exact nin 44 (by decide +kernel) h1 z
      · exact absurd z (by decide +kernel)
    · rcases mem_app.mp z with z | z
      · exact nin 32 (by decide +kernel) h1 z
      · exact absurd z (by decide +kernel)
  · have hb : wordB b lettersD = true := h2.resolve_left e
    have el : lineS (a, b) = a ++ ":" ++ b := if_neg e
    rw [el]
    refine ⟨fun z => ?_, fun z => ?_, 58, by decide, mem_app.mpr (.inl (mem_app.mpr (.inr (by decide +kernel))))⟩
    · rcases mem_app.mp z with z | z
      · rcases mem_app.mp z with z | z
        · exact nin 44 (by decide +kernel) h1 z
        · exact absurd z (by decide +kernel)
      · exact word_free hb (by decide +kernel) z
    · rcases mem_app.mp z with z | z
      · rcases mem_app.mp z with z | z
        · exact nin 32 (by decide +kernel) h1 z
        · exact absurd z (by decide +kernel)
      · exact word_free hb (by decide +kernel) z
theorem readTs_left {ts : List Tst} (h : ∀ t ∈ ts, OkT t) (n : ts.length ≤ 6) : readTs (leftL ts) = some ts := by
  unfold readTs leftL
  by_cases e : ts = []
  · subst e
    rfl
  · rw [if_neg e]
    have ne : Txt.join " and " (ts.map lineT) ≠ "always" := fun z => by
      cases ts with
      | nil => exact e rfl
      | cons t r =>
        obtain ⟨c, h1, h2⟩ := lineT_sign (h t (List.mem_cons_self ..))
        have q : c ∈ TL.tl (Txt.join " and " ((t :: r).map lineT)) := join_mem h2
        rw [z] at q
        have key : ∀ c ∈ ([61, 33, 60, 62] : List Nat), c ∉ TL.tl ("always" : Str) := by decide +kernel
        exact key c h1 q
    rw [if_neg ne, TL.split_join (y := " and ") (s := 32) (S := [97, 110, 100, 32]) (by decide +kernel) (by decide +kernel) (by simpa using e) (fun p hp => by
      obtain ⟨t, ht, rfl⟩ := List.mem_map.mp hp
      exact (lineT_free (h t ht)).1)]
    exact allR_line (fun t ht => readT_line (h t ht)) n
theorem readTs_back {x : Str} {ts : List Tst} (h : readTs x = some ts) : leftL ts = x ∧ ts.length ≤ 6 ∧ ∀ t ∈ ts, OkT t := by
  unfold readTs at h
  by_cases e : x = "always"
  · rw [if_pos e] at h
    cases h
    exact ⟨e.symm, by decide, fun t ht => by cases ht⟩
  · rw [if_neg e] at h
    obtain ⟨e1, e2, e3⟩ := allR_back (fun p t h => readT_back h) h
    refine ⟨?_, e2, e3⟩
    have ne : ts ≠ [] := fun z => by
      rw [z] at e1
      exact split_ne _ _ e1.symm
    unfold leftL
    rw [if_neg ne, e1, TL.join_eq, StrLaws.join_split]
theorem readSs_right {ss : List Stp} (h : ∀ s ∈ ss, OkS s) (n : ss.length ≤ 6) : readSs (rightL (some ss)) = some ss ∧ rightL (some ss) ≠ "drop" := by
  by_cases e : ss = []
  · subst e
    exact ⟨rfl, by decide +kernel⟩
  · have eR : rightL (some ss) = Txt.join ", " (ss.map lineS) := if_neg e
    rw [eR]
    have key : ∃ c ∈ ([43, 58] : List Nat), c ∈ TL.tl (Txt.join ", " (ss.map lineS)) := by
      cases ss with
      | nil => exact absurd rfl e
      | cons s r =>
        obtain ⟨_, _, c, h1, h2⟩ := lineS_free (h s (List.mem_cons_self ..))
        exact ⟨c, h1, join_mem h2⟩
    obtain ⟨c, h1, h2⟩ := key
    have nk : Txt.join ", " (ss.map lineS) ≠ "keep" := fun z => by
      rw [z] at h2
      have key : ∀ c ∈ ([43, 58] : List Nat), c ∉ TL.tl ("keep" : Str) := by decide +kernel
      exact key c h1 h2
    refine ⟨?_, fun z => ?_⟩
    · unfold readSs
      rw [if_neg nk, TL.split_join (y := ", ") (s := 44) (S := [32]) (by decide +kernel) (by decide +kernel) (by simpa using e) (fun p hp => by
        obtain ⟨s, hs, rfl⟩ := List.mem_map.mp hp
        exact (lineS_free (h s hs)).1)]
      exact allR_line (fun s hs => readS_line (h s hs)) n
    · rw [z] at h2
      have key : ∀ c ∈ ([43, 58] : List Nat), c ∉ TL.tl ("drop" : Str) := by decide +kernel
      exact key c h1 h2
theorem readSs_back {x : Str} {ss : List Stp} (h : readSs x = some ss) : rightL (some ss) = x ∧ ss.length ≤ 6 ∧ ∀ s ∈ ss, OkS s := by
  unfold readSs at h
  by_cases e : x = "keep"
  · rw [if_pos e] at h
    cases h
    exact ⟨e.symm, by decide, fun t ht => by cases ht⟩
  · rw [if_neg e] at h
    obtain ⟨e1, e2, e3⟩ := allR_back (fun p t h => readS_back h) h
    refine ⟨?_, e2, e3⟩
    have ne : ss ≠ [] := fun z => by
      rw [z] at e1
      exact split_ne _ _ e1.symm
    show (if ss = [] then ("keep" : Str) else Txt.join ", " (ss.map lineS)) = x
    rw [if_neg ne, e1, TL.join_eq, StrLaws.join_split]
/-! the whole line -/
theorem par_skip {s : Nat} {S : List Nat} : ∀ {p l acc : List Nat}, s ∉ p → TL.par (s :: S) acc (p ++ l) = TL.par (s :: S) (acc ++ p) l
  | [], l, acc, _ => by rw [List.append_nil]; rfl
  | c :: r, l, acc, h => by
    show TL.par (s :: S) acc (c :: (r ++ l)) = _
    rw [TL.par_miss (TL.pre_of_head S (r ++ l) fun z => h (by rw [z]; exact List.mem_cons_self ..)), par_skip fun z => h (List.mem_cons_of_mem _ z), List.append_assoc]
    rfl
theorem pre_do {q l : List Nat} (h : 32 ∉ q) (n : 3 ≤ q.length) : TL.pre [32, 100, 111, 32] (32 :: (q ++ l)) = false := by
  match q, h, n with
  | a :: b :: c :: r, h, _ =>
    refine Bool.eq_false_iff.mpr fun z => ?_
    have e : (32 :: (a :: b :: c :: r ++ l)).take 4 = [32, 100, 111, 32] := eq_of_beq z
    have e2 : [32, a, b, c] = [32, 100, 111, 32] := e
    injection e2 with _ e2
    injection e2 with _ e2
    injection e2 with _ e2
    injection e2 with e2 _
    exact h (by rw [e2]; simp)
theorem par_tests : ∀ {parts : List (List Nat)} {acc rest : List Nat}, parts ≠ [] → (∀ p ∈ parts, 32 ∉ p ∧ 3 ≤ p.length) →
    TL.par [32, 100, 111, 32] acc (TL.joinL [32, 97, 110, 100, 32] parts ++ ([32, 100, 111, 32] ++ rest)) = some (acc ++ TL.joinL [32, 97, 110, 100, 32] parts, rest)
  | [], _, _, h, _ => absurd rfl h
  | [p], acc, rest, _, h => TL.par_part1 (h p (List.mem_singleton.mpr rfl)).1
  | p :: q :: r, acc, rest, _, h => by
    have hp := h p (List.mem_cons_self ..)
    have hq := h q (List.mem_cons_of_mem _ (List.mem_cons_self ..))
    have ih := par_tests (parts := q :: r) (acc := acc ++ p ++ [32, 97, 110, 100, 32]) (rest := rest) (by simp) (fun z hz => h z (List.mem_cons_of_mem _ hz))
    have ej : TL.joinL [32, 97, 110, 100, 32] (p :: q :: r) = p ++ ([32, 97, 110, 100, 32] ++ TL.joinL [32, 97, 110, 100, 32] (q :: r)) := rfl
    have eq1 : ∃ t, TL.joinL [32, 97, 110, 100, 32] (q :: r) = q ++ t := by
      cases r with
      | nil => exact ⟨[], (List.append_nil _).symm⟩
      | cons z r => exact ⟨_, rfl⟩
    obtain ⟨t, et⟩ := eq1
    rw [ej, List.append_assoc, par_skip hp.1, List.append_assoc]
    show TL.par [32, 100, 111, 32] (acc ++ p) (32 :: 97 :: 110 :: 100 :: 32 :: (TL.joinL [32, 97, 110, 100, 32] (q :: r) ++ ([32, 100, 111, 32] ++ rest))) = _
    rw [TL.par_miss rfl, TL.par_miss (TL.pre_of_head _ _ (by decide)), TL.par_miss (TL.pre_of_head _ _ (by decide)), TL.par_miss (TL.pre_of_head _ _ (by decide)),
      TL.par_miss (by rw [et, List.append_assoc]; exact pre_do hq.1 hq.2)]
    have ea : acc ++ p ++ [32] ++ [97] ++ [110] ++ [100] ++ [32] = acc ++ p ++ [32, 97, 110, 100, 32] := by simp
    rw [ea, ih]
    simp
theorem part_line {ts : List Tst} (h : ∀ t ∈ ts, OkT t) (b : Str) : Txt.partition (leftL ts ++ " do " ++ b) " do " = (leftL ts, (" do " : Str), b) := by
  by_cases e : ts = []
  · subst e
    exact TL.partition_app (y := " do ") (s := 32) (S := [100, 111, 32]) (by decide +kernel) (by decide +kernel)
  · have el : leftL ts = Txt.join " and " (ts.map lineT) := if_neg e
    have et : TL.tl (leftL ts) = TL.joinL [32, 97, 110, 100, 32] (ts.map (fun t => TL.tl (lineT t))) := by
      rw [el, TL.join_eq, TL.tl_join, List.map_map]
      rfl
    have hd : TL.tl (" do " : Str) = [32, 100, 111, 32] := by decide +kernel
    rw [TL.partition_par _ _ (by rw [hd]; simp), TL.tl_append, TL.tl_append, List.append_assoc, hd, et]
    have hq : ∀ p ∈ ts.map (fun t => TL.tl (lineT t)), 32 ∉ p ∧ 3 ≤ p.length := fun p hp => by
      obtain ⟨t, ht, rfl⟩ := List.mem_map.mp hp
      exact lineT_free (h t ht)
    rw [par_tests (acc := []) (rest := TL.tl b) (by simpa using e) hq]
    show ((⟨([] ++ _ : List Nat).toArray⟩ : Str), _, (⟨(TL.tl b).toArray⟩ : Str)) = _
    rw [List.nil_append, ← et, TL.mk_tl, TL.mk_tl]
/-- the line of a case, read -/
theorem readC_line {c : Cas} (h : OkC c) : readC (lineC c) = some c := by
  have e : lineC c = "when " ++ (leftL c.1 ++ " do " ++ rightL c.2) := by
    unfold lineC
    rw [app_assoc, app_assoc, app_assoc]
  unfold readC
  rw [e, if_pos (starts_app _ _), removeprefix_app, part_line h.t]
  unfold readP
  show (match readTs (leftL c.1) with | none => none | some ts => _) = _
  rw [readTs_left h.t h.n]
  obtain ⟨ts, so⟩ := c
  cases so with
  | none => rfl
  | some ss =>
    obtain ⟨e1, e2⟩ := readSs_right (h.s ss rfl) (h.m ss rfl)
    show (if rightL (some ss) = "drop" then _ else match readSs (rightL (some ss)) with | none => none | some ss => some (ts, some ss)) = _
    rw [if_neg e2, e1]
/-- a line that is read is the line of the case -/
theorem readC_back {l : Str} {c : Cas} (h : readC l = some c) : lineC c = l ∧ OkC c := by
  unfold readC at h
  by_cases e : Txt.startswith l "when " = true
  · rw [if_pos e] at h
    have el := prefix_spec e
    have key : ∀ {x y : Str} {c : Cas}, readP x y = some c → leftL c.1 = x ∧ rightL c.2 = y ∧ OkC c := by
      intro x y c hr
      unfold readP at hr
      cases e1 : readTs x with
      | none =>
        rw [e1] at hr
        cases hr
      | some ts =>
        rw [e1] at hr
        obtain ⟨a1, a2, a3⟩ := readTs_back e1
        have hr' : (if y = "drop" then some (ts, none) else match readSs y with | none => none | some ss => some (ts, some ss)) = some c := hr
        by_cases e2 : y = "drop"
        · rw [if_pos e2] at hr'
          cases hr'
          exact ⟨a1, e2.symm, a2, a3, (fun ss z => by cases z), (fun ss z => by cases z)⟩
        · rw [if_neg e2] at hr'
          cases e3 : readSs y with
          | none =>
            rw [e3] at hr'
            cases hr'
          | some ss =>
            rw [e3] at hr'
            cases hr'
            obtain ⟨b1, b2, b3⟩ := readSs_back e3
            exact ⟨a1, b1, a2, a3, (fun ss z => by cases z; exact b2), (fun ss z => by cases z; exact b3)⟩
    obtain ⟨k1, k2, k3⟩ := key h
    refine ⟨?_, k3⟩
    rcases part_cases (Txt.removeprefix l "when ") " do " (by decide +kernel) with ⟨a, b, p1, p2⟩ | p1
    · rw [p1] at k1 k2
      unfold lineC
      rw [k1, k2, app_assoc, app_assoc, ← app_assoc a, ← p2]
      exact el.symm
    · rw [p1] at h
      have hx : readSs (Str.empty) = none := by decide +kernel
      have hy : ¬ (Str.empty : Str) = "drop" := by decide +kernel
      unfold readP at h
      cases e1 : readTs (Txt.removeprefix l "when ") with
      | none =>
        rw [e1] at h
        cases h
      | some ts =>
        rw [e1] at h
        have h' : (if (Str.empty : Str) = "drop" then some (ts, none) else match readSs Str.empty with | none => none | some ss => some (ts, some ss)) = some c := h
        rw [if_neg hy, hx] at h'
        cases h'
  · rw [if_neg e] at h
    cases h
end Bh

set_option Elab.async false
set_option linter.all false
set_option maxRecDepth 100000
namespace Bh
open PySem PySem.Spec PyProof.Rows L2
/-! ### a caught exception, known in the heap: what reads it may stand in another def -/
def exz (a : Addr) (cls : Value) (d : Option Addr) : HO := .ext fun h => ∃ (o : Obj) (vs : Array Value), h.get? a = some o ∧ Zc cls d o ∧ o.data = .fields vs
theorem exz_ok {P : Program} {w : World} {H : Hp} {h : Heap} {a : Addr} {cls : Value} {d : Option Addr} {o : Obj} {vs : Array Value} (e : h.get? a = some o) (z : Zc cls d o) (f : o.data = .fields vs) : ObjOk P w H h a (exz a cls d) :=
  ⟨⟨o, vs, e, z, f⟩, ⟨o, e⟩, fun _ _ y k => by
    obtain ⟨p, us, q, r⟩ := y
    exact ⟨p, us, k p q, r⟩⟩
theorem exz_at {P : Program} {w : World} {H : Hp} {h : Heap} {a : Addr} {cls : Value} {d : Option Addr} (ok : HOk P w H h) (e : H a = some (exz a cls d)) : ∃ (o : Obj) (vs : Array Value), h.get? a = some o ∧ Zc cls d o ∧ o.data = .fields vs := by
  have z : ObjOk P w H h a (.ext fun g => ∃ (o : Obj) (vs : Array Value), g.get? a = some o ∧ Zc cls d o ∧ o.data = .fields vs) := ok a _ e
  exact z.1
/-- e.n, e a caught exception that is known -/
def tXz (K : PySem.W.Frag) (n : Str) (te : TE) : TE := fun σ H Q => te σ H fun x H1 => ∃ (a C dd : Addr) (fs : List (Str × V)) (v : V), x = .ref a ∧ H1 a = some (exz a (.ref C) (some dd)) ∧ XfC K C ∧ PySem.W.findIn K (.ref C) n = some none ∧ H1 dd = some (.xd fs) ∧ fs.lookup n = some v ∧ Q v H1
theorem pe_xz {X : Cx} {e : Expr} {te : TE} {pos : Pos} {n : Str} (he : PE X e te) (hb : attributeBase e n X.env (eval e X.env) = eval e X.env := by rfl) : PE X (.Attribute e n pos) (tXz X.K n te) := by
  refine ⟨fun pins s σ H Q I h => attr_of hb (thn (he.run pins s σ H _ I h) fun u s1 hu => ?_)⟩
  obtain ⟨x, H1, J, rx, a, C, dd, fs, v, rfl, ea, xf, no, ed, lk, q⟩ := hu
  cases rx
  obtain ⟨o, vs, g, z, f⟩ := exz_at J.hok ea
  have kd : ObjOk X.prog X.w H1 s1.heap dd (.xd fs) := J.hok dd _ ed
  obtain ⟨m, ns, rel⟩ := kd
  obtain ⟨od, god, lo⟩ := lookIn_ns ns
  obtain ⟨y, hy, ry⟩ := RelO.some_of (v := v) (o := m n) (by rw [← lk]; exact rel n)
  have at_ : PySem.W.InstAt s1.heap a o C (some od) := by
    refine ⟨g, z.1, ?_, ?_⟩
    · unfold PySem.W.notCls
      rw [f] <;> rfl
    · rw [z.2]
      exact god
  have found : PySem.W.findObj X.K C (some od) n = some (.value y) := PySem.W.findObj_own xf.hdC no rfl (by rw [lo, hy])
  exact HandSPX.exc_get J.kIn at_ xf.ga xf.gg xf.exC found (handed_of ry) ⟨v, H1, J.tok _, ry, q⟩
/-! ### try: body, except (A, B) as n: suite, where all that the body raises is of one of both -/
section
variable {X : Cx} {pins : List (Addr × Obj)} {σ : L2.St} {H : Hp} {s0 s1 : Shared} {B : Heap} {a : Addr} {cls : Value} {d : Option Addr}
theorem hok_more {P : Program} {w : World} {h : Heap} {u : HO} (k : HOk P w H h) (na : H a = none) (new : ObjOk P w (upd H a u) h a u) : HOk P w (upd H a u) h := by
  intro b v q
  by_cases e : b = a
  · subst e
    rw [upd_same] at q
    cases q
    exact new
  · rw [upd_ne e] at q
    refine (k b v q).stay (fun _ _ _ r => r) (fun c r => ?_) (fun c xs r => ?_)
    · rw [upd_ne (ne_of_none r na)]
      exact r
    · rw [upd_ne (ne_of_none r na)]
      exact r
theorem Inv.seen (I : Inv X pins σ H s0) (nb : ∀ b o, s0.heap.get? b = some o → b ∉ frs X.stack → B.get? b = some o) (st : B.StaysIn s1.heap) (up : s0.heap.UpToSlots s1.heap) (os : s1.os = s0.os) (ag : AllBare s1.gens)
    (ha : s0.heap.get? a = none) (na : H a = none) {o : Obj} {vs : Array Value} (ga : s1.heap.get? a = some o) (z : Zc cls d o) (f : o.data = .fields vs) : Inv X pins σ (upd H a (exz a cls d)) s1 := by
  have fr : ∀ b ∈ frs X.stack, ∀ u, s0.heap.get? b = some u → ∃ sl, s1.heap.get? b = some { u with slots := sl } := by
    intro b hb u gu
    obtain ⟨_, u', gu', hd⟩ := I.stack.mem hb
    rw [gu] at gu'
    cases gu'
    exact up b u gu hd
  have ne : ∀ {b : Addr} {u : Obj}, s0.heap.get? b = some u → b ≠ a := by
    intro b u gu q
    rw [q, ha] at gu
    cases gu
  have old := Inv.landed (s' := s1) I nb st up os ag
  refine I.call' (ch := []) os ⟨?_, ?_, ?_, ?_, ?_, ?_, ?_⟩ (hok_more old.hok na (exz_ok ga z f)) ag (fun _ y => nomatch y)
  · exact fun b u gu _ hb _ => st b u (nb b u gu hb)
  · exact fun b u gu _ hb _ => fr b hb u gu
  · intro b u gu n _
    rw [upd_ne (ne gu)]
    exact n
  · intro b u gu _
    by_cases hb : b ∈ frs X.stack
    · obtain ⟨sl, q⟩ := fr b hb u gu
      exact ⟨_, q⟩
    · exact ⟨u, st b u (nb b u gu hb)⟩
  · intro b xs q
    rw [upd_ne (ne_of_none q na)]
    exact q
  · intro b u xs q
    rw [upd_ne (ne_of_none q na)]
    exact q
  · intro b ps q
    refine ⟨#[], ?_⟩
    rw [upd_ne (ne_of_none q na), q]
    simp
end
end Bh
namespace Bh
open PySem PySem.Spec PyProof.Rows L2
section
variable {X : Cx} {pins : List (Addr × Obj)} {σ : L2.St} {H : Hp} {s : Shared}
theorem Inv.inSuite (I : Inv X pins σ H s) (a : Addr) : Inv (X.suite a (X.pn ++ pins)) [] σ H s := by
  refine ⟨I.ok.suite _ _, I.os, I.bare, I.base, I.loc, I.cell, I.free, I.freeC, fun p hp => ?_, I.hok, I.len⟩
  rw [List.append_nil] at hp
  exact I.pin p hp
theorem Inv.offSuite {a : Addr} {more : List (Addr × Obj)} (I : Inv (X.suite a (X.pn ++ pins)) more σ H s) (ok : X.Ok) : Inv X pins σ H s :=
  ⟨ok, I.os, I.bare, I.base, I.loc, I.cell, I.free, I.freeC, fun p hp => I.pin p (List.mem_append_left _ hp), I.hok, I.len⟩
end
theorem flying_more {B h h' : Heap} {l : List Env} {a : Addr} {Z : Obj → Prop} (k : ∀ b o, h.get? b = some o → h'.get? b = some o) (f : HandSPX.FlyingZ B l a Z h) : HandSPX.FlyingZ B l a Z h' := by
  obtain ⟨f1, f2, f3, oe, vs, T, oT, ts, e1, e2, e3, e4, e5, e6, e7, e8, e9⟩ := f
  exact ⟨fun b o q => k b o (f1 b o q), f2, f3.of_keeps (fun b o q _ => ⟨o, k b o q, rfl⟩), oe, vs, T, oT, ts, k _ _ e1, e2, e3, e4, e5, e6, k _ _ e7, e8, e9⟩
/-- what the clause wishes of an exception of the body -/
def wTwo (K : PySem.W.Frag) (C1 C2 : Value) (i n : Nat) (ts : TS) (D : Ends) : WX := fun cls d σ H => PySem.W.exmAny K cls [C1, C2] = some true ∧ ∀ a, H a = none → σ.length = n →
  ts { nx := fun σ' H' => D.nx (σ'.set i none) H', rt := D.rt, bk := fun σ' H' => D.bk (σ'.set i none) H', ct := fun σ' H' => D.ct (σ'.set i none) H' } (σ.set i (some (.ref a))) (upd H a (exz a cls d))
section
variable {X : Cx} {x1 x2 n : Str} {C1 C2 : Addr} {i : Nat} {body suite : List Stmt} {b₀ : Stmt} {p1 p2 tpos pos pos' : Pos} {tb : WX → TS} {ts : TS} {kk : Nat}
theorem ps_try_two (hs : X.stack = X.env :: X.outer) (hf : X.env.frame = some X.env.locals) (hN : X.N.Nodup) (hi : X.N[i]? = some n) (hln : X.env.kindOf n = some .local)
    (g1 : Gl X x1) (m1 : X.mg x1 = some (.ref C1)) (g2 : Gl X x2) (m2 : X.mg x2 = some (.ref C2)) (d1 : (x1 == ("__debug__" : Str)) = false) (d2 : (x2 == ("__debug__" : Str)) = false)
    (hb : ∀ (W : WX) (pn : List (Addr × Obj)) (xe : Value → Shared → Prop), Takes (X.tr pn xe) W → PassesOwn (model X.prog X.w) X.A X.env xe → PSs (X.tr pn xe) body (tb W))
    (hsu : ∀ (a : Addr) (pn : List (Addr × Obj)), PSs (X.suite a pn) (b₀ :: suite) ts)
    (two : starEach [.Name x1 p1, .Name x2 p2] X.env = [(false, eval (.Name x1 p1) X.env), (false, eval (.Name x2 p2) X.env)] := by rfl) :
    PS X (.Try body [.ExceptHandler (some (.Tuple [.Name x1 p1, .Name x2 p2] kk tpos)) (some n) (b₀ :: suite) pos'] [] [] pos) (fun D σ H => tb (wTwo X.K (.ref C1) (.ref C2) i X.N.length ts D) D σ H) := by
  refine ⟨fun pins s σ H D I h => wpAny_Try_except ?_⟩
  have ok := I.ok
  have tops : X.A.frames = some (X.env :: X.outer) := ok.frames.trans (congrArg some hs)
  refine wpAny_mono ((hb (wTwo X.K (.ref C1) (.ref C2) i X.N.length ts D) (X.pn ++ pins) _ (fun u s1 air => ?caught) PassesOwn.looking).run [] s σ H D (I.toTry _) h) (fun f s1 e => ?ends) (fun _ _ e => e)
  case ends =>
    match f, e with
    | .next, ⟨σ1, H1, J, q⟩ => exact wpAny_execs_nil ⟨σ1, H1, J.ofTry ok, q⟩
    | .brk, ⟨σ1, H1, J, q⟩ => exact ⟨σ1, H1, J.ofTry ok, q⟩
    | .cont, ⟨σ1, H1, J, q⟩ => exact ⟨σ1, H1, J.ofTry ok, q⟩
    | .ret u, ⟨v, σ1, H1, J, r, q⟩ => exact ⟨v, σ1, H1, J.ofTry ok, r, q⟩
  case caught =>
    obtain ⟨a, B, s0, pins0, σ0, H0, cls, d, rfl, J0, nb, up, sky, na, os, ag, hm, go⟩ := air
    have J : Inv X pins σ0 H0 s0 := J0.ofTry ok
    rw [show (X.tr (X.pn ++ pins) _).stack = X.env :: X.outer from hs] at sky
    refine Sky.land Zc.steady tops hf sky fun h3 fl3 up3 => ?_
    obtain ⟨o3, v3, e3, z3, f3⟩ := fl3.there
    have noframe : a ∉ frs X.stack := by
      rw [hs]
      intro hm'
      obtain ⟨_, o', e', hd⟩ := fl3.2.2.1.mem hm'
      rw [e3] at e'
      cases e'
      exact hd _ f3
    have a0 : s0.heap.get? a = none := by
      cases q : s0.heap.get? a with
      | none => rfl
      | some o =>
        have z := nb a o q noframe
        rw [fl3.2.1] at z
        cases z
    have J3 := Inv.seen (s1 := { s1 with heap := h3 }) J nb fl3.1 (up.trans up3) os ag a0 na e3 z3 f3
    have S3 := Inv.inSuite J3 a
    refine wpAny_handleBy_cons (codeAny_handlers_test (wpAny_Tuple_spliced ?_)) (fun q => by cases q)
    rw [two]
    show wpAny _ _ (spliced [(false, eval (.Name x1 p1) X.env), (false, eval (.Name x2 p2) X.env)]) _ _ _
    refine Calls.spliced_cons (ld_glob S3 g1 m1 ?_ d1)
    refine Calls.spliced_cons (ld_glob S3 g2 m2 ?_ d2)
    refine Calls.spliced_nil ⟨(by show 2 ≤ sizeLine; decide), ?_⟩
    have more : ∀ b o, h3.get? b = some o → (h3.push { cls := .type "tuple", data := .seq [Value.ref C1, Value.ref C2].toArray }).get? b = some o := fun b o q => Heap.get?_push_of_some _ q
    have at_ : (h3.push { cls := .type "tuple", data := .seq [Value.ref C1, Value.ref C2].toArray }).get? h3.objs.size = some { cls := .type "tuple", data := .seq [Value.ref C1, Value.ref C2].toArray } := Heap.get?_push_size _ rfl
    have own : PySem.W.Looks (model X.prog X.w) (h3.push { cls := .type "tuple", data := .seq [Value.ref C1, Value.ref C2].toArray }) (typeOf (.ref a)) cls := fun A Q E s k q => wpAny_typeOf_ref (k _ _ (more _ _ e3)) (by rw [z3.1]; exact q)
    have hit := PySem.W.exm_tup2 (M := model X.prog X.w) (J3.kIn.keeps more) own at_ hm
    refine hit.here ?_
    refine codeAny_handlers_suite_as ?_
    have fl4 := flying_more more fl3
    refine HandSPX.lands_againZ fl4 fun h5 fl5 up5 => ?_
    obtain ⟨o5, v5, e5, z5, f5⟩ := fl5.there
    have J5 := Inv.seen (s1 := { s1 with heap := h5 }) J nb fl5.1 ((up.trans up3).trans ((Heap.UpToSlots.of_keeps more).trans up5)) os ag a0 na e5 z5 f5
    refine store_ok (X := X.suite a (X.pn ++ pins)) (v := .ref a) (Inv.inSuite J5 a) hN hi (.inl hln) rfl (fun s6 S6 => ?_) (.inr hln)
    refine wpAny_mono ((hsu a (X.pn ++ pins)).run [] s6 _ _ _ S6 (go a na J.len)) (fun f s7 e => ?_) (fun _ _ y => False.elim y)
    have leave : ∀ {σ7 : L2.St} {H7 : Hp} {R : Shared → Prop}, Inv (X.suite a (X.pn ++ pins)) [] σ7 H7 s7 → (∀ s8, Inv X pins (σ7.set i none) H7 s8 → R s8) →
        wpAny (model X.prog X.w) X.A (do bindName X.env n .none; unbindBehindTheSuite X.env n pos') (fun _ s8 => R s8) X.xe s7 := fun S7 r => gone_ok (Inv.offSuite S7 ok) hN hi hln r
    match f, e with
    | .next, ⟨σ7, H7, S7, q⟩ => exact leave S7 fun s8 J8 => ⟨_, _, J8, q⟩
    | .brk, ⟨σ7, H7, S7, q⟩ => exact leave S7 fun s8 J8 => ⟨_, _, J8, q⟩
    | .cont, ⟨σ7, H7, S7, q⟩ => exact leave S7 fun s8 J8 => ⟨_, _, J8, q⟩
    | .ret u, ⟨v, σ7, H7, S7, r, q⟩ => exact leave S7 fun s8 J8 => ⟨_, _, _, J8, r, q⟩
end
end Bh

set_option Elab.async false
set_option linter.all false
set_option maxRecDepth 100000
namespace Bh
open PySem PySem.Spec PyProof.Rows L2
/-! ### a def that runs while an exception is handled, and raises nothing -/
structure FnU (P : Program) (w : World) (K : PySem.W.Frag) (mg : Str → Option Value) (base : Heap) (k : Nat) (f : Addr) (fd : FuncData) (ps : List Str) (sp : Sp) : Prop where
  len : ∀ vs H Q E, sp vs H Q E → vs.length = ps.length
  run : ∀ (A : Around) (outer : List Env) (s : Shared) (H : Hp) (args : Args) (us : List Value) (vs : List V) (Q : VK) (E : XK), L2H.RoomH k A → Env0 P w K mg base A outer s H → BindsTo s fd args (ps.zip us) → Vals vs us → sp vs H Q E →
    codeAny (model P w) A (.call (.ref f) args) (CR CX0 outer P w H s Q E) s
def cxU (P : Program) (w : World) (K : PySem.W.Frag) (mg : Str → Option Value) (base : Heap) (N : List Str) (qual : Str) (scope : Scope) (f : Addr) (cd : Value) (A : Around) (outer : List Env) (s : Shared) (H : Hp) (E : XK) : Cx :=
  { cxOf CX0 P w K mg base N qual scope f cd A outer s H E with calm := false }
theorem start_u {P : Program} {w : World} {K : PySem.W.Frag} {mg : Str → Option Value} {base : Heap} {N ps : List Str} {qual : Str} {scope : Scope} {f : Addr} {cd : Value} {A : Around} {outer : List Env} {s s1 : Shared} {H : Hp} {E : XK} {us : List Value} {vs : List V}
    (S : FnScope N ps scope) (e0 : Env0 P w K mg base A outer s H) (hl : vs.length = ps.length) (r : Vals vs us)
    (x : InCallC s s.heap.objs.size (bindL (envOfC qual scope s.heap.objs.size f cd).kindOf (ps.zip us) fun _ => none) (cellsFrom (s.heap.objs.size + 1) scope.names []) (bindC (envOfC qual scope s.heap.objs.size f cd).kindOf (ps.zip us) fun _ => none) s1) :
    Inv (cxU P w K mg base N qual scope f cd A outer s H E) [] (L2.start N vs) H s1 := by
  have e1 : Env0 P w K mg base { A with handled := none } outer s H := ⟨e0.frames, e0.mod, e0.bs, e0.bsz, e0.funs, e0.frf, e0.hok, e0.bare⟩
  have I : Inv (cxOf CX0 P w K mg base N qual scope f cd { A with handled := none } outer s H E) [] (L2.start N vs) H s1 := inv_start S rfl e1 hl r x
  obtain ⟨o1, o2, o3, o4, o5, o6, o7, o8, _, _, o11, o12, o13, o14, o15, o16, o17, o18⟩ := I.ok
  exact ⟨⟨o1, o2, o3, o4, o5, o6, o7, o8, (fun z => Bool.noConfusion (show false = true from z)), Around.frames_deeper e0.frames, o11, o12, o13, o14, o15, o16, o17, o18⟩, I.os, I.bare, I.base, I.loc, I.cell, I.free, I.freeC, I.pin, I.hok, I.len⟩
theorem fun_u {P : Program} {w : World} {K : PySem.W.Frag} {mg : Str → Option Value} {base : Heap} {k : Nat} {f : Addr} {fd : FuncData} {x qual : Str} {st : Stmt} {N ps : List Str} {sp : Sp} (F : Fun K x qual st f fd) (S : FnScope N ps (defScope st))
    (len : ∀ vs H Q E, sp vs H Q E → vs.length = ps.length)
    (body : ∀ (cdv : Value) (A : Around) (outer : List Env) (s : Shared) (H : Hp) (vs : List V) (Q : VK) (E : XK), sp vs H Q E →
      ∃ t, PSs (cxU P w K mg base N qual (defScope st) f cdv A outer s H E) (defBody st) t ∧ t { nx := fun _ H' => Q .non H', rt := Q } (L2.start N vs) H) : FnU P w K mg base (k + 1) f fd ps sp := by
  obtain ⟨oc, od, kV, doc, pm, an, cdv, ct, osl, rfl, lk, hcd⟩ := F.ex
  refine ⟨len, fun A outer s H args us vs Q E hr e0 hb r h => ?_⟩
  have l1 := len _ _ _ _ h
  have X0 : K.In s.heap := e0.mod.kin.keeps fun b o e => (e0.bs b o e).1
  have nl : s.heap.NoLimit := e0.mod.nolimit.keeps fun b o e => (e0.bs b o e).1
  have kinds : ∀ y ∈ ps.zip us, (defScope st).names.lookup y.1 = some .local ∨ ((defScope st).names.lookup y.1 = some .cell ∧ ((cellsFrom (s.heap.objs.size + 1) (defScope st).names []).lookup y.1).isSome = true) := by
    rintro ⟨n, v⟩ hy
    exact (S.par n (List.of_mem_zip hy).1).imp id fun q => ⟨q, PySem.W.cellsFrom_some _ _ _ (.inl q)⟩
  refine codeAny_call_function hr.depth (X0 _ _ lk) rfl S.co S.gen rfl (PySem.W.codeRec_of X0 hcd) (hb _ _ _ _ (wpAny_newFunctionEnv_cells S.kind kinds fun env he s1 x => ?_))
  subst he
  obtain ⟨t, ht, hq⟩ := body cdv A outer s H vs Q E h
  refine ⟨nl.keeps x.toInCall.keep, codeAny_func (wpAny_mono (ht.run [] s1 (L2.start N vs) H _ (start_u S e0 l1 r x) hq) (fun fl s2 e => ?_) fun _ _ e => e)⟩
  match fl, e with
  | .next, ⟨σ2, H2, J, q⟩ => exact ⟨.non, H2, J.os, J.bare, J.base, J.hok, rfl, q⟩
  | .brk, ⟨_, _, _, q⟩ => exact q.elim
  | .cont, ⟨_, _, _, q⟩ => exact q.elim
  | .ret u, ⟨v, σ2, H2, J, rv, q⟩ => exact ⟨v, H2, J.os, J.bare, J.base, J.hok, rv, q⟩
theorem pe_callU {X : Cx} {k : Nat} {f : Addr} {fd : FuncData} {ps : List Str} {sp : Sp} {x : Str} {q pos : Pos} {e : Expr} {es : List Expr} {t : TA} (F : FnU X.prog X.w X.K X.mg X.base k f fd ps sp) (hr : L2H.RoomH k X.A) (hg : Gl X x) (hm : X.mg x = some (.ref f)) (hk : PySem.W.keepIn X.K (.ref f) = true) (hb : Binds X.K fd ps [])
    (ha : PA X (e :: es) t) (hdb : (x == ("__debug__" : Str)) = false := by decide) (hs : starEach (e :: es) X.env = (false, eval e X.env) :: starEach es X.env := by rfl) (hp : (backTo pos (starEach es X.env)).any (·.1) = false := by rfl) :
    PE X (.Call (.Name x q) (e :: es) [] pos) (fun σ H Q => t σ H fun vs H1 => sp vs H1 Q fun _ _ _ => False) := by
  refine ⟨fun pins s σ H Q I h => wpAny_Call_Name_kw (ld_glob I hg hm ?_ hdb)⟩
  refine PySem.W.callWith_K (h₀ := X.base) I.ok.mod.kin hk (thn (ha.run pos pins s σ H _ I h) fun us s1 hu => ?_) hs hp
  obtain ⟨vs, H1, J, rv, y⟩ := hu
  refine ⟨J.kIn, ?_⟩
  have n : us.length = ps.length := rv.length.symm.trans (F.len _ _ _ _ y)
  have bnd := hb s1 us J.kIn (by rw [List.append_nil]; exact n)
  rw [List.append_nil] at bnd
  refine wpAny_call (codeAny_mono (F.run X.A X.stack s1 H1 ⟨us, []⟩ us vs Q _ hr J.env0 bnd rv y) fun res s2 z => ?_)
  match res, z with
  | .error _, z => exact z.elim
  | .ok (.ret u), z => exact J.after z
  | .ok .next, z => exact z.elim
  | .ok .brk, z => exact z.elim
  | .ok .cont, z => exact z.elim
end Bh
namespace Bh
open PySem PySem.Spec PyProof.Rows L2
/-! ### the end of a law that makes a lambda: its table of code objects is told by the top -/
theorem walkT {l : PySem.W.OpenLaw} {n k : Nat} {q : Program} {loose : List Str} {XP : (Str → Option Value) → Heap → Prop} {YP : World → Heap → Prop} {d : DefRec} {CX : World → CXT} {x : Str}
    (hn : l.most = some n) (hn2 : n ≤ sizeLine) (hdf : d.params.defaults = []) (hr : Room k callerA)
    (F : ∀ (w : World) (mg mb : Str → Option Value) (fa : Addr) (h : Heap), (∀ (K : PySem.W.Frag), K.In h → ∀ (dd : DefRec) (y : Str) (c P : Addr), (recsOf q).find? (fun e => e.name == y) = some dd → PySem.W.tabIn K y = some (c, P) → PySem.W.CodeHd h c P ∧ h.get? P = some (PySem.W.tabObj #[])) → h.Ns mainGlobals mg → YP w h → mg d.name = some (.ref fa) → ∃ K : PySem.W.Frag, K.In h ∧ LamX.LawAtS l w K (CX w) k n x mg fa h)
    (hCX : ∀ (w : World) (H : Hp) (s : Shared) (e : Value) (s' : Shared), CX w [] H s (fun _ _ _ => False) e s' → False) :
    PySem.W.WalkO q loose XP YP l.row.toRowW d [] (fun f vs => PySem.call f vs) := by
  refine Att.attach_callB hn hdf fun w s0 s1 mg mb fa o pm cd doc a vs ns G Y _ _ _ hmg hobj hi hlen hbits hg => ?_
  obtain ⟨K, KX, fd, cs, sp, t1, t2, t3, bnd, hsp, ok⟩ := F w mg mb fa _ (fun K KX dd y c P h1 h2 => PySem.W.tab_of G.T KX h1 h2) G.T.g Y hmg
  refine LamX.law_callTs KX G.T.g G.T.b G.T.builtins G.T.nolimit hg t1 t2 t3 G.T.bmain hobj hi (Nat.le_trans hlen hn2) hr ok bnd ?_ ?_
  · exact fun H hH hS => hsp H a ns hlen hbits hH hS
  · exact fun H e s' => hCX w H s1 e s'
end Bh

set_option Elab.async false
set_option linter.all false
set_option maxRecDepth 100000
set_option maxHeartbeats 1000000
namespace Bh
open PySem PySem.Spec PyProof.Rows L2
def topS (i : Nat) : Stmt := PySem.Challenge.pw_bestheard_k02_names_and_options.main.body.getD i (.Pass ⟨0, 0, 0, 0⟩)
abbrev s_copy_of : Stmt := topS 1
theorem sc_copy_of : FnScope ["value", "item", "key", "worth"] ["value"] (defScope s_copy_of) := ⟨rfl, rfl, rfl, by decide +kernel, rfl, by decide +kernel, by decide +kernel⟩
abbrev s_InvalidCount__init : Stmt := inClass (topS 5) 0
theorem sc_InvalidCount__init : FnScope ["self", "given"] ["self", "given"] (defScope s_InvalidCount__init) := ⟨rfl, rfl, rfl, by decide +kernel, rfl, by decide +kernel, by decide +kernel⟩
abbrev s_is_name : Stmt := topS 11
theorem sc_is_name : FnScope ["value"] ["value"] (defScope s_is_name) := ⟨rfl, rfl, rfl, by decide +kernel, rfl, by decide +kernel, by decide +kernel⟩
abbrev s_is_option : Stmt := topS 12
theorem sc_is_option : FnScope ["value"] ["value"] (defScope s_is_option) := ⟨rfl, rfl, rfl, by decide +kernel, rfl, by decide +kernel, by decide +kernel⟩
abbrev s_is_word : Stmt := topS 13
theorem sc_is_word : FnScope ["value", "characters", "character"] ["value", "characters"] (defScope s_is_word) := ⟨rfl, rfl, rfl, by decide +kernel, rfl, by decide +kernel, by decide +kernel⟩
abbrev s_is_integer : Stmt := topS 14
theorem sc_is_integer : FnScope ["value"] ["value"] (defScope s_is_integer) := ⟨rfl, rfl, rfl, by decide +kernel, rfl, by decide +kernel, by decide +kernel⟩
abbrev s_is_number : Stmt := topS 15
theorem sc_is_number : FnScope ["value", "least", "most"] ["value", "least", "most"] (defScope s_is_number) := ⟨rfl, rfl, rfl, by decide +kernel, rfl, by decide +kernel, by decide +kernel⟩
abbrev s_cell_names : Stmt := topS 16
theorem sc_cell_names : FnScope ["many", "position"] ["many"] (defScope s_cell_names) := ⟨rfl, rfl, rfl, by decide +kernel, rfl, by decide +kernel, by decide +kernel⟩
abbrev s_cell_name : Stmt := topS 17
theorem sc_cell_name : FnScope ["position", "name", "left", "letter"] ["position"] (defScope s_cell_name) := ⟨rfl, rfl, rfl, by decide +kernel, rfl, by decide +kernel, by decide +kernel⟩
abbrev s_l_bag : Stmt := topS 19
theorem sc_l_bag : FnScope ["_law_script", "_law_seed", "_law_cell"] ["_law_script"] (defScope s_l_bag) := ⟨rfl, rfl, rfl, by decide +kernel, rfl, by decide +kernel, by decide +kernel⟩
abbrev s_l_draw : Stmt := topS 20
theorem sc_l_draw : FnScope ["_law_bag_here", "_law_many_z", "_law_cell", "_law_found", "_law_old"] ["_law_bag_here", "_law_many_z"] (defScope s_l_draw) := ⟨rfl, rfl, rfl, by decide +kernel, rfl, by decide +kernel, by decide +kernel⟩
abbrev s_l_any : Stmt := topS 21
theorem sc_l_any : FnScope ["_law_bag_here", "_law_row"] ["_law_bag_here", "_law_row"] (defScope s_l_any) := ⟨rfl, rfl, rfl, by decide +kernel, rfl, by decide +kernel, by decide +kernel⟩
abbrev s_l_like : Stmt := topS 22
theorem sc_l_like : FnScope ["_law_found", "_law_due", "_law_key", "_law_one", "_law_other"] ["_law_found", "_law_due"] (defScope s_l_like) := ⟨rfl, rfl, rfl, by decide +kernel, rfl, by decide +kernel, by decide +kernel⟩
abbrev s_l_given : Stmt := topS 23
theorem sc_l_given : FnScope ["_law_e"] ["_law_e"] (defScope s_l_given) := ⟨rfl, rfl, rfl, by decide +kernel, rfl, by decide +kernel, by decide +kernel⟩
abbrev s_l_try : Stmt := topS 24
theorem sc_l_try : FnScope ["_law_ask", "_law_found", "_law_e"] ["_law_ask"] (defScope s_l_try) := ⟨rfl, rfl, rfl, by decide +kernel, rfl, by decide +kernel, by decide +kernel⟩
abbrev s_law : Stmt := topS 25
theorem sc_law : FnScope ["_law_script", "_law_bag_here", "_law_letters", "_law_signs", "_law_turn", "_law_many_z", "_law_name", "_law_option", "_law_plain", "_law_good", "_law_at", "_law_odd", "_law_bent", "_law_found", "_law_k", "_law_sign", "_law_one"] ["_law_script"] (defScope s_law) := ⟨rfl, rfl, rfl, by decide +kernel, rfl, by decide +kernel, by decide +kernel⟩
structure Top (K : PySem.W.Frag) (mg : Str → Option Value) : Type where
  a_copy_of : Addr
  fd_copy_of : FuncData
  d_copy_of : Df K mg "copy_of" s_copy_of ["value"] a_copy_of fd_copy_of
  a_is_name : Addr
  fd_is_name : FuncData
  d_is_name : Df K mg "is_name" s_is_name ["value"] a_is_name fd_is_name
  a_is_option : Addr
  fd_is_option : FuncData
  d_is_option : Df K mg "is_option" s_is_option ["value"] a_is_option fd_is_option
  a_is_word : Addr
  fd_is_word : FuncData
  d_is_word : Df K mg "_is_word" s_is_word ["value", "characters"] a_is_word fd_is_word
  a_is_integer : Addr
  fd_is_integer : FuncData
  d_is_integer : Df K mg "is_integer" s_is_integer ["value"] a_is_integer fd_is_integer
  a_is_number : Addr
  fd_is_number : FuncData
  d_is_number : Df K mg "is_number" s_is_number ["value", "least", "most"] a_is_number fd_is_number
  a_cell_names : Addr
  fd_cell_names : FuncData
  d_cell_names : Df K mg "cell_names" s_cell_names ["many"] a_cell_names fd_cell_names
  a_cell_name : Addr
  fd_cell_name : FuncData
  d_cell_name : Df K mg "cell_name" s_cell_name ["position"] a_cell_name fd_cell_name
  a_l_bag : Addr
  fd_l_bag : FuncData
  d_l_bag : Df K mg "_law_bag" s_l_bag ["_law_script"] a_l_bag fd_l_bag
  a_l_draw : Addr
  fd_l_draw : FuncData
  d_l_draw : Df K mg "_law_draw" s_l_draw ["_law_bag_here", "_law_many_z"] a_l_draw fd_l_draw
  a_l_any : Addr
  fd_l_any : FuncData
  d_l_any : Df K mg "_law_any" s_l_any ["_law_bag_here", "_law_row"] a_l_any fd_l_any
  a_l_like : Addr
  fd_l_like : FuncData
  d_l_like : Df K mg "_law_like" s_l_like ["_law_found", "_law_due"] a_l_like fd_l_like
  a_l_given : Addr
  fd_l_given : FuncData
  d_l_given : Df K mg "_law_given" s_l_given ["_law_e"] a_l_given fd_l_given
  a_l_try : Addr
  fd_l_try : FuncData
  d_l_try : Df K mg "_law_try" s_l_try ["_law_ask"] a_l_try fd_l_try
  b_all : mg "all" = none
  b_dict : mg "dict" = none
  b_isinstance : mg "isinstance" = none
  b_len : mg "len" = none
  b_list : mg "list" = none
  b_max : mg "max" = none
  b_min : mg "min" = none
  b_range : mg "range" = none
  b_sorted : mg "sorted" = none
  b_tuple : mg "tuple" = none
  b_int : mg "int" = none
  b_zip : mg "zip" = none
  b_bool : mg "bool" = none
  b_str : mg "str" = none
  b_divmod : mg "divmod" = none
  g_LETTERS : ∃ t, mg "LETTERS" = some (Value.str "abcdefghijklmnopqrstuvwxyz" t)
  g_LETTERS_AND_DIGITS : ∃ t, mg "LETTERS_AND_DIGITS" = some (Value.str "abcdefghijklmnopqrstuvwxyz0123456789" t)
  g_LONGEST : ∃ t, mg "LONGEST" = some (Value.int 8 t)
  g_MOST_NAMES : ∃ t, mg "MOST_NAMES" = some (Value.int 2000 t)
  cIC : Addr
  fIC : Addr
  fdIC : FuncData
  FIC : Fun K "__init__" "InvalidCount.__init__" s_InvalidCount__init fIC fdIC
  bIC : Binds K fdIC ["self", "given"] []
  gIC : mg "InvalidCount" = some (.ref cIC)
  oIC : OexC K cIC
  iIC : PySem.W.findIn K (.ref cIC) "__init__" = some (some (.ref fIC))
  tIC : PySem.W.typeIn K (.ref fIC) = some (.type "function")
  nIC : PySem.W.findIn K (.ref cIC) "given" = some none ∧ PySem.W.findIn K (.ref cIC) "code" = some none
  xIC : XfC K cIC
  cBE : Addr
  cMS : Addr
  gBE : mg "BestError" = some (.ref cBE)
  gMS : mg "Missing" = some (.ref cMS)
  eIC : PySem.W.exmAny K (.ref cIC) [.ref cBE, .ref cMS] = some true

section
variable {P : Program} {w : World} {K : PySem.W.Frag} {mg : Str → Option Value} {base : Heap}
theorem cut63 (ns : List Int) (h : ns.length ≤ 63) : cutV (ns.map V.int) none (some 63) = ns.map V.int := by
  unfold cutV
  rw [HT.sIx_none, show HT.sIx (ns.map V.int).length (ns.map V.int).length (some 63) = min 63 (ns.map V.int).length from HT.sIx_nat _ _ 63, List.length_map, Nat.min_eq_right h]
  show List.take (ns.length - 0) (List.drop 0 (ns.map V.int)) = _
  rw [List.drop_zero, Nat.sub_zero]
  exact List.take_of_length_le (by rw [List.length_map]; exact Nat.le_refl _)
theorem ok_bag (T : Top K mg) : FnOk P w K mg base CX0 1 T.a_l_bag T.fd_l_bag ["_law_script"] (spBag K) := by
  refine T.d_l_bag.F.ok sc_l_bag (fun vs H Q E h => ?_) (fun cdv A outer s H vs Q E hr h => ?_)
  · obtain ⟨a, ns, rfl, _⟩ := h
    rfl
  obtain ⟨a, ns, rfl, hS, h63, q⟩ := h
  refine ⟨_, (pss_cons (ps_set (i := 1) sc_l_bag.nd rfl (Or.inl rfl) (pe_op op_add pe_int (pe_op op_mul pe_int (pe_callB (call_len_seq_K (K := K) (by rfl)) (by rfl) T.b_len PySem.boot_len (pa_cons (pe_slice (sl_list_K (K := K) (by rfl)) (pv 0) po_none (po_some pe_int)) pa_nil)))))
    (pss_cons (ps_for PassesOwn.never rfl (pi_list_K (K := K) (by rfl) (pe_slice (sl_list_K (K := K) (by rfl)) (pv 0) po_none (po_some pe_int))) (pg_name (i := 2) sc_l_bag.nd rfl (Or.inl rfl))
      (pss_one (ps_set (i := 1) sc_l_bag.nd rfl (Or.inl rfl) (pe_op op_mod (pe_callTy call_int1 (by rfl) T.b_int (by decide +kernel) (pa_cons (pe_op op_add (pe_op op_add (pe_op op_mul (pv 1) pe_int) (pe_op op_mod (pe_callTy call_int1 (by rfl) T.b_int (by decide +kernel) (pa_cons (pv 2) pa_nil)) pe_int)) pe_int) pa_nil)) pe_int))))
    (pss_one (ps_ret (pe_lst (pa_cons (pe_callTy (call_list_of_K (K := K) (by rfl)) (by rfl) T.b_list (by decide +kernel) (pa_cons (pe_slice (sl_list_K (K := K) (by rfl)) (pv 0) po_none (po_some pe_int)) pa_nil)) (pa_cons pe_int (pa_cons pe_int (pa_cons (pv 1) pa_nil))))))))), ?_⟩
  refine ⟨_, rfl, _, rfl, _, _, rfl, hS, fun p1 n1 => ?_⟩
  rw [cut63 ns h63]
  refine ⟨_, _, rfl, .inl (SqL.of upd_same), _, _, rfl, rfl, .inl ⟨by decide, by decide⟩, _, _, rfl, rfl, ?_⟩
  have e1 : Same H (upd H p1 (.lst (ns.map V.int))) := same_new n1
  refine ⟨_, rfl, _, rfl, _, _, rfl, e1.seq hS, fun p2 n2 => ?_⟩
  rw [cut63 ns h63]
  have e2 := e1.trans (same_new (o := .lst (ns.map V.int)) n2)
  refine ⟨p2, rfl, ⟨_, SqL.of upd_same⟩, for_list (K := K) (a := p2) (xs := ns.map V.int) (fun i σ H' => ∃ (z : Int) (v : Option V), σ = [some (.ref a), some (.int z), v] ∧ (0 < i → 0 ≤ z ∧ z < 2147483647) ∧ (z < 100000 ∨ 0 < i) ∧ 0 ≤ z ∧ H' = (upd (upd H p1 (.lst (ns.map V.int))) p2 (.lst (ns.map V.int))))
    ⟨_, none, rfl, fun z => absurd z (Nat.lt_irrefl _), .inl ?_, ?_, rfl⟩ (fun i σ H' _ ⟨_, _, _, _, _, _, e⟩ => by rw [e]; exact SqL.of upd_same) ?_ ?_⟩
  · rw [List.length_map]
    omega
  · rw [List.length_map]
    omega
  · rintro i y σ H' hi ⟨z, v, rfl, z1, z2, z0, rfl⟩
    obtain ⟨u, _, rfl⟩ := get_map hi
    refine ⟨_, rfl, _, _, rfl, rfl, .inr ⟨by decide, by decide⟩, _, rfl, .inl ⟨_, rfl, _, _, rfl, rfl, p31, _, _, rfl, rfl, _, _, rfl, rfl, .inl ⟨_, rfl, _, _, rfl, rfl, p31, ?_⟩⟩⟩
    refine ⟨_, _, rfl, fun _ => ⟨?_, ?_⟩, .inr (Nat.succ_pos i), ?_, rfl⟩ <;> omega
  · rintro σ H' ⟨z, v, rfl, z1, z2, z0, rfl⟩
    refine ⟨_, rfl, _, rfl, _, _, rfl, e2.seq hS, fun p3 n3 => ?_⟩
    rw [cut63 ns h63]
    refine ⟨_, _, rfl, .inl (SqL.of upd_same), fun l nl => ?_⟩
    have e3 := e2.trans (same_new (o := .lst (ns.map V.int)) n3)
    have e4 := e3.trans (same_new (o := .lst (ns.map V.int)) nl)
    refine ⟨_, rfl, (by show 4 ≤ sizeLine; decide), fun b nb => ?_⟩
    have e5 := e4.trans (same_new (o := .lst [.ref l, .int 0, .int 0, .int z]) nb)
    refine q b l _ (e4.free nb) (e3.free nl) e5 ⟨ns, 0, 0, z, upd_same, ?_, h63, by omega, by omega, by omega, z0, by omega⟩
    rw [upd_ne (ne_of_none upd_same nb), upd_same]
theorem ok_draw (T : Top K mg) : FnOk P w K mg base CX0 1 T.a_l_draw T.fd_l_draw ["_law_bag_here", "_law_many_z"] spDraw := by
  refine T.d_l_draw.F.ok sc_l_draw (fun vs H Q E h => ?_) (fun cdv A outer s H vs Q E hr h => ?_)
  · obtain ⟨b, l, G, n, rfl, _⟩ := h
    rfl
  obtain ⟨b, l, G, n, rfl, n0, n1, wd, q⟩ := h
  refine ⟨_, (Evl.pss_cut (ps_if (PW.pt (pw_and (pt_cmpR op_eq (pe_ix (ix_list_K (K := K) (by rfl)) (pv 0) pe_int (fun _ _ => rfl)) pe_int (nomark _)) (pw_and1 (pt_cmpR op_lt (pe_ix (ix_list_K (K := K) (by rfl)) (pv 0) pe_int (fun _ _ => rfl)) (pe_callB (call_len_seq_K (K := K) (by rfl)) (by rfl) T.b_len PySem.boot_len (pa_cons (pe_ix (ix_list_K (K := K) (by rfl)) (pv 0) pe_int (fun _ _ => rfl)) pa_nil)) (nomark _))))) (pss_cons (ps_set (i := 2) sc_l_draw.nd rfl (Or.inl rfl) (pe_ix (ix_list_K (K := K) (by rfl)) (pe_ix (ix_list_K (K := K) (by rfl)) (pv 0) pe_int (fun _ _ => rfl)) (pe_ix (ix_list_K (K := K) (by rfl)) (pv 0) pe_int (fun _ _ => rfl)) (fun _ _ => rfl)))
      (pss_cons (ps_asg (pe_op op_add (pe_ix (ix_list_K (K := K) (by rfl)) (pv 0) pe_int (fun _ _ => rfl)) pe_int) (pg_sub (pv 0) pe_int set_list))
      (pss_one (ps_if (pt_cmpR op_ge (pv 2) (pe_op op_pow pe_int pe_int) (nomark _)) (pss_one (ps_asg (pv 2) (pg_sub (pv 0) pe_int set_list))) (pss_one (ps_asg (pe_op op_mod (pe_callTy call_int1 (by rfl) T.b_int (by decide +kernel) (pa_cons (pe_op op_add (pe_op op_add (pe_op op_mul (pe_ix (ix_list_K (K := K) (by rfl)) (pv 0) pe_int (fun _ _ => rfl)) pe_int) (pe_op op_mul (pe_op op_mod (pe_callTy call_int1 (by rfl) T.b_int (by decide +kernel) (pa_cons (pv 2) pa_nil)) pe_int) pe_int)) (pe_ix (ix_list_K (K := K) (by rfl)) (pv 0) pe_int (fun _ _ => rfl))) pa_nil)) pe_int) (pg_sub (pv 0) pe_int set_list))))))) pss_nil)
    (pss_cons (ps_if (pt_cmpR op_gt (pe_ix (ix_list_K (K := K) (by rfl)) (pv 0) pe_int (fun _ _ => rfl)) pe_int (nomark _)) (pss_cons (ps_set (i := 3) sc_l_draw.nd rfl (Or.inl rfl) (pe_op op_mod (pe_callTy call_int1 (by rfl) T.b_int (by decide +kernel) (pa_cons (pe_ix (ix_list_K (K := K) (by rfl)) (pv 0) pe_int (fun _ _ => rfl)) pa_nil)) (pv 1)))
      (pss_cons (ps_asg (pe_op op_fdiv (pe_ix (ix_list_K (K := K) (by rfl)) (pv 0) pe_int (fun _ _ => rfl)) (pv 1)) (pg_sub (pv 0) pe_int set_list))
      (pss_one (ps_ret (pv 3))))) pss_nil)
    (pss_cons (ps_set (i := 4) sc_l_draw.nd rfl (Or.inl rfl) (pe_ix (ix_list_K (K := K) (by rfl)) (pv 0) pe_int (fun _ _ => rfl)))
    (pss_cons (ps_asg (pe_op op_mod (pe_callTy call_int1 (by rfl) T.b_int (by decide +kernel) (pa_cons (pe_op op_add (pe_op op_add (pe_op op_mul (pv 4) (pv 4)) (pe_op op_mul (pv 4) pe_int)) pe_int) pa_nil)) pe_int) (pg_sub (pv 0) pe_int set_list))
    (pss_one (ps_ret (pe_op op_mod (pe_callTy call_int1 (by rfl) T.b_int (by decide +kernel) (pa_cons (pe_op op_add (pe_op op_fdiv (pe_ix (ix_list_K (K := K) (by rfl)) (pv 0) pe_int (fun _ _ => rfl)) pe_int) (pe_op op_mul (pe_op op_mod (pe_callTy call_int1 (by rfl) T.b_int (by decide +kernel) (pa_cons (pe_ix (ix_list_K (K := K) (by rfl)) (pv 0) pe_int (fun _ _ => rfl)) pa_nil)) pe_int) pe_int)) pa_nil)) (pv 1)))))))), ?_⟩
  obtain ⟨ns, i, c, s, hb, hl, h63, i0, i1, c0, s0, s1⟩ := id wd.bag
  have lb : l ≠ b := ne_of hl hb (by intro z; cases ns with | nil => cases z | cons x r => cases r with | nil => cases z | cons => cases z)
  have B := SqL.of (K := K) hb
  refine ⟨fun σ' H' => ∃ v, σ' = [some (.ref b), some (.int n), v, none, none] ∧ Wd b l G H', ?_, ?_⟩
  · refine ⟨_, rfl, _, _, _, _, rfl, rfl, B, rfl, rfl, _, rfl, ?_⟩
    refine ite2 (fun _ => ?_) (fun _ => ?_)
    · refine ⟨_, rfl, _, _, _, _, rfl, rfl, B, rfl, _, rfl, _, _, _, _, rfl, rfl, B, rfl, _, _, rfl, .inl (SqL.of hl), _, _, rfl, rfl, _, rfl, ?_⟩
      refine ite2 (fun c1 => ?_) (fun _ => ?_)
      · have c2 := of_decide_eq_true c1
        rw [List.length_map] at c2
        have c3 : i.toNat < ns.length := by omega
        refine ⟨_, rfl, _, _, _, _, rfl, rfl, B, rfl, _, rfl, _, _, _, _, rfl, rfl, B, rfl, _, _, _, .int ns[i.toNat], rfl, rfl, SqL.of hl, at_nn i0 (by rw [List.getElem?_map, List.getElem?_eq_getElem c3]; rfl), ?_⟩
        refine ⟨_, rfl, _, _, _, _, rfl, rfl, B, rfl, _, _, rfl, rfl, _, rfl, _, _, _, 1, rfl, rfl, hb, rfl, ?_⟩
        refine ⟨_, rfl, _, _, rfl, rfl, ⟨by decide, by decide, by decide⟩, _, _, rfl, rfl, _, rfl, ?_⟩
        refine ite2 (fun g1 => ?_) (fun _ => ?_)
        · have g2 := of_decide_eq_true g1
          refine ⟨_, rfl, _, rfl, _, _, _, 2, rfl, rfl, upd_same, rfl, ?_⟩
          refine ⟨_, rfl, ?_⟩
          rw [upd_upd]
          exact wd.bagged ⟨ns, i + 1, _, s, upd_same, by rw [upd_ne lb]; exact hl, h63, by omega, by omega, Int.le_trans (by decide) g2, s0, s1⟩
        · refine ⟨_, rfl, _, _, _, _, rfl, rfl, SqL.of upd_same, rfl, _, _, rfl, rfl, .inr ⟨by decide, by decide⟩, _, rfl, .inl ⟨_, rfl, _, _, rfl, rfl, p31, _, _, rfl, rfl, .inr ⟨by decide, by decide⟩, _, _, rfl, rfl, _, rfl, _, _, _, _, rfl, rfl, SqL.of upd_same, rfl, _, _, rfl, rfl, .inl ⟨_, rfl, _, _, rfl, rfl, p31, ?_⟩⟩⟩
          refine ⟨_, rfl, _, _, _, 3, rfl, rfl, upd_same, rfl, ?_⟩
          refine ⟨_, rfl, ?_⟩
          rw [upd_upd]
          exact wd.bagged ⟨ns, i + 1, c, _, upd_same, by rw [upd_ne lb]; exact hl, h63, by omega, by omega, c0, Int.emod_nonneg _ (by decide), Int.emod_lt_of_pos _ (by decide)⟩
      · exact ⟨_, rfl, wd⟩
    · exact ⟨_, rfl, wd⟩
  · rintro σ' H' ⟨v, rfl, wd⟩
    obtain ⟨ns, i, c, s, hb, hl, h63, i0, i1, c0, s0, s1⟩ := id wd.bag
    have lb : l ≠ b := ne_of hl hb (by intro z; cases ns with | nil => cases z | cons x r => cases r with | nil => cases z | cons => cases z)
    have B := SqL.of (K := K) hb
    refine ⟨_, rfl, _, _, _, _, rfl, rfl, B, rfl, _, _, rfl, rfl, _, rfl, ?_⟩
    refine ite2 (fun g1 => ?_) (fun _ => ?_)
    · refine ⟨_, rfl, _, _, _, _, rfl, rfl, B, rfl, .inl ⟨_, rfl, _, rfl, _, _, rfl, rfl, n0, ?_⟩⟩
      refine ⟨_, rfl, _, _, _, _, rfl, rfl, B, rfl, _, rfl, _, _, rfl, rfl, ⟨n0, n1⟩, _, rfl, _, _, _, 2, rfl, rfl, hb, rfl, ?_⟩
      refine ⟨_, rfl, ?_⟩
      exact q _ _ (Int.emod_nonneg _ (by omega)) (Int.emod_lt_of_pos _ n0) (wd.bagged ⟨ns, i, c / n, s, upd_same, by rw [upd_ne lb]; exact hl, h63, i0, i1, Int.ediv_nonneg c0 (by omega), s0, s1⟩)
    · refine ⟨_, rfl, _, _, _, _, rfl, rfl, B, rfl, ?_⟩
      refine ⟨_, rfl, _, rfl, _, _, rfl, rfl, .inl ⟨by omega, by omega⟩, _, rfl, _, _, rfl, rfl, .inr ⟨by decide, by decide⟩, _, _, rfl, rfl, _, _, rfl, rfl, .inl ⟨_, rfl, _, _, rfl, rfl, p31, ?_⟩⟩
      refine ⟨_, rfl, _, _, _, 3, rfl, rfl, hb, rfl, ?_⟩
      refine ⟨_, rfl, _, _, _, _, rfl, rfl, SqL.of upd_same, rfl, _, _, rfl, rfl, ⟨by decide, by decide⟩, _, rfl, _, _, _, _, rfl, rfl, SqL.of upd_same, rfl, .inl ⟨_, rfl, _, _, rfl, rfl, p8117, _, _, rfl, rfl, .inr ⟨by decide, by decide⟩, _, _, rfl, rfl, .inl ⟨_, rfl, _, rfl, _, _, rfl, rfl, n0, ?_⟩⟩⟩
      exact q _ _ (Int.emod_nonneg _ (by omega)) (Int.emod_lt_of_pos _ n0) (wd.bagged ⟨ns, i, c, _, upd_same, by rw [upd_ne lb]; exact hl, h63, i0, i1, c0, Int.emod_nonneg _ (by decide), Int.emod_lt_of_pos _ (by decide)⟩)
end
end Bh

set_option Elab.async false
set_option linter.all false
set_option maxRecDepth 100000
set_option maxHeartbeats 1000000
namespace Bh
open PySem PySem.Spec PyProof.Rows L2
theorem iteB {b : Bool} {A B : Prop} (h1 : b = true → A) (h2 : b = false → B) : if b = true then A else B := by
  cases b
  · exact h2 rfl
  · exact h1 rfl
/-- a text of that form: what the text test answers for any value -/
def isT (v : V) (z : Str) : Bool := match v with
  | .str w => wordB w z
  | _ => false
/-- a text, or data that are none -/
def AnyV (K : PySem.W.Frag) (H : Hp) (v : V) : Prop := (∃ w : Str, v = .str w ∧ w.length ≤ 100000) ∨ ∃ d, Dp K H v d ∧ tyN d ≠ "str"
def spWord (K : PySem.W.Frag) : Sp := fun vs H Q _ => ∃ (v : V) (z : Str), vs = [v, .str z] ∧ AnyV K H v ∧ ∀ H', Same H H' → Q (.bl (isT v z)) H'
def spNm (K : PySem.W.Frag) (z : Str) : Sp := fun vs H Q _ => ∃ (v : V), vs = [v] ∧ AnyV K H v ∧ ∀ H', Same H H' → Q (.bl (isT v z)) H'
theorem isT_no {K : PySem.W.Frag} {H : Hp} {v : V} {d : PyData} {z : Str} (h : Dp K H v d) (n : tyN d ≠ "str") : isT v z = false := by
  cases h with
  | str x => exact absurd rfl n
  | _ => rfl
theorem not_str {K : PySem.W.Frag} {d : PyData} (n : tyN d ≠ "str") : PySem.W.kitOne K (.type (tyN d)) (.type "str") = some false := by
  cases d with
  | none =>
    show PySem.W.kitOne K (.type "NoneType") (.type "str") = some false
    exact kit_ty (by decide +kernel)
  | bool _ =>
    show PySem.W.kitOne K (.type "bool") (.type "str") = some false
    exact kit_ty (by decide +kernel)
  | int _ =>
    show PySem.W.kitOne K (.type "int") (.type "str") = some false
    exact kit_ty (by decide +kernel)
  | str _ => exact absurd rfl n
  | list _ =>
    show PySem.W.kitOne K (.type "list") (.type "str") = some false
    exact kit_ty (by decide +kernel)
  | tuple _ =>
    show PySem.W.kitOne K (.type "tuple") (.type "str") = some false
    exact kit_ty (by decide +kernel)
  | dict _ =>
    show PySem.W.kitOne K (.type "dict") (.type "str") = some false
    exact kit_ty (by decide +kernel)
section
variable {P : Program} {w : World} {K : PySem.W.Frag} {mg : Str → Option Value} {base : Heap}
theorem ok_word (T : Top K mg) : FnOk P w K mg base CX0 1 T.a_is_word T.fd_is_word ["value", "characters"] (spWord K) := by
  refine T.d_is_word.F.ok sc_is_word (fun vs H Q E h => ?_) (fun cdv A outer s H vs Q E hr h => ?_)
  · obtain ⟨v, z, rfl, _⟩ := h
    rfl
  obtain ⟨v, z, rfl, hv, q⟩ := h
  refine ⟨_, (pss_cons (ps_if (pt_not (pt_val (pe_callB (call_isi_K (K := K) (by rfl)) (by rfl) T.b_isinstance (by decide +kernel) (pa_cons (pv 0) (pa_cons (pe_tyN "str" (by rfl) T.b_str (by decide +kernel)) pa_nil))))) (pss_one (ps_ret pe_bl)) pss_nil)
    (pss_one (ps_ret (pe_and (pe_chain op_le op_le pe_int (pe_callB call_len_str (by rfl) T.b_len PySem.boot_len (pa_cons (pv 0) pa_nil)) (pe_gI rfl T.g_LONGEST)) (pe_one (pe_callB (cr_all_K (K := K) (by rfl) rfl) (by rfl) T.b_all (by decide +kernel) (pa_cons (pe_lc (own := [("character", 2)]) rfl sc_is_word.nd (pi_str (pv 0)) (blkOk_by (own := [("character", 2)]) (N := ["value", "characters", "character"]) (sc := defScope s_is_word) (by decide +kernel)) (fun _ _ _ _ _ => by exact (pg_name (i := 2) sc_is_word.nd rfl (Or.inl rfl))) (fun _ _ _ _ _ => by exact pts_nil) (fun _ _ _ _ _ => by exact (pe_cmpR op_in_sign (pv 2) (pv 1) (by rfl)))) pa_nil))))))), ?_⟩
  rcases hv with ⟨v, rfl, hl⟩ | ⟨d, hd, n⟩
  · have q : ∀ H', Same H H' → Q (.bl (wordB v z)) H' := q
    refine ⟨_, rfl, _, _, _, _, true, rfl, .ty _, .base (.str v), kit_ty (by decide +kernel), _, rfl, ?_⟩
    refine iteF ?_
    refine ⟨_, rfl, v, rfl, le_line hl, _, _, rfl, rfl, _, rfl, ?_⟩
    have no : ¬ (1 ≤ v.length ∧ v.length ≤ 8) → Q (.bl false) H := fun z => by
      have k := q H (Same.refl _)
      unfold wordB at k
      rw [decide_eq_false z] at k
      exact k
    refine ite3 (fun h1 => ?_) (fun h1 => ⟨false, rfl, iteF (no (by omega))⟩)
    refine ⟨_, _, rfl, rfl, _, rfl, ite3 (fun h2 => ?_) (fun h2 => no (by omega))⟩
    refine ⟨_, rfl, v, rfl, fun D nD => ?_⟩
    refine lc_it walk_str (fun i H' => Same H H' ∧ H' D = some (.lst ((((TL.tl v).map fun c => decide (c ∈ TL.tl z)).take i).map V.bl))) ⟨same_new nD, upd_same⟩ (fun _ _ _ _ => True.intro) ?_ ?_
    · rintro i y H' H'' hi ⟨s1, hDl⟩ ⟨rfl, c, ec, rfl⟩
      have ec' : (TL.tl v)[i]? = some c := by rw [← ec]; exact Array.getElem?_toList
      refine ⟨rfl, _, rfl, _, rfl, c, z, rfl, rfl, _, hDl, ?_, same_mut s1 nD, ?_⟩
      · rw [List.length_map, List.length_take]
        have : i < v.length := hi
        exact lt_line (by omega)
      · rw [upd_same, List.take_add_one, List.getElem?_map, ec', List.map_append]
        rfl
    · rintro H' ⟨s1, hDl⟩
      rw [List.take_of_length_le (by rw [List.length_map, ← TL.len_tl]; exact Nat.le_refl _)] at hDl
      refine ⟨D, _, rfl, SqL.of hDl, ?_⟩
      have k := q _ s1
      unfold wordB at k
      rw [decide_eq_true (show 1 ≤ v.length ∧ v.length ≤ 8 by omega)] at k
      rw [List.all_map]
      exact k
  · refine ⟨_, rfl, _, _, _, _, false, rfl, .ty _, tyD hd, not_str n, _, rfl, ?_⟩
    have k := q H (Same.refl _)
    rw [isT_no hd n] at k
    exact k
theorem ok_name (T : Top K mg) : FnOk P w K mg base CX0 2 T.a_is_name T.fd_is_name ["value"] (spNm K letters) := by
  have G_is_word := ok_word (P := P) (w := w) (base := base) T
  refine T.d_is_name.F.ok sc_is_name (fun vs H Q E h => ?_) (fun cdv A outer s H vs Q E hr h => ?_)
  · obtain ⟨v, rfl, _⟩ := h
    rfl
  obtain ⟨v, rfl, hl, q⟩ := h
  refine ⟨_, (pss_one (ps_ret (pe_call G_is_word (hr.mono (by decide)) (by rfl) T.d_is_word.g T.d_is_word.kp T.d_is_word.b .nil pass0 (pa_cons (pv 0) (pa_cons (pe_gS rfl T.g_LETTERS) pa_nil))))), ?_⟩
  exact ⟨_, rfl, v, letters, rfl, hl, q⟩
theorem ok_option (T : Top K mg) : FnOk P w K mg base CX0 2 T.a_is_option T.fd_is_option ["value"] (spNm K lettersD) := by
  have G_is_word := ok_word (P := P) (w := w) (base := base) T
  refine T.d_is_option.F.ok sc_is_option (fun vs H Q E h => ?_) (fun cdv A outer s H vs Q E hr h => ?_)
  · obtain ⟨v, rfl, _⟩ := h
    rfl
  obtain ⟨v, rfl, hl, q⟩ := h
  refine ⟨_, (pss_one (ps_ret (pe_call G_is_word (hr.mono (by decide)) (by rfl) T.d_is_word.g T.d_is_word.kp T.d_is_word.b .nil pass0 (pa_cons (pv 0) (pa_cons (pe_gS rfl T.g_LETTERS_AND_DIGITS) pa_nil))))), ?_⟩
  exact ⟨_, rfl, v, lettersD, rfl, hl, q⟩
/-! flat values -/
def flatD (d : PyData) : Prop := tyN d ≠ "list" ∧ tyN d ≠ "tuple" ∧ tyN d ≠ "dict"
theorem not_list {K : PySem.W.Frag} {d : PyData} (n : flatD d) : PySem.W.kitOne K (.type (tyN d)) (.type "list") = some false := by
  cases d with
  | none =>
    show PySem.W.kitOne K (.type "NoneType") (.type "list") = some false
    exact kit_ty (by decide +kernel)
  | bool _ =>
    show PySem.W.kitOne K (.type "bool") (.type "list") = some false
    exact kit_ty (by decide +kernel)
  | int _ =>
    show PySem.W.kitOne K (.type "int") (.type "list") = some false
    exact kit_ty (by decide +kernel)
  | str _ =>
    show PySem.W.kitOne K (.type "str") (.type "list") = some false
    exact kit_ty (by decide +kernel)
  | list _ => exact absurd rfl n.1
  | tuple _ =>
    show PySem.W.kitOne K (.type "tuple") (.type "list") = some false
    exact kit_ty (by decide +kernel)
  | dict _ =>
    show PySem.W.kitOne K (.type "dict") (.type "list") = some false
    exact kit_ty (by decide +kernel)
theorem not_tuple {K : PySem.W.Frag} {d : PyData} (n : flatD d) : PySem.W.kitOne K (.type (tyN d)) (.type "tuple") = some false := by
  cases d with
  | none =>
    show PySem.W.kitOne K (.type "NoneType") (.type "tuple") = some false
    exact kit_ty (by decide +kernel)
  | bool _ =>
    show PySem.W.kitOne K (.type "bool") (.type "tuple") = some false
    exact kit_ty (by decide +kernel)
  | int _ =>
    show PySem.W.kitOne K (.type "int") (.type "tuple") = some false
    exact kit_ty (by decide +kernel)
  | str _ =>
    show PySem.W.kitOne K (.type "str") (.type "tuple") = some false
    exact kit_ty (by decide +kernel)
  | list _ =>
    show PySem.W.kitOne K (.type "list") (.type "tuple") = some false
    exact kit_ty (by decide +kernel)
  | tuple _ => exact absurd rfl n.2.1
  | dict _ =>
    show PySem.W.kitOne K (.type "dict") (.type "tuple") = some false
    exact kit_ty (by decide +kernel)
theorem not_dict {K : PySem.W.Frag} {d : PyData} (n : flatD d) : PySem.W.kitOne K (.type (tyN d)) (.type "dict") = some false := by
  cases d with
  | none =>
    show PySem.W.kitOne K (.type "NoneType") (.type "dict") = some false
    exact kit_ty (by decide +kernel)
  | bool _ =>
    show PySem.W.kitOne K (.type "bool") (.type "dict") = some false
    exact kit_ty (by decide +kernel)
  | int _ =>
    show PySem.W.kitOne K (.type "int") (.type "dict") = some false
    exact kit_ty (by decide +kernel)
  | str _ =>
    show PySem.W.kitOne K (.type "str") (.type "dict") = some false
    exact kit_ty (by decide +kernel)
  | list _ =>
    show PySem.W.kitOne K (.type "list") (.type "dict") = some false
    exact kit_ty (by decide +kernel)
  | tuple _ =>
    show PySem.W.kitOne K (.type "tuple") (.type "dict") = some false
    exact kit_ty (by decide +kernel)
  | dict _ => exact absurd rfl n.2.2
def spCopy (K : PySem.W.Frag) : Sp := fun vs H Q _ => ∃ (v : V) (d : PyData), vs = [v] ∧ Dp K H v d ∧ flatD d ∧ Q v H
theorem ok_copy (T : Top K mg) : FnOk P w K mg base CX0 1 T.a_copy_of T.fd_copy_of ["value"] (spCopy K) := by
  refine T.d_copy_of.F.ok sc_copy_of (fun vs H Q E h => ?_) (fun cdv A outer s H vs Q E hr h => ?_)
  · obtain ⟨v, d, rfl, _⟩ := h
    rfl
  obtain ⟨v, d, rfl, hd, n, q⟩ := h
  refine ⟨_, (pss_cons (ps_if (pt_val (pe_callB (call_isi_K (K := K) (by rfl)) (by rfl) T.b_isinstance (by decide +kernel) (pa_cons (pv 0) (pa_cons (pe_tyN "list" (by rfl) T.b_list (by decide +kernel)) pa_nil)))) (pss_one ps_never) pss_nil)
    (pss_cons (ps_if (pt_val (pe_callB (call_isi_K (K := K) (by rfl)) (by rfl) T.b_isinstance (by decide +kernel) (pa_cons (pv 0) (pa_cons (pe_tyN "tuple" (by rfl) T.b_tuple (by decide +kernel)) pa_nil)))) (pss_one ps_never) pss_nil)
    (pss_cons (ps_if (pt_val (pe_callB (call_isi_K (K := K) (by rfl)) (by rfl) T.b_isinstance (by decide +kernel) (pa_cons (pv 0) (pa_cons (pe_tyN "dict" (by rfl) T.b_dict (by decide +kernel)) pa_nil)))) (pss_one ps_never) pss_nil)
    (pss_one (ps_ret (pv 0)))))), ?_⟩
  refine ⟨_, rfl, _, _, _, _, false, rfl, .ty _, tyD hd, not_list n, _, rfl, ?_⟩
  refine iteF ⟨_, rfl, _, _, _, _, false, rfl, .ty _, tyD hd, not_tuple n, _, rfl, ?_⟩
  refine iteF ⟨_, rfl, _, _, _, _, false, rfl, .ty _, tyD hd, not_dict n, _, rfl, ?_⟩
  exact iteF ⟨_, rfl, q⟩
/-- the whole numbers among the values, within bounds -/
def inB (v : V) (lo hi : Int) : Bool := match v with
  | .int i => decide (lo ≤ i) && decide (i ≤ hi)
  | _ => false
def spNumber (K : PySem.W.Frag) : Sp := fun vs H Q _ => ∃ (v : V) (d : PyData) (lo hi : Int), vs = [v, .int lo, .int hi] ∧ Dp K H v d ∧ flatD d ∧ Q (.bl (inB v lo hi)) H
def isI (v : V) : Bool := match v with
  | .int _ => true
  | _ => false
def spInteger (K : PySem.W.Frag) : Sp := fun vs H Q _ => ∃ (v : V) (d : PyData), vs = [v] ∧ Dp K H v d ∧ flatD d ∧ Q (.bl (isI v)) H
theorem ok_integer (T : Top K mg) : FnOk P w K mg base CX0 1 T.a_is_integer T.fd_is_integer ["value"] (spInteger K) := by
  refine T.d_is_integer.F.ok sc_is_integer (fun vs H Q E h => ?_) (fun cdv A outer s H vs Q E hr h => ?_)
  · obtain ⟨v, d, rfl, _⟩ := h
    rfl
  obtain ⟨v, d, rfl, hd, n, q⟩ := h
  refine ⟨_, (pss_one (ps_ret (pe_and (pe_callB (call_isi_K (K := K) (by rfl)) (by rfl) T.b_isinstance (by decide +kernel) (pa_cons (pv 0) (pa_cons (pe_tyN "int" (by rfl) T.b_int (by decide +kernel)) pa_nil))) (pe_one (pe_not (pe_callB (call_isi_K (K := K) (by rfl)) (by rfl) T.b_isinstance (by decide +kernel) (pa_cons (pv 0) (pa_cons (pe_tyN "bool" (by rfl) T.b_bool (by decide +kernel)) pa_nil)))))))), ?_⟩
  cases hd with
  | lst _ _ => exact absurd rfl n.1
  | tup _ _ => exact absurd rfl n.2.1
  | non => exact ⟨_, rfl, _, _, _, _, false, rfl, .ty _, .base .non, kit_ty (by decide +kernel), _, rfl, iteF q⟩
  | str x => exact ⟨_, rfl, _, _, _, _, false, rfl, .ty _, .base (.str x), kit_ty (by decide +kernel), _, rfl, iteF q⟩
  | bl b => exact ⟨_, rfl, _, _, _, _, true, rfl, .ty _, .base (.bl b), kit_ty (by decide +kernel), _, rfl, iteT ⟨_, rfl, _, _, _, _, true, rfl, .ty _, .base (.bl b), kit_ty (by decide +kernel), _, rfl, q⟩⟩
  | int i => exact ⟨_, rfl, _, _, _, _, true, rfl, .ty _, .base (.int i), kit_ty (by decide +kernel), _, rfl, iteT ⟨_, rfl, _, _, _, _, false, rfl, .ty _, .base (.int i), kit_ty (by decide +kernel), _, rfl, q⟩⟩
theorem ok_number (T : Top K mg) : FnOk P w K mg base CX0 2 T.a_is_number T.fd_is_number ["value", "least", "most"] (spNumber K) := by
  have G_is_integer := ok_integer (P := P) (w := w) (base := base) T
  refine T.d_is_number.F.ok sc_is_number (fun vs H Q E h => ?_) (fun cdv A outer s H vs Q E hr h => ?_)
  · obtain ⟨v, d, lo, hi, rfl, _⟩ := h
    rfl
  obtain ⟨v, d, lo, hi, rfl, hd, n, q⟩ := h
  refine ⟨_, (pss_one (ps_ret (pe_and (pe_call G_is_integer (hr.mono (by decide)) (by rfl) T.d_is_integer.g T.d_is_integer.kp T.d_is_integer.b .nil pass0 (pa_cons (pv 0) pa_nil)) (pe_one (pe_chain op_le op_le (pv 1) (pv 0) (pv 2)))))), ?_⟩
  refine ⟨_, rfl, v, d, rfl, hd, n, ?_⟩
  cases hd with
  | lst _ _ => exact absurd rfl n.1
  | tup _ _ => exact absurd rfl n.2.1
  | non => exact ⟨_, rfl, iteF q⟩
  | str x => exact ⟨_, rfl, iteF q⟩
  | bl b => exact ⟨_, rfl, iteF q⟩
  | int i =>
    have q : Q (.bl (decide (lo ≤ i) && decide (i ≤ hi))) H := q
    refine ⟨_, rfl, iteT ⟨_, rfl, _, rfl, _, _, rfl, rfl, _, rfl, ite3 (fun h1 => ?_) (fun h1 => ?_)⟩⟩
    · rw [decide_eq_true h1] at q
      exact ⟨_, rfl, _, _, rfl, rfl, q⟩
    · rw [decide_eq_false h1] at q
      exact q
end
end Bh

set_option Elab.async false
set_option linter.all false
set_option maxRecDepth 100000
set_option maxHeartbeats 1000000
namespace Bh
open PySem PySem.Spec PyProof.Rows L2
/-! names of cells: the mirror -/
def letterS (c : Nat) : Str := ⟨#[97 + c]⟩
def nmF : Nat → Nat → Str → Str
  | 0, _, acc => acc
  | _ + 1, 0, acc => acc
  | f + 1, n + 1, acc => nmF f (n / 26) (letterS (n % 26) ++ acc)
def cellN (p : Nat) : Str := nmF (p + 1) (p + 1) Str.empty
theorem len_app (a b : Str) : (a ++ b).length = a.length + b.length := by rw [TL.len_tl, TL.len_tl, TL.len_tl, TL.tl_append, List.length_append]
theorem nmF_fuel : ∀ (f n : Nat) (acc : Str), n ≤ f → nmF f n acc = nmF n n acc
  | 0, 0, _, _ => rfl
  | _ + 1, 0, _, _ => rfl
  | f + 1, n + 1, acc, h => by
    show nmF f (n / 26) _ = nmF n (n / 26) _
    rw [nmF_fuel f (n / 26) _ (by omega), nmF_fuel n (n / 26) _ (by omega)]
theorem nmF_step (m : Nat) (acc : Str) : nmF (m + 1) (m + 1) acc = nmF (m / 26) (m / 26) (letterS (m % 26) ++ acc) := by
  show nmF m (m / 26) _ = _
  exact nmF_fuel m (m / 26) _ (by omega)
def spInit (K : PySem.W.Frag) (C : Addr) : Sp := fun vs H Q _ => ∃ (a : Addr) (v : V) (d : PyData), vs = [.ref a, v] ∧ H a = some (exo a C none) ∧ Dp K H v d ∧ flatD d ∧
  ∀ (dx : Addr) (H2 : Hp), H dx = none → dx ≠ a → H2 a = some (exo a C (some dx)) → H2 dx = some (exd dx [("code", .str "InvalidCount"), ("given", v)]) → (∀ b, b ≠ a → b ≠ dx → H2 b = H b) → Q .non H2
def spCell : Sp := fun vs H Q _ => ∃ (p : Nat), vs = [.int p] ∧ p ≤ 2000 ∧ ∀ H', Same H H' → Q (.str (cellN p)) H'
section
variable {P : Program} {w : World} {K : PySem.W.Frag} {mg : Str → Option Value} {base : Heap}
theorem ok_init (T : Top K mg) : FnOk P w K mg base CX0 2 T.fIC T.fdIC ["self", "given"] (spInit K T.cIC) := by
  have G_copy_of := ok_copy (P := P) (w := w) (base := base) T
  refine T.FIC.ok sc_InvalidCount__init (fun vs H Q E h => ?_) (fun cdv A outer s H vs Q E hr h => ?_)
  · obtain ⟨a, v, d, rfl, _⟩ := h
    rfl
  obtain ⟨a, v, d, rfl, ea, hd, n, q⟩ := h
  refine ⟨_, (pss_cons (ps_ost (pv 0) (pe_call G_copy_of (hr.mono (by decide)) (by rfl) T.d_copy_of.g T.d_copy_of.kp T.d_copy_of.b .nil pass0 (pa_cons (pv 1) pa_nil)))
    (pss_one (ps_ost (pv 0) pe_str))), ?_⟩
  refine ⟨_, rfl, v, d, rfl, hd, n, _, rfl, a, T.cIC, rfl, T.oIC, T.nIC.1, .inl ⟨ea, fun dx nd ne => ?_⟩⟩
  refine ⟨_, rfl, a, T.cIC, rfl, T.oIC, T.nIC.2, .inr ⟨dx, _, upd_same, (upd_ne ne).trans upd_same, (by show 1 ≤ 900; decide), ?_⟩⟩
  refine q dx _ nd ne ?_ upd_same fun b b1 b2 => ?_
  · rw [upd_ne ne.symm]
    exact upd_same
  · rw [upd_ne b2, upd_ne b1, upd_ne b2]
theorem ok_cellname (T : Top K mg) : FnOk P w K mg base CX0 1 T.a_cell_name T.fd_cell_name ["position"] spCell := by
  refine T.d_cell_name.F.ok sc_cell_name (fun vs H Q E h => ?_) (fun cdv A outer s H vs Q E hr h => ?_)
  · obtain ⟨p, rfl, _⟩ := h
    rfl
  obtain ⟨p, rfl, hp, q⟩ := h
  refine ⟨_, (pss_cons (ps_set (i := 1) sc_cell_name.nd rfl (Or.inl rfl) pe_str)
    (pss_cons (ps_set (i := 2) sc_cell_name.nd rfl (Or.inl rfl) (pe_op op_add (pv 0) pe_int))
    (pss_cons (ps_while PassesOwn.never (pt_cmpR op_gt (pv 2) pe_int (nomark _)) (pss_cons (ps_asg (pe_callB call_divmod (by rfl) T.b_divmod (by decide +kernel) (pa_cons (pe_op op_sub (pv 2) pe_int) (pa_cons (pe_callB call_len_str (by rfl) T.b_len PySem.boot_len (pa_cons (pe_gS rfl T.g_LETTERS) pa_nil)) pa_nil))) (pg_tup_K (K := K) (by rfl) (n := 2) (by rfl) (pgs_cons (pg_name (i := 2) sc_cell_name.nd rfl (Or.inl rfl)) (pgs_cons (pg_name (i := 3) sc_cell_name.nd rfl (Or.inl rfl)) pgs_nil))))
      (pss_one (ps_set (i := 1) sc_cell_name.nd rfl (Or.inl rfl) (pe_op op_add_str (pe_ix ix_str (pe_gS rfl T.g_LETTERS) (pv 3) (fun _ _ => rfl)) (pv 1))))))
    (pss_one (ps_ret (pv 1)))))), ?_⟩
  refine ⟨_, rfl, _, _, rfl, rfl, ?_⟩
  refine while_by (fun σ H' => ∃ (n : Nat) (acc : Str) (x3 : Option V), σ = [some (.int p), some (.str acc), some (.int n), x3] ∧ Same H H' ∧ cellN p = nmF n n acc ∧ acc.length + n ≤ p + 1)
    (fun σ H' => match σ with | [_, _, some (.int n), _] => n.toNat | _ => 0) ⟨p + 1, Str.empty, none, rfl, Same.refl _, rfl, by show 0 + (p + 1) ≤ p + 1; omega⟩ ?_ ?_
  · rintro σ H' ⟨n, acc, x3, rfl, s1, en, ln⟩
    refine ⟨_, rfl, _, _, rfl, rfl, _, rfl, ?_⟩
    refine ite3 (fun h0 => ?_) (fun h0 => ?_)
    · obtain ⟨m, rfl⟩ : ∃ m, n = m + 1 := ⟨n - 1, by omega⟩
      have e1 : (((m + 1 : Nat) : Int) - 1) = (m : Int) := by omega
      refine ⟨_, rfl, _, _, rfl, rfl, letters, rfl, le_line (by decide +kernel), (m : Int), 26, (by show [V.int (((m + 1 : Nat) : Int) - 1), V.int ((letters.length : Nat) : Int)] = _; rw [e1, show ((letters.length : Nat) : Int) = 26 from by decide +kernel]), ⟨by decide, by decide⟩, fun t nt => ?_⟩
      have s2 := s1.trans (same_new (o := .tup [.int ((m : Int) / 26), .int ((m : Int) % 26)]) nt)
      refine ⟨t, _, rfl, SqT.of upd_same, rfl, _, _, rfl, _, _, rfl, rfl, ?_⟩
      refine ⟨_, rfl, letters, _, _, rfl, rfl, le_line (by decide +kernel), letters_at (j := (m : Int) % 26) (by omega) (by omega), _, rfl, _, _, rfl, rfl, le_line (by show 1 + _ ≤ _; omega), ?_⟩
      refine ⟨⟨m / 26, letterS (m % 26) ++ acc, _, rfl, s2, en.trans (nmF_step m acc), ?_⟩, ?_⟩
      · rw [len_app]
        show 1 + _ + _ ≤ _
        omega
      · show ((m / 26 : Nat) : Int).toNat < ((m + 1 : Nat) : Int).toNat
        omega
    · obtain rfl : n = 0 := by omega
      have k := q _ s1
      rw [en] at k
      exact ⟨_, rfl, k⟩
  · rintro σ H0 Q1 Q2 k ⟨v, h1, i, j, e1, e2, b, e3, z⟩
    exact ⟨v, h1, i, j, e1, e2, b, e3, k _ _ z⟩
def spNames (K : PySem.W.Frag) (C : Addr) : Sp := fun vs H Q E => ∃ (v : V) (d : PyData), vs = [v] ∧ Dp K H v d ∧ flatD d ∧
  (inB v 0 2000 = true → ∀ n : Nat, v = .int n → n ≤ 2000 → ∀ H' p, Same H H' → H' p = some (.lst ((List.range n).map fun i => V.str (cellN i))) → Q (.ref p) H') ∧
  (inB v 0 2000 = false → ∀ dd H2, Same H H2 → H2 dd = some (.xd [("code", .str "InvalidCount"), ("given", v)]) → E (.ref C) (some dd) H2)
theorem ok_names (T : Top K mg) : FnOk P w K mg base (L2.CX P w) 4 T.a_cell_names T.fd_cell_names ["many"] (spNames K T.cIC) := by
  have G_is_number := ok_number (P := P) (w := w) (base := base) T
  have G_cell_name := ok_cellname (P := P) (w := w) (base := base) T
  have G_init := ok_init (P := P) (w := w) (base := base) T
  refine T.d_cell_names.F.okX sc_cell_names (fun vs H Q E h => ?_) (fun cdv A outer s H vs Q E hr h => ?_)
  · obtain ⟨v, d, rfl, _⟩ := h
    rfl
  obtain ⟨v, d, rfl, hd, n, q1, q2⟩ := h
  refine ⟨_, (pss_cons (ps_if (pt_not (pt_val (pe_call G_is_number (hr.mono (by decide)) (by rfl) T.d_is_number.g T.d_is_number.kp T.d_is_number.b .nil pass0 (pa_cons (pv 0) (pa_cons pe_int (pa_cons (pe_gI rfl T.g_MOST_NAMES) pa_nil)))))) (pss_one (ps_raise rfl (takes_of rfl rfl rfl rfl) (pmk_oex T.oIC T.iIC T.tIC G_init hr T.bIC .nil pass0 rfl T.gIC (pa_cons (pv 0) pa_nil)))) pss_nil)
    (pss_one (ps_ret (pe_lc (own := [("position", 1)]) rfl sc_cell_names.nd (pi_range1 rfl T.b_range (pa_cons (pv 0) pa_nil)) (blkOk_by (own := [("position", 1)]) (N := ["many", "position"]) (sc := defScope s_cell_names) (by decide +kernel)) (fun _ _ _ _ _ => by exact (pg_name (i := 1) sc_cell_names.nd rfl (Or.inl rfl))) (fun _ _ _ _ _ => by exact pts_nil) (fun _ _ _ _ _ => by exact (pe_call G_cell_name (hr.mono (by decide)) (by rfl) T.d_cell_name.g T.d_cell_name.kp T.d_cell_name.b .nil pass0 (pa_cons (pv 1) pa_nil))))))), ?_⟩
  refine ⟨_, rfl, v, d, 0, 2000, rfl, hd, n, _, rfl, ?_⟩
  cases hb : inB v 0 2000 with
  | false =>
    have q2 := q2 hb
    refine ⟨_, rfl, (by show 1 ≤ 1000; decide), fun a na => ⟨a, v, d, rfl, upd_same, Dp.mono (same_new na) hd, n, fun dx H2 ndx ne e1 e2 e3 => ⟨rfl, dx, _, e1, e2, ?_, ?_⟩⟩⟩
    · rw [upd_ne ne] at ndx
      exact ndx
    · rw [upd_ne ne] at ndx
      refine q2 dx _ (fun b u hu => ?_) upd_same
      have b1 := ne_of_none hu na
      have b2 := ne_of_none hu ndx
      rw [upd_ne b2, del_ne b1, e3 b b1 b2, upd_ne b1]
      exact hu
  | true =>
    have q1 := q1 hb
    cases hd with
    | int i =>
      have hb' : (decide ((0 : Int) ≤ i) && decide (i ≤ 2000)) = true := hb
      obtain ⟨h0, h1⟩ := Bool.and_eq_true_iff.mp hb'
      have h0 := of_decide_eq_true h0
      have h1 := of_decide_eq_true h1
      obtain ⟨m, rfl⟩ : ∃ m : Nat, i = (m : Int) := ⟨i.toNat, by omega⟩
      refine ⟨_, rfl, _, rfl, by omega, by omega, fun D nD => ?_⟩
      refine lc_it walk_range (fun i H' => Same H H' ∧ H' D = some (.lst ((List.range i).map fun i => V.str (cellN i)))) ⟨same_new nD, upd_same⟩ (fun _ _ _ _ => True.intro) ?_ ?_
      · rintro i v H' H'' hi ⟨s1, hDl⟩ ⟨rfl, rfl⟩
        have hi : i < m := hi
        refine ⟨rfl, _, rfl, i, by show [V.int ((0 : Int) + (i : Int))] = _; rw [Int.zero_add], by omega, fun H3 s3 => ?_⟩
        refine ⟨_, s3 _ _ hDl, ?_, same_mut (s1.trans s3) nD, ?_⟩
        · rw [List.length_map, List.length_range]
          exact lt_line (by omega)
        · rw [upd_same, List.range_succ, List.map_append]
          rfl
      · rintro H' ⟨s1, hDl⟩
        exact q1 m rfl (by omega) _ _ s1 hDl
    | lst _ _ => exact absurd rfl n.1
    | tup _ _ => exact absurd rfl n.2.1
    | non => cases hb
    | bl _ => cases hb
    | str _ => cases hb
def spGiven (K : PySem.W.Frag) (C : Addr) : Sp := fun vs H Q _ => ∃ (a dd : Addr) (v : V), vs = [.ref a] ∧ H a = some (exz a (.ref C) (some dd)) ∧ H dd = some (.xd [("code", .str "InvalidCount"), ("given", v)]) ∧ ∀ H', Same H H' → Q v H'
theorem ok_given (T : Top K mg) : FnU P w K mg base 1 T.a_l_given T.fd_l_given ["_law_e"] (spGiven K T.cIC) := by
  refine fun_u T.d_l_given.F sc_l_given (fun vs H Q E h => ?_) (fun cdv A outer s H vs Q E h => ?_)
  · obtain ⟨a, dd, v, rfl, _⟩ := h
    rfl
  obtain ⟨a, dd, v, rfl, ea, ed, q⟩ := h
  refine ⟨_, (pss_cons (ps_if (pt_cmpR (op_in_seq_K (K := K) (by rfl)) (pe_xz (pv 0)) (pe_tup (pa_cons pe_str (pa_cons pe_str (pa_cons pe_str pa_nil)))) (by rfl)) (pss_one (ps_ret (pe_xz (pv 0)))) pss_nil)
    (pss_cons (ps_if (pt_cmpR (op_in_seq_K (K := K) (by rfl)) (pe_xz (pv 0)) (pe_tup (pa_cons pe_str (pa_cons pe_str (pa_cons pe_str pa_nil)))) (by rfl)) (pss_one (ps_ret (pe_xz (pv 0)))) pss_nil)
    (pss_cons (ps_if (pt_cmpR (op_in_seq_K (K := K) (by rfl)) (pe_xz (pv 0)) (pe_tup (pa_cons pe_str (pa_cons pe_str (pa_cons pe_str (pa_cons pe_str (pa_cons pe_str pa_nil)))))) (by rfl)) (pss_one (ps_ret (pe_xz (pv 0)))) pss_nil)
    (pss_cons (ps_if (pt_cmpR (op_in_seq_K (K := K) (by rfl)) (pe_xz (pv 0)) (pe_tup (pa_cons pe_str (pa_cons pe_str pa_nil))) (by rfl)) (pss_one (ps_ret (pe_xz (pv 0)))) pss_nil)
    (pss_cons (ps_if (pt_cmpR (op_in_seq_K (K := K) (by rfl)) (pe_xz (pv 0)) (pe_tup (pa_cons pe_str (pa_cons pe_str pa_nil))) (by rfl)) (pss_one (ps_ret (pe_xz (pv 0)))) pss_nil)
    (pss_cons (ps_if (pt_cmpR op_eq (pe_xz (pv 0)) pe_str (nomark _)) (pss_one (ps_ret (pe_xz (pv 0)))) pss_nil)
    (pss_cons (ps_if (pt_cmpR op_eq (pe_xz (pv 0)) pe_str (nomark _)) (pss_one (ps_ret (pe_xz (pv 0)))) pss_nil)
    (pss_one (ps_ret (pe_ifExp (pt_cmpR (op_in_seq_K (K := K) (by rfl)) (pe_xz (pv 0)) (pe_tup (pa_cons pe_str (pa_cons pe_str (pa_cons pe_str pa_nil)))) (by rfl)) pe_non (pe_xz (pv 0)))))))))))), ?_⟩
  refine ⟨_, rfl, a, T.cIC, dd, _, _, rfl, ea, T.xIC, T.nIC.2, ed, rfl, (by show 3 ≤ sizeLine; decide), fun t1 n1 => ?_⟩
  refine ⟨t1, _, rfl, .inr (SqT.of upd_same), rfl, rfl, _, rfl, iteB (fun z => absurd z (by decide +kernel)) (fun _ => ?_)⟩
  have s1 := same_new (o := .tup [.str "InvalidField", .str "InvalidTie", .str "InvalidKind"]) n1
  refine ⟨_, rfl, a, T.cIC, dd, _, _, rfl, s1 _ _ ea, T.xIC, T.nIC.2, s1 _ _ ed, rfl, (by show 3 ≤ sizeLine; decide), fun t2 n2 => ?_⟩
  refine ⟨t2, _, rfl, .inr (SqT.of upd_same), rfl, rfl, _, rfl, iteB (fun z => absurd z (by decide +kernel)) (fun _ => ?_)⟩
  have s2 := s1.trans (same_new (o := .tup [.str "InvalidRulebook", .str "InvalidNetwork", .str "InvalidPage"]) n2)
  refine ⟨_, rfl, a, T.cIC, dd, _, _, rfl, s2 _ _ ea, T.xIC, T.nIC.2, s2 _ _ ed, rfl, (by show 5 ≤ sizeLine; decide), fun t3 n3 => ?_⟩
  refine ⟨t3, _, rfl, .inr (SqT.of upd_same), rfl, rfl, _, rfl, iteB (fun _ => ?_) (fun z => absurd z (by decide +kernel))⟩
  have s3 := s2.trans (same_new (o := .tup [.str "InvalidHolding", .str "InvalidName", .str "InvalidCount", .str "InvalidLimit", .str "UnknownMoment"]) n3)
  exact ⟨_, rfl, a, T.cIC, dd, _, v, rfl, s3 _ _ ea, T.xIC, T.nIC.1, s3 _ _ ed, rfl, q _ s3⟩
end
end Bh

set_option Elab.async false
set_option linter.all false
set_option maxRecDepth 100000
set_option maxHeartbeats 1000000
namespace Bh
open PySem PySem.Spec PyProof.Rows L2
theorem pe_weak {X : Cx} {e : Expr} {t : TE} (h : PE X e t) : PE X e (fun σ H Q => ∃ Q0, t σ H Q0 ∧ ∀ v H2, Q0 v H2 → Q v H2) :=
  ⟨fun pins s σ H Q I ⟨Q0, h0, m⟩ => wpAny_mono (h.run pins s σ H Q0 I h0) (fun u s1 ⟨v, H1, J, r, q⟩ => ⟨v, H1, J, r, m v H1 q⟩) (fun _ _ x => x)⟩
theorem pe_xz_K {X : Cx} {K : PySem.W.Frag} (hK : X.K = K) {e : Expr} {te : TE} {pos : Pos} {n : Str} (he : PE X e te) (hb : attributeBase e n X.env (eval e X.env) = eval e X.env := by rfl) : PE X (.Attribute e n pos) (tXz K n te) := by
  subst hK
  exact pe_xz he hb
/-- what _law_try makes of a question -/
def TTry (C : Addr) : (XK → Hp → VK → Prop) → Hp → VK → Prop := fun tl H Q => ∃ (Ech : XK) (Q0 : VK), tl Ech H Q0 ∧
  (∀ cls d H2, Ech cls d H2 → ∃ dd v, cls = .ref C ∧ d = some dd ∧ H2 dd = some (.xd [("code", .str "InvalidCount"), ("given", v)]) ∧ ∀ H3 p, Same H2 H3 → H3 p = some (.tup [.str "InvalidCount", v]) → Q (.ref p) H3) ∧
  ∀ v H2, Q0 v H2 → ∀ p, H2 p = none → Q (.ref p) (upd H2 p (.tup [.str "value", v]))
theorem try_gives {X : Cx} (T : Top X.K X.mg) (G : FnU X.prog X.w X.K X.mg X.base 1 T.a_l_given T.fd_l_given ["_law_e"] (spGiven X.K T.cIC)) (hr : Room 3 X.A) (cdv : Value) (q : Str) :
    LamX.GivesTo X ["_law_ask", "_law_found", "_law_e"] "_law_try" (defScope s_l_try) T.a_l_try cdv (defBody s_l_try) "_law_ask" q (TTry T.cIC) := by
  intro f c' s H Q tl act hc h
  obtain ⟨Ech, Q0, h1, h2, h3⟩ := h
  have hrm : ∀ (env : Env) (v : Option Value), L2H.RoomH 1 ((X.A.deeper env).mark v) := fun env v => by
    have r := (L2H.roomH_of hr).deeper env
    exact ⟨by have := r.dp; show (X.A.deeper env).depth + 3 * 1 + 5 < _; omega, by have := r.un; show (X.A.deeper env).units + 16 * 1 + 200 < _; omega⟩
  refine ⟨_, pss_cons (ps_try_two (X := (cxOf C8.CX0 X.prog X.w X.K X.mg X.base ["_law_ask", "_law_found", "_law_e"] "_law_try" (defScope s_l_try) T.a_l_try cdv X.A X.stack s H C8.E0).nox) (i := 2) (tb := fun W D σ H => ∃ (Ec : XK) (Q1 : VK), (∀ cls d σ' H', Ec cls d H' → W cls d σ' H') ∧ σ[0]? = some (some (.ref f)) ∧ H c' = some (LamX.CodeO c' q) ∧ tl Ec H Q1 ∧
      ∀ v H2, Q1 v H2 → ∀ p, H2 p = none → D.nx (σ.set 1 (some (.ref p))) (upd H2 p (.tup [.str "value", v])))
      rfl rfl sc_l_try.nd rfl rfl (by rfl) T.gBE (by rfl) T.gMS (by decide) (by decide) (fun W pn xe tk _ => ⟨fun pins s' σ H' D I h' => ?_⟩)
      (fun a pn => pss_one (ps_set (i := 1) sc_l_try.nd rfl (Or.inl rfl) (by exact (pe_tup (X := ((cxOf C8.CX0 X.prog X.w X.K X.mg X.base ["_law_ask", "_law_found", "_law_e"] "_law_try" (defScope s_l_try) T.a_l_try cdv X.A X.stack s H C8.E0).nox).suite a pn) (pa_cons (pe_xz_K (X := ((cxOf C8.CX0 X.prog X.w X.K X.mg X.base ["_law_ask", "_law_found", "_law_e"] "_law_try" (defScope s_l_try) T.a_l_try cdv X.A X.stack s H C8.E0).nox).suite a pn) (K := X.K) rfl (pv 2)) (pa_cons (pe_callU (X := ((cxOf C8.CX0 X.prog X.w X.K X.mg X.base ["_law_ask", "_law_found", "_law_e"] "_law_try" (defScope s_l_try) T.a_l_try cdv X.A X.stack s H C8.E0).nox).suite a pn) G (hrm _ _) (by rfl) T.d_l_given.g T.d_l_given.kp T.d_l_given.b (pa_cons (pv 2) pa_nil)) pa_nil)))))))
    (pss_one (ps_ret (pv 1))), ?_⟩
  · obtain ⟨Ec, Q1, hW, k1, k2, k3, k4⟩ := h'
    exact (pss_one (ps_set (i := 1) sc_l_try.nd rfl (Or.inl rfl) (pe_tup (pa_cons pe_str (pa_cons (pe_weak (act W pn xe Ec _ _ tk hW)) pa_nil))))).run pins s' σ H' D I
      ⟨Q1, ⟨k1, k2, k3⟩, fun v H2 z => ⟨(by show 2 ≤ sizeLine; decide), fun p np => k4 v H2 z p np⟩⟩
  · refine ⟨Ech, Q0, fun cls d σ' H' he => ?_, rfl, hc, h1, fun v H2 z p np => ⟨_, rfl, h3 v H2 z p np⟩⟩
    obtain ⟨dd, v, rfl, rfl, ed, k⟩ := h2 cls d H' he
    refine ⟨T.eIC, fun a na hl => ?_⟩
    have nda : dd ≠ a := ne_of_none ed na
    match σ', hl with
    | [x, y, z], _ =>
      refine ⟨_, rfl, a, T.cIC, dd, _, _, rfl, upd_same, T.xIC, T.nIC.2, (upd_ne nda).trans ed, rfl, _, rfl, a, dd, v, rfl, upd_same, (upd_ne nda).trans ed, fun H3 s3 => ⟨(by show 2 ≤ sizeLine; decide), fun p np => ?_⟩⟩
      exact ⟨_, rfl, k _ p ((same_new na).trans (s3.trans (same_new np))) upd_same⟩
end Bh

set_option Elab.async false
set_option linter.all false
set_option maxRecDepth 100000
namespace Bh
open PySem PySem.Spec PyProof.Rows L2
/-! ### list(text) -/
def signsV (x : Str) : List V := (TL.tl x).map fun c => V.str ⟨#[c]⟩
theorem vals_of {xs : List V} {us : List Value} (n : us.length = xs.length) (h : ∀ (i : Nat) (x : V) (u : Value), xs[i]? = some x → us[i]? = some u → RelV x u) : Vals xs us := by
  induction xs generalizing us with
  | nil =>
    cases us with
    | nil => exact .nil
    | cons _ _ => cases n
  | cons x r ih =>
    cases us with
    | nil => cases n
    | cons u us => exact .cons (h 0 x u rfl rfl) (ih (Nat.succ.inj n) fun i y w e1 e2 => h (i + 1) y w (by simpa using e1) (by simpa using e2))
theorem call_listS {X : Cx} (hc : X.calm = true) : CallR X (.type "list") (fun xs H Q => ∃ x : Str, xs = [.str x] ∧ x.length ≤ 100000 ∧ ∀ l, H l = none → Q (.ref l) (upd H l (.lst (signsV x)))) := by
  intro pins s σ H xs us Q I r h
  obtain ⟨x, rfl, hl, q⟩ := h
  obtain ⟨u, rfl, t, rfl⟩ := vals1 r
  have hz : x.cps.size ≤ sizeLine := le_line hl
  refine call_list_str (I.ok.hd hc) x t (fun h' tk acc c kp e it => ?_) hz
  have hv : Vals (signsV x) acc.toList := by
    refine vals_of ?_ (fun i y u e1 e2 => ?_)
    · unfold signsV
      rw [List.length_map, Array.length_toList, it.1, Array.length_toList]
    · rw [Array.getElem?_toList] at e2
      obtain ⟨k, w, e3, rfl⟩ := it.2 i u e2
      unfold signsV at e1
      rw [List.getElem?_map, Array.getElem?_toList, e3] at e1
      cases e1
      exact ⟨w, rfl⟩
  refine ⟨.ref s.heap.objs.size, _, I.laid (t' := tk) kp (Nat.le_refl _) (show ObjOk X.prog X.w _ h' _ (.lst (signsV x)) from ⟨?_, acc.toList, c, hv, by simpa using e⟩), rfl, q _ (I.hok.fresh (Nat.le_refl _))⟩
  unfold signsV
  rw [List.length_map]
  simpa using hz
end Bh

set_option Elab.async false
set_option linter.all false
set_option maxRecDepth 100000
set_option maxHeartbeats 1000000
namespace Bh
open PySem PySem.Spec PyProof.Rows L2
theorem app_nil (a : Str) : a ++ Str.empty = a := TL.ext_tl (by rw [TL.tl_append]; exact List.append_nil _)
theorem nmF_acc : ∀ (f n : Nat) (acc : Str), nmF f n acc = nmF f n Str.empty ++ acc
  | 0, _, acc => TL.ext_tl (by rw [TL.tl_append]; rfl)
  | _ + 1, 0, acc => TL.ext_tl (by rw [TL.tl_append]; rfl)
  | f + 1, n + 1, acc => by
    show nmF f (n / 26) (letterS (n % 26) ++ acc) = nmF f (n / 26) (letterS (n % 26) ++ Str.empty) ++ acc
    rw [nmF_acc f (n / 26) (letterS (n % 26) ++ acc), nmF_acc f (n / 26) (letterS (n % 26) ++ Str.empty), app_nil, app_assoc]
theorem cell_rec {n : Nat} (h : 26 ≤ n) : cellN n = cellN (n / 26 - 1) ++ letterS (n % 26) := by
  unfold cellN
  rw [nmF_step, nmF_acc, app_nil, show n / 26 - 1 + 1 = n / 26 by omega]
def F29 : List Str := (TL.tl letters).map (fun c => (⟨#[c]⟩ : Str)) ++ (["aa", "ab", "ac"] : List Str)
theorem f29 : ∀ i : _root_.Fin 29, F29[i.val]? = some (cellN i.val) := by decide +kernel
theorem f29_len : F29.length = 29 := by decide +kernel
theorem take29 (n : Nat) : ((List.range n).map cellN).take 29 = F29.take n := by
  refine List.ext_getElem? fun i => ?_
  rw [List.getElem?_take, List.getElem?_take, List.getElem?_map]
  by_cases h1 : i < 29
  · rw [if_pos h1, f29 ⟨i, h1⟩]
    by_cases h2 : i < n
    · rw [if_pos h2, List.getElem?_range h2]
      rfl
    · rw [if_neg h2, List.getElem?_eq_none (by rw [List.length_range]; omega)]
      rfl
  · rw [if_neg h1]
    by_cases h2 : i < n
    · rw [if_pos h2, List.getElem?_eq_none (by rw [f29_len]; omega)]
    · rw [if_neg h2]
def oneS (c : Nat) : Str := ⟨#[c]⟩
theorem join_ones : ∀ cs : List Nat, TL.tl (Txt.join "" (cs.map oneS)) = cs
  | [] => rfl
  | [c] => rfl
  | c :: d :: r => by
    have ih := join_ones (d :: r)
    rw [TL.join_eq] at ih ⊢
    show TL.tl (oneS c ++ "" ++ Str.join "" ((d :: r).map oneS)) = _
    rw [TL.tl_append, TL.tl_append, ih]
    rfl
theorem ones_sum : ∀ cs : List Nat, (((cs.map oneS).map (·.length)).sum) = cs.length
  | [] => rfl
  | c :: r => by
    rw [List.map_cons, List.map_cons, List.sum_cons, ones_sum r, List.length_cons]
    show 1 + _ = _
    omega
theorem lettersD_at {j : Int} (h0 : 0 ≤ j) (h1 : j < 36) : ∃ c, atI lettersD.cps.toList j = some c ∧ c ∈ TL.tl lettersD := by
  have key : ∀ k : _root_.Fin 36, ∃ c ∈ TL.tl lettersD, lettersD.cps.toList[k.val]? = some c := by decide +kernel
  obtain ⟨c, c1, c2⟩ := key ⟨j.toNat, by omega⟩
  exact ⟨c, at_nn h0 c2, c1⟩
theorem letters_in {j : Int} (h0 : 0 ≤ j) (h1 : j < 26) : 97 + j.toNat ∈ TL.tl letters := by
  have key : ∀ k : _root_.Fin 26, 97 + k.val ∈ TL.tl letters := by decide +kernel
  exact key ⟨j.toNat, by omega⟩
theorem chain_lt {i j : Int} {p : Bool} {σ : L2.St} {H : Hp} {k : VK} (h : k (.bl (p && decide (i < j))) H) :
    ∃ c, V.bl p = .bl c ∧ if c = true then (tC (.int j) σ H fun w' H4 => rI0 (fun i j => V.bl (decide (i < j))) (.int i) w' H4 k) else k (.bl false) H := by
  refine ⟨p, rfl, ?_⟩
  cases p
  · exact h
  · exact ⟨i, j, rfl, rfl, h⟩
theorem and_var {p q : Bool} {i : Nat} {σ : L2.St} {H : Hp} {k : VK} (hs : σ[i]? = some (some (.bl q))) (h : k (.bl (p && q)) H) : ∃ c, V.bl p = .bl c ∧ if c = true then tVar i σ H k else k (.bl false) H := by
  refine ⟨p, rfl, ?_⟩
  cases p
  · exact h
  · exact ⟨_, hs, h⟩
def goodB (m : Int) : Bool := decide (0 < m) && decide (m < 9)
theorem good_len {m : Nat} : goodB m = decide (1 ≤ m ∧ m ≤ 8) := by
  unfold goodB
  by_cases h : 1 ≤ m ∧ m ≤ 8
  · rw [decide_eq_true h, decide_eq_true (show (0 : Int) < m by omega), decide_eq_true (show (m : Int) < 9 by omega)]
    rfl
  · rw [decide_eq_false h]
    by_cases h0 : (0 : Int) < m
    · rw [decide_eq_true h0, decide_eq_false (show ¬ (m : Int) < 9 by omega)]
      rfl
    · rw [decide_eq_false h0]
      rfl
theorem word_eq {cs : List Nat} {z : Str} : wordB (Txt.join "" (cs.map oneS)) z = (goodB cs.length && cs.all fun c => decide (c ∈ TL.tl z)) := by
  unfold wordB
  rw [good_len, TL.len_tl, join_ones]
theorem all_in {cs : List Nat} {z : Str} (h : ∀ c ∈ cs, c ∈ TL.tl z) : (cs.all fun c => decide (c ∈ TL.tl z)) = true := List.all_eq_true.mpr fun c hc => decide_eq_true (h c hc)
def oddS : List Str := [" ", "A", "-", ".", "_", "Z", "+", ":"]
theorem oddS_out : ∀ z ∈ oddS, z.length = 1 ∧ ∃ c ∈ TL.tl z, c ∉ TL.tl lettersD := by decide +kernel
theorem bent_no {a z b : Str} (h : ∃ c ∈ TL.tl z, c ∉ TL.tl lettersD) : wordB (a ++ z ++ b) letters = false ∧ wordB (a ++ z ++ b) lettersD = false := by
  obtain ⟨c, h1, h2⟩ := h
  have m : c ∈ TL.tl (a ++ z ++ b) := mem_app.mpr (.inl (mem_app.mpr (.inr h1)))
  exact ⟨Bool.eq_false_iff.mpr fun q => word_free (word_letD q) h2 m, Bool.eq_false_iff.mpr fun q => word_free q h2 m⟩
def odd9 (p q : Addr) : List V := [.non, .int 3, .bl true, .ref p, .ref q, .str "", .str "abcdefghi", .str " a", .str "a "]
theorem odd9_ok {K : PySem.W.Frag} {H : Hp} {p q : Addr} (hp : SqL K H p [.str "a"]) (hq : SqT K H q [.str "a"]) : ∀ v ∈ odd9 p q, AnyV K H v ∧ isT v letters = false ∧ isT v lettersD = false := by
  have txt : ∀ w : Str, w.length ≤ 100000 → wordB w letters = false → wordB w lettersD = false → AnyV K H (.str w) ∧ isT (.str w) letters = false ∧ isT (.str w) lettersD = false := fun w l a b => ⟨.inl ⟨w, rfl, l⟩, a, b⟩
  intro v hv
  simp only [odd9, List.mem_cons, List.not_mem_nil, or_false] at hv
  rcases hv with rfl | rfl | rfl | rfl | rfl | rfl | rfl | rfl | rfl
  · exact ⟨.inr ⟨.none, .non, by decide⟩, rfl, rfl⟩
  · exact ⟨.inr ⟨.int 3, .int 3, (by show "int" ≠ "str"; decide)⟩, rfl, rfl⟩
  · exact ⟨.inr ⟨.bool true, .bl true, (by show "bool" ≠ "str"; decide)⟩, rfl, rfl⟩
  · exact ⟨.inr ⟨.list [.str "a"], .lst hp (.cons (.str _) .nil), (by show "list" ≠ "str"; decide)⟩, rfl, rfl⟩
  · exact ⟨.inr ⟨.tuple [.str "a"], .tup hq (.cons (.str _) .nil), (by show "tuple" ≠ "str"; decide)⟩, rfl, rfl⟩
  · exact txt _ (by decide +kernel) (by decide +kernel) (by decide +kernel)
  · exact txt _ (by decide +kernel) (by decide +kernel) (by decide +kernel)
  · exact txt _ (by decide +kernel) (by decide +kernel) (by decide +kernel)
  · exact txt _ (by decide +kernel) (by decide +kernel) (by decide +kernel)
end Bh

set_option Elab.async false
set_option linter.all false
set_option maxRecDepth 100000
set_option maxHeartbeats 1000000
namespace Bh
open PySem PySem.Spec PyProof.Rows L2
section
variable {P : Program} {w : World} {K : PySem.W.Frag} {mg : Str → Option Value} {base : Heap}
theorem like_step (T : Top K mg) (n : Nat) (G_l_like : FnOk P w K mg base CX0 n T.a_l_like T.fd_l_like ["_law_found", "_law_due"] (spLk K n)) : FnOk P w K mg base CX0 (n + 1) T.a_l_like T.fd_l_like ["_law_found", "_law_due"] (spLk K (n + 1)) := by
  refine T.d_l_like.F.ok sc_l_like (fun vs H Q E h => ?_) (fun cdv A outer s H vs Q E hr h => ?_)
  · obtain ⟨x, y, d, rfl, _⟩ := h
    rfl
  obtain ⟨x, y, d, rfl, hx, hy, hs, q⟩ := h
  refine ⟨_, (pss_cons (ps_if (pt_cmpR op_isN (pv 1) pe_non (nomark _)) (pss_one (ps_ret (pe_cmpR op_isN (pv 0) pe_non (nomark _)))) pss_nil)
    (pss_cons (ps_if (pt_val (pe_callB (call_isi_K (K := K) (by rfl)) (by rfl) T.b_isinstance (by decide +kernel) (pa_cons (pv 1) (pa_cons (pe_tyN "dict" (by rfl) T.b_dict (by decide +kernel)) pa_nil)))) (pss_cons ps_never
      (pss_one ps_never)) pss_nil)
    (pss_cons (ps_if (pt_val (pe_callB (call_isiT_K (K := K) (by rfl)) (by rfl) T.b_isinstance (by decide +kernel) (pa_cons (pv 1) (pa_cons (pe_tup (pa_cons (pe_tyN "list" (by rfl) T.b_list (by decide +kernel)) (pa_cons (pe_tyN "tuple" (by rfl) T.b_tuple (by decide +kernel)) pa_nil))) pa_nil)))) (pss_cons (ps_if (PW.pt (pw_or (pt_cmpR op_ne (pe_callB (call_isi_K (K := K) (by rfl)) (by rfl) T.b_isinstance (by decide +kernel) (pa_cons (pv 0) (pa_cons (pe_tyN "list" (by rfl) T.b_list (by decide +kernel)) pa_nil))) (pe_callB (call_isi_K (K := K) (by rfl)) (by rfl) T.b_isinstance (by decide +kernel) (pa_cons (pv 1) (pa_cons (pe_tyN "list" (by rfl) T.b_list (by decide +kernel)) pa_nil))) (nomark _)) (pw_or1 (pt_cmpR op_ne (pe_callB (call_isi_K (K := K) (by rfl)) (by rfl) T.b_isinstance (by decide +kernel) (pa_cons (pv 0) (pa_cons (pe_tyN "tuple" (by rfl) T.b_tuple (by decide +kernel)) pa_nil))) (pe_callB (call_isi_K (K := K) (by rfl)) (by rfl) T.b_isinstance (by decide +kernel) (pa_cons (pv 1) (pa_cons (pe_tyN "tuple" (by rfl) T.b_tuple (by decide +kernel)) pa_nil))) (nomark _))))) (pss_one (ps_ret pe_bl)) pss_nil)
      (pss_one (ps_ret (pe_and (pe_cmpR op_eq (pe_callB (call_len_seq_K (K := K) (by rfl)) (by rfl) T.b_len PySem.boot_len (pa_cons (pv 0) pa_nil)) (pe_callB (call_len_seq_K (K := K) (by rfl)) (by rfl) T.b_len PySem.boot_len (pa_cons (pv 1) pa_nil)) (nomark _)) (pe_one (pe_callB (cr_all_K (K := K) (by rfl) rfl) (by rfl) T.b_all (by decide +kernel) (pa_cons (pe_lc (own := [("_law_one", 3), ("_law_other", 4)]) rfl sc_l_like.nd (pi_zipA_K (K := K) (by rfl) (by rfl) T.b_zip (pa_cons (pv 0) (pa_cons (pv 1) pa_nil))) (blkOk_by (own := [("_law_one", 3), ("_law_other", 4)]) (N := ["_law_found", "_law_due", "_law_key", "_law_one", "_law_other"]) (sc := defScope s_l_like) (by decide +kernel)) (fun _ _ _ _ _ => by exact (pg_tup_K (K := K) (by rfl) (n := 2) (by rfl) (pgs_cons (pg_name (i := 3) sc_l_like.nd rfl (Or.inl rfl)) (pgs_cons (pg_name (i := 4) sc_l_like.nd rfl (Or.inl rfl)) pgs_nil)))) (fun _ _ _ _ _ => by exact pts_nil) (fun _ _ _ _ _ => by exact (pe_call G_l_like hr (by rfl) T.d_l_like.g T.d_l_like.kp T.d_l_like.b .nil pass0 (pa_cons (pv 3) (pa_cons (pv 4) pa_nil))))) pa_nil))))))) pss_nil)
    (pss_cons (ps_if (PW.pt (pw_or (pt_cmpR op_ne (pe_callB (call_isi_K (K := K) (by rfl)) (by rfl) T.b_isinstance (by decide +kernel) (pa_cons (pv 0) (pa_cons (pe_tyN "bool" (by rfl) T.b_bool (by decide +kernel)) pa_nil))) (pe_callB (call_isi_K (K := K) (by rfl)) (by rfl) T.b_isinstance (by decide +kernel) (pa_cons (pv 1) (pa_cons (pe_tyN "bool" (by rfl) T.b_bool (by decide +kernel)) pa_nil))) (nomark _)) (pw_or1 (pt_cmpR op_ne (pe_callB (call_isi_K (K := K) (by rfl)) (by rfl) T.b_isinstance (by decide +kernel) (pa_cons (pv 0) (pa_cons (pe_tyN "int" (by rfl) T.b_int (by decide +kernel)) pa_nil))) (pe_callB (call_isi_K (K := K) (by rfl)) (by rfl) T.b_isinstance (by decide +kernel) (pa_cons (pv 1) (pa_cons (pe_tyN "int" (by rfl) T.b_int (by decide +kernel)) pa_nil))) (nomark _))))) (pss_one (ps_ret pe_bl)) pss_nil)
    (pss_one (ps_ret (pe_and (pe_cmpR op_eq (pe_callB (call_isi_K (K := K) (by rfl)) (by rfl) T.b_isinstance (by decide +kernel) (pa_cons (pv 0) (pa_cons (pe_tyN "str" (by rfl) T.b_str (by decide +kernel)) pa_nil))) (pe_callB (call_isi_K (K := K) (by rfl)) (by rfl) T.b_isinstance (by decide +kernel) (pa_cons (pv 1) (pa_cons (pe_tyN "str" (by rfl) T.b_str (by decide +kernel)) pa_nil))) (nomark _)) (pe_one (pe_cmpR op_eq (pv 0) (pv 1) (nomark _)))))))))), ?_⟩
  cases hx with
  | non =>
    cases hy
    refine ⟨_, rfl, rfl, _, rfl, iteY rfl ⟨_, rfl, rfl, ?_⟩⟩
    exact q _ (Same.refl _)
  | bl b =>
    cases hy
    refine ⟨_, rfl, rfl, _, rfl, iteN (by intro z; cases z) ?_⟩
    refine ⟨_, rfl, _, _, _, _, false, rfl, .ty _, .base (.bl b), kit_ty (by decide +kernel), _, rfl, iteF ?_⟩
    refine ⟨_, rfl, (by show 2 ≤ sizeLine; decide), fun p np => ⟨_, p, _, _, _, false, rfl, upd_same, .cons (.ty _) (.cons (.ty _) .nil), .base (.bl b), kitAny_cons (kit_ty (b := "list") (r := false) (by decide +kernel)) (fun _ => kitAny_cons (kit_ty (r := false) (by decide +kernel)) (fun _ => kitAny_nil) (fun z => nomatch z)) (fun z => nomatch z), _, rfl, iteF ?_⟩⟩
    refine ⟨_, rfl, _, _, _, _, true, rfl, .ty _, .base (.bl b), kit_ty (by decide +kernel), _, rfl, _, _, _, _, true, rfl, .ty _, .base (.bl b), kit_ty (by decide +kernel), rfl, _, rfl, iteNS rfl ?_⟩
    refine ⟨_, rfl, _, _, _, _, true, rfl, .ty _, .base (.bl b), kit_ty (by decide +kernel), _, rfl, _, _, _, _, true, rfl, .ty _, .base (.bl b), kit_ty (by decide +kernel), rfl, _, rfl, iteNS rfl ?_⟩
    refine ⟨_, rfl, _, _, _, _, false, rfl, .ty _, .base (.bl b), kit_ty (by decide +kernel), _, rfl, _, _, _, _, false, rfl, .ty _, .base (.bl b), kit_ty (by decide +kernel), rfl, _, rfl, iteY rfl ⟨_, rfl, _, rfl, rfl, q_eq (q _ (same_new np))⟩⟩
  | int i =>
    cases hy
    refine ⟨_, rfl, rfl, _, rfl, iteN (by intro z; cases z) ?_⟩
    refine ⟨_, rfl, _, _, _, _, false, rfl, .ty _, .base (.int i), kit_ty (by decide +kernel), _, rfl, iteF ?_⟩
    refine ⟨_, rfl, (by show 2 ≤ sizeLine; decide), fun p np => ⟨_, p, _, _, _, false, rfl, upd_same, .cons (.ty _) (.cons (.ty _) .nil), .base (.int i), kitAny_cons (kit_ty (b := "list") (r := false) (by decide +kernel)) (fun _ => kitAny_cons (kit_ty (r := false) (by decide +kernel)) (fun _ => kitAny_nil) (fun z => nomatch z)) (fun z => nomatch z), _, rfl, iteF ?_⟩⟩
    refine ⟨_, rfl, _, _, _, _, false, rfl, .ty _, .base (.int i), kit_ty (by decide +kernel), _, rfl, _, _, _, _, false, rfl, .ty _, .base (.int i), kit_ty (by decide +kernel), rfl, _, rfl, iteNS rfl ?_⟩
    refine ⟨_, rfl, _, _, _, _, true, rfl, .ty _, .base (.int i), kit_ty (by decide +kernel), _, rfl, _, _, _, _, true, rfl, .ty _, .base (.int i), kit_ty (by decide +kernel), rfl, _, rfl, iteNS rfl ?_⟩
    refine ⟨_, rfl, _, _, _, _, false, rfl, .ty _, .base (.int i), kit_ty (by decide +kernel), _, rfl, _, _, _, _, false, rfl, .ty _, .base (.int i), kit_ty (by decide +kernel), rfl, _, rfl, iteY rfl ⟨_, rfl, _, rfl, rfl, q_eq (q _ (same_new np))⟩⟩
  | str z =>
    cases hy
    refine ⟨_, rfl, rfl, _, rfl, iteN (by intro z; cases z) ?_⟩
    refine ⟨_, rfl, _, _, _, _, false, rfl, .ty _, .base (.str z), kit_ty (by decide +kernel), _, rfl, iteF ?_⟩
    refine ⟨_, rfl, (by show 2 ≤ sizeLine; decide), fun p np => ⟨_, p, _, _, _, false, rfl, upd_same, .cons (.ty _) (.cons (.ty _) .nil), .base (.str z), kitAny_cons (kit_ty (b := "list") (r := false) (by decide +kernel)) (fun _ => kitAny_cons (kit_ty (r := false) (by decide +kernel)) (fun _ => kitAny_nil) (fun z => nomatch z)) (fun z => nomatch z), _, rfl, iteF ?_⟩⟩
    refine ⟨_, rfl, _, _, _, _, false, rfl, .ty _, .base (.str z), kit_ty (by decide +kernel), _, rfl, _, _, _, _, false, rfl, .ty _, .base (.str z), kit_ty (by decide +kernel), rfl, _, rfl, iteNS rfl ?_⟩
    refine ⟨_, rfl, _, _, _, _, false, rfl, .ty _, .base (.str z), kit_ty (by decide +kernel), _, rfl, _, _, _, _, false, rfl, .ty _, .base (.str z), kit_ty (by decide +kernel), rfl, _, rfl, iteNS rfl ?_⟩
    refine ⟨_, rfl, _, _, _, _, true, rfl, .ty _, .base (.str z), kit_ty (by decide +kernel), _, rfl, _, _, _, _, true, rfl, .ty _, .base (.str z), kit_ty (by decide +kernel), rfl, _, rfl, iteY rfl ⟨_, rfl, _, rfl, rfl, q_eq (q _ (same_new np))⟩⟩
  | @lst a xs ds h1 h2 =>
    cases hy with
    | @lst b ys _ k1 k2 =>
    cases hs with
    | @lst m _ hl hall =>
    have lxy : xs.length = ys.length := (DpAll.length h2).trans (DpAll.length k2).symm
    refine ⟨_, rfl, rfl, _, rfl, iteN (by intro z; cases z) ?_⟩
    refine ⟨_, rfl, _, _, _, _, false, rfl, .ty _, tyL k1, kit_ty (by decide +kernel), _, rfl, iteF ?_⟩
    refine ⟨_, rfl, (by show 2 ≤ sizeLine; decide), fun p np => ⟨_, p, _, _, _, true, rfl, upd_same, .cons (.ty _) (.cons (.ty _) .nil), tyL ((same_new np).seq k1), kitAny_cons (kit_ty (b := "list") (r := true) (by decide +kernel)) (fun z => nomatch z) (fun _ => rfl), _, rfl, iteT ?_⟩⟩
    have e1 : Same H (upd H p (.tup [.ty "list", .ty "tuple"])) := same_new np
    have h1' := e1.seq h1
    have k1' := e1.seq k1
    refine ⟨_, rfl, _, _, _, _, true, rfl, .ty _, tyL h1', kit_ty (by decide +kernel), _, rfl, _, _, _, _, true, rfl, .ty _, tyL k1', kit_ty (by decide +kernel), rfl, _, rfl, iteNS rfl ?_⟩
    refine ⟨_, rfl, _, _, _, _, false, rfl, .ty _, tyL h1', kit_ty (by decide +kernel), _, rfl, _, _, _, _, false, rfl, .ty _, tyL k1', kit_ty (by decide +kernel), rfl, _, rfl, iteNS rfl ?_⟩
    refine ⟨_, rfl, a, xs, rfl, .inl h1', _, rfl, b, ys, rfl, .inl k1', rfl, _, rfl, iteY (by rw [lxy]) ?_⟩
    refine ⟨_, rfl, _, rfl, a, b, xs, ys, rfl, .inl ⟨h1', k1', fun D nD => ?_⟩⟩
    refine lc_it (walk_zip (n := xs.length) (by omega)) (fun i H' => Same (upd H p (.tup [.ty "list", .ty "tuple"])) H' ∧ H' D = some (.lst ((List.replicate i true).map V.bl))) ⟨same_new nD, upd_same⟩ (fun i H' _ p => ⟨p.1.seq h1', p.1.seq k1'⟩) ?_ ?_
    · rintro i v H' H'' hi ⟨s1, hD⟩ ⟨Tp, x', y', rfl, nT, rfl, ex, ey⟩
      refine ⟨Tp, [x', y'], rfl, .inl (.inl upd_same), rfl, x', [y'], rfl, y', [], rfl, rfl, rfl, ?_⟩
      obtain ⟨d', hm, hx', hy'⟩ := dpa_at h2 k2 ex ey
      have s2 := e1.trans (s1.trans (same_new (o := .tup [x', y']) nT))
      refine ⟨_, rfl, _, rfl, x', y', d', rfl, Dp.mono s2 hx', Dp.mono s2 hy', hall _ hm, fun H4 s4 => ?_⟩
      have lz : xs.length = ds.length := DpAll.length h2
      refine ⟨_, s4 _ _ ((upd_ne (ne_of_none hD nT)).trans hD), by rw [List.length_map, List.length_replicate]; exact lt_line (by omega), fun b' o e' => ?_, ?_⟩
      · have nb : b' ≠ D := ne_of_none e' nD
        rw [upd_ne nb]
        exact s4 _ _ (same_new nT _ _ (s1 _ _ e'))
      · rw [upd_same, List.replicate_succ', List.map_append]
        rfl
    · rintro H' ⟨s1, hD⟩
      refine ⟨D, List.replicate xs.length true, rfl, SqL.of hD, ?_⟩
      rw [bls_true]
      exact q _ (e1.trans s1)
  | @tup a xs ds h1 h2 =>
    cases hy with
    | @tup b ys _ k1 k2 =>
    cases hs with
    | @tup m _ hl hall =>
    have lxy : xs.length = ys.length := (DpAll.length h2).trans (DpAll.length k2).symm
    refine ⟨_, rfl, rfl, _, rfl, iteN (by intro z; cases z) ?_⟩
    refine ⟨_, rfl, _, _, _, _, false, rfl, .ty _, tyT k1, kit_ty (by decide +kernel), _, rfl, iteF ?_⟩
    refine ⟨_, rfl, (by show 2 ≤ sizeLine; decide), fun p np => ⟨_, p, _, _, _, true, rfl, upd_same, .cons (.ty _) (.cons (.ty _) .nil), tyT (Same.tup (same_new np) k1), kitAny_cons (kit_ty (b := "list") (r := false) (by decide +kernel)) (fun _ => kitAny_cons (kit_ty (r := true) (by decide +kernel)) (fun z => nomatch z) (fun _ => rfl)) (fun z => nomatch z), _, rfl, iteT ?_⟩⟩
    have e1 : Same H (upd H p (.tup [.ty "list", .ty "tuple"])) := same_new np
    have h1' := Same.tup e1 h1
    have k1' := Same.tup e1 k1
    refine ⟨_, rfl, _, _, _, _, false, rfl, .ty _, tyT h1', kit_ty (by decide +kernel), _, rfl, _, _, _, _, false, rfl, .ty _, tyT k1', kit_ty (by decide +kernel), rfl, _, rfl, iteNS rfl ?_⟩
    refine ⟨_, rfl, _, _, _, _, true, rfl, .ty _, tyT h1', kit_ty (by decide +kernel), _, rfl, _, _, _, _, true, rfl, .ty _, tyT k1', kit_ty (by decide +kernel), rfl, _, rfl, iteNS rfl ?_⟩
    refine ⟨_, rfl, a, xs, rfl, .inr h1', _, rfl, b, ys, rfl, .inr k1', rfl, _, rfl, iteY (by rw [lxy]) ?_⟩
    refine ⟨_, rfl, _, rfl, a, b, xs, ys, rfl, .inr ⟨h1', k1', fun D nD => ?_⟩⟩
    refine lc_it (walk_zipT (n := xs.length) (by omega)) (fun i H' => Same (upd H p (.tup [.ty "list", .ty "tuple"])) H' ∧ H' D = some (.lst ((List.replicate i true).map V.bl))) ⟨same_new nD, upd_same⟩ (fun i H' _ p => ⟨Same.tup p.1 h1', Same.tup p.1 k1'⟩) ?_ ?_
    · rintro i v H' H'' hi ⟨s1, hD⟩ ⟨Tp, x', y', rfl, nT, rfl, ex, ey⟩
      refine ⟨Tp, [x', y'], rfl, .inl (.inl upd_same), rfl, x', [y'], rfl, y', [], rfl, rfl, rfl, ?_⟩
      obtain ⟨d', hm, hx', hy'⟩ := dpa_at h2 k2 ex ey
      have s2 := e1.trans (s1.trans (same_new (o := .tup [x', y']) nT))
      refine ⟨_, rfl, _, rfl, x', y', d', rfl, Dp.mono s2 hx', Dp.mono s2 hy', hall _ hm, fun H4 s4 => ?_⟩
      have lz : xs.length = ds.length := DpAll.length h2
      refine ⟨_, s4 _ _ ((upd_ne (ne_of_none hD nT)).trans hD), by rw [List.length_map, List.length_replicate]; exact lt_line (by omega), fun b' o e' => ?_, ?_⟩
      · have nb : b' ≠ D := ne_of_none e' nD
        rw [upd_ne nb]
        exact s4 _ _ (same_new nT _ _ (s1 _ _ e'))
      · rw [upd_same, List.replicate_succ', List.map_append]
        rfl
    · rintro H' ⟨s1, hD⟩
      refine ⟨D, List.replicate xs.length true, rfl, SqL.of hD, ?_⟩
      rw [bls_true]
      exact q _ (e1.trans s1)
theorem ok_like (T : Top K mg) : ∀ n : Nat, FnOk P w K mg base CX0 n T.a_l_like T.fd_l_like ["_law_found", "_law_due"] (spLk K n)
  | 0 => ⟨fun _ _ _ _ h => h.elim, fun _ _ _ _ _ _ _ _ _ _ _ _ _ h => h.elim⟩
  | n + 1 => like_step T n (ok_like T n)
end
end Bh

set_option Elab.async false
set_option linter.all false
set_option maxRecDepth 100000
set_option maxHeartbeats 2000000
namespace Bh
open PySem PySem.Spec PyProof.Rows L2
def spLaw (K : PySem.W.Frag) (tabA : Addr) : Sp := fun vs H Q _ => ∃ (a : Addr) (ns : List Int), vs = [.ref a] ∧ SqL K H a (ns.map V.int) ∧ ns.length ≤ 63 ∧ H tabA = some (.tbl #[]) ∧ ∀ H', Q (.bl true) H'
theorem nm_at {n : Nat} {j : Int} (h0 : 0 ≤ j) (h1 : j.toNat < n) : atI ((List.range n).map fun i => V.str (cellN i)) j = some (.str (cellN j.toNat)) := by
  refine at_nn h0 ?_
  rw [List.getElem?_map, List.getElem?_range h1]
  rfl
theorem nmF_len : ∀ (f n : Nat) (acc : Str), (nmF f n acc).length ≤ f + acc.length
  | 0, _, acc => by
    show acc.length ≤ _
    omega
  | f + 1, 0, acc => by
    show acc.length ≤ _
    omega
  | f + 1, n + 1, acc => by
    have k := nmF_len f (n / 26) (letterS (n % 26) ++ acc)
    rw [len_app] at k
    have k' : (nmF f (n / 26) (letterS (n % 26) ++ acc)).length ≤ f + (1 + acc.length) := k
    show (nmF f (n / 26) (letterS (n % 26) ++ acc)).length ≤ _
    omega
theorem cell_len (p : Nat) : (cellN p).length ≤ p + 1 := nmF_len (p + 1) (p + 1) Str.empty
theorem sh_up {n : Nat} {d : PyData} (h : Sh n d) : Sh (n + 1) d := by
  induction h with
  | non => exact .non
  | bl => exact .bl
  | int => exact .int
  | str => exact .str
  | lst a _ ih => exact .lst a ih
  | tup a _ ih => exact .tup a ih
theorem Wd.fresh {b l : Addr} {G H H' : Hp} (w : Wd b l G H) (e : Same H H') : Wd b l (hid b (hid l H')) H' ∧ Same G (hid b (hid l H')) := by
  have hb := w.bag.same e
  refine ⟨⟨?_, ?_, hid_le.trans hid_le, hb⟩, hid_of (hid_of (w.sm.trans e) w.nl) w.nb⟩
  · unfold hid
    rw [if_pos rfl]
  · show hid b (hid l H') l = none
    rw [hid_comm]
    unfold hid
    rw [if_pos rfl]
section
variable {P : Program} {w : World} {K : PySem.W.Frag} {mg : Str → Option Value} {base : Heap}
theorem ok_any (T : Top K mg) : FnOk P w K mg base CX0 2 T.a_l_any T.fd_l_any ["_law_bag_here", "_law_row"] (spAny K) := by
  have G_l_draw := ok_draw (P := P) (w := w) (base := base) T
  refine T.d_l_any.F.ok sc_l_any (fun vs H Q E h => ?_) (fun cdv A outer s H vs Q E hr h => ?_)
  · obtain ⟨b, l, a, G, xs, rfl, _⟩ := h
    rfl
  obtain ⟨b, l, a, G, xs, rfl, hS, ne, hl, wd, q⟩ := h
  refine ⟨_, (pss_one (ps_ret (pe_ix (ix_seq_K (K := K) (by rfl)) (pv 1) (pe_call G_l_draw (hr.mono (by decide)) (by rfl) T.d_l_draw.g T.d_l_draw.kp T.d_l_draw.b .nil pass0 (pa_cons (pv 0) (pa_cons (pe_callB (call_len_seq_K (K := K) (by rfl)) (by rfl) T.b_len PySem.boot_len (pa_cons (pv 1) pa_nil)) pa_nil))) (fun _ _ => rfl)))), ?_⟩
  have hp : 0 < xs.length := List.length_pos_iff.mpr ne
  refine ⟨_, rfl, _, rfl, _, rfl, a, xs, rfl, seq_mono wd.sm hS, b, l, G, _, rfl, by omega, by omega, wd, fun r H1 r0 r1 w1 => ?_⟩
  obtain ⟨v, e, hm⟩ := at_lt r0 r1
  exact rIx_go (seq_mono w1.sm hS) e (q v H1 hm w1)
theorem kb1 {f : Addr} {fd : FuncData} {x p : Str} {st : Stmt} (F : Fun K x x st f fd) (h : ∀ (od : Option Addr) (kV doc pm : Value) (an : Option Addr) (cdv ct : Value) (s : Shared) (u : Value), BindsTo s (PySem.W.fnOf x x (defArgs st) (defBody st) (defScope st) .none kV doc pm an cdv ct) ⟨[], [(p, u)]⟩ [(p, u)]) : KBn K fd [p] 0 [p] (fun _ ws => ws) (fun _ zs => zs) := by
  obtain ⟨oc, od, kV, doc, pm, an, cdv, ct, osl, e, _⟩ := F.ex
  refine ⟨fun s us ws _ l1 l2 => ?_, fun _ r => r⟩
  rw [e]
  match us, ws, l1, l2 with
  | [], [u], _, _ => exact h od kV doc pm an cdv ct s u
theorem kb_option (T : Top K mg) : KBn K T.fd_is_option ["value"] 0 ["value"] (fun _ ws => ws) (fun _ zs => zs) := kb1 T.d_is_option.F fun _ _ _ _ _ _ _ _ _ => .of_eq rfl
theorem kb_name (T : Top K mg) : KBn K T.fd_is_name ["value"] 0 ["value"] (fun _ ws => ws) (fun _ zs => zs) := kb1 T.d_is_name.F fun _ _ _ _ _ _ _ _ _ => .of_eq rfl
theorem kb_cells (T : Top K mg) : KBn K T.fd_cell_names ["many"] 0 ["many"] (fun _ ws => ws) (fun _ zs => zs) := kb1 T.d_cell_names.F fun _ _ _ _ _ _ _ _ _ => .of_eq rfl
theorem ok_law {f c tabA : Addr} {od an : Option Addr} {oc kV doc pm ct : Value} {osl : Array (Option Value)} (T : Top K mg) (TB : LamX.TabB base mg c tabA)
    (lk : K.lookup f = some ⟨oc, od, .func (PySem.W.fnOf "law" "law" (defArgs s_law) (defBody s_law) (defScope s_law) .none kV doc pm an (.ref c) ct), osl⟩) (hcd : PySem.W.codeIn K (.ref c) "law" = true) :
    FnOk P w K mg base CX0 7 f (PySem.W.fnOf "law" "law" (defArgs s_law) (defBody s_law) (defScope s_law) .none kV doc pm an (.ref c) ct) ["_law_script"] (spLaw K tabA) := by
  have G_l_bag := ok_bag (P := P) (w := w) (base := base) T
  have G_l_draw := ok_draw (P := P) (w := w) (base := base) T
  have G_l_any := ok_any (P := P) (w := w) (base := base) T
  have G_is_name := ok_name (P := P) (w := w) (base := base) T
  have G_is_option := ok_option (P := P) (w := w) (base := base) T
  have G_cell_names := ok_names (P := P) (w := w) (base := base) T
  have G_given := ok_given (P := P) (w := w) (base := base) T
  have G_l_like := ok_like (P := P) (w := w) (base := base) T 3
  obtain ⟨oc2, od2, kV2, doc2, pm2, an2, cdvT, ct2, osl2, eT, lkT, hcT⟩ := T.d_l_try.F.ex
  have bT := T.d_l_try.b
  rw [eT] at bT lkT
  refine fn_of lk hcd sc_law (fun vs H Q E h => ?_) (fun A outer s H vs Q E hr h => ?_)
  · obtain ⟨a, ns, rfl, _⟩ := h
    rfl
  obtain ⟨a, ns, rfl, hS, h63, hT, q⟩ := h
  have mT : (tabA, ("law.<locals>." : Str) ++ "<lambda>") ∈ [(tabA, ("law.<locals>.<lambda>" : Str))] := by
    rw [show (("law.<locals>." : Str) ++ "<lambda>") = "law.<locals>.<lambda>" by decide +kernel]
    exact List.mem_singleton.mpr rfl
  have uT : ∀ p ∈ [(tabA, ("law.<locals>.<lambda>" : Str))], p.1 = tabA → p.2 = ("law.<locals>." : Str) ++ "<lambda>" := fun p hp _ => by
    rw [List.mem_singleton.mp hp]
    exact (show ("law.<locals>.<lambda>" : Str) = ("law.<locals>." : Str) ++ "<lambda>" by decide +kernel)
  refine ⟨_, PSs.nox (pss_cons (ps_set (i := 1) sc_law.nd rfl (Or.inr rfl) (pe_call G_l_bag (hr.mono (by decide)) (by rfl) T.d_l_bag.g T.d_l_bag.kp T.d_l_bag.b .nil pass0 (pa_cons (pv 0) pa_nil)))
    (pss_cons (ps_asg (pe_tup (pa_cons pe_str (pa_cons pe_str pa_nil))) (pg_tup_K (K := K) (by rfl) (n := 2) (by rfl) (pgs_cons (pg_name (i := 2) sc_law.nd rfl (Or.inr rfl)) (pgs_cons (pg_name (i := 3) sc_law.nd rfl (Or.inr rfl)) pgs_nil))))
    (pss_cons (ps_for PassesOwn.never rfl (pi_range1 rfl T.b_range (pa_cons pe_int pa_nil)) (pg_name (i := 4) sc_law.nd rfl (Or.inl rfl))
      (pss_cons (ps_set (i := 5) sc_law.nd rfl (Or.inl rfl) (pe_call G_l_draw (hr.mono (by decide)) (by rfl) T.d_l_draw.g T.d_l_draw.kp T.d_l_draw.b .nil pass0 (pa_cons (pv 1) (pa_cons pe_int pa_nil))))
      (pss_cons (ps_set (i := 6) sc_law.nd rfl (Or.inl rfl) (pe_join_K (K := K) (by rfl) pe_str (pe_lc (own := [("_law_k", 14)]) rfl sc_law.nd (pi_range1 rfl T.b_range (pa_cons (pv 5) pa_nil)) (blkOk_by (own := [("_law_k", 14)]) (N := ["_law_script", "_law_bag_here", "_law_letters", "_law_signs", "_law_turn", "_law_many_z", "_law_name", "_law_option", "_law_plain", "_law_good", "_law_at", "_law_odd", "_law_bent", "_law_found", "_law_k", "_law_sign", "_law_one"]) (sc := defScope s_law) (by decide +kernel)) (fun _ _ _ _ _ => by exact (pg_name (i := 14) sc_law.nd rfl (Or.inl rfl))) (fun _ _ _ _ _ => by exact pts_nil) (fun _ _ _ _ _ => by exact (pe_ix ix_str (pv 2) (pe_call G_l_draw (hr.mono (by decide)) (by rfl) T.d_l_draw.g T.d_l_draw.kp T.d_l_draw.b .nil pass0 (pa_cons (pv 1) (pa_cons pe_int pa_nil))) (fun _ _ => rfl))))))
      (pss_cons (ps_set (i := 7) sc_law.nd rfl (Or.inl rfl) (pe_join_K (K := K) (by rfl) pe_str (pe_lc (own := [("_law_k", 14)]) rfl sc_law.nd (pi_range1 rfl T.b_range (pa_cons (pv 5) pa_nil)) (blkOk_by (own := [("_law_k", 14)]) (N := ["_law_script", "_law_bag_here", "_law_letters", "_law_signs", "_law_turn", "_law_many_z", "_law_name", "_law_option", "_law_plain", "_law_good", "_law_at", "_law_odd", "_law_bent", "_law_found", "_law_k", "_law_sign", "_law_one"]) (sc := defScope s_law) (by decide +kernel)) (fun _ _ _ _ _ => by exact (pg_name (i := 14) sc_law.nd rfl (Or.inl rfl))) (fun _ _ _ _ _ => by exact pts_nil) (fun _ _ _ _ _ => by exact (pe_ix ix_str (pv 3) (pe_call G_l_draw (hr.mono (by decide)) (by rfl) T.d_l_draw.g T.d_l_draw.kp T.d_l_draw.b .nil pass0 (pa_cons (pv 1) (pa_cons pe_int pa_nil))) (fun _ _ => rfl))))))
      (pss_cons (ps_set (i := 8) sc_law.nd rfl (Or.inl rfl) (pe_callB (cr_all_K (K := K) (by rfl) rfl) (by rfl) T.b_all (by decide +kernel) (pa_cons (pe_lc (own := [("_law_sign", 15)]) rfl sc_law.nd (pi_str (pv 7)) (blkOk_by (own := [("_law_sign", 15)]) (N := ["_law_script", "_law_bag_here", "_law_letters", "_law_signs", "_law_turn", "_law_many_z", "_law_name", "_law_option", "_law_plain", "_law_good", "_law_at", "_law_odd", "_law_bent", "_law_found", "_law_k", "_law_sign", "_law_one"]) (sc := defScope s_law) (by decide +kernel)) (fun _ _ _ _ _ => by exact (pg_name (i := 15) sc_law.nd rfl (Or.inl rfl))) (fun _ _ _ _ _ => by exact pts_nil) (fun _ _ _ _ _ => by exact (pe_cmpR op_in_sign (pv 15) (pv 2) (by rfl)))) pa_nil)))
      (pss_cons (ps_set (i := 9) sc_law.nd rfl (Or.inl rfl) (pe_chain op_lt op_lt pe_int (pv 5) pe_int))
      (pss_cons (ps_if (pt_not (pt_val (pe_call G_l_like (hr.mono (by decide)) (by rfl) T.d_l_like.g T.d_l_like.kp T.d_l_like.b .nil pass0 (pa_cons (pe_lst (pa_cons (pe_call G_is_name (hr.mono (by decide)) (by rfl) T.d_is_name.g T.d_is_name.kp T.d_is_name.b .nil pass0 (pa_cons (pv 6) pa_nil)) (pa_cons (pe_call G_is_option (hr.mono (by decide)) (by rfl) T.d_is_option.g T.d_is_option.kp T.d_is_option.b .nil pass0 (pa_cons (pv 6) pa_nil)) (pa_cons (pe_callN0 G_is_option (hr.mono (by decide)) (by rfl) T.d_is_option.g T.d_is_option.kp (kb_option T) pass0 (pk_cons (pv 7) pk_nil)) pa_nil)))) (pa_cons (pe_op op_rep (pe_lst (pa_cons (pv 9) pa_nil)) pe_int) pa_nil))))) (pss_one (ps_ret pe_bl)) pss_nil)
      (pss_cons (ps_if (pt_not (pt_val (pe_call G_l_like (hr.mono (by decide)) (by rfl) T.d_l_like.g T.d_l_like.kp T.d_l_like.b .nil pass0 (pa_cons (pe_callN0 G_is_name (hr.mono (by decide)) (by rfl) T.d_is_name.g T.d_is_name.kp (kb_name T) pass0 (pk_cons (pv 7) pk_nil)) (pa_cons (pe_and (pv 9) (pe_one (pv 8))) pa_nil))))) (pss_one (ps_ret pe_bl)) pss_nil)
      (pss_cons (ps_asg (pe_tup (pa_cons (pe_call G_l_draw (hr.mono (by decide)) (by rfl) T.d_l_draw.g T.d_l_draw.kp T.d_l_draw.b .nil pass0 (pa_cons (pv 1) (pa_cons (pe_op op_add (pv 5) pe_int) pa_nil))) (pa_cons (pe_call G_l_any (hr.mono (by decide)) (by rfl) T.d_l_any.g T.d_l_any.kp T.d_l_any.b .nil pass0 (pa_cons (pv 1) (pa_cons (pe_lst (pa_cons pe_str (pa_cons pe_str (pa_cons pe_str (pa_cons pe_str (pa_cons pe_str (pa_cons pe_str (pa_cons pe_str (pa_cons pe_str pa_nil))))))))) pa_nil))) pa_nil))) (pg_tup_K (K := K) (by rfl) (n := 2) (by rfl) (pgs_cons (pg_name (i := 10) sc_law.nd rfl (Or.inl rfl)) (pgs_cons (pg_name (i := 11) sc_law.nd rfl (Or.inr rfl)) pgs_nil))))
      (pss_cons (ps_set (i := 12) sc_law.nd rfl (Or.inl rfl) (pe_op op_add_str (pe_op op_add_str (pe_slice sl_str (pv 6) po_none (po_some (pv 10))) (pv 11)) (pe_slice sl_str (pv 6) (po_some (pv 10)) po_none)))
      (pss_one (ps_if (PW.pt (pw_or (pt_val (pe_call G_is_name (hr.mono (by decide)) (by rfl) T.d_is_name.g T.d_is_name.kp T.d_is_name.b .nil pass0 (pa_cons (pv 12) pa_nil))) (pw_or1 (pt_val (pe_call G_is_option (hr.mono (by decide)) (by rfl) T.d_is_option.g T.d_is_option.kp T.d_is_option.b .nil pass0 (pa_cons (pv 12) pa_nil)))))) (pss_one (ps_ret pe_bl)) pss_nil))))))))))))
    (pss_cons (ps_set (i := 11) sc_law.nd rfl (Or.inr rfl) (pe_lst (pa_cons pe_non (pa_cons pe_int (pa_cons pe_bl (pa_cons (pe_lst (pa_cons pe_str pa_nil)) (pa_cons (pe_tup (pa_cons pe_str pa_nil)) (pa_cons pe_str (pa_cons pe_str (pa_cons pe_str (pa_cons pe_str pa_nil)))))))))))
    (pss_cons (ps_if (PW.pt (pw_or (pt_cmpR (op_in_seq_K (K := K) (by rfl)) pe_bl (pe_lc (own := [("_law_one", 16)]) rfl sc_law.nd (pi_list_K (K := K) (by rfl) (pv 11)) (blkOk_by (own := [("_law_one", 16)]) (N := ["_law_script", "_law_bag_here", "_law_letters", "_law_signs", "_law_turn", "_law_many_z", "_law_name", "_law_option", "_law_plain", "_law_good", "_law_at", "_law_odd", "_law_bent", "_law_found", "_law_k", "_law_sign", "_law_one"]) (sc := defScope s_law) (by decide +kernel)) (fun _ _ _ _ _ => by exact (pg_name (i := 16) sc_law.nd rfl (Or.inl rfl))) (fun _ _ _ _ _ => by exact pts_nil) (fun _ _ _ _ _ => by exact (pe_call G_is_name (hr.mono (by decide)) (by rfl) T.d_is_name.g T.d_is_name.kp T.d_is_name.b .nil pass0 (pa_cons (pv 16) pa_nil)))) (by rfl)) (pw_or1 (pt_cmpR (op_in_seq_K (K := K) (by rfl)) pe_bl (pe_lc (own := [("_law_one", 16)]) rfl sc_law.nd (pi_list_K (K := K) (by rfl) (pv 11)) (blkOk_by (own := [("_law_one", 16)]) (N := ["_law_script", "_law_bag_here", "_law_letters", "_law_signs", "_law_turn", "_law_many_z", "_law_name", "_law_option", "_law_plain", "_law_good", "_law_at", "_law_odd", "_law_bent", "_law_found", "_law_k", "_law_sign", "_law_one"]) (sc := defScope s_law) (by decide +kernel)) (fun _ _ _ _ _ => by exact (pg_name (i := 16) sc_law.nd rfl (Or.inl rfl))) (fun _ _ _ _ _ => by exact pts_nil) (fun _ _ _ _ _ => by exact (pe_call G_is_option (hr.mono (by decide)) (by rfl) T.d_is_option.g T.d_is_option.kp T.d_is_option.b .nil pass0 (pa_cons (pv 16) pa_nil)))) (by rfl))))) (pss_one (ps_ret pe_bl)) pss_nil)
    (pss_cons (ps_set (i := 5) sc_law.nd rfl (Or.inl rfl) (pe_call G_l_any (hr.mono (by decide)) (by rfl) T.d_l_any.g T.d_l_any.kp T.d_l_any.b .nil pass0 (pa_cons (pv 1) (pa_cons (pe_lst (pa_cons pe_int (pa_cons pe_int (pa_cons pe_int (pa_cons pe_int (pa_cons pe_int (pa_cons pe_int (pa_cons (pe_call G_l_draw (hr.mono (by decide)) (by rfl) T.d_l_draw.g T.d_l_draw.kp T.d_l_draw.b .nil pass0 (pa_cons (pv 1) (pa_cons pe_int pa_nil))) (pa_cons pe_int pa_nil))))))))) pa_nil))))
    (pss_cons (ps_set (i := 13) sc_law.nd rfl (Or.inl rfl) (pe_callS G_cell_names (hr.mono (by decide)) (by rfl) T.d_cell_names.g T.d_cell_names.kp T.d_cell_names.b (fun σ => passAt LamX.takes0 σ) (pa_cons (pv 5) pa_nil)))
    (pss_cons (ps_if (PW.pt (pw_or (pt_not (pt_val (pe_callB (call_isi_K (K := K) (by rfl)) (by rfl) T.b_isinstance (by decide +kernel) (pa_cons (pv 13) (pa_cons (pe_tyN "list" (by rfl) T.b_list (by decide +kernel)) pa_nil))))) (pw_or (pt_cmpR op_ne (pe_callB (call_len_seq_K (K := K) (by rfl)) (by rfl) T.b_len PySem.boot_len (pa_cons (pv 13) pa_nil)) (pv 5) (nomark _)) (pw_or1 (pt_cmpR (op_neP (K := K) (by rfl) hr.units) (pe_slice (sl_list_K (K := K) (by rfl)) (pv 13) po_none (po_some pe_int)) (pe_slice (sl_list_K (K := K) (by rfl)) (pe_op op_cat (pe_callTy (call_listS rfl) (by rfl) T.b_list (by decide +kernel) (pa_cons (pv 2) pa_nil)) (pe_lst (pa_cons pe_str (pa_cons pe_str (pa_cons pe_str pa_nil))))) po_none (po_some (pv 5))) (nomark _)))))) (pss_one (ps_ret pe_bl)) pss_nil)
    (pss_cons (ps_for PassesOwn.never rfl (pi_range2 rfl T.b_range (pa_cons pe_int (pa_cons (pv 5) pa_nil))) (pg_name (i := 10) sc_law.nd rfl (Or.inl rfl))
      (pss_one (ps_if (pt_cmpR op_ne (pe_ix (ix_list_K (K := K) (by rfl)) (pv 13) (pv 10) (fun _ _ => rfl)) (pe_op op_add_str (pe_ix (ix_list_K (K := K) (by rfl)) (pv 13) (pe_op op_sub (pe_op op_fdiv (pv 10) pe_int) pe_int) (fun _ _ => rfl)) (pe_ix ix_str (pv 2) (pe_op op_mod (pe_callTy call_int1 (by rfl) T.b_int (by decide +kernel) (pa_cons (pv 10) pa_nil)) pe_int) (fun _ _ => rfl))) (nomark _)) (pss_one (ps_ret pe_bl)) pss_nil)))
    (pss_cons (ps_set (i := 11) sc_law.nd rfl (Or.inr rfl) (pe_call G_l_any (hr.mono (by decide)) (by rfl) T.d_l_any.g T.d_l_any.kp T.d_l_any.b .nil pass0 (pa_cons (pv 1) (pa_cons (pe_lst (pa_cons (pe_op op_sub pe_int pe_int) (pa_cons pe_int (pa_cons pe_bl (pa_cons pe_non (pa_cons pe_str (pa_cons (pe_op op_pow pe_int pe_int) pa_nil))))))) pa_nil))))
    (pss_one (ps_ret (pe_and (pe_call G_l_like (hr.mono (by decide)) (by rfl) T.d_l_like.g T.d_l_like.kp T.d_l_like.b .nil pass0 (pa_cons (LamX.pe_lamcall (T := [(tabA, "law.<locals>.<lambda>")]) (TT := TTry T.cIC) (x := "_law_try") (a := "_law_ask") (Ng := ["_law_ask", "_law_found", "_law_e"]) (k := 4) (t := fun E => tCallS (spNames K T.cIC) (WE (fun cls d _ H => E cls d H)) (tCons (tVar 11) tNil)) (by rfl) T.d_l_try.g T.d_l_try.kp lkT hcT bT sc_l_try rfl (.inl (by rfl)) (try_gives (X := (cxOf CX0 P w K mg base ["_law_script", "_law_bag_here", "_law_letters", "_law_signs", "_law_turn", "_law_many_z", "_law_name", "_law_option", "_law_plain", "_law_good", "_law_at", "_law_odd", "_law_bent", "_law_found", "_law_k", "_law_sign", "_law_one"] "law" (defScope s_law) f (.ref c) A outer s H E).nox) T G_given (hr.mono (show 3 ≤ 6 by decide)) cdvT _) TB rfl mT uT (hr.mono (by decide)) (LamX.lamS_by (sc := defScope s_law) (by decide +kernel)) rfl (fun _ _ _ _ _ => rfl) (fun A outer s H E f c' hr2 => by exact (pe_callS G_cell_names hr2 (by rfl) T.d_cell_names.g T.d_cell_names.kp T.d_cell_names.b (fun σ => passAt (takes_of rfl rfl rfl rfl) σ) (pa_cons (pv 11) pa_nil)))) (pa_cons (pe_tup (pa_cons pe_str (pa_cons (pv 11) pa_nil))) pa_nil))) (pe_one (pe_cmpR (op_eqP (K := K) (by rfl) hr.units) (pe_callN0 G_cell_names (hr.mono (by decide)) (by rfl) T.d_cell_names.g T.d_cell_names.kp (kb_cells T) (passes_call LamX.takes0 (fun _ _ _ _ z => z)) (pk_cons pe_int pk_nil)) (pe_lst (pa_cons pe_str (pa_cons pe_str (pa_cons pe_str pa_nil)))) (nomark _)))))))))))))))), ?_⟩
  refine ⟨_, rfl, a, ns, rfl, hS, h63, fun b l H1 nb nl s1 hb => ?_⟩
  have wd := wd_start nb nl s1 hb
  refine ⟨(by show 2 ≤ sizeLine; decide), fun t0 n0 => ?_⟩
  have w0 := wd.new (o := .tup [.str letters, .str lettersD]) n0
  have g0 := wd.sameG (o := .tup [.str letters, .str lettersD]) n0
  refine ⟨t0, _, rfl, SqT.of upd_same, rfl, _, _, rfl, _, _, rfl, rfl, ?_⟩
  refine ⟨_, rfl, by decide, by decide, ?_⟩
  refine for_it walk_range (fun i σ H' => ∃ x4 x5 x6 x7 x8 x9 x10 x11 x12 G', σ = [some (.ref a), some (.ref b), some (.str letters), some (.str lettersD), x4, x5, x6, x7, x8, x9, x10, x11, x12, none, none, none, none] ∧ Same H G' ∧ Wd b l G' H')
    ⟨none, none, none, none, none, none, none, none, none, _, rfl, g0, w0⟩ (fun _ _ _ _ _ => True.intro) ?_ ?_
  · rintro i v σ H' H'' hi ⟨x4, x5, x6, x7, x8, x9, x10, x11, x12, G1, rfl, sg, w1⟩ ⟨rfl, rfl⟩
    refine ⟨_, rfl, b, l, _, 11, rfl, by decide, by decide, w1, fun m H2 m0 m1 w2 => ?_⟩
    -- a name
    refine ⟨⟨_, rfl⟩, _, rfl, m, rfl, by omega, by omega, fun D nD => ?_⟩
    have gD := w2.free nD
    refine lc_it walk_range (fun i H' => ∃ G' cs, Same G1 G' ∧ Wd b l G' H' ∧ G' D = some (.lst ((cs.map oneS).map V.str)) ∧ cs.length = i ∧ ∀ c ∈ cs, c ∈ TL.tl letters) ⟨_, [], w2.sameG nD, w2.new nD, upd_same, rfl, fun c hc => by cases hc⟩ (fun _ _ _ _ => True.intro) ?_ ?_
    · rintro i v H' H'' hi ⟨G', cs, sg2, w3, hD, lc, hc⟩ ⟨rfl, rfl⟩
      refine ⟨rfl, _, rfl, _, rfl, b, l, _, 26, rfl, by decide, by decide, w3, fun r H4 r0 r1 w4 => ?_⟩
      refine ⟨letters, _, _, rfl, rfl, le_line (by decide +kernel), letters_at r0 r1, _, w4.sm _ _ hD, ?_, _, cs ++ [97 + r.toNat], same_mut sg2 gD, w4.mut hD, ?_, ?_, ?_⟩
      · rw [List.length_map, List.length_map]
        exact lt_line (by omega)
      · rw [upd_same, List.map_append, List.map_append]
        rfl
      · rw [List.length_append, lc]
        rfl
      · intro c hc'
        rcases List.mem_append.mp hc' with h' | h'
        · exact hc c h'
        · rw [List.mem_singleton.mp h']
          exact letters_in r0 r1
    rintro H3 ⟨G3, cs, sg3, w3, hD3, lc, hc⟩
    refine ⟨_, D, cs.map oneS, rfl, rfl, .inl (SqL.of (w3.sm _ _ hD3)), by rw [ones_sum, List.length_map]; show _ + _ * 0 ≤ 16777216; omega, ?_⟩
    obtain ⟨name, en⟩ : ∃ z, z = Txt.join "" (cs.map oneS) := ⟨_, rfl⟩
    have ln : name.length = cs.length := by rw [en, TL.len_tl, join_ones]
    rw [← en]
    -- an option
    refine ⟨⟨_, rfl⟩, _, rfl, m, rfl, by omega, by omega, fun D2 nD2 => ?_⟩
    have gD2 := w3.free nD2
    refine lc_it walk_range (fun i H' => ∃ G' ds, Same G3 G' ∧ Wd b l G' H' ∧ G' D2 = some (.lst ((ds.map oneS).map V.str)) ∧ ds.length = i ∧ ∀ c ∈ ds, c ∈ TL.tl lettersD) ⟨_, [], w3.sameG nD2, w3.new nD2, upd_same, rfl, fun c hc => by cases hc⟩ (fun _ _ _ _ => True.intro) ?_ ?_
    · rintro i v H' H'' hi ⟨G', ds, sg2, w4, hD, ld, hd⟩ ⟨rfl, rfl⟩
      refine ⟨rfl, _, rfl, _, rfl, b, l, _, 36, rfl, by decide, by decide, w4, fun r H5 r0 r1 w5 => ?_⟩
      obtain ⟨ch, c1, c2⟩ := lettersD_at r0 r1
      refine ⟨lettersD, _, _, rfl, rfl, le_line (by decide +kernel), c1, _, w5.sm _ _ hD, ?_, _, ds ++ [ch], same_mut sg2 gD2, w5.mut hD, ?_, ?_, ?_⟩
      · rw [List.length_map, List.length_map]
        exact lt_line (by omega)
      · rw [upd_same, List.map_append, List.map_append]
        rfl
      · rw [List.length_append, ld]
        rfl
      · intro c hc'
        rcases List.mem_append.mp hc' with h' | h'
        · exact hd c h'
        · rw [List.mem_singleton.mp h']
          exact c2
    rintro H4 ⟨G4, ds, sg4, w4, hD4, ld, hd⟩
    refine ⟨_, D2, ds.map oneS, rfl, rfl, .inl (SqL.of (w4.sm _ _ hD4)), by rw [ones_sum, List.length_map]; show _ + _ * 0 ≤ 16777216; omega, ?_⟩
    obtain ⟨opt, eo⟩ : ∃ z, z = Txt.join "" (ds.map oneS) := ⟨_, rfl⟩
    have lo : opt.length = ds.length := by rw [eo, TL.len_tl, join_ones]
    rw [← eo]
    -- plain
    have fN : name.length ≤ 10 := by omega
    have fO : opt.length ≤ 10 := by omega
    refine ⟨_, rfl, opt, rfl, fun D3 nD3 => ?_⟩
    have gD3 := w4.free nD3
    refine lc_it walk_str (fun i H' => ∃ G', Same G4 G' ∧ Wd b l G' H' ∧ G' D3 = some (.lst ((((TL.tl opt).map fun c => decide (c ∈ TL.tl letters)).take i).map V.bl))) ⟨_, w4.sameG nD3, w4.new nD3, upd_same⟩ (fun _ _ _ _ => True.intro) ?_ ?_
    · rintro i y H' H'' hi ⟨G', sg5, w5, hD5⟩ ⟨rfl, c, ec, rfl⟩
      have ec' : (TL.tl opt)[i]? = some c := by rw [← ec]; exact Array.getElem?_toList
      refine ⟨rfl, _, rfl, _, rfl, c, letters, rfl, rfl, _, w5.sm _ _ hD5, ?_, _, same_mut sg5 gD3, w5.mut hD5, ?_⟩
      · rw [List.length_map, List.length_take]
        have : i < opt.length := hi
        exact lt_line (by omega)
      · rw [upd_same, List.take_add_one, List.getElem?_map, ec', List.map_append]
        rfl
    rintro H5 ⟨G5, sg5, w5, hD5⟩
    rw [List.take_of_length_le (by rw [List.length_map, ← TL.len_tl]; exact Nat.le_refl _)] at hD5
    refine ⟨D3, _, rfl, SqL.of (w5.sm _ _ hD5), ?_⟩
    obtain ⟨plain, ep⟩ : ∃ z : Bool, z = (((TL.tl opt).map fun c => decide (c ∈ TL.tl letters)).all id) := ⟨_, rfl⟩
    rw [← ep]
    have ep2 : plain = ds.all fun c => decide (c ∈ TL.tl letters) := by
      rw [ep, List.all_map, eo, join_ones]
      rfl
    -- good
    refine ⟨_, rfl, _, _, rfl, rfl, chain_lt ?_⟩
    obtain ⟨good, eg⟩ : ∃ z : Bool, z = (decide ((0 : Int) < m) && decide (m < 9)) := ⟨_, rfl⟩
    rw [← eg]
    have lcm : (cs.length : Int) = m := by omega
    have ldm : (ds.length : Int) = m := by omega
    have g1 : wordB name letters = good := by
      rw [en, word_eq, all_in hc, Bool.and_true, eg]
      unfold goodB
      rw [lcm]
    have g2 : wordB name lettersD = good := by
      rw [en, word_eq, all_in (fun c h => let_letD c (hc c h)), Bool.and_true, eg]
      unfold goodB
      rw [lcm]
    have g3 : wordB opt lettersD = good := by
      rw [eo, word_eq, all_in hd, Bool.and_true, eg]
      unfold goodB
      rw [ldm]
    have g4 : wordB opt letters = (good && plain) := by
      rw [eo, word_eq, ep2, eg]
      unfold goodB
      rw [ldm]
    -- like, three at once
    refine ⟨_, rfl, .str name, rfl, .inl ⟨name, rfl, by omega⟩, fun HA sA => ?_⟩
    refine ⟨_, rfl, .str name, rfl, .inl ⟨name, rfl, by omega⟩, fun HB sB => ?_⟩
    refine ⟨_, rfl, rfl, rfl, .str opt, rfl, .inl ⟨opt, rfl, by omega⟩, fun HC sC => ?_⟩
    refine ⟨(by show 3 ≤ sizeLine; decide), fun p1 np1 => ?_⟩
    refine ⟨_, rfl, (by show 1 ≤ sizeLine; decide), fun p2 np2 => ?_⟩
    refine ⟨p2, 3, [.bl good], rfl, rfl, upd_same, by decide, by decide, (by show 1 * 3 ≤ sizeLine; decide), fun p3 np3 => ?_⟩
    have t1 := same_new (o := .lst [.bl (isT (.str name) letters), .bl (isT (.str name) lettersD), .bl (isT (.str opt) lettersD)]) np1
    have t2 := same_new (o := .lst [.bl good]) np2
    have t3 := same_new (o := .lst (List.replicate (Int.toNat 3) [V.bl good]).flatten) np3
    refine ⟨.ref p1, .ref p3, .list [.bool good, .bool good, .bool good], rfl, .lst (SqL.of ((t2.trans t3) _ _ upd_same)) (.cons (by rw [show isT (V.str name) letters = good from g1]; exact .bl _) (.cons (by rw [show isT (V.str name) lettersD = good from g2]; exact .bl _) (.cons (by rw [show isT (V.str opt) lettersD = good from g3]; exact .bl _) .nil))),
      .lst (SqL.of upd_same) (.cons (.bl _) (.cons (.bl _) (.cons (.bl _) .nil))), ?_, fun HF sF => ⟨true, rfl, ?_⟩⟩
    · refine .lst (by show 3 ≤ _; decide) fun d hd => ?_
      have e : d = .bool good := by simpa using hd
      rw [e]
      exact .bl
    refine ⟨_, rfl, rfl, rfl, .str opt, rfl, .inl ⟨opt, rfl, by omega⟩, fun HG sG => ?_⟩
    refine ⟨_, rfl, and_var rfl ?_⟩
    refine ⟨.bl (isT (.str opt) letters), .bl (good && plain), .bool (good && plain), rfl, (by rw [show isT (V.str opt) letters = (good && plain) from g4]; exact .bl _), .bl _, .bl, fun HI sI => ⟨true, rfl, ?_⟩⟩
    obtain ⟨w6, g6⟩ := w5.fresh ((((sA.trans sB).trans sC).trans (t1.trans (t2.trans t3))).trans ((sF.trans sG).trans sI))
    -- a text with a wrong sign
    refine ⟨_, rfl, _, rfl, _, _, rfl, rfl, b, l, _, _, rfl, by omega, by omega, w6, fun k H7 k0 k1 w7 => ?_⟩
    refine ⟨_, rfl, (by show 8 ≤ sizeLine; decide), fun p4 np4 => ⟨b, l, p4, _, oddS.map V.str, rfl, .inl (SqL.of upd_same), (by simp [oddS]), by decide, w7.new np4, fun x H8 hxo w8 => ?_⟩⟩
    have g7 := w7.sameG (o := .lst (oddS.map V.str)) np4
    obtain ⟨odd, hodd, rfl⟩ := List.mem_map.mp hxo
    obtain ⟨lodd, out⟩ := oddS_out odd hodd
    refine ⟨(by show 2 ≤ sizeLine; decide), fun t9 n9 => ?_⟩
    have w9 := w8.new (o := .tup [.int k, .str odd]) n9
    have g9 := w8.sameG (o := .tup [.int k, .str odd]) n9
    refine ⟨t9, _, rfl, SqT.of upd_same, rfl, _, _, rfl, _, _, rfl, rfl, ?_⟩
    have ln1 : (cutS name none (some k)).length ≤ name.length := cutS_length _ _ _
    have ln2 : (cutS name (some k) none).length ≤ name.length := cutS_length _ _ _
    refine ⟨_, rfl, _, rfl, _, rfl, name, rfl, le_line (by omega), _, rfl, _, _, rfl, rfl, le_line (by omega), ?_⟩
    refine ⟨_, rfl, _, rfl, _, rfl, name, rfl, le_line (by omega), _, _, rfl, rfl, le_line (by rw [len_app]; omega), ?_⟩
    obtain ⟨b1, b2⟩ := bent_no (a := cutS name none (some k)) (b := cutS name (some k) none) out
    have lb : (cutS name none (some k) ++ odd ++ cutS name (some k) none).length ≤ 100000 := by
      rw [len_app, len_app]
      omega
    refine ⟨_, rfl, .str _, rfl, .inl ⟨_, rfl, lb⟩, fun HJ sJ => ⟨_, rfl, iteB (fun z => absurd (z.symm.trans b1) (by decide)) (fun _ => ?_)⟩⟩
    refine ⟨_, rfl, .str _, rfl, .inl ⟨_, rfl, lb⟩, fun HK sK => ⟨_, rfl, iteB (fun z => absurd (z.symm.trans b2) (by decide)) (fun _ => ?_)⟩⟩
    obtain ⟨w10, g10⟩ := w9.fresh (sJ.trans sK)
    exact ⟨_, _, _, _, _, _, _, _, _, _, rfl, ((((sg.trans sg3).trans sg4).trans sg5).trans (g6.trans (g7.trans g9))).trans g10, w10⟩
  · rintro σ H0 ⟨x4, x5, x6, x7, x8, x9, x10, x11, x12, G1, rfl, sg, w1⟩
    -- other values
    refine ⟨(by show 1 ≤ sizeLine; decide), fun q1 n1 => ?_⟩
    refine ⟨(by show 1 ≤ sizeLine; decide), fun q2 n2 => ?_⟩
    refine ⟨(by show 9 ≤ sizeLine; decide), fun o no => ?_⟩
    have a1 := same_new (o := .lst [.str "a"]) n1
    have a2 := same_new (o := .tup [.str "a"]) n2
    have a3 := same_new (o := .lst (odd9 q1 q2)) no
    have hq1 := SqL.of (K := K) ((a2.trans a3) _ _ upd_same)
    have hq2 := SqT.of (K := K) (a3 _ _ upd_same)
    have ho : (upd (upd (upd H0 q1 (.lst [.str "a"])) q2 (.tup [.str "a"])) o (.lst (odd9 q1 q2))) o = some (.lst (odd9 q1 q2)) := upd_same
    refine ⟨_, rfl, o, rfl, ⟨odd9 q1 q2, SqL.of ho⟩, fun D nD => ?_⟩
    refine lc_it (walk_list (xs := odd9 q1 q2)) (fun i H' => Same (upd (upd (upd H0 q1 (.lst [.str "a"])) q2 (.tup [.str "a"])) o (.lst (odd9 q1 q2))) H' ∧ H' D = some (.lst (List.replicate i (V.bl false)))) ⟨same_new nD, upd_same⟩ (fun i H' _ p => SqL.of (p.1 _ _ ho)) ?_ ?_
    · rintro i y H' H'' hi ⟨s2, hD⟩ ⟨rfl, ey⟩
      obtain ⟨k1, k2, k3⟩ := odd9_ok (K := K) (H := H'') (s2.seq hq1) (Same.tup s2 hq2) y (List.mem_of_getElem? ey)
      refine ⟨rfl, _, rfl, y, rfl, k1, fun H3 s3 => ⟨_, s3 _ _ hD, ?_, same_mut (s2.trans s3) nD, ?_⟩⟩
      · rw [List.length_replicate]
        have : i < 9 := hi
        exact lt_line (by omega)
      · rw [upd_same, k2, rep_snoc]
    rintro H2 ⟨s2, hD⟩
    have hD : H2 D = some (.lst (List.replicate 9 (V.bl false))) := hD
    refine ⟨D, _, rfl, .inl (SqL.of hD), rfl, by decide, _, rfl, iteB (fun z => absurd z (by decide)) (fun _ => ?_)⟩
    refine ⟨_, rfl, o, rfl, ⟨odd9 q1 q2, SqL.of (s2 _ _ ho)⟩, fun D2 nD2 => ?_⟩
    refine lc_it (walk_list (xs := odd9 q1 q2)) (fun i H' => Same H2 H' ∧ H' D2 = some (.lst (List.replicate i (V.bl false)))) ⟨same_new nD2, upd_same⟩ (fun i H' _ p => SqL.of (p.1 _ _ (s2 _ _ ho))) ?_ ?_
    · rintro i y H' H'' hi ⟨s3, hD3⟩ ⟨rfl, ey⟩
      obtain ⟨k1, k2, k3⟩ := odd9_ok (K := K) (H := H'') ((s2.trans s3).seq hq1) (Same.tup (s2.trans s3) hq2) y (List.mem_of_getElem? ey)
      refine ⟨rfl, _, rfl, y, rfl, k1, fun H3 s4 => ⟨_, s4 _ _ hD3, ?_, same_mut (s3.trans s4) nD2, ?_⟩⟩
      · rw [List.length_replicate]
        have : i < 9 := hi
        exact lt_line (by omega)
      · rw [upd_same, k3, rep_snoc]
    rintro H3 ⟨s3, hD3⟩
    have hD3 : H3 D2 = some (.lst (List.replicate 9 (V.bl false))) := hD3
    refine ⟨D2, _, rfl, .inl (SqL.of hD3), rfl, by decide, _, rfl, iteB (fun z => absurd z (by decide)) (fun _ => ?_)⟩
    obtain ⟨w2, g2⟩ := w1.fresh ((a1.trans (a2.trans a3)).trans (s2.trans s3))
    -- the names
    refine ⟨_, rfl, _, rfl, b, l, _, 800, rfl, by decide, by decide, w2, fun r H4 r0 r1 w3 => ?_⟩
    refine ⟨(by show 8 ≤ sizeLine; decide), fun p4 np4 => ⟨b, l, p4, _, [.int 0, .int 1, .int 26, .int 27, .int 702, .int 703, .int r, .int 2000], rfl, .inl (SqL.of upd_same), (by simp), (by show 8 ≤ 100000; decide), w3.new np4, fun x H5 hx w4 => ?_⟩⟩
    have g3 := w3.sameG (o := .lst [.int 0, .int 1, .int 26, .int 27, .int 702, .int 703, .int r, .int 2000]) np4
    obtain ⟨n, rfl, hn⟩ : ∃ n : Nat, x = .int n ∧ n ≤ 2000 := by
      simp only [List.mem_cons, List.not_mem_nil, or_false] at hx
      rcases hx with rfl | rfl | rfl | rfl | rfl | rfl | rfl | rfl
      · exact ⟨0, rfl, by decide⟩
      · exact ⟨1, rfl, by decide⟩
      · exact ⟨26, rfl, by decide⟩
      · exact ⟨27, rfl, by decide⟩
      · exact ⟨702, rfl, by decide⟩
      · exact ⟨703, rfl, by decide⟩
      · exact ⟨r.toNat, by rw [show ((r.toNat : Nat) : Int) = r by omega], by omega⟩
      · exact ⟨2000, rfl, by decide⟩
    have inb : inB (.int n) 0 2000 = true := by
      show (decide ((0 : Int) ≤ n) && decide ((n : Int) ≤ 2000)) = true
      rw [decide_eq_true (by omega), decide_eq_true (by omega)]
      rfl
    refine ⟨_, rfl, .int n, .int n, rfl, .int _, ⟨(by show "int" ≠ "list"; decide), (by show "int" ≠ "tuple"; decide), (by show "int" ≠ "dict"; decide)⟩, fun _ n' e _ H6 p s6 hp => ?_, fun z => by rw [inb] at z; cases z⟩
    obtain rfl : n = n' := by
      injection e with e
      omega
    obtain ⟨w5, g5⟩ := w4.fresh s6
    refine ⟨_, rfl, _, _, _, _, true, rfl, .ty _, tyL (SqL.of hp), kit_ty (by decide +kernel), _, rfl, iteF ?_⟩
    refine ⟨_, rfl, p, _, rfl, .inl (SqL.of hp), _, rfl, rfl, _, rfl, iteB (fun z => ?_) (fun _ => ?_)⟩
    · rw [List.length_map, List.length_range] at z
      simp at z
    have hp5 := w5.sm
    refine ⟨_, rfl, _, rfl, p, _, rfl, SqL.of hp, fun p5 np5 => ?_⟩
    have e5 : cutV ((List.range n).map fun i => V.str (cellN i)) none (some 29) = (F29.take n).map V.str := by
      rw [cutV_take _ (by decide), ← take29 n, ← List.map_take, ← List.map_take, List.map_map]
      rfl
    rw [e5]
    refine ⟨_, rfl, letters, rfl, (by decide +kernel), fun p6 np6 => ?_⟩
    refine ⟨(by show 3 ≤ sizeLine; decide), fun p7 np7 => ?_⟩
    have c5 := same_new (o := .lst ((F29.take n).map V.str)) np5
    have c6 := same_new (o := .lst (signsV letters)) np6
    have c7 := same_new (o := .lst [.str "aa", .str "ab", .str "ac"]) np7
    refine ⟨p6, p7, signsV letters, [.str "aa", .str "ab", .str "ac"], rfl, rfl, c7 _ _ upd_same, upd_same, (by decide +kernel), fun p8 np8 => ?_⟩
    have e8 : signsV letters ++ [.str "aa", .str "ab", .str "ac"] = F29.map V.str := by
      unfold F29 signsV
      rw [List.map_append, List.map_map]
      rfl
    rw [e8]
    refine ⟨_, rfl, _, rfl, p8, _, rfl, SqL.of upd_same, fun p9 np9 => ?_⟩
    have e9 : cutV (F29.map V.str) none (some (n : Int)) = (F29.take n).map V.str := by
      rw [cutV_take _ (by omega), ← List.map_take]
      rfl
    rw [e9]
    have c8 := same_new (o := .lst (F29.map V.str)) np8
    have c9 := same_new (o := .lst ((F29.take n).map V.str)) np9
    have cc := (c6.trans c7).trans (c8.trans c9)
    refine ⟨.list ((F29.take n).map PyData.str), .list ((F29.take n).map PyData.str), .lst (SqL.of (cc _ _ upd_same)) (strs_dp _), .lst (SqL.of upd_same) (strs_dp _), ?_, _, rfl, iteB (fun z => ?_) (fun _ => ?_)⟩
    · have d1 : Sh 1 (.list ((F29.take n).map PyData.str)) := .lst (by rw [List.length_map, List.length_take, f29_len]; omega) fun d hd => by
        obtain ⟨u, _, rfl⟩ := List.mem_map.mp hd
        exact .str
      have := d1.depth
      omega
    · have er : PyData.eqv (.list ((F29.take n).map PyData.str)) (.list ((F29.take n).map PyData.str)) = true := SeqAt.eqv_refl_plain _ (Dp.plain (K := K) (H := upd H6 p5 (.lst ((F29.take n).map V.str))) (.lst (SqL.of upd_same) (strs_dp _)))
      rw [er] at z
      cases z
    obtain ⟨w6, g6⟩ := w5.fresh (c5.trans cc)
    have hp' := (c5.trans cc) _ _ hp
    -- one behind the other
    refine ⟨_, rfl, 26, n, rfl, ⟨by decide, by decide, by omega, by omega⟩, ?_⟩
    have gA := sg.trans (g2.trans (g3.trans (g5.trans g6)))
    refine for_it (walk_range (lo := 26)) (fun i σ H' => ∃ x10 G', σ = [some (.ref a), some (.ref b), some (.str letters), some (.str lettersD), x4, some (.int n), x6, x7, x8, x9, x10, some (.ref o), x12, some (.ref p), none, none, none] ∧ Same H G' ∧ Wd b l G' H' ∧ H' p = some (.lst ((List.range n).map fun i => V.str (cellN i))))
      ⟨x10, _, rfl, gA, w6, hp'⟩ (fun _ _ _ _ _ => True.intro) ?_ ?_
    · rintro i v σ H' H'' hi ⟨y10, G7, rfl, sg7, w7, hp7⟩ ⟨rfl, rfl⟩
      have hk : 26 + i < n := by
        have hi : i < ((n : Int) - 26).toNat := hi
        omega
      have m0 := Int.emod_nonneg ((26 : Int) + (i : Int)) (show (26 : Int) ≠ 0 by decide)
      have m1 := Int.emod_lt_of_pos ((26 : Int) + (i : Int)) (show (0 : Int) < 26 by decide)
      have ll := cell_len ((((26 : Int) + (i : Int)) / 26 - 1).toNat)
      refine ⟨_, rfl, _, rfl, _, _, _, .str (cellN ((26 : Int) + (i : Int)).toNat), rfl, rfl, SqL.of hp7, nm_at (by omega) (by omega), ?_⟩
      refine ⟨_, rfl, _, rfl, _, _, rfl, rfl, ⟨by decide, by decide⟩, _, _, rfl, rfl, _, _, _, .str (cellN (((26 : Int) + (i : Int)) / 26 - 1).toNat), rfl, rfl, SqL.of hp7, nm_at (by omega) (by omega), ?_⟩
      refine ⟨_, rfl, _, rfl, .inl ⟨_, rfl, _, _, rfl, rfl, (show (0 : Int) < 26 by decide), letters, _, _, rfl, rfl, le_line (by decide +kernel), letters_at m0 m1, ?_⟩⟩
      refine ⟨_, _, rfl, rfl, le_line (by show _ + 1 ≤ _; omega), rfl, _, rfl, iteB (fun z => ?_) (fun _ => ?_)⟩
      · have eq : (V.str (cellN ((26 : Int) + (i : Int)).toNat)) = V.str (cellN (((26 : Int) + (i : Int)) / 26 - 1).toNat ++ (⟨#[97 + (((26 : Int) + (i : Int)) % 26).toNat]⟩ : Str)) := by
          rw [show ((26 : Int) + (i : Int)).toNat = 26 + i by omega, show (((26 : Int) + (i : Int)) / 26 - 1).toNat = (26 + i) / 26 - 1 by omega, show (((26 : Int) + (i : Int)) % 26).toNat = (26 + i) % 26 by omega, cell_rec (n := 26 + i) (by omega)]
          rfl
        rw [decide_eq_true eq] at z
        cases z
      · exact ⟨_, G7, rfl, sg7, w7, hp7⟩
    rintro σ H7 ⟨y10, G7, rfl, sg7, w7, hp7⟩
    -- a wrong number
    refine ⟨_, rfl, _, _, rfl, rfl, _, _, rfl, rfl, ⟨by decide, by decide, by decide⟩, (by show 6 ≤ sizeLine; decide), fun p8 np8 => ⟨b, l, p8, _, [.int (0 - 1), .int 2001, .bl true, .non, .str "3", .int (10 ^ Int.toNat 20)], rfl, .inl (SqL.of upd_same), (by simp), (by show 6 ≤ 100000; decide), w7.new np8, fun x H8 hx w8 => ?_⟩⟩
    have g8 := w7.sameG (o := .lst [.int (0 - 1), .int 2001, .bl true, .non, .str "3", .int (10 ^ Int.toNat 20)]) np8
    have fI : ∀ j : Int, flatD (.int j) := fun j => ⟨(by show "int" ≠ "list"; decide), (by show "int" ≠ "tuple"; decide), (by show "int" ≠ "dict"; decide)⟩
    obtain ⟨d, hd, fl, nb2, sh⟩ : ∃ d, (∀ X, Dp K X x d) ∧ flatD d ∧ inB x 0 2000 = false ∧ Sh 0 d := by
      simp only [List.mem_cons, List.not_mem_nil, or_false] at hx
      rcases hx with rfl | rfl | rfl | rfl | rfl | rfl
      · exact ⟨.int (0 - 1), fun _ => .int _, fI _, by decide +kernel, .int⟩
      · exact ⟨.int 2001, fun _ => .int _, fI _, by decide +kernel, .int⟩
      · exact ⟨.bool true, fun _ => .bl _, ⟨(by show "bool" ≠ "list"; decide), (by show "bool" ≠ "tuple"; decide), (by show "bool" ≠ "dict"; decide)⟩, rfl, .bl⟩
      · exact ⟨.none, fun _ => .non, ⟨(by show "NoneType" ≠ "list"; decide), (by show "NoneType" ≠ "tuple"; decide), (by show "NoneType" ≠ "dict"; decide)⟩, rfl, .non⟩
      · exact ⟨.str "3", fun _ => .str _, ⟨(by show "str" ≠ "list"; decide), (by show "str" ≠ "tuple"; decide), (by show "str" ≠ "dict"; decide)⟩, rfl, .str⟩
      · exact ⟨.int (10 ^ Int.toNat 20), fun _ => .int _, fI _, by decide +kernel, .int⟩
    have tabs : LamX.Tabs [(tabA, ("law.<locals>.<lambda>" : Str))] H8 := fun p hp => by
      rw [List.mem_singleton.mp hp]
      exact LamX.TabS.nil (w8.sm _ _ ((sg7.trans g8) _ _ hT))
    refine ⟨tabs, fun H9 eN T9 => ⟨fun cls dx H2 => ∃ dd, cls = .ref T.cIC ∧ dx = some dd ∧ H2 dd = some (.xd [("code", .str "InvalidCount"), ("given", x)]), fun _ _ => False, ?_, ?_, fun _ _ z => z.elim⟩⟩
    · exact ⟨_, rfl, x, d, rfl, hd _, fl, fun z => (by rw [nb2] at z; cases z), fun _ dd H2 _ e2 => ⟨dd, rfl, rfl, e2⟩⟩
    rintro cls dx H2 ⟨dd, rfl, rfl, e2⟩
    refine ⟨dd, x, rfl, rfl, e2, fun H3 p3 s3 h3 => ?_⟩
    refine ⟨_, rfl, (by show 2 ≤ sizeLine; decide), fun t4 nt4 => ?_⟩
    have s4 := same_new (o := .tup [.str "InvalidCount", x]) nt4
    refine ⟨.ref p3, .ref t4, .tuple [.str "InvalidCount", d], rfl, .tup (SqT.of (s4 _ _ h3)) (.cons (.str _) (.cons (hd _) .nil)), .tup (SqT.of upd_same) (.cons (.str _) (.cons (hd _) .nil)), ?_, fun HF _ => ⟨true, rfl, ?_⟩⟩
    · refine .tup (by show 2 ≤ _; decide) fun e he => ?_
      rcases List.mem_cons.mp he with z | he
      · rw [z]
        exact .str
      · rw [List.mem_singleton.mp he]
        exact sh_up sh
    refine ⟨rfl, rfl, .int 3, .int 3, rfl, .int _, fI _, fun _ n3 e3 _ HG p5 s5 h5 => ?_, fun z => (by cases z)⟩
    obtain rfl : n3 = 3 := by
      injection e3 with e3
      omega
    refine ⟨(by show 3 ≤ sizeLine; decide), fun p6 np6 => ?_⟩
    have s6 := same_new (o := .lst [.str "a", .str "b", .str "c"]) np6
    have e6 : ((List.range 3).map fun i => V.str (cellN i)) = (["a", "b", "c"] : List Str).map V.str := by
      have k : (List.range 3).map cellN = (["a", "b", "c"] : List Str) := by decide +kernel
      rw [← k, List.map_map]
      rfl
    rw [e6] at h5
    refine ⟨.list ((["a", "b", "c"] : List Str).map PyData.str), .list ((["a", "b", "c"] : List Str).map PyData.str), .lst (SqL.of (s6 _ _ h5)) (strs_dp _), .lst (SqL.of upd_same) (strs_dp ["a", "b", "c"]), (by decide), ?_⟩
    rw [show PyData.eqv (.list ((["a", "b", "c"] : List Str).map PyData.str)) (.list ((["a", "b", "c"] : List Str).map PyData.str)) = true from SeqAt.eqv_refl_plain _ (Dp.plain (K := K) (H := HG) (.lst (SqL.of h5) (strs_dp _)))]
    exact q _
end
end Bh

set_option Elab.async false
set_option linter.all false
set_option maxRecDepth 100000
set_option maxHeartbeats 2000000
namespace Bh
open PySem PySem.Spec PyProof.Rows L2
theorem two_exm {K : PySem.W.Frag} {c a b : Value} {p q : Bool} (h1 : PySem.W.exmOne K c a = some p) (h2 : PySem.W.exmOne K c b = some q) : PySem.W.exmAny K c [a, b] = some (p || q) := by
  simp only [PySem.W.exmAny, h1, h2, Bool.or_false]
def mkTop {K : PySem.W.Frag} {h : Heap} {mg : Str → Option Value} {cLaw : Addr} (X : K.In h) (G : h.Ns mainGlobals mg)
    {f0 : Addr} {od0 an0 : Option Addr} {sl0 : Array (Option Value)} {oc0 kV0 dc0 pm0 cd0 ct0 : Value}
    {f1 : Addr} {od1 an1 : Option Addr} {sl1 : Array (Option Value)} {oc1 kV1 dc1 pm1 cd1 ct1 : Value}
    {f2 : Addr} {od2 an2 : Option Addr} {sl2 : Array (Option Value)} {oc2 kV2 dc2 pm2 cd2 ct2 : Value}
    {f3 : Addr} {od3 an3 : Option Addr} {sl3 : Array (Option Value)} {oc3 kV3 dc3 pm3 cd3 ct3 : Value}
    {f4 : Addr} {od4 an4 : Option Addr} {sl4 : Array (Option Value)} {oc4 kV4 dc4 pm4 cd4 ct4 : Value}
    {f5 : Addr} {od5 an5 : Option Addr} {sl5 : Array (Option Value)} {oc5 kV5 dc5 pm5 cd5 ct5 : Value}
    {f6 : Addr} {od6 an6 : Option Addr} {sl6 : Array (Option Value)} {oc6 kV6 dc6 pm6 cd6 ct6 : Value}
    {f7 : Addr} {od7 an7 : Option Addr} {sl7 : Array (Option Value)} {oc7 kV7 dc7 pm7 cd7 ct7 : Value}
    {f8 : Addr} {od8 an8 : Option Addr} {sl8 : Array (Option Value)} {oc8 kV8 dc8 pm8 cd8 ct8 : Value}
    {f9 : Addr} {od9 an9 : Option Addr} {sl9 : Array (Option Value)} {oc9 kV9 dc9 pm9 cd9 ct9 : Value}
    {f10 : Addr} {od10 an10 : Option Addr} {sl10 : Array (Option Value)} {oc10 kV10 dc10 pm10 cd10 ct10 : Value}
    {f11 : Addr} {od11 an11 : Option Addr} {sl11 : Array (Option Value)} {oc11 kV11 dc11 pm11 cd11 ct11 : Value}
    {f12 : Addr} {od12 an12 : Option Addr} {sl12 : Array (Option Value)} {oc12 kV12 dc12 pm12 cd12 ct12 : Value}
    {f13 : Addr} {od13 an13 : Option Addr} {sl13 : Array (Option Value)} {oc13 kV13 dc13 pm13 cd13 ct13 : Value}
    {f14 : Addr} {od14 an14 : Option Addr} {sl14 : Array (Option Value)} {oc14 kV14 dc14 pm14 ct14 : Value}
    {t_LETTERS : Tok}
    {t_LETTERS_AND_DIGITS : Tok}
    {t_LONGEST : Tok}
    {t_MOST_NAMES : Tok}
    {xC xF xB xM : Addr} {nmI qI : Str} {NI : Addr} {bsI : List Value} {snI : List Str} {suI : List Value} {abI : Bool} {coI : Option Bool} {ddI : Option Addr} {m0 m1 m2 m3 m5 : Option Value} {odI anI : Option Addr} {slI : Array (Option Value)} {ocI kVI dcI pmI cdI ctI : Value}
    (a0 : PySem.W.nsIn K mainGlobals "copy_of" = some (some (.ref f0))) (l0 : K.lookup f0 = some ⟨oc0, od0, .func (PySem.W.fnOf "copy_of" "copy_of" (defArgs s_copy_of) (defBody s_copy_of) (defScope s_copy_of) .none kV0 dc0 pm0 an0 cd0 ct0), sl0⟩) (c0 : PySem.W.codeIn K cd0 "copy_of" = true) (k0 : PySem.W.keepIn K (.ref f0) = true)
    (a1 : PySem.W.nsIn K mainGlobals "is_name" = some (some (.ref f1))) (l1 : K.lookup f1 = some ⟨oc1, od1, .func (PySem.W.fnOf "is_name" "is_name" (defArgs s_is_name) (defBody s_is_name) (defScope s_is_name) .none kV1 dc1 pm1 an1 cd1 ct1), sl1⟩) (c1 : PySem.W.codeIn K cd1 "is_name" = true) (k1 : PySem.W.keepIn K (.ref f1) = true)
    (a2 : PySem.W.nsIn K mainGlobals "is_option" = some (some (.ref f2))) (l2 : K.lookup f2 = some ⟨oc2, od2, .func (PySem.W.fnOf "is_option" "is_option" (defArgs s_is_option) (defBody s_is_option) (defScope s_is_option) .none kV2 dc2 pm2 an2 cd2 ct2), sl2⟩) (c2 : PySem.W.codeIn K cd2 "is_option" = true) (k2 : PySem.W.keepIn K (.ref f2) = true)
    (a3 : PySem.W.nsIn K mainGlobals "_is_word" = some (some (.ref f3))) (l3 : K.lookup f3 = some ⟨oc3, od3, .func (PySem.W.fnOf "_is_word" "_is_word" (defArgs s_is_word) (defBody s_is_word) (defScope s_is_word) .none kV3 dc3 pm3 an3 cd3 ct3), sl3⟩) (c3 : PySem.W.codeIn K cd3 "_is_word" = true) (k3 : PySem.W.keepIn K (.ref f3) = true)
    (a4 : PySem.W.nsIn K mainGlobals "is_integer" = some (some (.ref f4))) (l4 : K.lookup f4 = some ⟨oc4, od4, .func (PySem.W.fnOf "is_integer" "is_integer" (defArgs s_is_integer) (defBody s_is_integer) (defScope s_is_integer) .none kV4 dc4 pm4 an4 cd4 ct4), sl4⟩) (c4 : PySem.W.codeIn K cd4 "is_integer" = true) (k4 : PySem.W.keepIn K (.ref f4) = true)
    (a5 : PySem.W.nsIn K mainGlobals "is_number" = some (some (.ref f5))) (l5 : K.lookup f5 = some ⟨oc5, od5, .func (PySem.W.fnOf "is_number" "is_number" (defArgs s_is_number) (defBody s_is_number) (defScope s_is_number) .none kV5 dc5 pm5 an5 cd5 ct5), sl5⟩) (c5 : PySem.W.codeIn K cd5 "is_number" = true) (k5 : PySem.W.keepIn K (.ref f5) = true)
    (a6 : PySem.W.nsIn K mainGlobals "cell_names" = some (some (.ref f6))) (l6 : K.lookup f6 = some ⟨oc6, od6, .func (PySem.W.fnOf "cell_names" "cell_names" (defArgs s_cell_names) (defBody s_cell_names) (defScope s_cell_names) .none kV6 dc6 pm6 an6 cd6 ct6), sl6⟩) (c6 : PySem.W.codeIn K cd6 "cell_names" = true) (k6 : PySem.W.keepIn K (.ref f6) = true)
    (a7 : PySem.W.nsIn K mainGlobals "cell_name" = some (some (.ref f7))) (l7 : K.lookup f7 = some ⟨oc7, od7, .func (PySem.W.fnOf "cell_name" "cell_name" (defArgs s_cell_name) (defBody s_cell_name) (defScope s_cell_name) .none kV7 dc7 pm7 an7 cd7 ct7), sl7⟩) (c7 : PySem.W.codeIn K cd7 "cell_name" = true) (k7 : PySem.W.keepIn K (.ref f7) = true)
    (a8 : PySem.W.nsIn K mainGlobals "_law_bag" = some (some (.ref f8))) (l8 : K.lookup f8 = some ⟨oc8, od8, .func (PySem.W.fnOf "_law_bag" "_law_bag" (defArgs s_l_bag) (defBody s_l_bag) (defScope s_l_bag) .none kV8 dc8 pm8 an8 cd8 ct8), sl8⟩) (c8 : PySem.W.codeIn K cd8 "_law_bag" = true) (k8 : PySem.W.keepIn K (.ref f8) = true)
    (a9 : PySem.W.nsIn K mainGlobals "_law_draw" = some (some (.ref f9))) (l9 : K.lookup f9 = some ⟨oc9, od9, .func (PySem.W.fnOf "_law_draw" "_law_draw" (defArgs s_l_draw) (defBody s_l_draw) (defScope s_l_draw) .none kV9 dc9 pm9 an9 cd9 ct9), sl9⟩) (c9 : PySem.W.codeIn K cd9 "_law_draw" = true) (k9 : PySem.W.keepIn K (.ref f9) = true)
    (a10 : PySem.W.nsIn K mainGlobals "_law_any" = some (some (.ref f10))) (l10 : K.lookup f10 = some ⟨oc10, od10, .func (PySem.W.fnOf "_law_any" "_law_any" (defArgs s_l_any) (defBody s_l_any) (defScope s_l_any) .none kV10 dc10 pm10 an10 cd10 ct10), sl10⟩) (c10 : PySem.W.codeIn K cd10 "_law_any" = true) (k10 : PySem.W.keepIn K (.ref f10) = true)
    (a11 : PySem.W.nsIn K mainGlobals "_law_like" = some (some (.ref f11))) (l11 : K.lookup f11 = some ⟨oc11, od11, .func (PySem.W.fnOf "_law_like" "_law_like" (defArgs s_l_like) (defBody s_l_like) (defScope s_l_like) .none kV11 dc11 pm11 an11 cd11 ct11), sl11⟩) (c11 : PySem.W.codeIn K cd11 "_law_like" = true) (k11 : PySem.W.keepIn K (.ref f11) = true)
    (a12 : PySem.W.nsIn K mainGlobals "_law_given" = some (some (.ref f12))) (l12 : K.lookup f12 = some ⟨oc12, od12, .func (PySem.W.fnOf "_law_given" "_law_given" (defArgs s_l_given) (defBody s_l_given) (defScope s_l_given) .none kV12 dc12 pm12 an12 cd12 ct12), sl12⟩) (c12 : PySem.W.codeIn K cd12 "_law_given" = true) (k12 : PySem.W.keepIn K (.ref f12) = true)
    (a13 : PySem.W.nsIn K mainGlobals "_law_try" = some (some (.ref f13))) (l13 : K.lookup f13 = some ⟨oc13, od13, .func (PySem.W.fnOf "_law_try" "_law_try" (defArgs s_l_try) (defBody s_l_try) (defScope s_l_try) .none kV13 dc13 pm13 an13 cd13 ct13), sl13⟩) (c13 : PySem.W.codeIn K cd13 "_law_try" = true) (k13 : PySem.W.keepIn K (.ref f13) = true)
    (a14 : PySem.W.nsIn K mainGlobals "law" = some (some (.ref f14))) (l14 : K.lookup f14 = some ⟨oc14, od14, .func (PySem.W.fnOf "law" "law" (defArgs s_law) (defBody s_law) (defScope s_law) .none kV14 dc14 pm14 an14 (.ref cLaw) ct14), sl14⟩) (c14 : PySem.W.codeIn K (.ref cLaw) "law" = true) (k14 : PySem.W.keepIn K (.ref f14) = true)
    (z_all : PySem.W.nsIn K mainGlobals "all" = some none)
    (z_dict : PySem.W.nsIn K mainGlobals "dict" = some none)
    (z_isinstance : PySem.W.nsIn K mainGlobals "isinstance" = some none)
    (z_len : PySem.W.nsIn K mainGlobals "len" = some none)
    (z_list : PySem.W.nsIn K mainGlobals "list" = some none)
    (z_max : PySem.W.nsIn K mainGlobals "max" = some none)
    (z_min : PySem.W.nsIn K mainGlobals "min" = some none)
    (z_range : PySem.W.nsIn K mainGlobals "range" = some none)
    (z_sorted : PySem.W.nsIn K mainGlobals "sorted" = some none)
    (z_tuple : PySem.W.nsIn K mainGlobals "tuple" = some none)
    (z_int : PySem.W.nsIn K mainGlobals "int" = some none)
    (z_zip : PySem.W.nsIn K mainGlobals "zip" = some none)
    (z_bool : PySem.W.nsIn K mainGlobals "bool" = some none)
    (z_str : PySem.W.nsIn K mainGlobals "str" = some none)
    (z_divmod : PySem.W.nsIn K mainGlobals "divmod" = some none)
    (v_LETTERS : PySem.W.nsIn K mainGlobals "LETTERS" = some (some (Value.str "abcdefghijklmnopqrstuvwxyz" t_LETTERS)))
    (v_LETTERS_AND_DIGITS : PySem.W.nsIn K mainGlobals "LETTERS_AND_DIGITS" = some (some (Value.str "abcdefghijklmnopqrstuvwxyz0123456789" t_LETTERS_AND_DIGITS)))
    (v_LONGEST : PySem.W.nsIn K mainGlobals "LONGEST" = some (some (Value.int 8 t_LONGEST)))
    (v_MOST_NAMES : PySem.W.nsIn K mainGlobals "MOST_NAMES" = some (some (Value.int 2000 t_MOST_NAMES)))
    (yC : PySem.W.nsIn K mainGlobals "InvalidCount" = some (some (.ref xC)))
    (yL : K.lookup xC = some (excClassObj nmI qI xC NI bsI [.ref xB, .type "ValueError", .type "Exception", .type "BaseException", .type "object"] true snI suI abI coI ddI m0 m1 m2 m3 m5 "ValueError.__new__"))
    (ySa : PySem.W.findIn K (.ref xC) "__setattr__" = some (some (.builtin "object.__setattr__")))
    (yGa : PySem.W.findIn K (.ref xC) "__getattribute__" = some (some (.builtin "BaseException.__getattribute__")))
    (yGg : PySem.W.findIn K (.ref xC) "__getattr__" = some none)
    (yN1 : PySem.W.findIn K (.ref xC) "given" = some none)
    (yN2 : PySem.W.findIn K (.ref xC) "code" = some none)
    (yI : PySem.W.findIn K (.ref xC) "__init__" = some (some (.ref xF)))
    (yT : PySem.W.typeIn K (.ref xF) = some (.type "function"))
    (yF : K.lookup xF = some ⟨ocI, odI, .func (PySem.W.fnOf "__init__" "InvalidCount.__init__" (defArgs s_InvalidCount__init) (defBody s_InvalidCount__init) (defScope s_InvalidCount__init) .none kVI dcI pmI anI cdI ctI), slI⟩)
    (yFc : PySem.W.codeIn K cdI "InvalidCount.__init__" = true)
    (yFk : PySem.W.keepIn K (.ref xF) = true)
    (yK : PySem.W.keepIn K (.ref xC) = true)
    (yE : PySem.W.subIn K (.ref xC) (.type "BaseException") = some true)
    (yTy : PySem.W.typeIn K (.ref xC) = some (.type "type"))
    (yH : PySem.W.hasDictIn K xC = true)
    (yB : PySem.W.nsIn K mainGlobals "BestError" = some (some (.ref xB)))
    (yM : PySem.W.nsIn K mainGlobals "Missing" = some (some (.ref xM)))
    (yB1 : PySem.W.subIn K (.ref xB) (.type "BaseException") = some true)
    (yB2 : PySem.W.hasDictIn K xB = true)
    (yB3 : PySem.W.typeIn K (.ref xB) = some (.type "type"))
    (yB4 : PySem.W.subIn K (.ref xC) (.ref xB) = some true)
    (yM1 : PySem.W.subIn K (.ref xM) (.type "BaseException") = some true)
    (yM2 : PySem.W.hasDictIn K xM = true)
    (yM3 : PySem.W.typeIn K (.ref xM) = some (.type "type"))
    (yM4 : PySem.W.subIn K (.ref xC) (.ref xM) = some false) : Top K mg :=
  {
    a_copy_of := f0, fd_copy_of := _, d_copy_of := ⟨fun_mk (st := s_copy_of) l0 c0 k0, PySem.W.mg_of X G a0, (fun_mk (st := s_copy_of) l0 c0 k0).binds (ps := ["value"]) fun _ _ _ _ _ _ us hl => match us, hl with | [_], _ => rfl⟩,
    a_is_name := f1, fd_is_name := _, d_is_name := ⟨fun_mk (st := s_is_name) l1 c1 k1, PySem.W.mg_of X G a1, (fun_mk (st := s_is_name) l1 c1 k1).binds (ps := ["value"]) fun _ _ _ _ _ _ us hl => match us, hl with | [_], _ => rfl⟩,
    a_is_option := f2, fd_is_option := _, d_is_option := ⟨fun_mk (st := s_is_option) l2 c2 k2, PySem.W.mg_of X G a2, (fun_mk (st := s_is_option) l2 c2 k2).binds (ps := ["value"]) fun _ _ _ _ _ _ us hl => match us, hl with | [_], _ => rfl⟩,
    a_is_word := f3, fd_is_word := _, d_is_word := ⟨fun_mk (st := s_is_word) l3 c3 k3, PySem.W.mg_of X G a3, (fun_mk (st := s_is_word) l3 c3 k3).binds (ps := ["value", "characters"]) fun _ _ _ _ _ _ us hl => match us, hl with | [_, _], _ => rfl⟩,
    a_is_integer := f4, fd_is_integer := _, d_is_integer := ⟨fun_mk (st := s_is_integer) l4 c4 k4, PySem.W.mg_of X G a4, (fun_mk (st := s_is_integer) l4 c4 k4).binds (ps := ["value"]) fun _ _ _ _ _ _ us hl => match us, hl with | [_], _ => rfl⟩,
    a_is_number := f5, fd_is_number := _, d_is_number := ⟨fun_mk (st := s_is_number) l5 c5 k5, PySem.W.mg_of X G a5, (fun_mk (st := s_is_number) l5 c5 k5).binds (ps := ["value", "least", "most"]) fun _ _ _ _ _ _ us hl => match us, hl with | [_, _, _], _ => rfl⟩,
    a_cell_names := f6, fd_cell_names := _, d_cell_names := ⟨fun_mk (st := s_cell_names) l6 c6 k6, PySem.W.mg_of X G a6, (fun_mk (st := s_cell_names) l6 c6 k6).binds (ps := ["many"]) fun _ _ _ _ _ _ us hl => match us, hl with | [_], _ => rfl⟩,
    a_cell_name := f7, fd_cell_name := _, d_cell_name := ⟨fun_mk (st := s_cell_name) l7 c7 k7, PySem.W.mg_of X G a7, (fun_mk (st := s_cell_name) l7 c7 k7).binds (ps := ["position"]) fun _ _ _ _ _ _ us hl => match us, hl with | [_], _ => rfl⟩,
    a_l_bag := f8, fd_l_bag := _, d_l_bag := ⟨fun_mk (st := s_l_bag) l8 c8 k8, PySem.W.mg_of X G a8, (fun_mk (st := s_l_bag) l8 c8 k8).binds (ps := ["_law_script"]) fun _ _ _ _ _ _ us hl => match us, hl with | [_], _ => rfl⟩,
    a_l_draw := f9, fd_l_draw := _, d_l_draw := ⟨fun_mk (st := s_l_draw) l9 c9 k9, PySem.W.mg_of X G a9, (fun_mk (st := s_l_draw) l9 c9 k9).binds (ps := ["_law_bag_here", "_law_many_z"]) fun _ _ _ _ _ _ us hl => match us, hl with | [_, _], _ => rfl⟩,
    a_l_any := f10, fd_l_any := _, d_l_any := ⟨fun_mk (st := s_l_any) l10 c10 k10, PySem.W.mg_of X G a10, (fun_mk (st := s_l_any) l10 c10 k10).binds (ps := ["_law_bag_here", "_law_row"]) fun _ _ _ _ _ _ us hl => match us, hl with | [_, _], _ => rfl⟩,
    a_l_like := f11, fd_l_like := _, d_l_like := ⟨fun_mk (st := s_l_like) l11 c11 k11, PySem.W.mg_of X G a11, (fun_mk (st := s_l_like) l11 c11 k11).binds (ps := ["_law_found", "_law_due"]) fun _ _ _ _ _ _ us hl => match us, hl with | [_, _], _ => rfl⟩,
    a_l_given := f12, fd_l_given := _, d_l_given := ⟨fun_mk (st := s_l_given) l12 c12 k12, PySem.W.mg_of X G a12, (fun_mk (st := s_l_given) l12 c12 k12).binds (ps := ["_law_e"]) fun _ _ _ _ _ _ us hl => match us, hl with | [_], _ => rfl⟩,
    a_l_try := f13, fd_l_try := _, d_l_try := ⟨fun_mk (st := s_l_try) l13 c13 k13, PySem.W.mg_of X G a13, (fun_mk (st := s_l_try) l13 c13 k13).binds (ps := ["_law_ask"]) fun _ _ _ _ _ _ us hl => match us, hl with | [_], _ => rfl⟩,
    b_all := PySem.W.mg_none_of X G z_all,
    b_dict := PySem.W.mg_none_of X G z_dict,
    b_isinstance := PySem.W.mg_none_of X G z_isinstance,
    b_len := PySem.W.mg_none_of X G z_len,
    b_list := PySem.W.mg_none_of X G z_list,
    b_max := PySem.W.mg_none_of X G z_max,
    b_min := PySem.W.mg_none_of X G z_min,
    b_range := PySem.W.mg_none_of X G z_range,
    b_sorted := PySem.W.mg_none_of X G z_sorted,
    b_tuple := PySem.W.mg_none_of X G z_tuple,
    b_int := PySem.W.mg_none_of X G z_int,
    b_zip := PySem.W.mg_none_of X G z_zip,
    b_bool := PySem.W.mg_none_of X G z_bool,
    b_str := PySem.W.mg_none_of X G z_str,
    b_divmod := PySem.W.mg_none_of X G z_divmod,
    g_LETTERS := ⟨_, PySem.W.mg_of X G v_LETTERS⟩,
    g_LETTERS_AND_DIGITS := ⟨_, PySem.W.mg_of X G v_LETTERS_AND_DIGITS⟩,
    g_LONGEST := ⟨_, PySem.W.mg_of X G v_LONGEST⟩,
    g_MOST_NAMES := ⟨_, PySem.W.mg_of X G v_MOST_NAMES⟩,
    cIC := xC, fIC := xF, fdIC := _, FIC := fun_mk (st := s_InvalidCount__init) yF yFc yFk, bIC := (fun_mk (st := s_InvalidCount__init) yF yFc yFk).binds (ps := ["self", "given"]) fun _ _ _ _ _ _ us hl => match us, hl with | [_, _], _ => rfl,
    gIC := PySem.W.mg_of X G yC, oIC := ⟨⟨_, _, _, _, _, _, _, _, _, _, _, _, _, _, _, yL, (by show PySem.HandSPX.refsVE [.type "ValueError", .type "Exception", .type "BaseException", .type "object"] = true; decide +kernel)⟩, ySa, yE, yTy, yK⟩,
    iIC := yI, tIC := yT, nIC := ⟨yN1, yN2⟩, xIC := ⟨yGa, yGg, yE, yH⟩, cBE := xB, cMS := xM, gBE := PySem.W.mg_of X G yB, gMS := PySem.W.mg_of X G yM, eIC := two_exm (PySem.W.exm_ref yB1 yB2 yB3 yB4) (PySem.W.exm_ref yM1 yM2 yM3 yM4) }
theorem all_mk {l : PySem.W.OpenLaw} {w : World} {K : PySem.W.Frag} {h : Heap} {mg : Str → Option Value} {fa cLaw pLaw : Addr} (X : K.In h) (G : h.Ns mainGlobals mg) (hfa : mg "law" = some (.ref fa))
    (tab : PySem.W.tabIn K "law" = some (cLaw, pLaw) → PySem.W.CodeHd h cLaw pLaw ∧ h.get? pLaw = some (PySem.W.tabObj #[])) (uT : PySem.W.tabIn K "law" = some (cLaw, pLaw)) (uN : K.lookup pLaw = none)
    {f0 : Addr} {od0 an0 : Option Addr} {sl0 : Array (Option Value)} {oc0 kV0 dc0 pm0 cd0 ct0 : Value}
    {f1 : Addr} {od1 an1 : Option Addr} {sl1 : Array (Option Value)} {oc1 kV1 dc1 pm1 cd1 ct1 : Value}
    {f2 : Addr} {od2 an2 : Option Addr} {sl2 : Array (Option Value)} {oc2 kV2 dc2 pm2 cd2 ct2 : Value}
    {f3 : Addr} {od3 an3 : Option Addr} {sl3 : Array (Option Value)} {oc3 kV3 dc3 pm3 cd3 ct3 : Value}
    {f4 : Addr} {od4 an4 : Option Addr} {sl4 : Array (Option Value)} {oc4 kV4 dc4 pm4 cd4 ct4 : Value}
    {f5 : Addr} {od5 an5 : Option Addr} {sl5 : Array (Option Value)} {oc5 kV5 dc5 pm5 cd5 ct5 : Value}
    {f6 : Addr} {od6 an6 : Option Addr} {sl6 : Array (Option Value)} {oc6 kV6 dc6 pm6 cd6 ct6 : Value}
    {f7 : Addr} {od7 an7 : Option Addr} {sl7 : Array (Option Value)} {oc7 kV7 dc7 pm7 cd7 ct7 : Value}
    {f8 : Addr} {od8 an8 : Option Addr} {sl8 : Array (Option Value)} {oc8 kV8 dc8 pm8 cd8 ct8 : Value}
    {f9 : Addr} {od9 an9 : Option Addr} {sl9 : Array (Option Value)} {oc9 kV9 dc9 pm9 cd9 ct9 : Value}
    {f10 : Addr} {od10 an10 : Option Addr} {sl10 : Array (Option Value)} {oc10 kV10 dc10 pm10 cd10 ct10 : Value}
    {f11 : Addr} {od11 an11 : Option Addr} {sl11 : Array (Option Value)} {oc11 kV11 dc11 pm11 cd11 ct11 : Value}
    {f12 : Addr} {od12 an12 : Option Addr} {sl12 : Array (Option Value)} {oc12 kV12 dc12 pm12 cd12 ct12 : Value}
    {f13 : Addr} {od13 an13 : Option Addr} {sl13 : Array (Option Value)} {oc13 kV13 dc13 pm13 cd13 ct13 : Value}
    {f14 : Addr} {od14 an14 : Option Addr} {sl14 : Array (Option Value)} {oc14 kV14 dc14 pm14 ct14 : Value}
    {t_LETTERS : Tok}
    {t_LETTERS_AND_DIGITS : Tok}
    {t_LONGEST : Tok}
    {t_MOST_NAMES : Tok}
    {xC xF xB xM : Addr} {nmI qI : Str} {NI : Addr} {bsI : List Value} {snI : List Str} {suI : List Value} {abI : Bool} {coI : Option Bool} {ddI : Option Addr} {m0 m1 m2 m3 m5 : Option Value} {odI anI : Option Addr} {slI : Array (Option Value)} {ocI kVI dcI pmI cdI ctI : Value}
    (a0 : PySem.W.nsIn K mainGlobals "copy_of" = some (some (.ref f0))) (l0 : K.lookup f0 = some ⟨oc0, od0, .func (PySem.W.fnOf "copy_of" "copy_of" (defArgs s_copy_of) (defBody s_copy_of) (defScope s_copy_of) .none kV0 dc0 pm0 an0 cd0 ct0), sl0⟩) (c0 : PySem.W.codeIn K cd0 "copy_of" = true) (k0 : PySem.W.keepIn K (.ref f0) = true)
    (a1 : PySem.W.nsIn K mainGlobals "is_name" = some (some (.ref f1))) (l1 : K.lookup f1 = some ⟨oc1, od1, .func (PySem.W.fnOf "is_name" "is_name" (defArgs s_is_name) (defBody s_is_name) (defScope s_is_name) .none kV1 dc1 pm1 an1 cd1 ct1), sl1⟩) (c1 : PySem.W.codeIn K cd1 "is_name" = true) (k1 : PySem.W.keepIn K (.ref f1) = true)
    (a2 : PySem.W.nsIn K mainGlobals "is_option" = some (some (.ref f2))) (l2 : K.lookup f2 = some ⟨oc2, od2, .func (PySem.W.fnOf "is_option" "is_option" (defArgs s_is_option) (defBody s_is_option) (defScope s_is_option) .none kV2 dc2 pm2 an2 cd2 ct2), sl2⟩) (c2 : PySem.W.codeIn K cd2 "is_option" = true) (k2 : PySem.W.keepIn K (.ref f2) = true)
    (a3 : PySem.W.nsIn K mainGlobals "_is_word" = some (some (.ref f3))) (l3 : K.lookup f3 = some ⟨oc3, od3, .func (PySem.W.fnOf "_is_word" "_is_word" (defArgs s_is_word) (defBody s_is_word) (defScope s_is_word) .none kV3 dc3 pm3 an3 cd3 ct3), sl3⟩) (c3 : PySem.W.codeIn K cd3 "_is_word" = true) (k3 : PySem.W.keepIn K (.ref f3) = true)
    (a4 : PySem.W.nsIn K mainGlobals "is_integer" = some (some (.ref f4))) (l4 : K.lookup f4 = some ⟨oc4, od4, .func (PySem.W.fnOf "is_integer" "is_integer" (defArgs s_is_integer) (defBody s_is_integer) (defScope s_is_integer) .none kV4 dc4 pm4 an4 cd4 ct4), sl4⟩) (c4 : PySem.W.codeIn K cd4 "is_integer" = true) (k4 : PySem.W.keepIn K (.ref f4) = true)
    (a5 : PySem.W.nsIn K mainGlobals "is_number" = some (some (.ref f5))) (l5 : K.lookup f5 = some ⟨oc5, od5, .func (PySem.W.fnOf "is_number" "is_number" (defArgs s_is_number) (defBody s_is_number) (defScope s_is_number) .none kV5 dc5 pm5 an5 cd5 ct5), sl5⟩) (c5 : PySem.W.codeIn K cd5 "is_number" = true) (k5 : PySem.W.keepIn K (.ref f5) = true)
    (a6 : PySem.W.nsIn K mainGlobals "cell_names" = some (some (.ref f6))) (l6 : K.lookup f6 = some ⟨oc6, od6, .func (PySem.W.fnOf "cell_names" "cell_names" (defArgs s_cell_names) (defBody s_cell_names) (defScope s_cell_names) .none kV6 dc6 pm6 an6 cd6 ct6), sl6⟩) (c6 : PySem.W.codeIn K cd6 "cell_names" = true) (k6 : PySem.W.keepIn K (.ref f6) = true)
    (a7 : PySem.W.nsIn K mainGlobals "cell_name" = some (some (.ref f7))) (l7 : K.lookup f7 = some ⟨oc7, od7, .func (PySem.W.fnOf "cell_name" "cell_name" (defArgs s_cell_name) (defBody s_cell_name) (defScope s_cell_name) .none kV7 dc7 pm7 an7 cd7 ct7), sl7⟩) (c7 : PySem.W.codeIn K cd7 "cell_name" = true) (k7 : PySem.W.keepIn K (.ref f7) = true)
    (a8 : PySem.W.nsIn K mainGlobals "_law_bag" = some (some (.ref f8))) (l8 : K.lookup f8 = some ⟨oc8, od8, .func (PySem.W.fnOf "_law_bag" "_law_bag" (defArgs s_l_bag) (defBody s_l_bag) (defScope s_l_bag) .none kV8 dc8 pm8 an8 cd8 ct8), sl8⟩) (c8 : PySem.W.codeIn K cd8 "_law_bag" = true) (k8 : PySem.W.keepIn K (.ref f8) = true)
    (a9 : PySem.W.nsIn K mainGlobals "_law_draw" = some (some (.ref f9))) (l9 : K.lookup f9 = some ⟨oc9, od9, .func (PySem.W.fnOf "_law_draw" "_law_draw" (defArgs s_l_draw) (defBody s_l_draw) (defScope s_l_draw) .none kV9 dc9 pm9 an9 cd9 ct9), sl9⟩) (c9 : PySem.W.codeIn K cd9 "_law_draw" = true) (k9 : PySem.W.keepIn K (.ref f9) = true)
    (a10 : PySem.W.nsIn K mainGlobals "_law_any" = some (some (.ref f10))) (l10 : K.lookup f10 = some ⟨oc10, od10, .func (PySem.W.fnOf "_law_any" "_law_any" (defArgs s_l_any) (defBody s_l_any) (defScope s_l_any) .none kV10 dc10 pm10 an10 cd10 ct10), sl10⟩) (c10 : PySem.W.codeIn K cd10 "_law_any" = true) (k10 : PySem.W.keepIn K (.ref f10) = true)
    (a11 : PySem.W.nsIn K mainGlobals "_law_like" = some (some (.ref f11))) (l11 : K.lookup f11 = some ⟨oc11, od11, .func (PySem.W.fnOf "_law_like" "_law_like" (defArgs s_l_like) (defBody s_l_like) (defScope s_l_like) .none kV11 dc11 pm11 an11 cd11 ct11), sl11⟩) (c11 : PySem.W.codeIn K cd11 "_law_like" = true) (k11 : PySem.W.keepIn K (.ref f11) = true)
    (a12 : PySem.W.nsIn K mainGlobals "_law_given" = some (some (.ref f12))) (l12 : K.lookup f12 = some ⟨oc12, od12, .func (PySem.W.fnOf "_law_given" "_law_given" (defArgs s_l_given) (defBody s_l_given) (defScope s_l_given) .none kV12 dc12 pm12 an12 cd12 ct12), sl12⟩) (c12 : PySem.W.codeIn K cd12 "_law_given" = true) (k12 : PySem.W.keepIn K (.ref f12) = true)
    (a13 : PySem.W.nsIn K mainGlobals "_law_try" = some (some (.ref f13))) (l13 : K.lookup f13 = some ⟨oc13, od13, .func (PySem.W.fnOf "_law_try" "_law_try" (defArgs s_l_try) (defBody s_l_try) (defScope s_l_try) .none kV13 dc13 pm13 an13 cd13 ct13), sl13⟩) (c13 : PySem.W.codeIn K cd13 "_law_try" = true) (k13 : PySem.W.keepIn K (.ref f13) = true)
    (a14 : PySem.W.nsIn K mainGlobals "law" = some (some (.ref f14))) (l14 : K.lookup f14 = some ⟨oc14, od14, .func (PySem.W.fnOf "law" "law" (defArgs s_law) (defBody s_law) (defScope s_law) .none kV14 dc14 pm14 an14 (.ref cLaw) ct14), sl14⟩) (c14 : PySem.W.codeIn K (.ref cLaw) "law" = true) (k14 : PySem.W.keepIn K (.ref f14) = true)
    (z_all : PySem.W.nsIn K mainGlobals "all" = some none)
    (z_dict : PySem.W.nsIn K mainGlobals "dict" = some none)
    (z_isinstance : PySem.W.nsIn K mainGlobals "isinstance" = some none)
    (z_len : PySem.W.nsIn K mainGlobals "len" = some none)
    (z_list : PySem.W.nsIn K mainGlobals "list" = some none)
    (z_max : PySem.W.nsIn K mainGlobals "max" = some none)
    (z_min : PySem.W.nsIn K mainGlobals "min" = some none)
    (z_range : PySem.W.nsIn K mainGlobals "range" = some none)
    (z_sorted : PySem.W.nsIn K mainGlobals "sorted" = some none)
    (z_tuple : PySem.W.nsIn K mainGlobals "tuple" = some none)
    (z_int : PySem.W.nsIn K mainGlobals "int" = some none)
    (z_zip : PySem.W.nsIn K mainGlobals "zip" = some none)
    (z_bool : PySem.W.nsIn K mainGlobals "bool" = some none)
    (z_str : PySem.W.nsIn K mainGlobals "str" = some none)
    (z_divmod : PySem.W.nsIn K mainGlobals "divmod" = some none)
    (v_LETTERS : PySem.W.nsIn K mainGlobals "LETTERS" = some (some (Value.str "abcdefghijklmnopqrstuvwxyz" t_LETTERS)))
    (v_LETTERS_AND_DIGITS : PySem.W.nsIn K mainGlobals "LETTERS_AND_DIGITS" = some (some (Value.str "abcdefghijklmnopqrstuvwxyz0123456789" t_LETTERS_AND_DIGITS)))
    (v_LONGEST : PySem.W.nsIn K mainGlobals "LONGEST" = some (some (Value.int 8 t_LONGEST)))
    (v_MOST_NAMES : PySem.W.nsIn K mainGlobals "MOST_NAMES" = some (some (Value.int 2000 t_MOST_NAMES)))
    (yC : PySem.W.nsIn K mainGlobals "InvalidCount" = some (some (.ref xC)))
    (yL : K.lookup xC = some (excClassObj nmI qI xC NI bsI [.ref xB, .type "ValueError", .type "Exception", .type "BaseException", .type "object"] true snI suI abI coI ddI m0 m1 m2 m3 m5 "ValueError.__new__"))
    (ySa : PySem.W.findIn K (.ref xC) "__setattr__" = some (some (.builtin "object.__setattr__")))
    (yGa : PySem.W.findIn K (.ref xC) "__getattribute__" = some (some (.builtin "BaseException.__getattribute__")))
    (yGg : PySem.W.findIn K (.ref xC) "__getattr__" = some none)
    (yN1 : PySem.W.findIn K (.ref xC) "given" = some none)
    (yN2 : PySem.W.findIn K (.ref xC) "code" = some none)
    (yI : PySem.W.findIn K (.ref xC) "__init__" = some (some (.ref xF)))
    (yT : PySem.W.typeIn K (.ref xF) = some (.type "function"))
    (yF : K.lookup xF = some ⟨ocI, odI, .func (PySem.W.fnOf "__init__" "InvalidCount.__init__" (defArgs s_InvalidCount__init) (defBody s_InvalidCount__init) (defScope s_InvalidCount__init) .none kVI dcI pmI anI cdI ctI), slI⟩)
    (yFc : PySem.W.codeIn K cdI "InvalidCount.__init__" = true)
    (yFk : PySem.W.keepIn K (.ref xF) = true)
    (yK : PySem.W.keepIn K (.ref xC) = true)
    (yE : PySem.W.subIn K (.ref xC) (.type "BaseException") = some true)
    (yTy : PySem.W.typeIn K (.ref xC) = some (.type "type"))
    (yH : PySem.W.hasDictIn K xC = true)
    (yB : PySem.W.nsIn K mainGlobals "BestError" = some (some (.ref xB)))
    (yM : PySem.W.nsIn K mainGlobals "Missing" = some (some (.ref xM)))
    (yB1 : PySem.W.subIn K (.ref xB) (.type "BaseException") = some true)
    (yB2 : PySem.W.hasDictIn K xB = true)
    (yB3 : PySem.W.typeIn K (.ref xB) = some (.type "type"))
    (yB4 : PySem.W.subIn K (.ref xC) (.ref xB) = some true)
    (yM1 : PySem.W.subIn K (.ref xM) (.type "BaseException") = some true)
    (yM2 : PySem.W.hasDictIn K xM = true)
    (yM3 : PySem.W.typeIn K (.ref xM) = some (.type "type"))
    (yM4 : PySem.W.subIn K (.ref xC) (.ref xM) = some false) :
    LamX.LawAtS l w K CX0 7 63 "_law_script" mg fa h := by
  have e := hfa.symm.trans (PySem.W.mg_of X G a14)
  cases e
  have T : Top K mg := mkTop X G a0 l0 c0 k0 a1 l1 c1 k1 a2 l2 c2 k2 a3 l3 c3 k3 a4 l4 c4 k4 a5 l5 c5 k5 a6 l6 c6 k6 a7 l7 c7 k7 a8 l8 c8 k8 a9 l9 c9 k9 a10 l10 c10 k10 a11 l11 c11 k11 a12 l12 c12 k12 a13 l13 c13 k13 a14 l14 c14 k14 z_all z_dict z_isinstance z_len z_list z_max z_min z_range z_sorted z_tuple z_int z_zip z_bool z_str z_divmod v_LETTERS v_LETTERS_AND_DIGITS v_LONGEST v_MOST_NAMES yC yL ySa yGa yGg yN1 yN2 yI yT yF yFc yFk yK yE yTy yH yB yM yB1 yB2 yB3 yB4 yM1 yM2 yM3 yM4
  obtain ⟨t1, t2⟩ := tab uT
  refine ⟨_, [(cLaw, pLaw)], spLaw K pLaw, fun p hp => ?_, fun p hp => ?_, fun p hp => ?_, fun s u => .of_eq rfl, fun H a ns hl _ hH hS => ⟨a, ns, rfl, hS, hl, hH _ (List.mem_singleton.mpr rfl), fun _ => rfl⟩, fun base _ _ hTB => ok_law T (hTB _ (List.mem_singleton.mpr rfl)) l14 c14⟩
  · rw [List.mem_singleton.mp hp]
    exact t2
  · rw [List.mem_singleton.mp hp]
    exact uN
  · rw [List.mem_singleton.mp hp]
    exact t1
end Bh
open PySem PySem.W PyProof.Rows in
set_option maxRecDepth 100000 in
set_option maxHeartbeats 0 in
theorem PySem.Challenge.cw_bestheard_k02_names_and_options_holds : PySem.Challenge.rw_bestheard_k02_names_and_options.Holds := by
  w_on; o_law; k_head; (case hw => w_witness2)
  k_fill
  refine Bh.walkT (l := PySem.Challenge.rw_bestheard_k02_names_and_options) (n := 63) (k := 7) (CX := fun _ => L2.CX0) (x := "_law_script") rfl (by decide) rfl ⟨rfl, by decide, by decide⟩ ?F (fun _ _ _ _ _ z => z)
  case F =>
    intro w mg mb fa h tab G Y hmg
    refine ⟨_, PySem.W.km_in_of Y, ?_⟩
    refine' Bh.all_mk (PySem.W.km_in_of Y) G hmg (fun e => tab _ (PySem.W.km_in_of Y) _ "law" _ _ ?rc e) ?uT ?uN ?a0 ?l0 ?c0 ?k0 ?a1 ?l1 ?c1 ?k1 ?a2 ?l2 ?c2 ?k2 ?a3 ?l3 ?c3 ?k3 ?a4 ?l4 ?c4 ?k4 ?a5 ?l5 ?c5 ?k5 ?a6 ?l6 ?c6 ?k6 ?a7 ?l7 ?c7 ?k7 ?a8 ?l8 ?c8 ?k8 ?a9 ?l9 ?c9 ?k9 ?a10 ?l10 ?c10 ?k10 ?a11 ?l11 ?c11 ?k11 ?a12 ?l12 ?c12 ?k12 ?a13 ?l13 ?c13 ?k13 ?a14 ?l14 ?c14 ?k14 ?z_all ?z_dict ?z_isinstance ?z_len ?z_list ?z_max ?z_min ?z_range ?z_sorted ?z_tuple ?z_int ?z_zip ?z_bool ?z_str ?z_divmod ?v_LETTERS ?v_LETTERS_AND_DIGITS ?v_LONGEST ?v_MOST_NAMES ?yC ?yL ?ySa ?yGa ?yGg ?yN1 ?yN2 ?yI ?yT ?yF ?yFc ?yFk ?yK ?yE ?yTy ?yH ?yB ?yM ?yB1 ?yB2 ?yB3 ?yB4 ?yM1 ?yM2 ?yM3 ?yM4
    (case a0 => k_is)
    (case l0 => k_is)
    (case c0 => k_is)
    (case k0 => k_is)
    (case a1 => k_is)
    (case l1 => k_is)
    (case c1 => k_is)
    (case k1 => k_is)
    (case a2 => k_is)
    (case l2 => k_is)
    (case c2 => k_is)
    (case k2 => k_is)
    (case a3 => k_is)
    (case l3 => k_is)
    (case c3 => k_is)
    (case k3 => k_is)
    (case a4 => k_is)
    (case l4 => k_is)
    (case c4 => k_is)
    (case k4 => k_is)
    (case a5 => k_is)
    (case l5 => k_is)
    (case c5 => k_is)
    (case k5 => k_is)
    (case a6 => k_is)
    (case l6 => k_is)
    (case c6 => k_is)
    (case k6 => k_is)
    (case a7 => k_is)
    (case l7 => k_is)
    (case c7 => k_is)
    (case k7 => k_is)
    (case a8 => k_is)
    (case l8 => k_is)
    (case c8 => k_is)
    (case k8 => k_is)
    (case a9 => k_is)
    (case l9 => k_is)
    (case c9 => k_is)
    (case k9 => k_is)
    (case a10 => k_is)
    (case l10 => k_is)
    (case c10 => k_is)
    (case k10 => k_is)
    (case a11 => k_is)
    (case l11 => k_is)
    (case c11 => k_is)
    (case k11 => k_is)
    (case a12 => k_is)
    (case l12 => k_is)
    (case c12 => k_is)
    (case k12 => k_is)
    (case a13 => k_is)
    (case l13 => k_is)
    (case c13 => k_is)
    (case k13 => k_is)
    (case a14 => k_is)
    (case l14 => k_is)
    (case c14 => k_is)
    (case k14 => k_is)
    (case z_all => k_is)
    (case z_dict => k_is)
    (case z_isinstance => k_is)
    (case z_len => k_is)
    (case z_list => k_is)
    (case z_max => k_is)
    (case z_min => k_is)
    (case z_range => k_is)
    (case z_sorted => k_is)
    (case z_tuple => k_is)
    (case z_int => k_is)
    (case z_zip => k_is)
    (case z_bool => k_is)
    (case z_str => k_is)
    (case z_divmod => k_is)
    (case v_LETTERS => k_is)
    (case v_LETTERS_AND_DIGITS => k_is)
    (case v_LONGEST => k_is)
    (case v_MOST_NAMES => k_is)
    (case yC => k_is)
    (case yL => k_is)
    (case ySa => k_is)
    (case yGa => k_is)
    (case yGg => k_is)
    (case yN1 => k_is)
    (case yN2 => k_is)
    (case yI => k_is)
    (case yT => k_is)
    (case yF => k_is)
    (case yFc => k_is)
    (case yFk => k_is)
    (case yK => k_is)
    (case yE => k_is)
    (case yTy => k_is)
    (case yH => k_is)
    (case yB => k_is)
    (case yM => k_is)
    (case yB1 => k_is)
    (case yB2 => k_is)
    (case yB3 => k_is)
    (case yB4 => k_is)
    (case yM1 => k_is)
    (case yM2 => k_is)
    (case yM3 => k_is)
    (case yM4 => k_is)
    (case uT => with_unfolding_all rfl)
    (case uN => first | k_is | kernel_rfl | rfl)
    (case rc => first | rfl | kernel_rfl | decide +kernel)
