import PyProof.Rows.All
import Wide.All
import OpenK.AllK
import Wide.FinOn
import HandS.ForMost
import HandS.Walk
import HandS.IsInst
import HandS.Deep
import HandS.Defaults
import HandS.Evl
import HandS.Steps
import HandS.More
import HandS.Zip
import HandS.Strs
import HandS.TupAny
import HandS.TupMul
import HandS.StrMore
import HandS.Style
import KE.DataEq
import HandS.Nested
import HandS.NestedK
import HandS.CallLocal
import HandS.StrSplit
import HandS.Star
import PySem.Challenge.RW_bestheard_k05_rulebooks_made
import KE.GoesEnum
import KE.GoesMore
import KE.GoesZip
import HandS.FStr
import HandS.OwnEq
import PyProof.InstNe
import HandS.MakeKwOnly
import HandS.ClsMeth
import HandS.ExcField
import HandS.ExcInit
import HandS.ExcIs
import KE.KTryMore
import KE.KExcIs
import KE.KExcInit
import HandS.HotCalls
import HandS.Lambda
import HandS.EndTab
set_option Elab.async false
set_option linter.all false
set_option maxRecDepth 100000
namespace Bh
open PySem PySem.Spec PyProof.Rows L2
/-! ### what the laws of this set have in common: constants, defs of the top, the drawing bag -/
section
variable {X : Cx} {x z : Str} {i : Int} {a : Addr} {pos : Pos}
theorem pe_gS (hg : Gl X x) (hm : ∃ t, X.mg x = some (.str z t)) (hd : (x == ("__debug__" : Str)) = false := by decide) : PE X (.Name x pos) (tC (.str z)) := by
  obtain ⟨t, hm⟩ := hm
  exact pe_glob hg hm ⟨t, rfl⟩ hd
theorem pe_gI (hg : Gl X x) (hm : ∃ t, X.mg x = some (.int i t)) (hd : (x == ("__debug__" : Str)) = false := by decide) : PE X (.Name x pos) (tC (.int i)) := by
  obtain ⟨t, hm⟩ := hm
  exact pe_glob hg hm ⟨t, rfl⟩ hd
theorem pe_gR (hg : Gl X x) (hm : X.mg x = some (.ref a)) (hd : (x == ("__debug__" : Str)) = false := by decide) : PE X (.Name x pos) (tC (.ref a)) :=
  pe_glob hg hm rfl hd
end
theorem pe_tyN {X : Cx} {x : Str} {pos : Pos} (n : String) (hg : Gl X x) (hm : X.mg x = none) (hv : bootBuiltins x = some (.type n)) (hnn : x ≠ "__name__" := by decide) (hdb : (x == ("__debug__" : Str)) = false := by decide) : PE X (.Name x pos) (tC (.ty n)) := pe_bltn hg hm hv rfl hnn hdb
/-- a def of the top: where it stands, what its name holds, how it binds -/
structure Df (K : PySem.W.Frag) (mg : Str → Option Value) (x : Str) (st : Stmt) (ps : List Str) (f : Addr) (fd : FuncData) : Prop where
  F : Fun K x x st f fd
  g : mg x = some (.ref f)
  b : Binds K fd ps []
theorem Df.kp {K : PySem.W.Frag} {mg : Str → Option Value} {x : Str} {st : Stmt} {ps : List Str} {f : Addr} {fd : FuncData} (d : Df K mg x st ps f fd) : PySem.W.keepIn K (.ref f) = true := d.F.kp
theorem same_new {H : Hp} {p : Addr} {o : HO} (h : H p = none) : Same H (upd H p o) := fun b u e => by
  rw [upd_ne (ne_of_none e h)]
  exact e
theorem Same.tup {K : PySem.W.Frag} {H H' : Hp} {a : Addr} {xs : List V} (e : Same H H') (h : SqT K H a xs) : SqT K H' a xs := by
  rcases h with (h | ⟨o, h⟩) | h
  · exact .inl (.inl (e _ _ h))
  · exact .inl (.inr ⟨o, e _ _ h⟩)
  · exact .inr h
/-- the bag of a law: the script's ints at l, how many are taken, what is left of a great one, the seed -/
def BagAt (b l : Addr) (H : Hp) : Prop := ∃ (ns : List Int) (i c s : Int), H b = some (.lst [.ref l, .int i, .int c, .int s]) ∧ H l = some (.lst (ns.map V.int)) ∧ ns.length ≤ 63 ∧ 0 ≤ i ∧ i ≤ (ns.length : Int) ∧ 0 ≤ c ∧ 0 ≤ s ∧ s < 2147483647
/-- G: all that is known apart from the bag at b, l -/
structure Wd (b l : Addr) (G H : Hp) : Prop where
  nb : G b = none
  nl : G l = none
  sm : Same G H
  bag : BagAt b l H
section
variable {b l p q : Addr} {G G' H H' : Hp} {o o' : HO}
theorem BagAt.b_some (h : BagAt b l H) : ∃ o, H b = some o := by
  obtain ⟨_, _, _, _, h, _⟩ := h
  exact ⟨_, h⟩
theorem BagAt.l_some (h : BagAt b l H) : ∃ o, H l = some o := by
  obtain ⟨_, _, _, _, _, h, _⟩ := h
  exact ⟨_, h⟩
theorem BagAt.same (h : BagAt b l H) (e : Same H H') : BagAt b l H' := by
  obtain ⟨ns, i, c, s, h1, h2, r⟩ := h
  exact ⟨ns, i, c, s, e _ _ h1, e _ _ h2, r⟩
theorem Wd.b_ne (w : Wd b l G H) (hp : H p = none) : p ≠ b := fun z => by
  obtain ⟨o, e⟩ := w.bag.b_some
  rw [← z, hp] at e
  cases e
theorem Wd.l_ne (w : Wd b l G H) (hp : H p = none) : p ≠ l := fun z => by
  obtain ⟨o, e⟩ := w.bag.l_some
  rw [← z, hp] at e
  cases e
theorem Wd.same (w : Wd b l G H) (e : Same H H') : Wd b l G H' := ⟨w.nb, w.nl, w.sm.trans e, w.bag.same e⟩
/-- a new object -/
theorem Wd.new (w : Wd b l G H) (hp : H p = none) : Wd b l (upd G p o) (upd H p o) := by
  refine ⟨?_, ?_, fun a u e => ?_, w.bag.same (same_new hp)⟩
  · rw [upd_ne (w.b_ne hp).symm]
    exact w.nb
  · rw [upd_ne (w.l_ne hp).symm]
    exact w.nl
  · by_cases h : a = p
    · rw [h, upd_same] at e ⊢
      exact e
    · rw [upd_ne h] at e ⊢
      exact w.sm _ _ e
theorem Wd.free (w : Wd b l G H) (hp : H p = none) : G p = none := w.sm.free hp
theorem Wd.sameG (w : Wd b l G H) (hp : H p = none) : Same G (upd G p o) := same_new (w.free hp)
/-- an object that is known changes -/
theorem Wd.mut (w : Wd b l G H) (hq : G q = some o) : Wd b l (upd G q o') (upd H q o') := by
  have nb : q ≠ b := fun z => by
    rw [z, w.nb] at hq
    cases hq
  have nl : q ≠ l := fun z => by
    rw [z, w.nl] at hq
    cases hq
  obtain ⟨ns, i, c, s, h1, h2, r⟩ := w.bag
  refine ⟨?_, ?_, fun a u e => ?_, ns, i, c, s, ?_, ?_, r⟩
  · rw [upd_ne nb.symm]
    exact w.nb
  · rw [upd_ne nl.symm]
    exact w.nl
  · by_cases h : a = q
    · rw [h, upd_same] at e ⊢
      exact e
    · rw [upd_ne h] at e ⊢
      exact w.sm _ _ e
  · rw [upd_ne nb.symm]
    exact h1
  · rw [upd_ne nl.symm]
    exact h2
/-- what a def leaves that knows nothing of the bag: G' has more, new things -/
theorem Wd.grow (w : Wd b l G H) (e : Same H H') (g : Same G' H') (n : ∀ a o, G' a = some o → G a = none → H a = none) : Wd b l G' H' := by
  have key : ∀ a, G a = none → (∃ o, H a = some o) → G' a = none := fun a ha ⟨o, ho⟩ => by
    cases q : G' a with
    | none => rfl
    | some u =>
      have z := n a u q ha
      rw [ho] at z
      cases z
  exact ⟨key _ w.nb w.bag.b_some, key _ w.nl w.bag.l_some, g, w.bag.same e⟩
/-- the bag alone changes -/
theorem Wd.bagged (w : Wd b l G H) (h : BagAt b l (upd H b o)) : Wd b l G (upd H b o) := by
  refine ⟨w.nb, w.nl, fun a u e => ?_, h⟩
  rw [upd_ne (ne_of_none e w.nb)]
  exact w.sm _ _ e
end
theorem p31 : (0 : Int) < 2147483647 := by decide
theorem p8117 : (0 : Int) < 8117 := by decide
/-! ### the promises of the bag's defs -/
def spBag (K : PySem.W.Frag) : Sp := fun vs H Q _ => ∃ (a : Addr) (ns : List Int), vs = [.ref a] ∧ SqL K H a (ns.map V.int) ∧ ns.length ≤ 63 ∧ ∀ (b l : Addr) (H' : Hp), H b = none → H l = none → Same H H' → BagAt b l H' → Q (.ref b) H'
def spDraw : Sp := fun vs H Q _ => ∃ (b l : Addr) (G : Hp) (n : Int), vs = [.ref b, .int n] ∧ 0 < n ∧ n < 1073741824 ∧ Wd b l G H ∧ ∀ (r : Int) (H' : Hp), 0 ≤ r → r < n → Wd b l G H' → Q (.int r) H'
/-- the same, by what any def that draws may lean on -/
theorem wd_start {b l : Addr} {H H' : Hp} (hb : H b = none) (hl : H l = none) (e : Same H H') (h : BagAt b l H') : Wd b l H H' := ⟨hb, hl, e, h⟩
theorem get_map {ns : List Int} {i : Nat} {v : V} (h : (ns.map V.int)[i]? = some v) : ∃ z, ns[i]? = some z ∧ v = .int z := by
  rw [List.getElem?_map] at h
  cases e : ns[i]? with
  | none =>
    rw [e] at h
    cases h
  | some z =>
    rw [e] at h
    exact ⟨z, rfl, (Option.some.inj h).symm⟩
theorem at_nn {α : Type} {xs : List α} {i : Int} {v : α} (h0 : 0 ≤ i) (h : xs[i.toNat]? = some v) : atI xs i = some v := by
  have e : i = ((i.toNat : Nat) : Int) := by omega
  rw [e]
  exact atI_nat h
theorem at_lt {α : Type} {xs : List α} {i : Int} (h0 : 0 ≤ i) (h1 : i < (xs.length : Int)) : ∃ v, atI xs i = some v ∧ v ∈ xs := by
  have h : i.toNat < xs.length := by omega
  exact ⟨xs[i.toNat], at_nn h0 (List.getElem?_eq_getElem h), List.getElem_mem h⟩
end Bh

set_option Elab.async false
set_option linter.all false
set_option maxRecDepth 100000
namespace Bh
open PySem PySem.Spec PyProof.Rows L2
/-! ### one of two rules -/
section
variable {X : Cx}
theorem pe_or {e : Expr} {t u : TE} (h1 : PE X e t) (h2 : PE X e u) : PE X e (fun σ H Q => t σ H Q ∨ u σ H Q) :=
  ⟨fun pins s σ H Q I h => h.elim (h1.run pins s σ H Q I) (h2.run pins s σ H Q I)⟩
theorem pi_or {tg it : Expr} {w v : TI} (h1 : PI X tg it w) (h2 : PI X tg it v) : PI X tg it (fun σ H R => w σ H R ∨ v σ H R) :=
  ⟨fun pins s σ H R I h => h.elim (h1.run pins s σ H R I) (h2.run pins s σ H R I)⟩
/-- a list or a tuple -/
theorem pi_seq {tg l : Expr} {tl : TE} (hl : PE X l tl) : PI X tg l (fun σ H R => iList X.K tl σ H R ∨ iTup X.K tl σ H R) := pi_or (pi_list hl) (pi_tup hl)
/-- f(k = v, ..) -/
theorem pe_callN0 {CX : CXT} {k : Nat} {f : Addr} {fd : FuncData} {ps ks : List Str} {sp : Sp} {E : XK} {x : Str} {p pos : Pos} {kws : List Keyword} {tk : TA} {g : List Value → List Value → List Value} {gV : List V → List V → List V}
    (F : FnOk X.prog X.w X.K X.mg X.base CX k f fd ps sp) (hr : Room k X.A) (hg : Gl X x) (hm : X.mg x = some (.ref f)) (hk : PySem.W.keepIn X.K (.ref f) = true) (hb : KBn X.K fd ps 0 ks g gV) (hx : Passes CX X E)
    (hkw : PK X kws tk) (hall : (backToKw pos (keywordEach kws X.env)).all (·.1.isSome) = true := by rfl) (hks : (backToKw pos (keywordEach kws X.env)).filterMap (·.1) = ks := by rfl)
    (hdb : (x == ("__debug__" : Str)) = false := by decide) (hpl : ((backTo pos (starEach [] X.env)).any (·.1) || (backToKw pos (keywordEach kws X.env)).any (·.1.isNone)) = false := by rfl) :
    PE X (.Call (.Name x p) [] kws pos) (tCallN 0 ks.length sp gV E tNil tk) := by
  refine ⟨fun pins s σ H Q I h => ?_⟩
  refine wpAny_Call_Name_kw (ld_glob I hg hm ?_ hdb)
  refine PySem.W.callWith_KW0 (h₀ := X.base) I.ok.mod.kin hk hall ?_ hpl
  refine thn (hkw.run pos pins s σ H _ I h) fun ws s2 ⟨zs, H2, I2, rz, l1, l2, q2⟩ => ⟨I2.kIn, ?_⟩
  rw [hks]
  exact run_fnN (us := []) (vs := []) F hr hb hx I2 .nil rz rfl l2 q2
end
/-! ### data of any depth -/
section
variable {K : PySem.W.Frag} {H H' : Hp} {v x y : V} {xs ys : List V} {d e : PyData} {ds es : List PyData} {a : Addr}
mutual
theorem Dp.mono (g : Same H H') : ∀ {v : V} {d : PyData}, Dp K H v d → Dp K H' v d
  | _, _, .non => .non
  | _, _, .bl b => .bl b
  | _, _, .int i => .int i
  | _, _, .str x => .str x
  | _, _, .lst h all => .lst (g.seq h) (DpAll.mono g all)
  | _, _, .tup h all => .tup (Same.tup g h) (DpAll.mono g all)
theorem DpAll.mono (g : Same H H') : ∀ {vs : List V} {ds : List PyData}, DpAll K H vs ds → DpAll K H' vs ds
  | _, _, .nil => .nil
  | _, _, .cons h t => .cons (Dp.mono g h) (DpAll.mono g t)
end
theorem DpAll.length : ∀ {xs : List V} {ds : List PyData}, DpAll K H xs ds → xs.length = ds.length
  | _, _, .nil => rfl
  | _, _, .cons _ t => congrArg Nat.succ (DpAll.length t)
theorem DpAll.get : ∀ {xs : List V} {ds : List PyData} {i : Nat} {x : V}, DpAll K H xs ds → xs[i]? = some x → ∃ d, ds[i]? = some d ∧ Dp K H x d
  | _, _, _, _, .nil, e => by simp at e
  | _, _, 0, _, .cons h _, e => by
    simp at e
    subst e
    exact ⟨_, rfl, h⟩
  | _, _, i + 1, x, .cons _ t, e => by
    obtain ⟨d, h1, h2⟩ := DpAll.get (i := i) (x := x) t (by simpa using e)
    exact ⟨d, by simpa using h1, h2⟩
theorem DpAll.getD : ∀ {xs : List V} {ds : List PyData} {i : Nat} {d : PyData}, DpAll K H xs ds → ds[i]? = some d → ∃ x, xs[i]? = some x ∧ Dp K H x d
  | _, _, _, _, .nil, e => by simp at e
  | _, _, 0, _, .cons h _, e => by
    simp at e
    subst e
    exact ⟨_, rfl, h⟩
  | _, _, i + 1, x, .cons _ t, e => by
    obtain ⟨d, h1, h2⟩ := DpAll.getD (i := i) (d := x) t (by simpa using e)
    exact ⟨d, by simpa using h1, h2⟩
theorem DpAll.append : ∀ {xs ys : List V} {ds es : List PyData}, DpAll K H xs ds → DpAll K H ys es → DpAll K H (xs ++ ys) (ds ++ es)
  | _, _, _, _, .nil, k => k
  | _, _, _, _, .cons h t, k => .cons h (DpAll.append t k)
theorem DpAll.take : ∀ {xs : List V} {ds : List PyData} (n : Nat), DpAll K H xs ds → DpAll K H (xs.take n) (ds.take n)
  | _, _, 0, _ => .nil
  | _, _, _ + 1, .nil => .nil
  | _, _, n + 1, .cons h t => .cons h (DpAll.take n t)
theorem DpAll.drop : ∀ {xs : List V} {ds : List PyData} (n : Nat), DpAll K H xs ds → DpAll K H (xs.drop n) (ds.drop n)
  | _, _, 0, h => h
  | _, _, _ + 1, .nil => .nil
  | _, _, n + 1, .cons _ t => DpAll.drop n t
theorem dp_strs : ∀ {xs : List V} {zs : List Str}, DpAll K H xs (zs.map PyData.str) → xs = zs.map V.str
  | _, [], .nil => rfl
  | _, z :: zs, .cons h t => by
    cases h
    rw [dp_strs t]
    rfl
theorem strs_dp : ∀ (zs : List Str), DpAll K H (zs.map V.str) (zs.map PyData.str)
  | [] => .nil
  | z :: zs => .cons (.str z) (strs_dp zs)
theorem dp_str {z : Str} (h : Dp K H v (.str z)) : v = .str z := by
  cases h
  rfl
theorem dp_non (h : Dp K H v .none) : v = .non := by
  cases h
  rfl
theorem dp_tup (h : Dp K H v (.tuple ds)) : ∃ a xs, v = .ref a ∧ SqT K H a xs ∧ DpAll K H xs ds := by
  cases h with
  | tup h1 h2 => exact ⟨_, _, rfl, h1, h2⟩
theorem dp_lst (h : Dp K H v (.list ds)) : ∃ a xs, v = .ref a ∧ SqL K H a xs ∧ DpAll K H xs ds := by
  cases h with
  | lst h1 h2 => exact ⟨_, _, rfl, h1, h2⟩
theorem dpa_cons (h : DpAll K H xs (d :: ds)) : ∃ x r, xs = x :: r ∧ Dp K H x d ∧ DpAll K H r ds := by
  cases h with
  | cons h1 h2 => exact ⟨_, _, rfl, h1, h2⟩
theorem dpa_nil (h : DpAll K H xs []) : xs = [] := by
  cases h
  rfl
/-- a list or a tuple of these -/
def DpS (K : PySem.W.Frag) (H : Hp) (v : V) (ds : List PyData) : Prop := ∃ a xs, v = .ref a ∧ (SqL K H a xs ∨ SqT K H a xs) ∧ DpAll K H xs ds
theorem DpS.mono (g : Same H H') (h : DpS K H v ds) : DpS K H' v ds := by
  obtain ⟨a, xs, e, h1, h2⟩ := h
  exact ⟨a, xs, e, h1.imp g.seq (Same.tup g), DpAll.mono g h2⟩
theorem DpS.ofT (h : Dp K H v (.tuple ds)) : DpS K H v ds := by
  obtain ⟨a, xs, e, h1, h2⟩ := dp_tup h
  exact ⟨a, xs, e, .inr h1, h2⟩
theorem DpS.ofL (h : Dp K H v (.list ds)) : DpS K H v ds := by
  obtain ⟨a, xs, e, h1, h2⟩ := dp_lst h
  exact ⟨a, xs, e, .inl h1, h2⟩
/-- how deep data are -/
inductive Sh : Nat → PyData → Prop
  | non {n : Nat} : Sh n .none
  | bl {n : Nat} {b : Bool} : Sh n (.bool b)
  | int {n : Nat} {i : Int} : Sh n (.int i)
  | str {n : Nat} {z : Str} : Sh n (.str z)
  | lst {n : Nat} {ds : List PyData} (hl : ds.length ≤ 100000) (h : ∀ d ∈ ds, Sh n d) : Sh (n + 1) (.list ds)
  | tup {n : Nat} {ds : List PyData} (hl : ds.length ≤ 100000) (h : ∀ d ∈ ds, Sh n d) : Sh (n + 1) (.tuple ds)
theorem tyL (h : SqL K H a xs) : TyX K H (.ref a) (.type "list") := by
  rcases h with (h | ⟨o, h⟩) | ⟨o, its, n, h1, h2, _⟩
  · exact .base (.lst h)
  · exact .base (.frz h)
  · exact .kList h1 h2
theorem tyT (h : SqT K H a xs) : TyX K H (.ref a) (.type "tuple") := by
  rcases h with (h | ⟨o, h⟩) | ⟨o, its, n, h1, h2, _⟩
  · exact .base (.tup h)
  · exact .fTuple h
  · exact .kTuple h1 h2
/-- the type of data, by its name -/
def tyN : PyData → String
  | .none => "NoneType"
  | .bool _ => "bool"
  | .int _ => "int"
  | .str _ => "str"
  | .list _ => "list"
  | .tuple _ => "tuple"
  | .dict _ => "dict"
theorem tyD (h : Dp K H v d) : TyX K H v (.type (tyN d)) := by
  cases h with
  | non => exact .base .non
  | bl b => exact .base (.bl b)
  | int i => exact .base (.int i)
  | str x => exact .base (.str x)
  | lst h1 h2 => exact tyL h1
  | tup h1 h2 => exact tyT h1
end
/-! ### zip of two tuples, as a walk -/
theorem walk_zipT {K : PySem.W.Frag} {a b : Addr} {xs ys : List V} {n : Nat} (hn : n = min xs.length ys.length) : Walk (RZ.ItzT K a b) n (fun H => SqT K H a xs ∧ SqT K H b ys) (YPair (fun i => xs[i]?) (fun i => ys[i]?)) := by
  subst hn
  refine ⟨fun i _ hi q => ?_, fun _ q => ⟨xs, ys, q.1, q.2, by omega⟩, fun i H v H' _ q y => ?_⟩
  · have h1 : i < xs.length := by omega
    have h2 : i < ys.length := by omega
    exact ⟨xs, ys, xs[i], ys[i], q.1, q.2, by simp [h1], by simp [h2]⟩
  · obtain ⟨T, x, z, h1, h2, h3, h4, h5⟩ := y
    exact ⟨T, x, z, h1, h2, h3, h4 xs q.1, h5 ys q.2⟩
end Bh
namespace Bh
open PySem PySem.Spec PyProof.Rows L2
theorem iteN {p A B : Prop} [Decidable p] (h : ¬ p) (b : B) : if decide p = true then A else B := by
  rw [decide_eq_false h]
  exact iteF b
theorem iteY {p A B : Prop} [Decidable p] (h : p) (a : A) : if decide p = true then A else B := by
  rw [decide_eq_true h]
  exact iteT a
theorem ite3 {p A B : Prop} [Decidable p] (h1 : p → A) (h2 : ¬ p → B) : if decide p = true then A else B := by
  by_cases h : p
  · exact iteY h (h1 h)
  · exact iteN h (h2 h)
/-- the promise of the laws' comparison: both sides are the same data (n: how deep, one more) -/
def spLk (K : PySem.W.Frag) : Nat → Sp
  | 0 => fun _ _ _ _ => False
  | n + 1 => fun vs H Q _ => ∃ (x y : V) (d : PyData), vs = [x, y] ∧ Dp K H x d ∧ Dp K H y d ∧ Sh n d ∧ ∀ H', Same H H' → Q (.bl true) H'
theorem bls_true (n : Nat) : (List.replicate n true).all id = true := by
  induction n with
  | zero => rfl
  | succ n ih => rw [List.replicate_succ, List.all_cons, ih]; rfl
end Bh

set_option Elab.async false
set_option linter.all false
set_option maxRecDepth 100000
namespace Bh
open PySem PySem.Spec PyProof.Rows L2
/-! ### the rules that lean on the written part, told over a named one -/
def rLenS (K : PySem.W.Frag) : List V → Hp → VK → Prop := fun xs H Q => ∃ p ys, xs = [.ref p] ∧ (SqL K H p ys ∨ SqT K H p ys) ∧ Q (.int ys.length) H
def rListOf (K : PySem.W.Frag) : List V → Hp → VK → Prop := fun xs H Q => ∃ p ys, xs = [.ref p] ∧ (SqL K H p ys ∨ SqT K H p ys) ∧ ∀ l, H l = none → Q (.ref l) (upd H l (.lst ys))
def rTupOf (K : PySem.W.Frag) : List V → Hp → VK → Prop := fun xs H Q => ∃ p ys, xs = [.ref p] ∧ ((SqL K H p ys ∧ ∀ l, H l = none → Q (.ref l) (upd H l (.tup ys))) ∨ (SqT K H p ys ∧ Q (.ref p) H))
def rTupIx (K : PySem.W.Frag) : V → List V → Hp → VK → Prop := fun x xs H Q => ∃ p, ∃ ys : List Str, ∃ z j, x = .ref p ∧ xs = [.str z] ∧ SqT K H p (ys.map V.str) ∧ ys[j]? = some z ∧ (∀ m, m < j → ys[m]? ≠ some z) ∧ Q (.int (j : Nat)) H
def rJoin (K : PySem.W.Frag) : V → List V → Hp → VK → Prop := fun x xs H Q => ∃ a p, ∃ ys : List Str, x = .str a ∧ xs = [.ref p] ∧ (SqL K H p (ys.map V.str) ∨ SqT K H p (ys.map V.str)) ∧ (ys.map (·.length)).sum + ys.length * a.length ≤ 16777216 ∧ Q (.str (Txt.join a ys)) H
def iSeq (K : PySem.W.Frag) (tl : TE) : TI := fun σ H R => iList K tl σ H R ∨ iTup K tl σ H R
section
variable {X : Cx} {K : PySem.W.Frag} (hK : X.K = K)
include hK
theorem pg_tup_K {es : List Expr} {k : Nat} {t : TGs} {n : Nat} {pos : Pos} (hc : X.calm = true) (h : PGs X es t) (hn : (assignEach es X.env).length = n := by rfl) (hst : (assignEach es X.env).findIdx? (·.1) = none := by rfl) : PG X (.Tuple es k pos) (gTup K n t) := by
  subst hK
  exact pg_tup hc h hn hst
theorem pi_list_K {tg l : Expr} {tl : TE} (hl : PE X l tl) : PI X tg l (iList K tl) := by subst hK; exact pi_list hl
theorem pi_tup_K {tg l : Expr} {tl : TE} (hl : PE X l tl) : PI X tg l (iTup K tl) := by subst hK; exact pi_tup hl
theorem pi_seq_K {tg l : Expr} {tl : TE} (hl : PE X l tl) : PI X tg l (iSeq K tl) := by subst hK; exact pi_seq hl
theorem pi_zipA_K {e e2 : Expr} {ta : TA} {p pos tpos : Pos} {elts : List Expr} {kk : Nat} (hg : Gl X "zip") (hm : X.mg "zip" = none) (ha : PA X [e, e2] ta)
    (hs : starEach [e, e2] X.env = (false, eval e X.env) :: starEach [e2] X.env := by rfl) (hpl : (backTo pos (starEach [e2] X.env)).any (·.1) = false := by rfl) :
    PI X (.Tuple elts kk tpos) (.Call (.Name "zip" p) [e, e2] [] pos) (RZ.iZipA K ta) := by subst hK; exact RZ.pi_zipA hg hm ha hs hpl
theorem call_len_seq_K : CallR X (.builtin "len") (rLenS K) := by subst hK; exact call_len_seq
theorem call_list_of_K : CallR X (.type "list") (rListOf K) := by subst hK; exact call_list_of
theorem call_tuple_of_K : CallR X (.type "tuple") (rTupOf K) := by subst hK; exact call_tuple_of
theorem ix_list_K : IxR X (rIxL K) := by subst hK; exact ix_list
theorem ix_tup_K : IxR X (rIxT K) := by subst hK; exact ix_tup
theorem ix_seq_K : IxR X (rIx K) := by subst hK; exact ix_seq
theorem sl_list_K : SlR X (rSlL K) := by subst hK; exact sl_list
theorem sl_tupA_K : SlR X (rSlA K) := by subst hK; exact sl_tupA
theorem cr_all_K (hc : X.calm = true) : CallR X (.builtin "all") (rAll K) := by subst hK; exact cr_all hc
theorem cr_any_K (hc : X.calm = true) : CallR X (.builtin "any") (rAny K) := by subst hK; exact cr_any hc
theorem op_in_seq_K : OpR X (compareOp .In) (rIn K false) := by subst hK; exact op_in_seq
theorem op_notIn_seq_K : OpR X (compareOp .NotIn) (rIn K true) := by subst hK; exact op_notIn_seq
theorem op_catA_K : OpR X (binaryOp .Add) (rCatA K) := by subst hK; exact op_catA
theorem op_repT_K : OpR X (binaryOp .Mult) (rRepT K) := by subst hK; exact op_repT
theorem mt_index_K : MtR X "list.index" (rIndex K) := by subst hK; exact mt_index
theorem mt_tup_index_K : MtR X "tuple.index" (rTupIx K) := by subst hK; exact mt_tup_index
theorem mt_join_K : MtR X "str.join" (rJoin K) := by subst hK; exact mt_join
theorem call_isi_K : CallR X (.builtin "isinstance") (rIsi K) := by subst hK; exact call_isi
theorem call_isiT_K : CallR X (.builtin "isinstance") (rIsiT K) := by subst hK; exact call_isiT
theorem op_eqD_K (hu : X.A.units + 64 < cLine) : OpR X (compareOp .Eq) (rEqD K) := by subst hK; exact op_eqD hu
theorem op_neD_K (hu : X.A.units + 64 < cLine) : OpR X (compareOp .NotEq) (rNeD K) := by subst hK; exact op_neD hu
theorem pe_bm_K {o e : Expr} {es : List Expr} {to : TE} {t : TA} {name : Str} {apos cpos : Pos} {T id : String} {r : V → List V → Hp → VK → Prop}
    (pa : PlainAttrs T) (slot : Slot T name id) (hty : typeOf (.builtin id) = pure (.type "method_descriptor")) (hm : MtR X id r) (ho : PE X o to) (ha : PA X (e :: es) t)
    (hbase : attributeBase o name X.env (eval o X.env) = eval o X.env := by rfl)
    (hfew : ((backTo cpos (starEach (e :: es) X.env)).all (fun x => !x.1) && (backToKw cpos (keywordEach [] X.env)).all (fun x => x.1.isSome)
      && decide ((e :: es).length + ([] : List Keyword).length + (if ([] : List Keyword).isEmpty then 0 else 1) < 30)) = true := by rfl)
    (hline : (apos.endLine == cpos.line) = true := by rfl) (hs : starEach (e :: es) X.env = (false, eval e X.env) :: starEach es X.env := by rfl) (hplain : (backTo cpos (starEach es X.env)).any (·.1) = false := by rfl) :
    PE X (.Call (.Attribute o name apos) (e :: es) [] cpos) (tBM K T r to t) := by subst hK; exact pe_bm pa slot hty hm ho ha hbase hfew hline hs hplain
end
section
variable {X : Cx} {K : PySem.W.Frag} {o e : Expr} {to te : TE}
theorem pe_join_K (hK : X.K = K) {apos pos : Pos} (ho : PE X o to) (he : PE X e te) (hs : starEach [e] X.env = [(false, eval e X.env)] := by rfl) (hbase : attributeBase o "join" X.env (eval o X.env) = eval o X.env := by rfl) (hline : (apos.endLine == pos.line) = true := by rfl) :
    PE X (.Call (.Attribute o "join" apos) [e] [] pos) (tM1 (rJoin K) to te) := pe_m1 PySem.F.slot_str_join PySem.F.type_str_join (mt_join_K hK) ho he hs hbase hline
end
end Bh
namespace Bh
open PySem PySem.Spec PyProof.Rows L2
theorem q_eq {x : V} {Q : VK} {H : Hp} (h : Q (.bl true) H) : Q (.bl (decide (x = x))) H := by
  rw [decide_eq_true rfl]
  exact h
theorem dpa_at {K : PySem.W.Frag} {H : Hp} {xs ys : List V} {ds : List PyData} {i : Nat} {x y : V} (hx : DpAll K H xs ds) (hy : DpAll K H ys ds) (ex : xs[i]? = some x) (ey : ys[i]? = some y) : ∃ d ∈ ds, Dp K H x d ∧ Dp K H y d := by
  obtain ⟨d, h1, h2⟩ := DpAll.get hx ex
  obtain ⟨e, h3, h4⟩ := DpAll.get hy ey
  rw [h1] at h3
  cases h3
  exact ⟨d, List.mem_of_getElem? h1, h2, h4⟩
theorem rep_snoc (n : Nat) (v : V) : List.replicate n v ++ [v] = List.replicate (n + 1) v := List.replicate_succ'.symm
theorem lt_line {n : Nat} (h : n ≤ 100000) : n < sizeLine := Nat.lt_of_le_of_lt h (by decide)
theorem le_line {n : Nat} (h : n ≤ 100000) : n ≤ sizeLine := Nat.le_of_lt (lt_line h)
end Bh
namespace Bh
open PySem PySem.Spec PyProof.Rows L2
/-! ### tuples without a dict of their own: their methods -/
def SqP (K : PySem.W.Frag) (H : Hp) (a : Addr) (xs : List V) : Prop := (∃ o : Obj, H a = some (.frz o (.tup xs)) ∧ o.dict = none) ∨
  ∃ (o : Obj) (its : Array Value) (n : Nat), K.lookup a = some o ∧ o.cls = .type "tuple" ∧ o.dict = none ∧ o.data = .seq its n ∧ its.size ≤ sizeLine ∧ Vals xs its.toList
section
variable {K : PySem.W.Frag} {H H' : Hp} {a : Addr} {xs : List V}
theorem SqP.sqT (h : SqP K H a xs) : SqT K H a xs := by
  rcases h with ⟨o, h, _⟩ | ⟨o, its, n, h1, h2, _, h3, h4, h5⟩
  · exact .inl (.inr ⟨o, h⟩)
  · exact .inr ⟨o, its, n, h1, h2, h3, h4, h5⟩
theorem SqP.mono (e : Same H H') (h : SqP K H a xs) : SqP K H' a xs := by
  rcases h with ⟨o, h, h2⟩ | h
  · exact .inl ⟨o, e _ _ h, h2⟩
  · exact .inr h
theorem SqP.new {o : Obj} (h : o.dict = none) : SqP K (upd H a (.frz o (.tup xs))) a xs := .inl ⟨o, upd_same, h⟩
end
def rTupOfP (K : PySem.W.Frag) : List V → Hp → VK → Prop := fun xs H Q => ∃ p ys, xs = [.ref p] ∧ ((SqL K H p ys ∧ ∀ (l : Addr) (o : Obj), H l = none → o.dict = none → Q (.ref l) (upd H l (.frz o (.tup ys)))) ∨ (SqT K H p ys ∧ Q (.ref p) H))
section
variable {X : Cx} {K : PySem.W.Frag}
theorem call_tuple_of_P (hK : X.K = K) : CallR X (.type "tuple") (rTupOfP K) := by
  subst hK
  intro pins s σ H xs us Q I r h
  obtain ⟨p, ys, rfl, h⟩ := h
  obtain ⟨u, rfl, rx⟩ := vals1 r
  cases rx
  rcases h with ⟨hq, q⟩ | ⟨hq, q⟩
  · obtain ⟨its, r', pl, hz⟩ := I.list hq
    have hlen := r'.length
    refine call_tuple_list pl.isList (fun h' kp => ?_) (by simp only [List.size_toArray] <;> omega)
    have I1 : Inv X pins σ H { s with heap := h' } := I.kept (t' := s.toks) kp
    have I2 : Inv X pins σ (upd H h'.objs.size (.frz { cls := .type "tuple", data := .seq its.toArray } (.tup ys))) { s with heap := h'.push { cls := .type "tuple", data := .seq its.toArray } } :=
      I1.laid (t' := s.toks) (fun b o e => Heap.get?_push_of_some _ e) (Nat.le_refl _) (show ObjOk X.prog X.w _ _ _ (.frz { cls := .type "tuple", data := .seq its.toArray } (.tup ys)) from ⟨Heap.get?_push_size _ rfl, hz, its, r', IsTup.new _ _⟩)
    exact ⟨.ref h'.objs.size, _, I2, rfl, q _ _ (I1.hok.fresh (Nat.le_refl _)) rfl⟩
  · obtain ⟨its, r', pl, hz⟩ := I.tuple hq
    exact call_tuple_same pl ⟨.ref p, H, I, rfl, q⟩
def tBMP (K : PySem.W.Frag) (r : V → List V → Hp → VK → Prop) (to : TE) (t : TA) : TE := fun σ H Q => to σ H fun x H1 => (∃ a xs, x = .ref a ∧ SqP K H1 a xs) ∧ t σ H1 fun xs H2 => r x xs H2 Q
theorem pe_bm_P (hK : X.K = K) {o e : Expr} {es : List Expr} {to : TE} {t : TA} {name : Str} {apos cpos : Pos} {id : String} {r : V → List V → Hp → VK → Prop}
    (pa : PlainAttrs "tuple") (slot : Slot "tuple" name id) (hty : typeOf (.builtin id) = pure (.type "method_descriptor")) (hm : MtR X id r) (ho : PE X o to) (ha : PA X (e :: es) t)
    (hbase : attributeBase o name X.env (eval o X.env) = eval o X.env := by rfl)
    (hfew : ((backTo cpos (starEach (e :: es) X.env)).all (fun x => !x.1) && (backToKw cpos (keywordEach [] X.env)).all (fun x => x.1.isSome)
      && decide ((e :: es).length + ([] : List Keyword).length + (if ([] : List Keyword).isEmpty then 0 else 1) < 30)) = true := by rfl)
    (hline : (apos.endLine == cpos.line) = true := by rfl) (hs : starEach (e :: es) X.env = (false, eval e X.env) :: starEach es X.env := by rfl) (hplain : (backTo cpos (starEach es X.env)).any (·.1) = false := by rfl) :
    PE X (.Call (.Attribute o name apos) (e :: es) [] cpos) (tBMP K r to t) := by
  subst hK
  refine ⟨fun pins s σ H Q I h => ?_⟩
  refine wpAny_Call_method_late hbase hfew hline rfl (thn (ho.run pins s σ H _ I h) fun v s1 ⟨x, H1, I1, r1, ty, q1⟩ => ?_)
  have hty2 : s1.TypeIs v "tuple" ∧ ∀ a, v = .ref a → ∃ ob, s1.heap.get? a = some ob ∧ ob.dict = none := by
    obtain ⟨a, xs, rfl, hP⟩ := ty
    cases r1
    obtain ⟨its, _, pl, _⟩ := I1.tuple hP.sqT
    refine ⟨pl.typeIs, fun b e => ?_⟩
    cases e
    rcases hP with ⟨ob, hb, hd⟩ | ⟨ob, its, n, hk, hc, hd, _⟩
    · exact ⟨ob, (I1.hok a _ hb).1, hd⟩
    · exact ⟨ob, I1.kIn a ob hk, hd⟩
  obtain ⟨h1, h2⟩ := hty2
  refine ⟨"tuple", id, pa, slot, hty, h1, h2, ?_⟩
  have hA := ha.run cpos pins s1 σ H1 _ I1 q1
  rw [hs] at hA ⊢
  refine Calls.callWith_builtin (by show (false || (backTo cpos (starEach es X.env)).any (·.1)) = false; rw [hplain] <;> rfl) (Calls.evalArgs_plain ?_)
  exact thn hA fun us s2 ⟨vs, H2, I2, r2, q2⟩ => hm pins s2 σ H2 x vs v us Q I2 r1 r2 q2
end
end Bh
namespace Bh
open PySem PySem.Spec PyProof.Rows L2
/-! ### == and != of data of any texts -/
mutual
theorem Dp.plain {K : PySem.W.Frag} {H : Hp} : ∀ {v : V} {d : PyData}, Dp K H v d → d.plain = true
  | _, _, .non => rfl
  | _, _, .bl _ => rfl
  | _, _, .int _ => rfl
  | _, _, .str _ => rfl
  | _, _, .lst _ all => DpAll.plain all
  | _, _, .tup _ all => DpAll.plain all
theorem DpAll.plain {K : PySem.W.Frag} {H : Hp} : ∀ {vs : List V} {ds : List PyData}, DpAll K H vs ds → PyData.plainAll ds = true
  | _, _, .nil => rfl
  | _, _, .cons h t => by
    show (_ && _) = true
    rw [Dp.plain h, DpAll.plain t]
    rfl
end
def rEqP (K : PySem.W.Frag) : R2 := fun x y H Q => ∃ d e, Dp K H x d ∧ Dp K H y e ∧ min d.depth e.depth ≤ 64 ∧ Q (.bl (PyData.eqv d e)) H
def rNeP (K : PySem.W.Frag) : R2 := fun x y H Q => ∃ d e, Dp K H x d ∧ Dp K H y e ∧ min d.depth e.depth ≤ 64 ∧ Q (.bl (!PyData.eqv d e)) H
section
variable {X : Cx} {K : PySem.W.Frag}
theorem op_eqP (hK : X.K = K) (hu : X.A.units + 64 < cLine) : OpR X (compareOp .Eq) (rEqP K) := by
  subst hK
  intro pins s σ H x y v u Q I rx ry h
  obtain ⟨d, e, hd, he, hz, q⟩ := h
  obtain ⟨as, r1⟩ := Dp.reads I d x v hd rx
  obtain ⟨bs, r2⟩ := Dp.reads I e y u he ry
  exact SeqAt.eq_plain r1 r2 (Dp.plain hd) (Dp.plain he) (by omega) ⟨.bl _, H, I, rfl, q⟩
theorem op_neP (hK : X.K = K) (hu : X.A.units + 64 < cLine) : OpR X (compareOp .NotEq) (rNeP K) := by
  subst hK
  intro pins s σ H x y v u Q I rx ry h
  obtain ⟨d, e, hd, he, hz, q⟩ := h
  obtain ⟨as, r1⟩ := Dp.reads I d x v hd rx
  obtain ⟨bs, r2⟩ := Dp.reads I e y u he ry
  exact SeqAt.ne_plain r1 r2 (Dp.plain hd) (Dp.plain he) (by omega) ⟨.bl _, H, I, rfl, q⟩
end
theorem depth_all {n : Nat} : ∀ {ds : List PyData}, (∀ d ∈ ds, d.depth ≤ n) → PyData.depthAll ds ≤ n
  | [], _ => Nat.zero_le _
  | d :: ds, h => Nat.max_le.mpr ⟨h d (List.mem_cons_self ..), depth_all fun e he => h e (List.mem_cons_of_mem _ he)⟩
theorem Sh.depth {n : Nat} {d : PyData} (h : Sh n d) : d.depth ≤ n := by
  induction h with
  | non => exact Nat.zero_le _
  | bl => exact Nat.zero_le _
  | int => exact Nat.zero_le _
  | str => exact Nat.zero_le _
  | lst _ _ ih => exact Nat.succ_le_succ (depth_all ih)
  | tup _ _ ih => exact Nat.succ_le_succ (depth_all ih)
end Bh
namespace Bh
open PySem PySem.Spec PyProof.Rows L2
theorem seq_mono {K : PySem.W.Frag} {H H' : Hp} {a : Addr} {xs : List V} (e : Same H H') (h : SqL K H a xs ∨ SqT K H a xs) : SqL K H' a xs ∨ SqT K H' a xs := h.imp e.seq (Same.tup e)
/-- a new thing, changed since -/
theorem same_mut {H H' : Hp} {p : Addr} {o : HO} (e : Same H H') (h : H p = none) : Same H (upd H' p o) := fun b u k => by
  rw [upd_ne (ne_of_none k h)]
  exact e _ _ k
theorem Wd.sameH {b l : Addr} {G H : Hp} (w : Wd b l G H) : Same G H := w.sm
end Bh
namespace Bh
open PySem PySem.Spec PyProof.Rows L2
/-! ### a heap without one address -/
def hid (p : Addr) (G : Hp) : Hp := fun a => if a = p then none else G a
section
variable {p q : Addr} {G G' : Hp} {o : HO}
theorem hid_ne (h : q ≠ p) : hid p G q = G q := if_neg h
theorem hid_le : Same (hid p G) G := fun a u e => by
  by_cases h : a = p
  · rw [h] at e
    unfold hid at e
    rw [if_pos rfl] at e
    cases e
  · rw [hid_ne h] at e
    exact e
theorem hid_same (e : Same G G') : Same (hid p G) (hid p G') := fun a u k => by
  by_cases h : a = p
  · rw [h] at k
    unfold hid at k
    rw [if_pos rfl] at k
    cases k
  · rw [hid_ne h] at k ⊢
    exact e _ _ k
theorem hid_upd : hid p (upd G p o) = hid p G := by
  funext a
  by_cases h : a = p
  · unfold hid
    rw [if_pos h, if_pos h]
  · rw [hid_ne h, hid_ne h, upd_ne h]
theorem hid_of (e : Same G G') (h : G p = none) : Same G (hid p G') := fun a u k => by
  rw [hid_ne (ne_of_none k h)]
  exact e _ _ k
theorem hid_comm : hid p (hid q G) = hid q (hid p G) := by
  funext a
  unfold hid
  split <;> split <;> rfl
end
end Bh
namespace Bh
open PySem PySem.Spec PyProof.Rows L2
/-! ### what is no list stays where lists alone change -/
def Imm (H H' : Hp) : Prop := ∀ a u, H a = some u → (∀ xs, u ≠ .lst xs) → H' a = some u
section
variable {H H' H1 : Hp} {a p : Addr} {o : HO} {xs ys : List V} {K : PySem.W.Frag}
theorem Same.imm (e : Same H H') : Imm H H' := fun a u h _ => e a u h
theorem Imm.trans (e : Imm H H1) (f : Imm H1 H') : Imm H H' := fun a u h n => f a u (e a u h n) n
theorem imm_upd (h : H p = some (.lst ys)) : Imm H (upd H p o) := fun a u e n => by
  rw [upd_ne (fun z => by rw [z, h] at e; exact n _ (Option.some.inj e).symm)]
  exact e
theorem Imm.tup (e : Imm H H') (h : SqT K H a xs) : SqT K H' a xs := by
  rcases h with (h | ⟨o, h⟩) | h
  · exact .inl (.inl (e _ _ h (fun _ z => by cases z)))
  · exact .inl (.inr ⟨o, e _ _ h (fun _ z => by cases z)⟩)
  · exact .inr h
theorem Imm.sqp (e : Imm H H') (h : SqP K H a xs) : SqP K H' a xs := by
  rcases h with ⟨o, h, d⟩ | h
  · exact .inl ⟨o, e _ _ h (fun _ z => by cases z), d⟩
  · exact .inr h
end
mutual
def noL : PyData → Bool
  | .none | .bool _ | .int _ | .str _ => true
  | .tuple xs => noLs xs
  | .list _ | .dict _ => false
def noLs : List PyData → Bool
  | [] => true
  | d :: ds => noL d && noLs ds
end
mutual
theorem Dp.imm {K : PySem.W.Frag} {H H' : Hp} (e : Imm H H') : ∀ {v : V} {d : PyData}, noL d = true → Dp K H v d → Dp K H' v d
  | _, _, _, .non => .non
  | _, _, _, .bl b => .bl b
  | _, _, _, .int i => .int i
  | _, _, _, .str x => .str x
  | _, _, n, .lst _ _ => nomatch n
  | _, _, n, .tup h all => .tup (e.tup h) (DpAll.imm e n all)
theorem DpAll.imm {K : PySem.W.Frag} {H H' : Hp} (e : Imm H H') : ∀ {vs : List V} {ds : List PyData}, noLs ds = true → DpAll K H vs ds → DpAll K H' vs ds
  | _, _, _, .nil => .nil
  | _, _, n, .cons h t => .cons (Dp.imm e (Bool.and_eq_true_iff.mp n).1 h) (DpAll.imm e (Bool.and_eq_true_iff.mp n).2 t)
end
theorem noLs_map {α : Type} {f : α → PyData} (h : ∀ x, noL (f x) = true) : ∀ l : List α, noLs (l.map f) = true
  | [] => rfl
  | x :: l => by
    show (noL (f x) && noLs (l.map f)) = true
    rw [h x, noLs_map h l]
    rfl
end Bh

set_option Elab.async false
set_option linter.all false
set_option maxRecDepth 100000
namespace Bh
open PySem PySem.Spec PyProof.Rows L2
/-! ### the mirror of programs applied -/
def ix : List Str → Str → Nat
  | [], _ => 0
  | y :: r, x => if y = x then 0 else ix r x + 1
theorem ix_get : ∀ {l : List Str} {x : Str}, x ∈ l → l[ix l x]? = some x
  | y :: r, x, h => by
    unfold ix
    by_cases e : y = x
    · rw [if_pos e, e]
      rfl
    · rw [if_neg e]
      rcases List.mem_cons.mp h with z | z
      · exact absurd z.symm e
      · simpa using ix_get z
theorem ix_first : ∀ {l : List Str} {x : Str} {m : Nat}, m < ix l x → l[m]? ≠ some x
  | [], _, _, h => absurd h (Nat.not_lt_zero _)
  | y :: r, x, m, h => by
    unfold ix at h
    by_cases e : y = x
    · rw [if_pos e] at h
      exact absurd h (Nat.not_lt_zero _)
    · rw [if_neg e] at h
      cases m with
      | zero =>
        intro z
        exact e (Option.some.inj z)
      | succ m =>
        have q := ix_first (l := r) (x := x) (m := m) (by omega)
        simpa using q
theorem ix_lt {l : List Str} {x : Str} (h : x ∈ l) : ix l x < l.length := (List.getElem?_eq_some_iff.mp (ix_get h)).1
/-- the place of an item of different ones -/
theorem ix_at : ∀ {l : List Str} {i : Nat} {x : Str}, l.Nodup → l[i]? = some x → ix l x = i
  | [], _, _, _, h => by simp at h
  | y :: r, 0, x, _, h => by
    have e : y = x := Option.some.inj h
    unfold ix
    rw [if_pos e]
  | y :: r, i + 1, x, nd, h => by
    have hr : r[i]? = some x := by simpa using h
    have hm : x ∈ r := List.mem_of_getElem? hr
    have nd' := List.nodup_cons.mp nd
    have ne : ¬ y = x := fun z => nd'.1 (z ▸ hm)
    unfold ix
    rw [if_neg ne, ix_at nd'.2 hr]
theorem flat_strs (l : List Str) : (l.map V.str).all flatV = true := by
  rw [List.all_map]
  exact List.all_eq_true.mpr fun _ _ => rfl
theorem eqV_str {a b : Str} : eqV (.str a) (.str b) = decide (a = b) := rfl
theorem ixs_at {l : List Str} {x : Str} (h : x ∈ l) : (l.map V.str)[ix l x]? = some (.str x) := by
  rw [List.getElem?_map, ix_get h]
  rfl
theorem ixs_no {l : List Str} {x : Str} : ∀ (m : Nat) (z : V), m < ix l x → (l.map V.str)[m]? = some z → eqV z (.str x) = false := fun m z hm hz => by
  rw [List.getElem?_map] at hz
  cases e : l[m]? with
  | none =>
    rw [e] at hz
    cases hz
  | some y =>
    rw [e] at hz
    cases hz
    rw [eqV_str]
    refine decide_eq_false fun q => ix_first hm ?_
    rw [e, q]
abbrev Fld := Str × List Str
abbrev Tst := Str × Str × Str
abbrev Stp := Str × Str
abbrev Cas := List Tst × Option (List Stp)
def posOf (fs : List Fld) (x : Str) : Nat := ix (fs.map (·.1)) x
def optsOf (fs : List Fld) (x : Str) : List Str := ((fs[posOf fs x]?).map (·.2)).getD []
def nextO (os : List Str) (o : Str) : Str := os.getD (min (ix os o + 1) (os.length - 1)) o
def holdsT (fs : List Fld) (v : List Str) (t : Tst) : Bool :=
  if t.2.1 = "=" then decide (ix (optsOf fs t.1) (v.getD (posOf fs t.1) Str.empty) = ix (optsOf fs t.1) t.2.2)
  else if t.2.1 = "!" then !decide (ix (optsOf fs t.1) (v.getD (posOf fs t.1) Str.empty) = ix (optsOf fs t.1) t.2.2)
  else if t.2.1 = "<" then decide (ix (optsOf fs t.1) (v.getD (posOf fs t.1) Str.empty) < ix (optsOf fs t.1) t.2.2)
  else decide (ix (optsOf fs t.1) t.2.2 < ix (optsOf fs t.1) (v.getD (posOf fs t.1) Str.empty))
def stepO (fs : List Fld) (v : List Str) (s : Stp) : List Str :=
  v.set (posOf fs s.1) (if s.2 = "+" then nextO (optsOf fs s.1) (v.getD (posOf fs s.1) Str.empty) else s.2)
def stepped (fs : List Fld) (ss : List Stp) (v : List Str) : List Str := ss.foldl (stepO fs) v
def applyP (fs : List Fld) : List Cas → List Str → Option (List Str)
  | [], _ => none
  | c :: r, v => if c.1.all (holdsT fs v) = true then c.2.map (fun ss => stepped fs ss v) else applyP fs r v
def applyH (fs : List Fld) (p : List Cas) : Option (List Str) → Option (List Str)
  | none => none
  | some v => applyP fs p v
/-! what fits -/
def FitV (fs : List Fld) (v : List Str) : Prop := v.length = fs.length ∧ ∀ (i : Nat) (f : Fld) (o : Str), fs[i]? = some f → v[i]? = some o → o ∈ f.2
def FitT (fs : List Fld) (t : Tst) : Prop := t.1 ∈ fs.map (·.1) ∧ t.2.2 ∈ optsOf fs t.1
def FitS (fs : List Fld) (s : Stp) : Prop := s.1 ∈ fs.map (·.1) ∧ (s.2 ≠ "+" → s.2 ∈ optsOf fs s.1)
structure FitC (fs : List Fld) (c : Cas) : Prop where
  t : ∀ t ∈ c.1, FitT fs t
  s : ∀ ss, c.2 = some ss → ∀ s ∈ ss, FitS fs s
  lt : c.1.length ≤ 1000
  ls : ∀ ss, c.2 = some ss → ss.length ≤ 1000
theorem pos_at {fs : List Fld} {x : Str} (h : x ∈ fs.map (·.1)) : ∃ f, fs[posOf fs x]? = some f ∧ f.1 = x ∧ f.2 = optsOf fs x := by
  have q := ix_get h
  rw [List.getElem?_map] at q
  unfold optsOf
  show ∃ f, fs[posOf fs x]? = some f ∧ _
  have q' : (fs[posOf fs x]?).map (·.1) = some x := q
  cases e : fs[posOf fs x]? with
  | none =>
    rw [e] at q'
    cases q'
  | some f =>
    rw [e] at q'
    exact ⟨f, rfl, Option.some.inj q', rfl⟩
theorem fit_at {fs : List Fld} {v : List Str} {x : Str} (hv : FitV fs v) (h : x ∈ fs.map (·.1)) : ∃ o, v[posOf fs x]? = some o ∧ o ∈ optsOf fs x ∧ v.getD (posOf fs x) Str.empty = o := by
  obtain ⟨f, h1, h2, h3⟩ := pos_at h
  have hl : posOf fs x < v.length := by
    rw [hv.1]
    exact (List.getElem?_eq_some_iff.mp h1).1
  refine ⟨v[posOf fs x], List.getElem?_eq_getElem hl, ?_, ?_⟩
  · rw [← h3]
    exact hv.2 _ _ _ h1 (List.getElem?_eq_getElem hl)
  · rw [List.getD_eq_getElem?_getD, List.getElem?_eq_getElem hl]
    rfl
theorem next_mem {os : List Str} {o : Str} (h : o ∈ os) : os[min (ix os o + 1) (os.length - 1)]? = some (nextO os o) ∧ nextO os o ∈ os := by
  have hl := ix_lt h
  have hm : min (ix os o + 1) (os.length - 1) < os.length := by omega
  have e : os[min (ix os o + 1) (os.length - 1)]? = some (nextO os o) := by
    unfold nextO
    rw [List.getD_eq_getElem?_getD, List.getElem?_eq_getElem hm]
    rfl
  exact ⟨e, List.mem_of_getElem? e⟩
theorem step_fit {fs : List Fld} {v : List Str} {s : Stp} (hv : FitV fs v) (hs : FitS fs s) : FitV fs (stepO fs v s) := by
  refine ⟨by unfold stepO; rw [List.length_set]; exact hv.1, fun i f o hf ho => ?_⟩
  unfold stepO at ho
  obtain ⟨f', h1, h2, h3⟩ := pos_at hs.1
  obtain ⟨o', g1, g2, g3⟩ := fit_at hv hs.1
  rw [List.getElem?_set] at ho
  by_cases e : posOf fs s.1 = i
  · rw [if_pos e] at ho
    have hl : i < v.length := by
      rw [hv.1]
      exact (List.getElem?_eq_some_iff.mp hf).1
    rw [if_pos (e ▸ hl)] at ho
    have ho' := Option.some.inj ho
    rw [e, hf] at h1
    cases h1
    rw [← ho', h3]
    by_cases z : s.2 = "+"
    · rw [if_pos z, g3]
      exact (next_mem g2).2
    · rw [if_neg z]
      exact hs.2 z
  · rw [if_neg e] at ho
    exact hv.2 i f o hf ho
theorem stepped_fit {fs : List Fld} : ∀ {ss : List Stp} {v : List Str}, (∀ s ∈ ss, FitS fs s) → FitV fs v → FitV fs (stepped fs ss v)
  | [], _, _, hv => hv
  | s :: ss, v, h, hv => stepped_fit (ss := ss) (v := stepO fs v s) (fun s' hs' => h s' (List.mem_cons_of_mem _ hs')) (step_fit hv (h s (List.mem_cons_self ..)))
theorem stepped_take {fs : List Fld} {ss : List Stp} {v : List Str} {i : Nat} {s : Stp} (h : ss[i]? = some s) : stepped fs (ss.take (i + 1)) v = stepO fs (stepped fs (ss.take i) v) s := by
  unfold stepped
  rw [List.take_add_one, h, List.foldl_append]
  rfl
/-! as data -/
def dF (f : Fld) : PyData := .tuple [.str f.1, .tuple (f.2.map PyData.str)]
def dT (t : Tst) : PyData := .tuple [.str t.1, .str t.2.1, .str t.2.2]
def dS (s : Stp) : PyData := .tuple [.str s.1, .str s.2]
def dO : Option (List Stp) → PyData
  | none => .none
  | some ss => .tuple (ss.map dS)
def dC (c : Cas) : PyData := .tuple [.tuple (c.1.map dT), dO c.2]
def dV (v : List Str) : PyData := .tuple (v.map PyData.str)
def dH : Option (List Str) → PyData
  | none => .none
  | some v => dV v
section
variable {K : PySem.W.Frag} {H : Hp} {v : V}
theorem dp_dF {f : Fld} (h : Dp K H v (dF f)) : ∃ a o, v = .ref a ∧ SqT K H a [.str f.1, .ref o] ∧ SqT K H o (f.2.map V.str) := by
  obtain ⟨a, xs, rfl, h1, h2⟩ := dp_tup h
  obtain ⟨x, r, rfl, k1, k2⟩ := dpa_cons h2
  obtain ⟨y, r', rfl, k3, k4⟩ := dpa_cons k2
  cases dpa_nil k4
  cases dp_str k1
  obtain ⟨o, ys, rfl, m1, m2⟩ := dp_tup k3
  rw [dp_strs m2] at m1
  exact ⟨a, o, rfl, h1, m1⟩
theorem dp_dT {t : Tst} (h : Dp K H v (dT t)) : ∃ a, v = .ref a ∧ SqT K H a [.str t.1, .str t.2.1, .str t.2.2] := by
  obtain ⟨a, xs, rfl, h1, h2⟩ := dp_tup h
  obtain ⟨x, r, rfl, k1, k2⟩ := dpa_cons h2
  obtain ⟨y, r', rfl, k3, k4⟩ := dpa_cons k2
  obtain ⟨z, r'', rfl, k5, k6⟩ := dpa_cons k4
  cases dpa_nil k6
  cases dp_str k1
  cases dp_str k3
  cases dp_str k5
  exact ⟨a, rfl, h1⟩
theorem dp_dS {s : Stp} (h : Dp K H v (dS s)) : ∃ a, v = .ref a ∧ SqT K H a [.str s.1, .str s.2] := by
  obtain ⟨a, xs, rfl, h1, h2⟩ := dp_tup h
  obtain ⟨x, r, rfl, k1, k2⟩ := dpa_cons h2
  obtain ⟨y, r', rfl, k3, k4⟩ := dpa_cons k2
  cases dpa_nil k4
  cases dp_str k1
  cases dp_str k3
  exact ⟨a, rfl, h1⟩
theorem dp_dC {c : Cas} (h : Dp K H v (dC c)) : ∃ a t y, v = .ref a ∧ SqT K H a [.ref t, y] ∧ Dp K H (.ref t) (.tuple (c.1.map dT)) ∧ Dp K H y (dO c.2) := by
  obtain ⟨a, xs, rfl, h1, h2⟩ := dp_tup h
  obtain ⟨x, r, rfl, k1, k2⟩ := dpa_cons h2
  obtain ⟨y, r', rfl, k3, k4⟩ := dpa_cons k2
  cases dpa_nil k4
  obtain ⟨t, ys, rfl, m1, m2⟩ := dp_tup k1
  exact ⟨a, t, y, rfl, h1, .tup m1 m2, k3⟩
theorem dp_dV {w : List Str} (h : Dp K H v (dV w)) : ∃ a, v = .ref a ∧ SqT K H a (w.map V.str) := by
  obtain ⟨a, xs, rfl, h1, h2⟩ := dp_tup h
  rw [dp_strs h2] at h1
  exact ⟨a, rfl, h1⟩
theorem dV_dp {w : List Str} {a : Addr} (h : SqT K H a (w.map V.str)) : Dp K H (.ref a) (dV w) := .tup h (strs_dp w)
end
/-! fields as they stand: the options are tuples of which .index is asked -/
def FdAt (K : PySem.W.Frag) (H : Hp) (v : V) (f : Fld) : Prop := ∃ a o, v = .ref a ∧ SqT K H a [.str f.1, .ref o] ∧ SqP K H o (f.2.map V.str)
def FsAt (K : PySem.W.Frag) (H : Hp) (v : V) (fs : List Fld) : Prop := ∃ a xs, v = .ref a ∧ (SqL K H a xs ∨ SqT K H a xs) ∧ Paired (FdAt K H) xs fs
section
variable {K : PySem.W.Frag} {H H' : Hp} {v : V} {f : Fld} {fs : List Fld} {xs : List V}
theorem FdAt.mono (e : Same H H') (h : FdAt K H v f) : FdAt K H' v f := by
  obtain ⟨a, o, h1, h2, h3⟩ := h
  exact ⟨a, o, h1, Same.tup e h2, h3.mono e⟩
theorem fds_mono (e : Same H H') : ∀ {xs : List V} {fs : List Fld}, Paired (FdAt K H) xs fs → Paired (FdAt K H') xs fs
  | _, _, .nil => .nil
  | _, _, .cons h t => .cons (h.mono e) (fds_mono e t)
theorem FsAt.mono (e : Same H H') (h : FsAt K H v fs) : FsAt K H' v fs := by
  obtain ⟨a, xs, h1, h2, h3⟩ := h
  exact ⟨a, xs, h1, h2.imp e.seq (Same.tup e), fds_mono e h3⟩
theorem FdAt.dp (h : FdAt K H v f) : Dp K H v (dF f) := by
  obtain ⟨a, o, rfl, h2, h3⟩ := h
  exact .tup h2 (.cons (.str _) (.cons (.tup h3.sqT (strs_dp _)) .nil))
theorem fds_dp : ∀ {xs : List V} {fs : List Fld}, Paired (FdAt K H) xs fs → DpAll K H xs (fs.map dF)
  | _, _, .nil => .nil
  | _, _, .cons h t => .cons h.dp (fds_dp t)
theorem FsAt.dpS (h : FsAt K H v fs) : DpS K H v (fs.map dF) := by
  obtain ⟨a, xs, h1, h2, h3⟩ := h
  exact ⟨a, xs, h1, h2, fds_dp h3⟩
theorem fds_get : ∀ {xs : List V} {fs : List Fld} {i : Nat} {f : Fld}, Paired (FdAt K H) xs fs → fs[i]? = some f → ∃ x, xs[i]? = some x ∧ FdAt K H x f
  | _, _, _, _, .nil, e => by simp at e
  | _, _, 0, _, .cons h _, e => by
    simp at e
    subst e
    exact ⟨_, rfl, h⟩
  | _, _, i + 1, f, .cons _ t, e => by
    obtain ⟨x, h1, h2⟩ := fds_get (i := i) (f := f) t (by simpa using e)
    exact ⟨x, by simpa using h1, h2⟩
/-- fields[i][1], for the place i of a field x -/
theorem FsAt.opts {x : Str} (h : FsAt K H v fs) (hx : x ∈ fs.map (·.1)) : ∃ a xs t o, v = .ref a ∧ (SqL K H a xs ∨ SqT K H a xs) ∧ atI xs ((posOf fs x : Nat) : Int) = some (.ref t) ∧ SqT K H t [.str x, .ref o] ∧ SqP K H o ((optsOf fs x).map V.str) := by
  obtain ⟨a, xs, h1, h2, h3⟩ := h
  obtain ⟨f, k1, k2, k3⟩ := pos_at hx
  obtain ⟨y, m1, t, o, rfl, m2, m3⟩ := fds_get h3 k1
  rw [k2] at m2
  rw [k3] at m3
  exact ⟨a, xs, t, o, h1, h2, atI_nat m1, m2, m3⟩
end
/-! ### walks over a list or a tuple at a name -/
theorem iSeqV {K : PySem.W.Frag} {σ : L2.St} {H : Hp} {i : Nat} {a : Addr} {xs : List V} {R : It → Hp → Prop} (hσ : σ[i]? = some (some (.ref a))) (h : SqL K H a xs ∨ SqT K H a xs)
    (k : ∀ (J : It) (G : Hp → Prop), Walk J xs.length G (YAt xs) → (∀ H', Same H H' → G H') → R J H) : iSeq K (tVar i) σ H R := by
  rcases h with h | h
  · exact .inl ⟨.ref a, hσ, a, rfl, ⟨xs, h⟩, k _ _ walk_list fun H' e => e.seq h⟩
  · exact .inr ⟨.ref a, hσ, a, rfl, ⟨xs, h⟩, k _ _ walk_tup fun H' e => Same.tup e h⟩
end Bh
namespace Bh
open PySem PySem.Spec PyProof.Rows L2
theorem rIx_go {K : PySem.W.Frag} {H : Hp} {a : Addr} {xs : List V} {i : Int} {v : V} {Q : VK} (h : SqL K H a xs ∨ SqT K H a xs) (e : atI xs i = some v) (q : Q v H) : rIx K (.ref a) (.int i) H Q := by
  rcases h with h | h
  · exact .inl ⟨a, xs, i, v, rfl, rfl, h, e, q⟩
  · exact .inr (.inl ⟨a, xs, i, v, rfl, rfl, h, e, q⟩)
theorem dec_int {m n : Nat} : decide (V.int (m : Int) = V.int (n : Int)) = decide (m = n) := by
  refine decide_eq_decide.mpr ⟨fun h => ?_, fun h => by rw [h]⟩
  have e := V.int.inj h
  omega
theorem dec_lt {m n : Nat} : decide ((m : Int) < (n : Int)) = decide (m < n) := decide_eq_decide.mpr ⟨fun h => by omega, fun h => by omega⟩
theorem str_ne {a b : Str} (h : ¬ V.str a = V.str b) : a ≠ b := fun e => h (by rw [e])
end Bh

set_option Elab.async false
set_option linter.all false
set_option maxRecDepth 100000
namespace Bh
open PySem PySem.Spec PyProof.Rows L2
/-! ### what is drawn: names, options, fields, cases, programs -/
def pool : List Str := ["0", "1", "2", "10", "a", "b", "far", "x9", "zzzzzzzz", "7up"]
def tails : List Str := ["", "a", "qq", "xyz", "mmmmmmm"]
def letters : Str := "abcdefghijklmnopqrstuvwxyz"
theorem pool_nodup : pool.Nodup := by decide +kernel
theorem perm_strs {l : List Str} {ys : List V} (h : ys.Perm (l.map V.str)) : ∃ zs : List Str, zs.Perm l ∧ ys = zs.map V.str := by
  let g : V → Str := fun v => match v with
    | .str z => z
    | _ => Str.empty
  refine ⟨ys.map g, ?_, ?_⟩
  · have q := h.map g
    rw [List.map_map] at q
    have e : (g ∘ V.str) = id := by
      funext z
      rfl
    rw [e, List.map_id] at q
    exact q
  · rw [List.map_map]
    have q : ∀ v ∈ ys, (V.str ∘ g) v = v := fun v hv => by
      obtain ⟨z, _, rfl⟩ := List.mem_map.mp (h.mem_iff.mp hv)
      rfl
    rw [List.map_congr_left q, List.map_id']
/-- a name: one to eight lowercase letters -/
structure IsNm (w : Str) : Prop where
  lo : 1 ≤ w.length
  hi : w.length ≤ 8
  az : ∀ c ∈ w.cps.toList, 97 ≤ c ∧ c ≤ 122
def wordK (z : Str) (k c : Nat) : Str := cutS z none (some (k : Int)) ++ ⟨#[c]⟩ ++ cutS z (some (k : Int)) none
theorem cut_lo (z : Str) (k : Nat) : (cutS z none (some (k : Int))).cps.toList = z.cps.toList.take k := by
  unfold cutS
  rw [HT.sIx_none, HT.sIx_nat]
  show ((z.cps.toList.drop 0).take (min k z.length - 0)) = _
  rw [List.drop_zero, Nat.sub_zero]
  have e1 : z.cps.toList.length = z.cps.size := by simp
  have e2 : z.length = z.cps.size := rfl
  by_cases h : k ≤ z.length
  · rw [Nat.min_eq_left h]
  · rw [Nat.min_eq_right (by omega), List.take_of_length_le (by omega), List.take_of_length_le (by omega)]
theorem cut_hi (z : Str) (k : Nat) (h : k ≤ z.length) : (cutS z (some (k : Int)) none).cps.toList = z.cps.toList.drop k := by
  unfold cutS
  rw [HT.sIx_none, HT.sIx_nat, Nat.min_eq_left h]
  show ((z.cps.toList.drop k).take (z.length - k)) = _
  refine List.take_of_length_le ?_
  rw [List.length_drop]
  have : z.cps.toList.length = z.cps.size := by simp
  have : z.length = z.cps.size := rfl
  omega
theorem wordK_cps (z : Str) (k c : Nat) (h : k ≤ z.length) : (wordK z k c).cps.toList = z.cps.toList.take k ++ (c :: z.cps.toList.drop k) := by
  have e : (wordK z k c).cps = (cutS z none (some (k : Int))).cps ++ #[c] ++ (cutS z (some (k : Int)) none).cps := rfl
  rw [e, Array.toList_append, Array.toList_append, cut_lo, cut_hi z k h]
  simp
theorem wordK_length (z : Str) (k c : Nat) (h : k ≤ z.length) : (wordK z k c).length = z.length + 1 := by
  have e : (wordK z k c).length = (wordK z k c).cps.toList.length := by
    show (wordK z k c).cps.size = _
    simp
  rw [e, wordK_cps z k c h, List.length_append, List.length_take, List.length_cons, List.length_drop]
  have : z.cps.toList.length = z.cps.size := by simp
  have : z.length = z.cps.size := rfl
  omega
theorem wordK_inj {z : Str} {k c d : Nat} (h : k ≤ z.length) (e : wordK z k c = wordK z k d) : c = d := by
  have q := congrArg (fun s : Str => s.cps.toList) e
  simp only [wordK_cps z k _ h] at q
  have q2 := List.append_cancel_left q
  exact (List.cons.inj q2).1
theorem tails_ok : ∀ z ∈ tails, z.length ≤ 7 ∧ ∀ c ∈ z.cps.toList, 97 ≤ c ∧ c ≤ 122 := by
  decide +kernel
theorem wordK_nm {z : Str} (hz : z ∈ tails) {k c : Nat} (h : k ≤ z.length) (h1 : 97 ≤ c) (h2 : c ≤ 122) : IsNm (wordK z k c) := by
  obtain ⟨t1, t2⟩ := tails_ok z hz
  refine ⟨by rw [wordK_length z k c h]; omega, by rw [wordK_length z k c h]; omega, fun d hd => ?_⟩
  rw [wordK_cps z k c h] at hd
  rcases List.mem_append.mp hd with q | q
  · exact t2 d (List.mem_of_mem_take q)
  · rcases List.mem_cons.mp q with q | q
    · rw [q]
      exact ⟨h1, h2⟩
    · exact t2 d (List.mem_of_mem_drop q)
theorem letters_at {j : Int} (h0 : 0 ≤ j) (h1 : j < 26) : atI letters.cps.toList j = some (97 + j.toNat) := by
  have key : ∀ k : _root_.Fin 26, letters.cps.toList[k.val]? = some (97 + k.val) := by decide +kernel
  exact at_nn h0 (key ⟨j.toNat, by omega⟩)
def wordsOf (z : Str) (k : Nat) (s : Int) (n : Nat) : List Str := (List.range n).map fun (i : Nat) => wordK z k (97 + ((s + 5 * (i : Int)) % 26).toNat)
theorem wordsOf_nodup {z : Str} {k : Nat} {s : Int} {n : Nat} (h : k ≤ z.length) (hn : n ≤ 3) : (wordsOf z k s n).Nodup := by
  unfold wordsOf
  refine List.pairwise_map.mpr ((List.pairwise_lt_range (n := n)).imp_of_mem fun {a b} ha hb hab e => ?_)
  have h2 := List.mem_range.mp hb
  have q := wordK_inj h e
  omega
theorem wordsOf_nm {z : Str} (hz : z ∈ tails) {k : Nat} {s : Int} {n : Nat} (h : k ≤ z.length) : ∀ w ∈ wordsOf z k s n, IsNm w := fun w hw => by
  obtain ⟨i, _, rfl⟩ := List.mem_map.mp hw
  exact wordK_nm hz h (by omega) (by omega)
theorem wordsOf_len {z : Str} {k : Nat} {s : Int} {n : Nat} : (wordsOf z k s n).length = n := by
  unfold wordsOf
  rw [List.length_map, List.length_range]
/-- fields as the laws draw them -/
structure FsOk (fs : List Fld) : Prop where
  ne : 1 ≤ fs.length
  le : fs.length ≤ 3
  nd : (fs.map (·.1)).Nodup
  nm : ∀ f ∈ fs, IsNm f.1
  os : ∀ f ∈ fs, f.2.Nodup ∧ 2 ≤ f.2.length ∧ f.2.length ≤ 6 ∧ ∀ o ∈ f.2, o ∈ pool
theorem opts_of {fs : List Fld} (nd : (fs.map (·.1)).Nodup) {f : Fld} (h : f ∈ fs) : optsOf fs f.1 = f.2 := by
  obtain ⟨i, hi⟩ := List.mem_iff_getElem?.mp h
  have e : ix (fs.map (·.1)) f.1 = i := ix_at nd (by rw [List.getElem?_map, hi]; rfl)
  unfold optsOf posOf
  rw [e, hi]
  rfl
/-- signs of tests -/
def signs : List Str := ["=", "!", "<", ">"]
/-! ### promises of the defs that draw -/
def spAny (K : PySem.W.Frag) : Sp := fun vs H Q _ => ∃ (b l a : Addr) (G : Hp) (xs : List V), vs = [.ref b, .ref a] ∧ (SqL K G a xs ∨ SqT K G a xs) ∧ xs ≠ [] ∧ xs.length ≤ 100000 ∧ Wd b l G H ∧ ∀ x H', x ∈ xs → Wd b l G H' → Q x H'
def spMixed (K : PySem.W.Frag) : Sp := fun vs H Q _ => ∃ (b l a : Addr) (G : Hp) (xs : List V), vs = [.ref b, .ref a] ∧ SqL K G a xs ∧ xs.length ≤ 1000 ∧ Wd b l G H ∧
  ∀ (G' H' : Hp) (p : Addr) (ys : List V), Same G G' → Wd b l G' H' → G' p = some (.lst ys) → ys.Perm xs → Q (.ref p) H'
def spWords : Sp := fun vs H Q _ => ∃ (b l : Addr) (G : Hp) (n : Int), vs = [.ref b, .int n] ∧ 0 ≤ n ∧ n ≤ 3 ∧ Wd b l G H ∧
  ∀ (G' H' : Hp) (p : Addr) (ws : List Str), Same G G' → Wd b l G' H' → G' p = some (.lst (ws.map V.str)) → ws.length = n.toNat → ws.Nodup → (∀ w ∈ ws, IsNm w) → Q (.ref p) H'
def spOptions (K : PySem.W.Frag) : Sp := fun vs H Q _ => ∃ (b l : Addr) (G : Hp) (n : Int), vs = [.ref b, .int n] ∧ 2 ≤ n ∧ n ≤ 6 ∧ Wd b l G H ∧
  ∀ (G' H' : Hp) (p : Addr) (os : List Str), Same G G' → Wd b l G' H' → SqP K G' p (os.map V.str) → os.length = n.toNat → os.Nodup → (∀ o ∈ os, o ∈ pool) → Q (.ref p) H'
def spFields (K : PySem.W.Frag) : Sp := fun vs H Q _ => ∃ (b l : Addr) (G : Hp), vs = [.ref b, .int 24] ∧ Wd b l G H ∧
  ∀ (G' H' : Hp) (p : Addr) (xs : List V) (fs : List Fld), Same G G' → Wd b l G' H' → G' p = some (.lst xs) → Paired (FdAt K G') xs fs → FsOk fs → Q (.ref p) H'
def spCase (K : PySem.W.Frag) : Sp := fun vs H Q _ => ∃ (b l a : Addr) (G : Hp) (xs : List V) (fs : List Fld), vs = [.ref b, .ref a] ∧ SqL K G a xs ∧ Paired (FdAt K G) xs fs ∧ FsOk fs ∧ Wd b l G H ∧
  ∀ (G' H' : Hp) (y : V) (c : Cas), Same G G' → Wd b l G' H' → Dp K G' y (dC c) → FitC fs c → c.1.length ≤ 2 → (∀ ss, c.2 = some ss → ss.length ≤ 2) → (∀ t ∈ c.1, t.2.1 ∈ signs) → Q y H'
end Bh
namespace Bh
open PySem PySem.Spec PyProof.Rows L2
theorem cutV_take (xs : List V) {n : Int} (h : 0 ≤ n) : cutV xs none (some n) = xs.take n.toNat := by
  obtain ⟨k, rfl⟩ : ∃ m : Nat, n = (m : Int) := ⟨n.toNat, by omega⟩
  unfold cutV
  rw [HT.sIx_none, show HT.sIx xs.length xs.length (some (k : Int)) = min k xs.length from HT.sIx_nat _ _ k]
  show List.take (min k xs.length - 0) (List.drop 0 xs) = xs.take k
  rw [List.drop_zero, Nat.sub_zero]
  by_cases hk : k ≤ xs.length
  · rw [Nat.min_eq_left hk]
  · rw [Nat.min_eq_right (by omega), List.take_of_length_le (Nat.le_refl _), List.take_of_length_le (by omega)]
theorem fds_mem {K : PySem.W.Frag} {H : Hp} : ∀ {xs : List V} {fs : List Fld} {x : V}, Paired (FdAt K H) xs fs → x ∈ xs → ∃ f ∈ fs, FdAt K H x f
  | _, _, _, .nil, h => by cases h
  | _, _, x, .cons h t, hx => by
    rcases List.mem_cons.mp hx with e | hx
    · rw [e]
      exact ⟨_, List.mem_cons_self .., h⟩
    · obtain ⟨f, h1, h2⟩ := fds_mem t hx
      exact ⟨f, List.mem_cons_of_mem _ h1, h2⟩
theorem fds_len {K : PySem.W.Frag} {H : Hp} : ∀ {xs : List V} {fs : List Fld}, Paired (FdAt K H) xs fs → xs.length = fs.length
  | _, _, .nil => rfl
  | _, _, .cons _ t => congrArg Nat.succ (fds_len t)
theorem fds_snoc {K : PySem.W.Frag} {H : Hp} {x : V} {f : Fld} : ∀ {xs : List V} {fs : List Fld}, Paired (FdAt K H) xs fs → FdAt K H x f → Paired (FdAt K H) (xs ++ [x]) (fs ++ [f])
  | _, _, .nil, h => .cons h .nil
  | _, _, .cons k t, h => .cons k (fds_snoc t h)
theorem min_max_bound (z : Int) : 0 < (if (if z > 1 then z else 1) < 5 then (if z > 1 then z else 1) else 5) ∧ (if (if z > 1 then z else 1) < 5 then (if z > 1 then z else 1) else 5) ≤ (5 : Int) := by
  split <;> split <;> omega
end Bh
namespace Bh
open PySem PySem.Spec PyProof.Rows L2
theorem dpa_snoc {K : PySem.W.Frag} {H : Hp} {x : V} {d : PyData} {xs : List V} {ds : List PyData} (h : DpAll K H xs ds) (k : Dp K H x d) : DpAll K H (xs ++ [x]) (ds ++ [d]) := DpAll.append h (.cons k .nil)
end Bh
namespace Bh
open PySem PySem.Spec PyProof.Rows L2
theorem noL_dV (v : List Str) : noL (dV v) = true := noLs_map (fun _ => rfl) v
theorem noL_dT (t : Tst) : noL (dT t) = true := rfl
theorem noL_dS (s : Stp) : noL (dS s) = true := rfl
theorem noL_dO : ∀ o : Option (List Stp), noL (dO o) = true
  | none => rfl
  | some ss => noLs_map noL_dS ss
theorem noL_dC (c : Cas) : noL (dC c) = true := by
  show (noLs (c.1.map dT) && (noL (dO c.2) && true)) = true
  rw [noLs_map noL_dT, noL_dO]
  rfl
theorem FdAt.imm {K : PySem.W.Frag} {H H' : Hp} {v : V} {f : Fld} (e : Imm H H') (h : FdAt K H v f) : FdAt K H' v f := by
  obtain ⟨a, o, h1, h2, h3⟩ := h
  exact ⟨a, o, h1, e.tup h2, e.sqp h3⟩
theorem fds_imm {K : PySem.W.Frag} {H H' : Hp} (e : Imm H H') : ∀ {xs : List V} {fs : List Fld}, Paired (FdAt K H) xs fs → Paired (FdAt K H') xs fs
  | _, _, .nil => .nil
  | _, _, .cons h t => .cons (h.imm e) (fds_imm e t)
def spProg (K : PySem.W.Frag) : Sp := fun vs H Q _ => ∃ (b l a : Addr) (G : Hp) (n : Int) (xs : List V) (fs : List Fld), vs = [.ref b, .ref a, .int n] ∧ SqL K G a xs ∧ Paired (FdAt K G) xs fs ∧ FsOk fs ∧ 0 < n ∧ n ≤ 8 ∧ Wd b l G H ∧
  ∀ (G' H' : Hp) (y : V) (p : List Cas), Same G G' → Wd b l G' H' → Dp K G' y (.tuple (p.map dC)) → (∀ c ∈ p, FitC fs c ∧ c.1.length ≤ 2 ∧ (∀ ss, c.2 = some ss → ss.length ≤ 2) ∧ ∀ t ∈ c.1, t.2.1 ∈ signs) → 1 ≤ p.length → p.length ≤ 8 → Q y H'
/-! all values -/
def ext1 (acc : List (List Str)) (f : Fld) : List (List Str) := acc.flatMap fun v => f.2.map fun o => v ++ [o]
def vals (fs : List Fld) : List (List Str) := fs.foldl ext1 [[]]
theorem flat_len (os : List Str) : ∀ acc : List (List Str), (acc.flatMap fun v => os.map fun o => v ++ [o]).length = acc.length * os.length
  | [] => by simp
  | v :: r => by
    rw [List.flatMap_cons, List.length_append, List.length_map, flat_len os r, List.length_cons, Nat.succ_mul]
    omega
theorem vals_take {fs : List Fld} {i : Nat} {f : Fld} (h : fs[i]? = some f) : vals (fs.take (i + 1)) = ext1 (vals (fs.take i)) f := by
  unfold vals
  rw [List.take_add_one, h, List.foldl_append]
  rfl
theorem vals_len {fs : List Fld} (h : ∀ f ∈ fs, f.2.length ≤ 6) : ∀ i : Nat, (vals (fs.take i)).length ≤ 6 ^ i
  | 0 => by
    rw [List.take_zero]
    exact Nat.le_refl 1
  | i + 1 => by
    cases e : fs[i]? with
    | none =>
      have hl : fs.length ≤ i := List.getElem?_eq_none_iff.mp e
      rw [List.take_of_length_le (by omega), show fs = fs.take i from (List.take_of_length_le hl).symm]
      refine Nat.le_trans (vals_len h i) ?_
      rw [Nat.pow_succ]
      exact Nat.le_mul_of_pos_right _ (by decide)
    | some f =>
      rw [vals_take e]
      unfold ext1
      rw [flat_len, Nat.pow_succ]
      exact Nat.mul_le_mul (vals_len h i) (h f (List.mem_of_getElem? e))
theorem vals_fit : ∀ (fs done : List Fld) (acc : List (List Str)), (∀ v ∈ acc, FitV done v) → ∀ v ∈ fs.foldl ext1 acc, FitV (done ++ fs) v
  | [], done, acc, h, v, hv => by
    rw [List.append_nil]
    exact h v hv
  | f :: r, done, acc, h, v, hv => by
    have e : done ++ f :: r = (done ++ [f]) ++ r := by simp
    rw [e]
    refine vals_fit r (done ++ [f]) (ext1 acc f) (fun w hw => ?_) v hv
    obtain ⟨u, hu, hw2⟩ := List.mem_flatMap.mp hw
    obtain ⟨o, ho, rfl⟩ := List.mem_map.mp hw2
    obtain ⟨l1, l2⟩ := h u hu
    refine ⟨by rw [List.length_append, List.length_append, l1]; rfl, fun i g o' hg ho' => ?_⟩
    by_cases hi : i < done.length
    · rw [List.getElem?_append_left hi] at hg
      rw [List.getElem?_append_left (by omega)] at ho'
      exact l2 i g o' hg ho'
    · rw [List.getElem?_append_right (by omega)] at hg
      rw [List.getElem?_append_right (by omega), l1] at ho'
      have hz : i - done.length = 0 := by
        have := (List.getElem?_eq_some_iff.mp hg).1
        simp at this
        omega
      rw [hz] at hg ho'
      cases hg
      cases ho'
      exact ho
theorem vals_ok {fs : List Fld} : ∀ v ∈ vals fs, FitV fs v := by
  have q := vals_fit fs [] [[]] (fun v hv => by
    cases List.mem_singleton.mp hv
    exact ⟨rfl, fun i f o h => by simp at h⟩)
  show ∀ v ∈ fs.foldl ext1 [[]], FitV fs v
  simpa using q
def spVals (K : PySem.W.Frag) : Sp := fun vs H Q _ => ∃ (a : Addr) (xs : List V) (fs : List Fld), vs = [.ref a] ∧ SqL K H a xs ∧ Paired (FdAt K H) xs fs ∧ FsOk fs ∧
  ∀ (H' : Hp) (p : Addr) (ys : List V), Same H H' → H' p = some (.lst ys) → DpAll K H' ys ((vals fs).map dV) → Q (.ref p) H'
end Bh

set_option Elab.async false
set_option linter.all false
set_option maxRecDepth 100000
set_option maxHeartbeats 2000000
namespace Bh
open PySem PySem.Spec PyProof.Rows L2 LamX NdefX
/-! ### a lambda with parameters, handed to a def and called there -/
/-- its words, as those of a nested def without a body of statements -/
abbrev lamF (q : Str) (params : Arguments) (scope : Scope) (cl : List (Str × Addr)) (c : Addr) : NF := ⟨"<lambda>", q, params, [], scope, cl, c⟩
theorem CellsAt.un {cl : List (Str × Addr)} {fr : List Str} {ws : List (Option V)} {st : List Addr} {H HZ : Hp} {h h1 : Heap} (C : CellsAt cl fr ws h H) (un : Un st [] H HZ h h1) : CellsAt cl fr ws h1 HZ := by
  have kp : ∀ y c, cl.lookup y = some c → ∀ v, h.IsCell c v → h1.IsCell c v := fun y c e v ⟨o, ho, hd⟩ => by
    obtain ⟨sl, q⟩ := un.any ho (C.all y c e).1 (by simp)
    exact ⟨_, q, hd⟩
  refine ⟨C.len, fun y c e => ?_, C.inj, fun i y e => ?_⟩
  · obtain ⟨n, v, z⟩ := C.all y c e
    refine ⟨?_, v, kp y c e v z⟩
    obtain ⟨o, ho, _⟩ := z
    exact un.free c o ho n (by simp)
  · obtain ⟨c, hc, hv⟩ := C.has i y e
    refine ⟨c, hc, fun v ev => ?_⟩
    obtain ⟨u, r, z⟩ := hv v ev
    exact ⟨u, r, kp y c hc _ z⟩
section
variable {CX : CXT} {P : Program} {w : World} {K : PySem.W.Frag} {mg : Str → Option Value} {base : Heap} {N ps fr : List Str} {f c' : Addr} {k : Nat} {q : Str} {params : Arguments} {body : Expr} {scope : Scope} {cl : List (Str × Addr)}
/-- the lambda runs -/
theorem lam_run {A : Around} {outer : List Env} {s : Shared} {H : Hp} {us : List Value} {vs : List V} {ws : List (Option V)} {Q : VK} {E : XK} {pm ctv : Value} {tb : TE} (S : NScope N ps fr scope)
    (hb : ∀ (us : List Value), us.length = ps.length → bindArgs (PySem.W.kla_fn "<lambda>" q params body scope cl pm (.ref c') ctv) ⟨us, []⟩ = pure (ps.zip us))
    (hr : Room (k + 1) A) (e0 : Env0 P w K mg base A outer s H) (lim : s.heap.NoLimit) (of : s.heap.get? f = some (PySem.W.kla_obj "<lambda>" q params body scope cl pm c' ctv)) (hc : s.heap.CodeRec (.ref c') q)
    (C : CellsAt cl fr ws s.heap H) (r : Vals vs us) (hl : vs.length = ps.length)
    (hbody : Room k (A.deeper (envF (lamF q params scope cl c') f s.heap.objs.size)) → PE (ncx CX P w K mg base N (lamF q params scope cl c') f A outer s H E) body tb) (h : tb (startF N vs ws) H Q) :
    codeAny (model P w) A (.call (.ref f) ⟨us, []⟩) (CR CX outer P w H s Q E) s := by
  refine PySem.W.kla_callFunE hr.depth of rfl S.co S.gen rfl hc ?_
  rw [hb us (by rw [← r.length]; exact hl)]
  refine wpAny_pure (wpAny_newFunctionEnv S.nocell (fun ⟨n, _⟩ hy => S.par n (List.of_mem_zip hy).1) (fun h₁ hns hsb => ⟨lim.fresh _ hsb, ?_⟩) S.kind)
  show codeAny _ _ (.expr body (envF (lamF q params scope cl c') f s.heap.objs.size)) _ _
  have kp : ∀ b o, s.heap.get? b = some o → h₁.get? b = some o := fun b o e => hsb.extBut b o (Nat.ne_of_lt (Heap.lt_size e)) (Heap.get?_push_of_some _ e)
  have I : Inv (ncx CX P w K mg base N (lamF q params scope cl c') f A outer s H E) [] (startF N vs ws) H { s with heap := h₁, toks := s.toks + (ps.zip us).length } := inv_startN (F := lamF q params scope cl c') S hr.hd e0 hl r C hns kp
  refine PySem.W.kla_codeExpr (wpAny_mono ((hbody (hr.deeper _)).run [] _ (startF N vs ws) H Q I h) (fun v s' hq => ?_) fun e s' hq => hq)
  obtain ⟨w', H', J', rv, q⟩ := hq
  exact ⟨w', H', J'.os, J'.bare, J'.base, J'.hok, rv, q⟩
/-- f(e, ..), f a name of the callee that holds the lambda: Z is the callee's context, entered at s -/
def tLamAct (c' f : Addr) (q : Str) (i n : Nat) (N : List Str) (ws : List (Option V)) (tb : TE) (t : TA) : TE := fun σ H Q => σ[i]? = some (some (.ref f)) ∧ H c' = some (CodeO c' q) ∧
  t σ H fun vs H1 => H1 c' = some (CodeO c' q) ∧ vs.length = n ∧ tb (startF N vs ws) H1 Q
theorem pe_lamact {CXg : CXT} {Eg : XK} {Ng : List Str} {qg : Str} {sg : Scope} {g : Addr} {cdg pm ctv : Value} {A0 : Around} {st : List Env} {s : Shared} {H : Hp} {ws : List (Option V)} {tb : TE} {a : Str} {i : Nat} {e : Expr} {es : List Expr} {t : TA} {p1 p2 : Pos}
    (S : NScope N ps fr scope) (hb : ∀ (us : List Value), us.length = ps.length → bindArgs (PySem.W.kla_fn "<lambda>" q params body scope cl pm (.ref c') ctv) ⟨us, []⟩ = pure (ps.zip us))
    (of : s.heap.get? f = some (PySem.W.kla_obj "<lambda>" q params body scope cl pm c' ctv)) (hfn : H f = none) (hfr : f ∉ frs st) (C : CellsAt cl fr ws s.heap H)
    (hr : Room (k + 1) (A0.deeper (envOfC qg sg s.heap.objs.size g cdg)))
    (hbody : ∀ (A : Around) (outer : List Env) (s : Shared) (H : Hp), Room k (A.deeper (envF (lamF q params scope cl c') f s.heap.objs.size)) → PE (ncx C8.CX0 P w K mg base N (lamF q params scope cl c') f A outer s H C8.E0) body tb)
    (hN : Ng[i]? = some a) (hv : Vis sg a) (ha : PA (cxOf CXg P w K mg base Ng qg sg g cdg A0 st s H Eg).nox (e :: es) t)
    (hd : (a == ("__debug__" : Str)) = false := by decide) (hcd : (a == ("__classdict__" : Str)) = false := by decide)
    (he : starEach (e :: es) (cxOf CXg P w K mg base Ng qg sg g cdg A0 st s H Eg).nox.env = (false, eval e (cxOf CXg P w K mg base Ng qg sg g cdg A0 st s H Eg).nox.env) :: starEach es (cxOf CXg P w K mg base Ng qg sg g cdg A0 st s H Eg).nox.env := by rfl)
    (hpl : (backTo p2 (starEach es (cxOf CXg P w K mg base Ng qg sg g cdg A0 st s H Eg).nox.env)).any (·.1) = false := by rfl) :
    PE (cxOf CXg P w K mg base Ng qg sg g cdg A0 st s H Eg).nox (.Call (.Name a p1) (e :: es) [] p2) (tLamAct c' f q i ps.length N ws tb t) := by
  refine ⟨fun pinsZ sZ σZ HZ Q IZ h => ?_⟩
  obtain ⟨hs, hc, ht⟩ := h
  refine wpAny_Call_Name_kw (thn ((pe_var (pos := p1) (i := i) hN hv hd hcd).run pinsZ sZ σZ HZ (fun v H1 => v = .ref f ∧ H1 = HZ) IZ ⟨.ref f, hs, rfl, rfl⟩) fun u s1 ⟨v, H1, I1, r1, q1⟩ => ?_)
  obtain ⟨ev, eH⟩ := q1
  subst ev
  rw [eH] at I1
  obtain rfl : u = Value.ref f := r1
  have at_ : ∀ {pins σ HZ} {s1 : Shared}, Inv (cxOf CXg P w K mg base Ng qg sg g cdg A0 st s H Eg).nox pins σ HZ s1 → s1.heap.get? f = some (PySem.W.kla_obj "<lambda>" q params body scope cl pm c' ctv) := fun I1 => I1.base.keep f _ of hfn hfr (fun z => nomatch (show f ∈ ([] : List Addr) from z))
  refine PySem.W.callWith_F (first := []) ⟨_, _, _, _, at_ I1⟩ (thn (ha.run p2 pinsZ s1 σZ HZ _ I1 ht) fun us s2 ⟨vs, H2, I2, r, h1, h2, h3⟩ => ⟨⟨_, _, _, _, at_ I2⟩, ?_⟩) he hpl
  show wpAny _ _ (call (.ref f) us) _ _ _
  have un : Un (frs st) [] H H2 s.heap s2.heap := I2.base
  obtain ⟨⟨oc, vsc, tc, hoc, hdc, hvc⟩, _, _⟩ := I2.hok c' _ h1
  have rc := lam_run (Q := Q) (A := (cxOf CXg P w K mg base Ng qg sg g cdg A0 st s H Eg).nox.A) (outer := (cxOf CXg P w K mg base Ng qg sg g cdg A0 st s H Eg).nox.stack) S hb hr I2.env0 I2.nolimit (at_ I2) ⟨c', oc, vsc, tc, rfl, hoc, hdc, hvc⟩ (CellsAt.un C un) r h2 (fun hr2 => hbody _ _ s2 H2 hr2) h3
  refine wpAny_call (codeAny_mono rc fun r s' hq => ?_)
  cases r with
  | error e => exact (show False from hq).elim
  | ok fl =>
    cases fl with
    | ret u => exact I2.after hq
    | next => exact False.elim hq
    | brk => exact False.elim hq
    | cont => exact False.elim hq
end
end Bh
namespace Bh
open PySem PySem.Spec PyProof.Rows L2 LamX NdefX
/-- the def that calls what it got in its second place: what it makes (TT) of the lambda's reading -/
def GivesTo2 (X : Cx) (Ng : List Str) (x : Str) (sg : Scope) (g : Addr) (cdg : Value) (bg : List Stmt) (a : Str) (q : Str) (n : Nat) (TT : (List V → Hp → VK → Prop) → V → Hp → VK → Prop) : Prop :=
  ∀ (f c' : Addr) (s : Shared) (H : Hp) (Q : VK) (v1 : V) (N : List Str) (ws : List (Option V)) (tb : TE),
    (∀ (e : Expr) (es : List Expr) (t : TA) (p1 p2 : Pos), PA (cxOf C8.CX0 X.prog X.w X.K X.mg X.base Ng x sg g cdg X.A X.stack s H C8.E0).nox (e :: es) t →
      starEach (e :: es) (cxOf C8.CX0 X.prog X.w X.K X.mg X.base Ng x sg g cdg X.A X.stack s H C8.E0).nox.env = (false, eval e (cxOf C8.CX0 X.prog X.w X.K X.mg X.base Ng x sg g cdg X.A X.stack s H C8.E0).nox.env) :: starEach es (cxOf C8.CX0 X.prog X.w X.K X.mg X.base Ng x sg g cdg X.A X.stack s H C8.E0).nox.env →
      (backTo p2 (starEach es (cxOf C8.CX0 X.prog X.w X.K X.mg X.base Ng x sg g cdg X.A X.stack s H C8.E0).nox.env)).any (·.1) = false →
      PE (cxOf C8.CX0 X.prog X.w X.K X.mg X.base Ng x sg g cdg X.A X.stack s H C8.E0).nox (.Call (.Name a p1) (e :: es) [] p2) (tLamAct c' f q 1 n N ws tb t)) →
    H c' = some (CodeO c' q) → TT (fun vs H' Q' => tb (startF N vs ws) H' Q') v1 H Q →
    ∃ t, PSs (cxOf C8.CX0 X.prog X.w X.K X.mg X.base Ng x sg g cdg X.A X.stack s H C8.E0).nox bg t ∧ t { nx := fun _ H' => Q .non H', rt := Q } (L2.start Ng [v1, .ref f]) H
def tLam2 (T : List (Addr × Str)) (N : List Str) (js : List Nat) (TT : (List V → Hp → VK → Prop) → V → Hp → VK → Prop) (tb : TE) (t1 : TE) : TE := fun σ H Q => t1 σ H fun v1 H1 => Tabs T H1 ∧ ∀ H2, ExtN H1 H2 → Tabs T H2 → TT (fun vs H' Q' => tb (startF N vs (js.map (slotAt σ))) H' Q') v1 H2 Q
/-- x(e1, lambda ..: body) -/
theorem pe_lamcall2 {X : Cx} {T : List (Addr × Str)} {TT : (List V → Hp → VK → Prop) → V → Hp → VK → Prop} {x a1 a : Str} {g c P : Addr} {k : Nat} {pg : Arguments} {bg : List Stmt} {sg : Scope} {dV kV doc pm cdv ct oc : Value} {an od : Option Addr} {osl : Array (Option Value)} {Ng : List Str}
    {params : Arguments} {body : Expr} {scope : Scope} {N ps fr : List Str} {js : List Nat} {tb t1 : TE} {e1 : Expr} {p lpos pos : Pos} (hg : Gl X x) (hm : X.mg x = some (.ref g)) (hk : PySem.W.keepIn X.K (.ref g) = true)
    (lk : X.K.lookup g = some ⟨oc, od, .func (PySem.W.fnOf x x pg bg sg dV kV doc pm an cdv ct), osl⟩) (hcg : PySem.W.codeIn X.K cdv x = true) (hb : L2.Binds X.K (PySem.W.fnOf x x pg bg sg dV kV doc pm an cdv ct) [a1, a] []) (Sg : FnScope Ng [a1, a] sg) (hNg : Ng[1]? = some a) (hva : Vis sg a)
    (he1 : PE X e1 t1)
    (hG : GivesTo2 X Ng x sg g cdv bg a (X.env.qual ++ "<lambda>") ps.length TT)
    (TB : TabB X.base X.mg c P) (hcode : X.env.code = .ref c) (hmT : (P, X.env.qual ++ "<lambda>") ∈ T) (hu : ∀ p ∈ T, p.1 = P → p.2 = X.env.qual ++ "<lambda>") (hr : Room (k + 2) X.A) (hdef : defaultsOf params X.env = ([], []))
    (S : NScope N ps fr scope) (hfree : ∀ y ∈ scope.names, y.2 = .free → X.env.scope.names.lookup y.1 = some .cell ∨ X.env.scope.names.lookup y.1 = some .free) (hfr : ∀ y ∈ fr, (y, NameKind.free) ∈ scope.names) (hjs : js.map (fun j => X.N[j]?) = fr.map some)
    (hbind : ∀ (q : Str) (cl : List (Str × Addr)) (pm cv ctv : Value) (us : List Value), us.length = ps.length → bindArgs (PySem.W.kla_fn "<lambda>" q params body scope cl pm cv ctv) ⟨us, []⟩ = pure (ps.zip us))
    (hbody : ∀ (A : Around) (outer : List Env) (s : Shared) (H : Hp) (F : NF) (f : Addr), F.scope = scope → Room k (A.deeper (envF F f s.heap.objs.size)) → PE (ncx C8.CX0 X.prog X.w X.K X.mg X.base N F f A outer s H C8.E0) body tb)
    (hdb : (x == ("__debug__" : Str)) = false := by decide) (hd : (a == ("__debug__" : Str)) = false := by decide) (hcd : (a == ("__classdict__" : Str)) = false := by decide)
    (hs1 : starEach [e1, .Lambda params body scope lpos] X.env = (false, eval e1 X.env) :: starEach [.Lambda params body scope lpos] X.env := by rfl) (hpl : (backTo pos (starEach [.Lambda params body scope lpos] X.env)).any (·.1) = false := by rfl) :
    PE X (.Call (.Name x p) [e1, .Lambda params body scope lpos] [] pos) (tLam2 T N js TT tb t1) := by
  refine ⟨fun pins s σ H Q I h => ?_⟩
  refine wpAny_Call_Name_kw (ld_glob I hg hm ?_ hdb)
  refine PySem.W.callWith_K (h₀ := X.base) I.ok.mod.kin hk ?_ hs1 hpl
  rw [hs1]
  show wpAny _ _ (spliced ((false, eval e1 X.env) :: backTo pos (starEach [.Lambda params body scope lpos] X.env))) _ _ s
  refine Calls.spliced_cons (thn (he1.run pins s σ H _ I h) fun u1 s0 ⟨v1, H0, I0, r1, hT, h⟩ => ?_)
  have hfr' : ∀ y ∈ scope.names, y.2 = .free → ∃ c, X.env.cells.lookup y.1 = some c := fun y hy e => (hfree y hy e).elim (fun z => I0.ok.has _ (.inl z)) fun z => I0.ok.has _ (.inr z)
  show wpAny _ _ (spliced ((false, eval (.Lambda params body scope lpos) X.env) :: backTo pos (starEach [] X.env))) _ _ s0
  refine Calls.spliced_cons (lam_make2 I0 TB hcode hmT hu hT hdef hfr' fun f c' pm' ctv H1 s' I1 eN T1 hf hfn hfs hco => ?_)
  refine Calls.spliced_nil ⟨I1.kIn, ?_⟩
  have C := cells_of I1 (Caps.made (fr := fr) (js := js) I1.ok hfree hfr hjs)
  have rc : codeAny (model X.prog X.w) X.A (.call (.ref g) ⟨[u1, .ref f], []⟩) (CR C8.CX0 X.stack X.prog X.w H1 s' Q C8.E0) s' := by
    refine run_ofS (N := Ng) (ps := [a1, a]) (us := [u1, .ref f]) (vs := [v1, .ref f]) lk hcg Sg hr I1.env0 (hb s' [u1, .ref f] I1.kIn rfl) (.cons r1 (.cons rfl .nil)) rfl fun hr' => ?_
    refine (fun ⟨t, h1, h2⟩ => ⟨t, h1.nox, h2⟩) (hG f c' s' H1 Q v1 N (js.map (slotAt σ)) tb (fun e es t p1 p2 ha he hp => pe_lamact S (hbind _ _ _ _ _) hf hfn hfs C hr' (fun A outer s H hr2 => hbody A outer s H _ _ rfl hr2) hNg hva ha hd hcd he hp) hco (h H1 eN T1))
  refine wpAny_call (codeAny_mono rc fun r s2 hq => ?_)
  cases r with
  | error e => exact (show False from hq).elim
  | ok fl =>
    cases fl with
    | ret u => exact I1.after hq
    | next => exact False.elim hq
    | brk => exact False.elim hq
    | cont => exact False.elim hq
end Bh

set_option Elab.async false
set_option linter.all false
set_option maxRecDepth 100000
namespace Bh
open PySem PySem.Spec PyProof.Rows L2
/-! ### lines of cases: the mirror -/
def lettersD : Str := "abcdefghijklmnopqrstuvwxyz0123456789"
def wordB (w z : Str) : Bool := decide (1 ≤ w.length ∧ w.length ≤ 8) && (TL.tl w).all (fun c => decide (c ∈ TL.tl z))
def lineT (t : Tst) : Str := t.1 ++ t.2.1 ++ t.2.2
def lineS (s : Stp) : Str := if s.2 = "+" then s.1 ++ "+" else s.1 ++ ":" ++ s.2
def leftL (ts : List Tst) : Str := if ts = [] then "always" else Txt.join " and " (ts.map lineT)
def rightL : Option (List Stp) → Str
  | none => "drop"
  | some ss => if ss = [] then "keep" else Txt.join ", " (ss.map lineS)
def lineC (c : Cas) : Str := "when " ++ leftL c.1 ++ " do " ++ rightL c.2
def seqO {α : Type} : List (Option α) → Option (List α)
  | [] => some []
  | none :: _ => none
  | some x :: r => (seqO r).map (x :: ·)
def allR {α : Type} (l : List (Option α)) : Option (List α) := if l.length ≤ 6 then seqO l else none
def tryT (part s : Str) : Option Tst := if (wordB (Txt.partition part s).1 letters && wordB (Txt.partition part s).2.2 lettersD) = true then some ((Txt.partition part s).1, s, (Txt.partition part s).2.2) else none
def readT (part : Str) : Option Tst := signs.findSome? (tryT part)
def readS (part : Str) : Option Stp :=
  if Txt.endswith part "+" = true then (if wordB (Txt.removesuffix part "+") letters = true then some (Txt.removesuffix part "+", "+") else none)
  else if (wordB (Txt.partition part ":").1 letters && wordB (Txt.partition part ":").2.2 lettersD) = true then some ((Txt.partition part ":").1, (Txt.partition part ":").2.2) else none
def readTs (x : Str) : Option (List Tst) := if x = "always" then some [] else allR ((Txt.split x " and ").map readT)
def readSs (x : Str) : Option (List Stp) := if x = "keep" then some [] else allR ((Txt.split x ", ").map readS)
def readP (before behind : Str) : Option Cas := match readTs before with
  | none => none
  | some ts => if behind = "drop" then some (ts, none) else match readSs behind with
    | none => none
    | some ss => some (ts, some ss)
def readC (l : Str) : Option Cas := if Txt.startswith l "when " = true then readP (Txt.partition (Txt.removeprefix l "when ") " do ").1 (Txt.partition (Txt.removeprefix l "when ") " do ").2.2 else none
/-! what a case is -/
def OkT (t : Tst) : Prop := wordB t.1 letters = true ∧ t.2.1 ∈ signs ∧ wordB t.2.2 lettersD = true
def OkS (s : Stp) : Prop := wordB s.1 letters = true ∧ (s.2 = "+" ∨ wordB s.2 lettersD = true)
structure OkC (c : Cas) : Prop where
  n : c.1.length ≤ 6
  t : ∀ t ∈ c.1, OkT t
  m : ∀ ss, c.2 = some ss → ss.length ≤ 6
  s : ∀ ss, c.2 = some ss → ∀ s ∈ ss, OkS s
/-! words -/
theorem app_assoc (a b c : Str) : a ++ b ++ c = a ++ (b ++ c) := TL.ext_tl (by rw [TL.tl_append, TL.tl_append, TL.tl_append, TL.tl_append, List.append_assoc])
theorem word_len {w z : Str} (h : wordB w z = true) : 1 ≤ w.length ∧ w.length ≤ 8 := of_decide_eq_true (Bool.and_eq_true_iff.mp h).1
theorem word_mem {w z : Str} (h : wordB w z = true) : ∀ c ∈ TL.tl w, c ∈ TL.tl z := fun c hc => of_decide_eq_true (List.all_eq_true.mp (Bool.and_eq_true_iff.mp h).2 c hc)
theorem word_mk {w z : Str} (h1 : 1 ≤ w.length) (h2 : w.length ≤ 8) (h : ∀ c ∈ TL.tl w, c ∈ TL.tl z) : wordB w z = true :=
  Bool.and_eq_true_iff.mpr ⟨decide_eq_true ⟨h1, h2⟩, List.all_eq_true.mpr fun c hc => decide_eq_true (h c hc)⟩
theorem let_letD : ∀ c ∈ TL.tl letters, c ∈ TL.tl lettersD := by decide +kernel
theorem word_letD {w : Str} (h : wordB w letters = true) : wordB w lettersD = true := word_mk (word_len h).1 (word_len h).2 fun c hc => let_letD c (word_mem h c hc)
theorem word_free {w : Str} {c : Nat} (h : wordB w lettersD = true) (hc : c ∉ TL.tl lettersD) : c ∉ TL.tl w := fun z => hc (word_mem h c z)
theorem nm_word {w : Str} (h : IsNm w) : wordB w letters = true := word_mk h.lo h.hi fun c hc => by
  have key : ∀ k : _root_.Fin 26, 97 + k.val ∈ TL.tl letters := by decide +kernel
  obtain ⟨a, b⟩ := h.az c hc
  have q := key ⟨c - 97, by omega⟩
  rw [show 97 + (⟨c - 97, by omega⟩ : _root_.Fin 26).val = c by show 97 + (c - 97) = c; omega] at q
  exact q
theorem pool_word : ∀ o ∈ pool, wordB o lettersD = true := by decide +kernel
theorem empty_word (z : Str) : wordB Str.empty z = false := rfl
theorem nin (c : Nat) (h : c ∉ TL.tl lettersD) {a : Str} (ha : wordB a letters = true) : c ∉ TL.tl a := word_free (word_letD ha) h
/-! partition -/
theorem par_spec {S : List Nat} : ∀ {l acc a b : List Nat}, TL.par S acc l = some (a, b) → acc ++ l = a ++ (S ++ b)
  | [], acc, a, b, h => by cases h
  | c :: r, acc, a, b, h => by
    by_cases hp : TL.pre S (c :: r) = true
    · rw [TL.par_hit hp] at h
      cases h
      have e : (c :: r).take S.length = S := eq_of_beq hp
      conv =>
        lhs
        rw [← List.take_append_drop S.length (c :: r), e]
    · rw [TL.par_miss (Bool.eq_false_iff.mpr hp)] at h
      have q := par_spec h
      rw [← q, List.append_assoc]
      rfl
theorem part_cases (x y : Str) (hy : TL.tl y ≠ []) : (∃ a b, Txt.partition x y = (a, y, b) ∧ x = a ++ y ++ b) ∨ Txt.partition x y = (x, Str.empty, Str.empty) := by
  rw [TL.partition_par x y hy]
  cases h : TL.par (TL.tl y) [] (TL.tl x) with
  | none => exact .inr rfl
  | some p =>
    obtain ⟨a, b⟩ := p
    refine .inl ⟨_, _, rfl, TL.ext_tl ?_⟩
    have q := par_spec h
    rw [TL.tl_append, TL.tl_append, List.append_assoc]
    exact q
/-! prefixes, suffixes -/
theorem at0 {x y : Str} : Builtin.Str.subAt x y 0 = true ↔ (TL.tl x).take (TL.tl y).length = TL.tl y := by
  rw [StrLaws.subAt_eq, List.drop_zero, TL.len_tl y]
  exact ⟨fun h => eq_of_beq h, fun h => by rw [h]; exact beq_self_eq_true _⟩
theorem starts_app (y a : Str) : Txt.startswith (y ++ a) y = true := by
  unfold Txt.startswith
  rw [at0.mpr (by rw [TL.tl_append, List.take_left]), decide_eq_true (by rw [TL.len_tl, TL.len_tl, TL.tl_append, List.length_append]; omega)]
  rfl
theorem removeprefix_app (y a : Str) : Txt.removeprefix (y ++ a) y = a := by
  have h := starts_app y a
  unfold Txt.startswith at h
  rw [StrLaws.removeprefix_eq, if_pos h]
  refine TL.ext_tl ?_
  show List.take _ (List.drop _ (TL.tl (y ++ a))) = TL.tl a
  rw [TL.len_tl, TL.len_tl, TL.tl_append, List.drop_left, List.length_append]
  exact List.take_of_length_le (by omega)
theorem prefix_spec {x y : Str} (h : Txt.startswith x y = true) : x = y ++ Txt.removeprefix x y := by
  unfold Txt.startswith at h
  rw [StrLaws.removeprefix_eq, if_pos h]
  have h1 := at0.mp (Bool.and_eq_true_iff.mp h).2
  refine TL.ext_tl ?_
  rw [TL.tl_append]
  show _ = TL.tl y ++ List.take _ (List.drop _ (TL.tl x))
  rw [TL.len_tl, TL.len_tl, List.take_of_length_le (by rw [List.length_drop]; exact Nat.le_refl _)]
  conv =>
    lhs
    rw [← List.take_append_drop (TL.tl y).length (TL.tl x), h1]
theorem ends_app (a y : Str) : Txt.endswith (a ++ y) y = true := by
  unfold Txt.endswith
  have e : Builtin.Str.subAt (a ++ y) y ((a ++ y).length - y.length) = true := by
    rw [StrLaws.subAt_eq, TL.len_tl, TL.len_tl]
    show ((TL.tl (a ++ y)).drop _).take _ == TL.tl y
    rw [TL.tl_append, List.length_append, Nat.add_sub_cancel, List.drop_left, List.take_length]
    exact beq_self_eq_true _
  rw [e, decide_eq_true (by rw [TL.len_tl, TL.len_tl, TL.tl_append, List.length_append]; omega)]
  rfl
theorem removesuffix_app (a y : Str) : Txt.removesuffix (a ++ y) y = a := by
  have h := ends_app a y
  unfold Txt.endswith at h
  rw [StrLaws.removesuffix_eq, if_pos h]
  refine TL.ext_tl ?_
  show List.take _ (List.drop 0 (TL.tl (a ++ y))) = TL.tl a
  rw [TL.len_tl, TL.len_tl, TL.tl_append, List.drop_zero, List.length_append, Nat.add_sub_cancel, Nat.sub_zero, List.take_left]
theorem suffix_spec {x y : Str} (h : Txt.endswith x y = true) : x = Txt.removesuffix x y ++ y := by
  unfold Txt.endswith at h
  rw [StrLaws.removesuffix_eq, if_pos h]
  have h1 := (Bool.and_eq_true_iff.mp h).2
  rw [StrLaws.subAt_eq] at h1
  have h2 : (List.drop (x.length - y.length) (TL.tl x)).take y.length = TL.tl y := eq_of_beq h1
  have h3 : 0 + y.length ≤ x.length := of_decide_eq_true (Bool.and_eq_true_iff.mp h).1
  refine TL.ext_tl ?_
  rw [TL.tl_append]
  show _ = List.take _ (List.drop 0 (TL.tl x)) ++ TL.tl y
  rw [← h2, List.drop_zero, Nat.sub_zero, List.take_of_length_le (l := List.drop _ _) (by rw [List.length_drop, ← TL.len_tl]; omega), List.take_append_drop]
theorem mem_app {c : Nat} {a b : Str} : c ∈ TL.tl (a ++ b) ↔ c ∈ TL.tl a ∨ c ∈ TL.tl b := by rw [TL.tl_append]; exact List.mem_append
theorem ends_mem {x y : Str} {c : Nat} (h : Txt.endswith x y = true) (hc : c ∈ TL.tl y) : c ∈ TL.tl x := by
  rw [suffix_spec h]
  exact mem_app.mpr (.inr hc)
/-! one test, one step -/
theorem sign_nl : ∀ s ∈ signs, ∀ c ∈ TL.tl s, c ∉ TL.tl lettersD := by decide +kernel
theorem sign_one : ∀ s ∈ signs, ∃ c, TL.tl s = [c] := by
  intro s hs
  simp only [signs, List.mem_cons, List.not_mem_nil, or_false] at hs
  rcases hs with rfl | rfl | rfl | rfl <;> exact ⟨_, rfl⟩
theorem sign_ne : ∀ s ∈ signs, ∀ t ∈ signs, s ≠ t → ∀ c ∈ TL.tl s, c ∉ TL.tl t := by decide +kernel
theorem tryT_hit {t : Tst} (h : OkT t) : tryT (lineT t) t.2.1 = some t := by
  obtain ⟨h1, h2, h3⟩ := h
  obtain ⟨c, hc⟩ := sign_one _ h2
  have nl := sign_nl _ h2 c (by rw [hc]; exact List.mem_singleton.mpr rfl)
  have e : Txt.partition (lineT t) t.2.1 = (t.1, t.2.1, t.2.2) := TL.partition_app hc (nin c nl h1)
  unfold tryT
  rw [e]
  exact if_pos (Bool.and_eq_true_iff.mpr ⟨h1, h3⟩)
theorem tryT_miss {t : Tst} {s : Str} (h : OkT t) (hs : s ∈ signs) (ne : s ≠ t.2.1) : tryT (lineT t) s = none := by
  obtain ⟨h1, h2, h3⟩ := h
  obtain ⟨c, hc⟩ := sign_one _ hs
  have mc : c ∈ TL.tl s := by rw [hc]; exact List.mem_singleton.mpr rfl
  have nl := sign_nl _ hs c mc
  have nf : c ∉ TL.tl (lineT t) := fun z => by
    rcases mem_app.mp z with z | z
    · rcases mem_app.mp z with z | z
      · exact nin c nl h1 z
      · exact sign_ne _ hs _ h2 ne c mc z
    · exact word_free h3 nl z
  have e : Txt.partition (lineT t) s = (lineT t, Str.empty, Str.empty) := TL.partition_none hc nf
  unfold tryT
  rw [e]
  refine if_neg ?_
  rw [empty_word, Bool.and_false]
  exact Bool.false_ne_true
theorem find_one {α β : Type} (f : α → Option β) (y : β) : ∀ (l : List α) (x : α), x ∈ l → f x = some y → (∀ z ∈ l, z ≠ x → f z = none) → l.findSome? f = some y
  | [], x, h, _, _ => by cases h
  | a :: r, x, h, hx, hn => by
    by_cases e : a = x
    · rw [List.findSome?_cons, e, hx]
    · rw [List.findSome?_cons, hn a (List.mem_cons_self ..) e]
      rcases List.mem_cons.mp h with z | z
      · exact absurd z.symm e
      · exact find_one f y r x z hx fun w hw => hn w (List.mem_cons_of_mem _ hw)
theorem readT_line {t : Tst} (h : OkT t) : readT (lineT t) = some t := find_one _ _ signs t.2.1 h.2.1 (tryT_hit h) fun s hs ne => tryT_miss h hs ne
theorem readT_back {part : Str} {t : Tst} (h : readT part = some t) : lineT t = part ∧ OkT t := by
  obtain ⟨s, hs, e⟩ := List.exists_of_findSome?_eq_some h
  unfold tryT at e
  by_cases hw : (wordB (Txt.partition part s).1 letters && wordB (Txt.partition part s).2.2 lettersD) = true
  · rw [if_pos hw] at e
    cases e
    have hw2 := Bool.and_eq_true_iff.mp hw
    refine ⟨?_, hw2.1, hs, hw2.2⟩
    obtain ⟨c, hc⟩ := sign_one _ hs
    rcases part_cases part s (by rw [hc]; simp) with ⟨a, b, e1, e2⟩ | e1
    · rw [e1]
      exact e2.symm
    · rw [e1] at hw2
      exact absurd hw2.2 (by rw [empty_word]; exact Bool.false_ne_true)
  · rw [if_neg hw] at e
    cases e
theorem readS_line {s : Stp} (h : OkS s) : readS (lineS s) = some s := by
  obtain ⟨h1, h2⟩ := h
  obtain ⟨a, b⟩ := s
  by_cases e : b = "+"
  · subst e
    have el : lineS (a, "+") = a ++ "+" := if_pos rfl
    unfold readS
    rw [el, if_pos (ends_app a "+"), removesuffix_app]
    exact if_pos h1
  · have hb : wordB b lettersD = true := h2.resolve_left e
    have el : lineS (a, b) = a ++ ":" ++ b := if_neg e
    have nf : 43 ∉ TL.tl (a ++ ":" ++ b) := fun z => by
      rcases mem_app.mp z with z | z
      · rcases mem_app.mp z with z | z
        · exact nin 43 (by decide +kernel) h1 z
        · exact absurd z (by decide +kernel)
      · exact word_free hb (by decide +kernel) z
    have ne : ¬ Txt.endswith (a ++ ":" ++ b) "+" = true := fun z => nf (ends_mem z (by decide +kernel))
    have ep : Txt.partition (a ++ ":" ++ b) ":" = (a, (":" : Str), b) := TL.partition_app (y := ":") (s := 58) (S := []) rfl (nin 58 (by decide +kernel) h1)
    unfold readS
    rw [el, if_neg ne, ep]
    exact if_pos (Bool.and_eq_true_iff.mpr ⟨h1, hb⟩)
theorem readS_back {part : Str} {s : Stp} (h : readS part = some s) : lineS s = part ∧ OkS s := by
  unfold readS at h
  by_cases e : Txt.endswith part "+" = true
  · rw [if_pos e] at h
    by_cases hw : wordB (Txt.removesuffix part "+") letters = true
    · rw [if_pos hw] at h
      cases h
      refine ⟨?_, hw, .inl rfl⟩
      have q : lineS (Txt.removesuffix part "+", "+") = Txt.removesuffix part "+" ++ "+" := if_pos rfl
      rw [q]
      exact (suffix_spec e).symm
    · rw [if_neg hw] at h
      cases h
  · rw [if_neg e] at h
    by_cases hw : (wordB (Txt.partition part ":").1 letters && wordB (Txt.partition part ":").2.2 lettersD) = true
    · rw [if_pos hw] at h
      cases h
      have hw2 := Bool.and_eq_true_iff.mp hw
      refine ⟨?_, hw2.1, .inr hw2.2⟩
      have nb : (Txt.partition part ":").2.2 ≠ "+" := fun z => by
        rw [z] at hw2
        exact absurd hw2.2 (by decide +kernel)
      have q : lineS ((Txt.partition part ":").1, (Txt.partition part ":").2.2) = (Txt.partition part ":").1 ++ ":" ++ (Txt.partition part ":").2.2 := if_neg nb
      rw [q]
      rcases part_cases part ":" (by decide +kernel) with ⟨a, b, e1, e2⟩ | e1
      · rw [e1]
        exact e2.symm
      · rw [e1] at hw2
        exact absurd hw2.2 (by rw [empty_word]; exact Bool.false_ne_true)
    · rw [if_neg hw] at h
      cases h
/-! all of them -/
theorem seqO_some {α : Type} : ∀ l : List α, seqO (l.map some) = some l
  | [] => rfl
  | x :: r => by
    show (seqO (r.map some)).map (x :: ·) = _
    rw [seqO_some r]
    rfl
theorem seqO_back {α : Type} : ∀ {l : List (Option α)} {ys : List α}, seqO l = some ys → l = ys.map some
  | [], _, h => by cases h; rfl
  | none :: _, _, h => by cases h
  | some x :: r, ys, h => by
    have h' : (seqO r).map (x :: ·) = some ys := h
    cases e : seqO r with
    | none =>
      rw [e] at h'
      cases h'
    | some zs =>
      rw [e] at h'
      cases h'
      rw [seqO_back e]
      rfl
theorem allR_line {α : Type} {line : α → Str} {read : Str → Option α} {l : List α} (h : ∀ x ∈ l, read (line x) = some x) (n : l.length ≤ 6) : allR ((l.map line).map read) = some l := by
  have e : (l.map line).map read = l.map some := by
    rw [List.map_map]
    exact List.map_congr_left fun x hx => h x hx
  unfold allR
  rw [e, if_pos (by rw [List.length_map]; exact n), seqO_some]
theorem allR_back {α : Type} {line : α → Str} {read : Str → Option α} {Ok : α → Prop} {l : List Str} {ys : List α} (hb : ∀ p x, read p = some x → line x = p ∧ Ok x) (h : allR (l.map read) = some ys) : ys.map line = l ∧ ys.length ≤ 6 ∧ ∀ y ∈ ys, Ok y := by
  unfold allR at h
  by_cases hl : (l.map read).length ≤ 6
  · rw [if_pos hl] at h
    have q := seqO_back h
    have key : ∀ (l : List Str) (ys : List α), l.map read = ys.map some → ys.map line = l ∧ ∀ y ∈ ys, Ok y := by
      intro l
      induction l with
      | nil =>
        intro ys q
        cases ys with
        | nil => exact ⟨rfl, fun y hy => by cases hy⟩
        | cons y r => cases q
      | cons p r ih =>
        intro ys q
        cases ys with
        | nil => cases q
        | cons y ys =>
          rw [List.map_cons, List.map_cons] at q
          injection q with q1 q2
          obtain ⟨e1, e2⟩ := ih ys q2
          obtain ⟨f1, f2⟩ := hb p y q1
          refine ⟨by rw [List.map_cons, f1, e1], fun z hz => ?_⟩
          rcases List.mem_cons.mp hz with rfl | hz
          · exact f2
          · exact e2 z hz
    obtain ⟨e1, e2⟩ := key l ys q
    have hl2 : (ys.map some).length ≤ 6 := by
      rw [← q]
      exact hl
    rw [List.length_map] at hl2
    exact ⟨e1, hl2, e2⟩
  · rw [if_neg hl] at h
    cases h
theorem split_ne (x y : Str) : Txt.split x y ≠ [] := by
  unfold Txt.split
  split
  · simp
  · split
    · simp
    · intro h
      rw [StrLaws.partsBetween_eq] at h
      obtain ⟨p, q, e⟩ := StrLaws.partsFrom_ne x y.length 0 (Builtin.Str.occurrences x y 0 x.length (x.length + 1))
      rw [e] at h
      cases h
theorem join_mem {y : Str} {c : Nat} {p : Str} {r : List Str} (h : c ∈ TL.tl p) : c ∈ TL.tl (Txt.join y (p :: r)) := by
  rw [TL.join_eq]
  cases r with
  | nil => exact h
  | cons q r =>
    show c ∈ TL.tl (p ++ y ++ Str.join y (q :: r))
    exact mem_app.mpr (.inl (mem_app.mpr (.inl h)))

/-! the tests of a line, its steps -/
theorem lineT_free {t : Tst} (h : OkT t) : 32 ∉ TL.tl (lineT t) ∧ 3 ≤ (TL.tl (lineT t)).length := by
  obtain ⟨h1, h2, h3⟩ := h
  refine ⟨fun z => ?_, ?_⟩
  · rcases mem_app.mp z with z | z
    · rcases mem_app.mp z with z | z
      · exact nin 32 (by decide +kernel) h1 z
      · have key : ∀ s ∈ signs, 32 ∉ TL.tl s := by decide +kernel
        exact key _ h2 z
    · exact word_free h3 (by decide +kernel) z
  · obtain ⟨c, hc⟩ := sign_one _ h2
    have l1 := (word_len h1).1
    have l3 := (word_len h3).1
    rw [TL.len_tl] at l1 l3
    unfold lineT
    rw [TL.tl_append, TL.tl_append, hc, List.length_append, List.length_append]
    show 3 ≤ _ + 1 + _
    omega
theorem lineT_sign {t : Tst} (h : OkT t) : ∃ c ∈ ([61, 33, 60, 62] : List Nat), c ∈ TL.tl (lineT t) := by
  have key : ∀ s ∈ signs, ∃ c ∈ ([61, 33, 60, 62] : List Nat), c ∈ TL.tl s := by decide +kernel
  obtain ⟨c, h1, h2⟩ := key _ h.2.1
  exact ⟨c, h1, mem_app.mpr (.inl (mem_app.mpr (.inr h2)))⟩
theorem lineS_free {s : Stp} (h : OkS s) : 44 ∉ TL.tl (lineS s) ∧ 32 ∉ TL.tl (lineS s) ∧ ∃ c ∈ ([43, 58] : List Nat), c ∈ TL.tl (lineS s) := by
  obtain ⟨h1, h2⟩ := h
  obtain ⟨a, b⟩ := s
  by_cases e : b = "+"
  · subst e
    have el : lineS (a, "+") = a ++ "+" := if_pos rfl
    rw [el]
    refine ⟨fun z => ?_, fun z => ?_, 43, by decide, mem_app.mpr (.inr (by decide +kernel))⟩
    · rcases mem_app.mp z with z | z
      · exact nin 44 (by decide +kernel) h1 z
      · exact absurd z (by decide +kernel)
    · rcases mem_app.mp z with z | z
      · exact nin 32 (by decide +kernel) h1 z
      · exact absurd z (by decide +kernel)
  · have hb : wordB b lettersD = true := h2.resolve_left e
    have el : lineS (a, b) = a ++ ":" ++ b := if_neg e
    rw [el]
    refine ⟨fun z => ?_, fun z => ?_, 58, by decide, mem_app.mpr (.inl (mem_app.mpr (.inr (by decide +kernel))))⟩
    · rcases mem_app.mp z with z | z
      · rcases mem_app.mp z with z | z
        · exact nin 44 (by decide +kernel) h1 z
        · exact absurd z (by decide +kernel)
      · exact word_free hb (by decide +kernel) z
    · rcases mem_app.mp z with z | z
      · rcases mem_app.mp z with z | z
        · exact nin 32 (by decide +kernel) h1 z
        · exact absurd z (by decide +kernel)
      · exact word_free hb (by decide +kernel) z
theorem readTs_left {ts : List Tst} (h : ∀ t ∈ ts, OkT t) (n : ts.length ≤ 6) : readTs (leftL ts) = some ts := by
  unfold readTs leftL
  by_cases e : ts = []
  · subst e
    rfl
  · rw [if_neg e]
    have ne : Txt.join " and " (ts.map lineT) ≠ "always" := fun z => by
      cases ts with
      | nil => exact e rfl
      | cons t r =>
        obtain ⟨c, h1, h2⟩ := lineT_sign (h t (List.mem_cons_self ..))
        have q : c ∈ TL.tl (Txt.join " and " ((t :: r).map lineT)) := join_mem h2
        rw [z] at q
        have key : ∀ c ∈ ([61, 33, 60, 62] : List Nat), c ∉ TL.tl ("always" : Str) := by decide +kernel
        exact key c h1 q
    rw [if_neg ne, TL.split_join (y := " and ") (s := 32) (S := [97, 110, 100, 32]) (by decide +kernel) (by decide +kernel) (by simpa using e) (fun p hp => by
      obtain ⟨t, ht, rfl⟩ := List.mem_map.mp hp
      exact (lineT_free (h t ht)).1)]
    exact allR_line (fun t ht => readT_line (h t ht)) n
theorem readTs_back {x : Str} {ts : List Tst} (h : readTs x = some ts) : leftL ts = x ∧ ts.length ≤ 6 ∧ ∀ t ∈ ts, OkT t := by
  unfold readTs at h
  by_cases e : x = "always"
  · rw [if_pos e] at h
    cases h
    exact ⟨e.symm, by decide, fun t ht => by cases ht⟩
  · rw [if_neg e] at h
    obtain ⟨e1, e2, e3⟩ := allR_back (fun p t h => readT_back h) h
    refine ⟨?_, e2, e3⟩
    have ne : ts ≠ [] := fun z => by
      rw [z] at e1
      exact split_ne _ _ e1.symm
    unfold leftL
    rw [if_neg ne, e1, TL.join_eq, StrLaws.join_split]
theorem readSs_right {ss : List Stp} (h : ∀ s ∈ ss, OkS s) (n : ss.length ≤ 6) : readSs (rightL (some ss)) = some ss ∧ rightL (some ss) ≠ "drop" := by
  by_cases e : ss = []
  · subst e
    exact ⟨rfl, by decide +kernel⟩
  · have eR : rightL (some ss) = Txt.join ", " (ss.map lineS) := if_neg e
    rw [eR]
    have key : ∃ c ∈ ([43, 58] : List Nat), c ∈ TL.tl (Txt.join ", " (ss.map lineS)) := by
      cases ss with
      | nil => exact absurd rfl e
      | cons s r =>
        obtain ⟨_, _, c, h1, h2⟩ := lineS_free (h s (List.mem_cons_self ..))
        exact ⟨c, h1, join_mem h2⟩
    obtain ⟨c, h1, h2⟩ := key
    have nk : Txt.join ", " (ss.map lineS) ≠ "keep" := fun z => by
      rw [z] at h2
      have key : ∀ c ∈ ([43, 58] : List Nat), c ∉ TL.tl ("keep" : Str) := by decide +kernel
      exact key c h1 h2
    refine ⟨?_, fun z => ?_⟩
    · unfold readSs
      rw [if_neg nk, TL.split_join (y := ", ") (s := 44) (S := [32]) (by decide +kernel) (by decide +kernel) (by simpa using e) (fun p hp => by
        obtain ⟨s, hs, rfl⟩ := List.mem_map.mp hp
        exact (lineS_free (h s hs)).1)]
      exact allR_line (fun s hs => readS_line (h s hs)) n
    · rw [z] at h2
      have key : ∀ c ∈ ([43, 58] : List Nat), c ∉ TL.tl ("drop" : Str) := by decide +kernel
      exact key c h1 h2
theorem readSs_back {x : Str} {ss : List Stp} (h : readSs x = some ss) : rightL (some ss) = x ∧ ss.length ≤ 6 ∧ ∀ s ∈ ss, OkS s := by
  unfold readSs at h
  by_cases e : x = "keep"
  · rw [if_pos e] at h
    cases h
    exact ⟨e.symm, by decide, fun t ht => by cases ht⟩
  · rw [if_neg e] at h
    obtain ⟨e1, e2, e3⟩ := allR_back (fun p t h => readS_back h) h
    refine ⟨?_, e2, e3⟩
    have ne : ss ≠ [] := fun z => by
      rw [z] at e1
      exact split_ne _ _ e1.symm
    show (if ss = [] then ("keep" : Str) else Txt.join ", " (ss.map lineS)) = x
    rw [if_neg ne, e1, TL.join_eq, StrLaws.join_split]
/-! the whole line -/
theorem par_skip {s : Nat} {S : List Nat} : ∀ {p l acc : List Nat}, s ∉ p → TL.par (s :: S) acc (p ++ l) = TL.par (s :: S) (acc ++ p) l
  | [], l, acc, _ => by rw [List.append_nil]; rfl
  | c :: r, l, acc, h => by
    show TL.par (s :: S) acc (c :: (r ++ l)) = _
    rw [TL.par_miss (TL.pre_of_head S (r ++ l) fun z => h (by rw [z]; exact List.mem_cons_self ..)), par_skip fun z => h (List.mem_cons_of_mem _ z), List.append_assoc]
    rfl
theorem pre_do {q l : List Nat} (h : 32 ∉ q) (n : 3 ≤ q.length) : TL.pre [32, 100, 111, 32] (32 :: (q ++ l)) = false := by
  match q, h, n with
  | a :: b :: c :: r, h, _ =>
    refine Bool.eq_false_iff.mpr fun z => ?_
    have e : (32 :: (a :: b :: c :: r ++ l)).take 4 = [32, 100, 111, 32] := eq_of_beq z
    have e2 : [32, a, b, c] = [32, 100, 111, 32] := e
    injection e2 with _ e2
    injection e2 with _ e2
    injection e2 with _ e2
    injection e2 with e2 _
    exact h (by rw [e2]; simp)
theorem par_tests : ∀ {parts : List (List Nat)} {acc rest : List Nat}, parts ≠ [] → (∀ p ∈ parts, 32 ∉ p ∧ 3 ≤ p.length) →
    TL.par [32, 100, 111, 32] acc (TL.joinL [32, 97, 110, 100, 32] parts ++ ([32, 100, 111, 32] ++ rest)) = some (acc ++ TL.joinL [32, 97, 110, 100, 32] parts, rest)
  | [], _, _, h, _ => absurd rfl h
  | [p], acc, rest, _, h => TL.par_part1 (h p (List.mem_singleton.mpr rfl)).1
  | p :: q :: r, acc, rest, _, h => by
    have hp := h p (List.mem_cons_self ..)
    have hq := h q (List.mem_cons_of_mem _ (List.mem_cons_self ..))
    have ih := par_tests (parts := q :: r) (acc := acc ++ p ++ [32, 97, 110, 100, 32]) (rest := rest) (by simp) (fun z hz => h z (List.mem_cons_of_mem _ hz))
    have ej : TL.joinL [32, 97, 110, 100, 32] (p :: q :: r) = p ++ ([32, 97, 110, 100, 32] ++ TL.joinL [32, 97, 110, 100, 32] (q :: r)) := rfl
    have eq1 : ∃ t, TL.joinL [32, 97, 110, 100, 32] (q :: r) = q ++ t := by
      cases r with
      | nil => exact ⟨[], (List.append_nil _).symm⟩
      | cons z r => exact ⟨_, rfl⟩
    obtain ⟨t, et⟩ := eq1
    rw [ej, List.append_assoc, par_skip hp.1, List.append_assoc]
    show TL.par [32, 100, 111, 32] (acc ++ p) (32 :: 97 :: 110 :: 100 :: 32 :: (TL.joinL [32, 97, 110, 100, 32] (q :: r) ++ ([32, 100, 111, 32] ++ rest))) = _
    rw [TL.par_miss rfl, TL.par_miss (TL.pre_of_head _ _ (by decide)), TL.par_miss (TL.pre_of_head _ _ (by decide)), TL.par_miss (TL.pre_of_head _ _ (by decide)),
      TL.par_miss (by rw [et, List.append_assoc]; exact pre_do hq.1 hq.2)]
    have ea : acc ++ p ++ [32] ++ [97] ++ [110] ++ [100] ++ [32] = acc ++ p ++ [32, 97, 110, 100, 32] := by simp
    rw [ea, ih]
    simp
theorem part_line {ts : List Tst} (h : ∀ t ∈ ts, OkT t) (b : Str) : Txt.partition (leftL ts ++ " do " ++ b) " do " = (leftL ts, (" do " : Str), b) := by
  by_cases e : ts = []
  · subst e
    exact TL.partition_app (y := " do ") (s := 32) (S := [100, 111, 32]) (by decide +kernel) (by decide +kernel)
  · have el : leftL ts = Txt.join " and " (ts.map lineT) := if_neg e
    have et : TL.tl (leftL ts) = TL.joinL [32, 97, 110, 100, 32] (ts.map (fun t => TL.tl (lineT t))) := by
      rw [el, TL.join_eq, TL.tl_join, List.map_map]
      rfl
    have hd : TL.tl (" do " : Str) = [32, 100, 111, 32] := by decide +kernel
    rw [TL.partition_par _ _ (by rw [hd]; simp), TL.tl_append, TL.tl_append, List.append_assoc, hd, et]
    have hq : ∀ p ∈ ts.map (fun t => TL.tl (lineT t)), 32 ∉ p ∧ 3 ≤ p.length := fun p hp => by
      obtain ⟨t, ht, rfl⟩ := List.mem_map.mp hp
      exact lineT_free (h t ht)
    rw [par_tests (acc := []) (rest := TL.tl b) (by simpa using e) hq]
    show ((⟨([] ++ _ : List Nat).toArray⟩ : Str), _, (⟨(TL.tl b).toArray⟩ : Str)) = _
    rw [List.nil_append, ← et, TL.mk_tl, TL.mk_tl]
/-- the line of a case, read -/
theorem readC_line {c : Cas} (h : OkC c) : readC (lineC c) = some c := by
  have e : lineC c = "when " ++ (leftL c.1 ++ " do " ++ rightL c.2) := by
    unfold lineC
    rw [app_assoc, app_assoc, app_assoc]
  unfold readC
  rw [e, if_pos (starts_app _ _), removeprefix_app, part_line h.t]
  unfold readP
  show (match readTs (leftL c.1) with | none => none | some ts => _) = _
  rw [readTs_left h.t h.n]
  obtain ⟨ts, so⟩ := c
  cases so with
  | none => rfl
  | some ss =>
    obtain ⟨e1, e2⟩ := readSs_right (h.s ss rfl) (h.m ss rfl)
    show (if rightL (some ss) = "drop" then _ else match readSs (rightL (some ss)) with | none => none | some ss => some (ts, some ss)) = _
    rw [if_neg e2, e1]
/-- a line that is read is the line of the case -/
theorem readC_back {l : Str} {c : Cas} (h : readC l = some c) : lineC c = l ∧ OkC c := by
  unfold readC at h
  by_cases e : Txt.startswith l "when " = true
  · rw [if_pos e] at h
    have el := prefix_spec e
    have key : ∀ {x y : Str} {c : Cas}, readP x y = some c → leftL c.1 = x ∧ rightL c.2 = y ∧ OkC c := by
      intro x y c hr
      unfold readP at hr
      cases e1 : readTs x with
      | none =>
        rw [e1] at hr
        cases hr
      | some ts =>
        rw [e1] at hr
        obtain ⟨a1, a2, a3⟩ := readTs_back e1
        have hr' : (if y = "drop" then some (ts, none) else match readSs y with | none => none | some ss => some (ts, some ss)) = some c := hr
        by_cases e2 : y = "drop"
        · rw [if_pos e2] at hr'
          cases hr'
          exact ⟨a1, e2.symm, a2, a3, (fun ss z => by cases z), (fun ss z => by cases z)⟩
        · rw [if_neg e2] at hr'
          cases e3 : readSs y with
          | none =>
            rw [e3] at hr'
            cases hr'
          | some ss =>
            rw [e3] at hr'
            cases hr'
            obtain ⟨b1, b2, b3⟩ := readSs_back e3
            exact ⟨a1, b1, a2, a3, (fun ss z => by cases z; exact b2), (fun ss z => by cases z; exact b3)⟩
    obtain ⟨k1, k2, k3⟩ := key h
    refine ⟨?_, k3⟩
    rcases part_cases (Txt.removeprefix l "when ") " do " (by decide +kernel) with ⟨a, b, p1, p2⟩ | p1
    · rw [p1] at k1 k2
      unfold lineC
      rw [k1, k2, app_assoc, app_assoc, ← app_assoc a, ← p2]
      exact el.symm
    · rw [p1] at h
      have hx : readSs (Str.empty) = none := by decide +kernel
      have hy : ¬ (Str.empty : Str) = "drop" := by decide +kernel
      unfold readP at h
      cases e1 : readTs (Txt.removeprefix l "when ") with
      | none =>
        rw [e1] at h
        cases h
      | some ts =>
        rw [e1] at h
        have h' : (if (Str.empty : Str) = "drop" then some (ts, none) else match readSs Str.empty with | none => none | some ss => some (ts, some ss)) = some c := h
        rw [if_neg hy, hx] at h'
        cases h'
  · rw [if_neg e] at h
    cases h
end Bh

set_option Elab.async false
set_option linter.all false
set_option maxRecDepth 100000
namespace Bh
open PySem PySem.Spec PyProof.Rows L2
/-! ### the parts of a rulebook as data -/
/-- a statement that is never reached -/
theorem ps_dead {X : Cx} {st : Stmt} : PS X st (fun _ _ _ => False) := ⟨fun _ _ _ _ _ _ h => h.elim⟩
theorem pa_starK {X : Cx} {K : PySem.W.Frag} {e : Expr} {es : List Expr} {te : TE} {t : TA} {p : Pos} (hK : X.K = K) (he : PE X e te) (hr : PA X es t) (hs : starEach (.Starred e p :: es) X.env = (true, eval e X.env) :: starEach es X.env := by rfl) : PA X (.Starred e p :: es) (StX.tStar K te t) := by
  subst hK
  exact StX.pa_star he hr hs
theorem pe_dead {X : Cx} {e : Expr} : PE X e (fun _ _ _ => False) := ⟨fun _ _ _ _ _ _ h => h.elim⟩
theorem iteB {b : Bool} {A B : Prop} (h1 : b = true → A) (h2 : b = false → B) : if b = true then A else B := by
  cases b
  · exact h2 rfl
  · exact h1 rfl
/-- a walk, whatever is done at each turn -/
theorem walk_out {J : It} {n : Nat} {G : Hp → Prop} {Y : Nat → Hp → V → Hp → Prop} (w : Walk J n G Y) {B : V → Hp → (Hp → Prop) → Prop} {H0 : Hp} {Qd : Hp → Prop} (Pv : Nat → Hp → Prop) (h0 : Pv 0 H0) (hG : ∀ i H, i ≤ n → Pv i H → G H)
    (hs : ∀ i x H H', i < n → Pv i H → Y i H x H' → B x H' (Pv (i + 1))) (hd : ∀ H, Pv n H → Qd H) :
    ∃ W : Nat → Nat → Hp → Prop, (∃ m, W 0 m H0) ∧ ∀ i m H, W i m H → (J.stop i H ∧ Qd H) ∨ (J.go i H ∧ ∃ Nx : Hp → Prop, (∀ H', Nx H' → ∃ m', m' < m ∧ W (i + 1) m' H') ∧ ∀ x H', J.yld i H x H' → B x H' Nx) := by
  refine ⟨fun i m H => m + i = n ∧ Pv i H, ⟨n, by omega, h0⟩, ?_⟩
  rintro i m H ⟨em, p⟩
  by_cases hi : i < n
  · refine .inr ⟨w.goes i H hi (hG i H (by omega) p), Pv (i + 1), fun H' p' => ⟨m - 1, by omega, by omega, p'⟩, fun x H' y => hs i x H H' hi p (w.yields i H x H' hi (hG i H (by omega) p) y)⟩
  · obtain rfl : i = n := by omega
    exact .inl ⟨w.stops H (hG i H (Nat.le_refl _) p), hd H p⟩
/-- a comprehension of which all items come out true -/
theorem lc_trues {J : It} {n : Nat} {G : Hp → Prop} {xs : List V} (wk : Walk J n G (YAt xs)) {H : Hp} {D : Addr} {g : TG} {te : TE} {vs : List Nat} {σ : L2.St} {Qd : Hp → Prop} (nD : H D = none) (hn : n ≤ 100000) (hG : ∀ H', Same H H' → G H')
    (hs : ∀ (i : Nat) (x : V) (H' : Hp) (R : V → Hp → Prop) (R' : Hp → Prop), xs[i]? = some x → Same H H' → (∀ H4, Same H' H4 → R (.bl true) H4) → g x (wipe σ vs) H' fun σ2 H2 => wipe σ2 vs = wipe σ vs ∧ tYes σ2 H2 fun b H3 => if b = true then te σ2 H3 R else R' H3)
    (hd : ∀ H', Same H H' → H' D = some (.lst ((List.replicate n true).map V.bl)) → Qd H') :
    ∃ W : Nat → Nat → Hp → Prop, (∃ m, W 0 m (upd H D (.lst []))) ∧ ∀ i m H, W i m H →
      (J.stop i H ∧ Qd H) ∨ (J.go i H ∧ ∃ Nx : Hp → Prop, (∀ H', Nx H' → ∃ m', m' < m ∧ W (i + 1) m' H') ∧ ∀ x H', J.yld i H x H' → g x (wipe σ vs) H' fun σ2 H2 => wipe σ2 vs = wipe σ vs ∧ tYes σ2 H2 fun b H3 =>
        if b = true then te σ2 H3 fun y H4 => ∃ acc, H4 D = some (.lst acc) ∧ acc.length < sizeLine ∧ Nx (upd H4 D (.lst (acc ++ [y]))) else Nx H3) := by
  refine lc_it wk (fun i H' => Same H H' ∧ H' D = some (.lst ((List.replicate i true).map V.bl))) ⟨same_new nD, upd_same⟩ (fun i H' _ p => hG H' p.1) ?_ ?_
  · rintro i x H' H'' hi ⟨s1, hDl⟩ ⟨rfl, ey⟩
    refine hs i x H'' _ _ ey s1 fun H4 s4 => ⟨_, s4 _ _ hDl, ?_, same_mut (s1.trans s4) nD, ?_⟩
    · rw [List.length_map, List.length_replicate]
      exact lt_line (by omega)
    · rw [upd_same, List.replicate_succ', List.map_append]
      rfl
  · rintro H' ⟨s1, hDl⟩
    exact hd H' s1 hDl
/-- the same over pairs that the walk makes -/
theorem lc_truesP {J : It} {n : Nat} {G : Hp → Prop} {xs ys : Nat → Option V} (wk : Walk J n G (YPair xs ys)) {H : Hp} {D : Addr} {g : TG} {te : TE} {vs : List Nat} {σ : L2.St} {Qd : Hp → Prop} (nD : H D = none) (hn : n ≤ 100000) (hG : ∀ H', Same H H' → G H')
    (hs : ∀ (i : Nat) (x y : V) (T : Addr) (H' : Hp) (R : V → Hp → Prop) (R' : Hp → Prop), xs i = some x → ys i = some y → Same H H' → H' T = none → (∀ H4, Same (upd H' T (.tup [x, y])) H4 → R (.bl true) H4) →
      g (.ref T) (wipe σ vs) (upd H' T (.tup [x, y])) fun σ2 H2 => wipe σ2 vs = wipe σ vs ∧ tYes σ2 H2 fun b H3 => if b = true then te σ2 H3 R else R' H3)
    (hd : ∀ H', Same H H' → H' D = some (.lst ((List.replicate n true).map V.bl)) → Qd H') :
    ∃ W : Nat → Nat → Hp → Prop, (∃ m, W 0 m (upd H D (.lst []))) ∧ ∀ i m H, W i m H →
      (J.stop i H ∧ Qd H) ∨ (J.go i H ∧ ∃ Nx : Hp → Prop, (∀ H', Nx H' → ∃ m', m' < m ∧ W (i + 1) m' H') ∧ ∀ x H', J.yld i H x H' → g x (wipe σ vs) H' fun σ2 H2 => wipe σ2 vs = wipe σ vs ∧ tYes σ2 H2 fun b H3 =>
        if b = true then te σ2 H3 fun y H4 => ∃ acc, H4 D = some (.lst acc) ∧ acc.length < sizeLine ∧ Nx (upd H4 D (.lst (acc ++ [y]))) else Nx H3) := by
  refine lc_it wk (fun i H' => Same H H' ∧ H' D = some (.lst ((List.replicate i true).map V.bl))) ⟨same_new nD, upd_same⟩ (fun i H' _ p => hG H' p.1) ?_ ?_
  · rintro i z H' H'' hi ⟨s1, hDl⟩ ⟨T, x, y, rfl, nT, rfl, ex, ey⟩
    have sT : Same H' (upd H' T (.tup [x, y])) := same_new nT
    refine hs i x y T H' _ _ ex ey s1 nT fun H4 s4 => ⟨_, s4 _ _ (sT _ _ hDl), ?_, same_mut (s1.trans (sT.trans s4)) nD, ?_⟩
    · rw [List.length_map, List.length_replicate]
      exact lt_line (by omega)
    · rw [upd_same, List.replicate_succ', List.map_append]
      rfl
  · rintro H' ⟨s1, hDl⟩
    exact hd H' s1 hDl
/-- an item whose first part is the name n -/
def HdAt (K : PySem.W.Frag) (H : Hp) (v : V) (n : Str) : Prop := ∃ t r, v = .ref t ∧ SqT K H t (.str n :: r)
theorem HdAt.mono {K : PySem.W.Frag} {H H' : Hp} (e : Same H H') {v : V} {n : Str} (h : HdAt K H v n) : HdAt K H' v n := by
  obtain ⟨t, r, h1, h2⟩ := h
  exact ⟨t, r, h1, Same.tup e h2⟩
/-- a list or a tuple of items with these names -/
def HdS (K : PySem.W.Frag) (H : Hp) (v : V) (ns : List Str) : Prop := ∃ a xs, v = .ref a ∧ (SqL K H a xs ∨ SqT K H a xs) ∧ Paired (HdAt K H) xs ns
theorem HdS.mono {K : PySem.W.Frag} {H H' : Hp} (e : Same H H') {v : V} {ns : List Str} (h : HdS K H v ns) : HdS K H' v ns := by
  obtain ⟨a, xs, h1, h2, h3⟩ := h
  exact ⟨a, xs, h1, seq_mono e h2, h3.mono fun _ _ z => z.mono e⟩
/-- data whose first part is a name -/
def hdN : PyData → Str
  | .tuple (.str n :: _) => n
  | _ => ""
def Named (d : PyData) : Prop := ∃ n r, d = .tuple (.str n :: r)
theorem hdAt_of {K : PySem.W.Frag} {H : Hp} {v : V} {d : PyData} (h : Dp K H v d) (n : Named d) : HdAt K H v (hdN d) := by
  obtain ⟨n, r, rfl⟩ := n
  obtain ⟨a, xs, rfl, h1, h2⟩ := dp_tup h
  obtain ⟨x, y, rfl, h3, _⟩ := dpa_cons h2
  rw [dp_str h3] at h1
  exact ⟨a, y, rfl, h1⟩
theorem hds_of {K : PySem.W.Frag} {H : Hp} : ∀ {xs : List V} {ds : List PyData}, DpAll K H xs ds → (∀ d ∈ ds, Named d) → Paired (HdAt K H) xs (ds.map hdN)
  | _, _, .nil, _ => .nil
  | _, _, .cons h t, n => .cons (hdAt_of h (n _ (List.mem_cons_self ..))) (hds_of t fun d hd => n d (List.mem_cons_of_mem _ hd))
theorem HdS.of {K : PySem.W.Frag} {H : Hp} {v : V} {ds : List PyData} (h : DpS K H v ds) (n : ∀ d ∈ ds, Named d) : HdS K H v (ds.map hdN) := by
  obtain ⟨a, xs, h1, h2, h3⟩ := h
  exact ⟨a, xs, h1, h2, hds_of h3 n⟩
theorem named_dF (f : Fld) : Named (dF f) := ⟨_, _, rfl⟩
theorem IsNm.word {w : Str} (h : IsNm w) : wordB w letters = true := by
  unfold wordB
  rw [decide_eq_true (show 1 ≤ w.length ∧ w.length ≤ 8 from ⟨h.lo, h.hi⟩), Bool.true_and, List.all_eq_true]
  intro c hc
  have ⟨h1, h2⟩ := h.az c hc
  have key : ∀ c, 97 ≤ c → c ≤ 122 → c ∈ TL.tl letters := by
    intro c a b
    have : c = 97 ∨ c = 98 ∨ c = 99 ∨ c = 100 ∨ c = 101 ∨ c = 102 ∨ c = 103 ∨ c = 104 ∨ c = 105 ∨ c = 106 ∨ c = 107 ∨ c = 108 ∨ c = 109 ∨ c = 110 ∨ c = 111 ∨ c = 112 ∨ c = 113 ∨ c = 114 ∨ c = 115 ∨ c = 116 ∨ c = 117 ∨ c = 118 ∨ c = 119 ∨ c = 120 ∨ c = 121 ∨ c = 122 := by omega
    rcases this with rfl | rfl | rfl | rfl | rfl | rfl | rfl | rfl | rfl | rfl | rfl | rfl | rfl | rfl | rfl | rfl | rfl | rfl | rfl | rfl | rfl | rfl | rfl | rfl | rfl | rfl <;> decide +kernel
  exact decide_eq_true (key c h1 h2)
theorem in_strs (x : Str) (l : List Str) : inV (.str x) (l.map V.str) = decide (x ∈ l) := by
  unfold inV
  rw [List.any_map, Bool.eq_iff_iff, List.any_eq_true, decide_eq_true_iff]
  constructor
  · rintro ⟨y, hy, e⟩
    have e : eqV (.str y) (.str x) = true := e
    rw [eqV_str] at e
    rw [← of_decide_eq_true e]
    exact hy
  · intro h
    refine ⟨x, h, ?_⟩
    show eqV (.str x) (.str x) = true
    rw [eqV_str]
    exact decide_eq_true rfl
/-- ties, kinds -/
def dP (p : List Cas) : PyData := .tuple (p.map dC)
abbrev Tie := Str × List Cas
def dTie (t : Tie) : PyData := .tuple [.str t.1, dP t.2]
structure Knd where
  name : Str
  keys : List (Str × Str)
  taking : Option (List Cas)
  birth : Option (List Str)
def dKey (k : Str × Str) : PyData := .tuple [.str k.1, .str k.2]
def dOP : Option (List Cas) → PyData
  | none => .none
  | some p => dP p
def dKnd (k : Knd) : PyData := .tuple [.str k.name, .tuple (k.keys.map dKey), dOP k.taking, dH k.birth]
theorem named_dTie (t : Tie) : Named (dTie t) := ⟨_, _, rfl⟩
theorem named_dKnd (k : Knd) : Named (dKnd k) := ⟨_, _, rfl⟩
/-- a case as a rulebook asks it -/
structure OkCas (fs : List Fld) (c : Cas) : Prop where
  fit : FitC fs c
  nt : c.1.length ≤ 6
  ns : ∀ ss, c.2 = some ss → ss.length ≤ 6
  sg : ∀ t ∈ c.1, t.2.1 ∈ signs
structure OkPrg (fs : List Fld) (p : List Cas) : Prop where
  lo : 1 ≤ p.length
  hi : p.length ≤ 8
  all : ∀ c ∈ p, OkCas fs c
structure OkKeys (fs : List Fld) (ks : List (Str × Str)) : Prop where
  hi : ks.length ≤ fs.length
  nd : (ks.map (·.1)).Nodup
  all : ∀ k ∈ ks, k.1 ∈ fs.map (·.1) ∧ (k.2 = "+" ∨ k.2 = "-")
structure OkKnd (fs : List Fld) (k : Knd) : Prop where
  nm : IsNm k.name
  ks : OkKeys fs k.keys
  tk : ∀ p, k.taking = some p → OkPrg fs p
  bt : ∀ v, k.birth = some v → FitV fs v
end Bh

set_option Elab.async false
set_option linter.all false
set_option maxRecDepth 100000
set_option maxHeartbeats 1000000
namespace Bh
open PySem PySem.Spec PyProof.Rows L2
def topS (i : Nat) : Stmt := PySem.Challenge.pw_bestheard_k05_rulebooks_made.main.body.getD i (.Pass ⟨0, 0, 0, 0⟩)
abbrev s_is_name : Stmt := topS 17
theorem sc_is_name : FnScope ["value"] ["value"] (defScope s_is_name) := ⟨rfl, rfl, rfl, by decide +kernel, rfl, by decide +kernel, by decide +kernel⟩
abbrev s_is_option : Stmt := topS 18
theorem sc_is_option : FnScope ["value"] ["value"] (defScope s_is_option) := ⟨rfl, rfl, rfl, by decide +kernel, rfl, by decide +kernel, by decide +kernel⟩
abbrev s_is_word : Stmt := topS 19
theorem sc_is_word : FnScope ["value", "characters", "character"] ["value", "characters"] (defScope s_is_word) := ⟨rfl, rfl, rfl, by decide +kernel, rfl, by decide +kernel, by decide +kernel⟩
abbrev s_field_fits : Stmt := topS 48
theorem sc_field_fits : FnScope ["before", "field"] ["before", "field"] (defScope s_field_fits) := ⟨rfl, rfl, rfl, by decide +kernel, rfl, by decide +kernel, by decide +kernel⟩
abbrev s_tie_fits : Stmt := topS 49
theorem sc_tie_fits : FnScope ["fields", "before", "tie"] ["fields", "before", "tie"] (defScope s_tie_fits) := ⟨rfl, rfl, rfl, by decide +kernel, rfl, by decide +kernel, by decide +kernel⟩
abbrev s_kind_fits : Stmt := topS 50
theorem sc_kind_fits : FnScope ["fields", "before", "kind", "name", "keys", "taking", "birth"] ["fields", "before", "kind"] (defScope s_kind_fits) := ⟨rfl, rfl, rfl, by decide +kernel, rfl, by decide +kernel, by decide +kernel⟩
abbrev s_name_fits : Stmt := topS 51
theorem sc_name_fits : FnScope ["before", "name", "most"] ["before", "name", "most"] (defScope s_name_fits) := ⟨rfl, rfl, rfl, by decide +kernel, rfl, by decide +kernel, by decide +kernel⟩
abbrev s_names_of : Stmt := topS 52
theorem sc_names_of : FnScope ["items", "item"] ["items"] (defScope s_names_of) := ⟨rfl, rfl, rfl, by decide +kernel, rfl, by decide +kernel, by decide +kernel⟩
abbrev s_is_program : Stmt := topS 53
theorem sc_is_program : FnScope ["fields", "value", "case"] ["fields", "value"] (defScope s_is_program) := ⟨rfl, rfl, rfl, by decide +kernel, rfl, by decide +kernel, by decide +kernel⟩
abbrev s_is_case : Stmt := topS 54
theorem sc_is_case : FnScope ["fields", "value", "tests", "steps", "test", "step"] ["fields", "value"] (defScope s_is_case) := ⟨rfl, rfl, rfl, by decide +kernel, rfl, by decide +kernel, by decide +kernel⟩
abbrev s_is_holding : Stmt := topS 55
theorem sc_is_holding : FnScope ["fields", "value"] ["fields", "value"] (defScope s_is_holding) := ⟨rfl, rfl, rfl, by decide +kernel, rfl, by decide +kernel, by decide +kernel⟩
abbrev s_is_value : Stmt := topS 56
theorem sc_is_value : FnScope ["fields", "value", "option", "_", "options"] ["fields", "value"] (defScope s_is_value) := ⟨rfl, rfl, rfl, by decide +kernel, rfl, by decide +kernel, by decide +kernel⟩
abbrev s_values_of : Stmt := topS 57
theorem sc_values_of : FnScope ["fields", "found", "_", "options", "value", "option"] ["fields"] (defScope s_values_of) := ⟨rfl, rfl, rfl, by decide +kernel, rfl, by decide +kernel, by decide +kernel⟩
abbrev s_is_tuple : Stmt := topS 58
theorem sc_is_tuple : FnScope ["value", "least", "most"] ["value", "least", "most"] (defScope s_is_tuple) := ⟨rfl, rfl, rfl, by decide +kernel, rfl, by decide +kernel, by decide +kernel⟩
abbrev s_are_options : Stmt := topS 59
theorem sc_are_options : FnScope ["value", "option"] ["value"] (defScope s_are_options) := ⟨rfl, rfl, rfl, by decide +kernel, rfl, by decide +kernel, by decide +kernel⟩
abbrev s_are_keys : Stmt := topS 60
theorem sc_are_keys : FnScope ["fields", "value", "key"] ["fields", "value"] (defScope s_are_keys) := ⟨rfl, rfl, rfl, by decide +kernel, rfl, by decide +kernel, by decide +kernel⟩
abbrev s_is_key : Stmt := topS 61
theorem sc_is_key : FnScope ["fields", "value"] ["fields", "value"] (defScope s_is_key) := ⟨rfl, rfl, rfl, by decide +kernel, rfl, by decide +kernel, by decide +kernel⟩
abbrev s_is_test : Stmt := topS 62
theorem sc_is_test : FnScope ["fields", "value"] ["fields", "value"] (defScope s_is_test) := ⟨rfl, rfl, rfl, by decide +kernel, rfl, by decide +kernel, by decide +kernel⟩
abbrev s_is_step : Stmt := topS 63
theorem sc_is_step : FnScope ["fields", "value"] ["fields", "value"] (defScope s_is_step) := ⟨rfl, rfl, rfl, by decide +kernel, rfl, by decide +kernel, by decide +kernel⟩
abbrev s_options_of : Stmt := topS 64
theorem sc_options_of : FnScope ["fields", "name", "known", "options"] ["fields", "name"] (defScope s_options_of) := ⟨rfl, rfl, rfl, by decide +kernel, rfl, by decide +kernel, by decide +kernel⟩
abbrev s_Rulebook__init : Stmt := inClass (topS 70) 3
theorem sc_Rulebook__init : FnScope ["self", "fields", "ties", "kinds", "wrong"] ["self", "fields", "ties", "kinds"] (defScope s_Rulebook__init) := ⟨rfl, rfl, rfl, by decide +kernel, rfl, by decide +kernel, by decide +kernel⟩
abbrev s_Rulebook_fields : Stmt := inClass (topS 70) 6
theorem sc_Rulebook_fields : FnScope ["self"] ["self"] (defScope s_Rulebook_fields) := ⟨rfl, rfl, rfl, by decide +kernel, rfl, by decide +kernel, by decide +kernel⟩
abbrev s_Rulebook_ties : Stmt := inClass (topS 70) 7
theorem sc_Rulebook_ties : FnScope ["self"] ["self"] (defScope s_Rulebook_ties) := ⟨rfl, rfl, rfl, by decide +kernel, rfl, by decide +kernel, by decide +kernel⟩
abbrev s_Rulebook_kinds : Stmt := inClass (topS 70) 8
theorem sc_Rulebook_kinds : FnScope ["self"] ["self"] (defScope s_Rulebook_kinds) := ⟨rfl, rfl, rfl, by decide +kernel, rfl, by decide +kernel, by decide +kernel⟩
abbrev s_Rulebook_tie_names : Stmt := inClass (topS 70) 9
theorem sc_Rulebook_tie_names : FnScope ["self"] ["self"] (defScope s_Rulebook_tie_names) := ⟨rfl, rfl, rfl, by decide +kernel, rfl, by decide +kernel, by decide +kernel⟩
abbrev s_Rulebook_kind_names : Stmt := inClass (topS 70) 10
theorem sc_Rulebook_kind_names : FnScope ["self"] ["self"] (defScope s_Rulebook_kind_names) := ⟨rfl, rfl, rfl, by decide +kernel, rfl, by decide +kernel, by decide +kernel⟩
abbrev s_Rulebook_all_values : Stmt := inClass (topS 70) 11
theorem sc_Rulebook_all_values : FnScope ["self"] ["self"] (defScope s_Rulebook_all_values) := ⟨rfl, rfl, rfl, by decide +kernel, rfl, by decide +kernel, by decide +kernel⟩
abbrev s_Rulebook__eq : Stmt := inClass (topS 70) 19
theorem sc_Rulebook__eq : FnScope ["self", "other"] ["self", "other"] (defScope s_Rulebook__eq) := ⟨rfl, rfl, rfl, by decide +kernel, rfl, by decide +kernel, by decide +kernel⟩
abbrev s_Rulebook__repr : Stmt := inClass (topS 70) 20
theorem sc_Rulebook__repr : FnScope ["self"] ["self"] (defScope s_Rulebook__repr) := ⟨rfl, rfl, rfl, by decide +kernel, rfl, by decide +kernel, by decide +kernel⟩
abbrev s_first_wrong : Stmt := topS 71
theorem sc_first_wrong : FnScope ["items", "fits", "position", "item"] ["items", "fits"] (defScope s_first_wrong) := ⟨rfl, rfl, rfl, by decide +kernel, rfl, by decide +kernel, by decide +kernel⟩
abbrev s_l_bag : Stmt := topS 75
theorem sc_l_bag : FnScope ["_law_script", "_law_seed", "_law_cell"] ["_law_script"] (defScope s_l_bag) := ⟨rfl, rfl, rfl, by decide +kernel, rfl, by decide +kernel, by decide +kernel⟩
abbrev s_l_draw : Stmt := topS 76
theorem sc_l_draw : FnScope ["_law_bag_here", "_law_many", "_law_cell", "_law_found", "_law_old"] ["_law_bag_here", "_law_many"] (defScope s_l_draw) := ⟨rfl, rfl, rfl, by decide +kernel, rfl, by decide +kernel, by decide +kernel⟩
abbrev s_l_any : Stmt := topS 77
theorem sc_l_any : FnScope ["_law_bag_here", "_law_row"] ["_law_bag_here", "_law_row"] (defScope s_l_any) := ⟨rfl, rfl, rfl, by decide +kernel, rfl, by decide +kernel, by decide +kernel⟩
abbrev s_l_mixed : Stmt := topS 78
theorem sc_l_mixed : FnScope ["_law_bag_here", "_law_row", "_law_found", "_law_item"] ["_law_bag_here", "_law_row"] (defScope s_l_mixed) := ⟨rfl, rfl, rfl, by decide +kernel, rfl, by decide +kernel, by decide +kernel⟩
abbrev s_l_like : Stmt := topS 79
theorem sc_l_like : FnScope ["_law_found", "_law_due", "_law_key", "_law_one", "_law_other"] ["_law_found", "_law_due"] (defScope s_l_like) := ⟨rfl, rfl, rfl, by decide +kernel, rfl, by decide +kernel, by decide +kernel⟩
abbrev s_l_words : Stmt := topS 80
theorem sc_l_words : FnScope ["_law_bag_here", "_law_many", "_law_tail", "_law_at", "_law_start", "_law_letters", "_law_k"] ["_law_bag_here", "_law_many"] (defScope s_l_words) := ⟨rfl, rfl, rfl, by decide +kernel, rfl, by decide +kernel, by decide +kernel⟩
abbrev s_l_options : Stmt := topS 81
theorem sc_l_options : FnScope ["_law_bag_here", "_law_many", "_law_pool"] ["_law_bag_here", "_law_many"] (defScope s_l_options) := ⟨rfl, rfl, rfl, by decide +kernel, rfl, by decide +kernel, by decide +kernel⟩
abbrev s_l_fields : Stmt := topS 82
theorem sc_l_fields : FnScope ["_law_bag_here", "_law_room", "_law_names", "_law_found", "_law_left", "_law_k", "_law_many"] ["_law_bag_here", "_law_room"] (defScope s_l_fields) := ⟨rfl, rfl, rfl, by decide +kernel, rfl, by decide +kernel, by decide +kernel⟩
abbrev s_l_case : Stmt := topS 83
theorem sc_l_case : FnScope ["_law_bag_here", "_law_fields_z", "_law_tests", "_law_steps", "_law_k", "_law_name", "_law_options_here"] ["_law_bag_here", "_law_fields_z"] (defScope s_l_case) := ⟨rfl, rfl, rfl, by decide +kernel, rfl, by decide +kernel, by decide +kernel⟩
abbrev s_l_program : Stmt := topS 84
theorem sc_l_program : FnScope ["_law_bag_here", "_law_fields_z", "_law_most", "_law_k"] ["_law_bag_here", "_law_fields_z", "_law_most"] (defScope s_l_program) := ⟨rfl, rfl, rfl, by decide +kernel, rfl, by decide +kernel, by decide +kernel⟩
abbrev s_l_value : Stmt := topS 85
theorem sc_l_value : FnScope ["_law_bag_here", "_law_fields_z", "_law_name", "_law_options_here"] ["_law_bag_here", "_law_fields_z"] (defScope s_l_value) := ⟨rfl, rfl, rfl, by decide +kernel, rfl, by decide +kernel, by decide +kernel⟩
abbrev s_l_keys : Stmt := topS 86
theorem sc_l_keys : FnScope ["_law_bag_here", "_law_fields_z", "_law_chosen", "_law_name", "_law_options_here"] ["_law_bag_here", "_law_fields_z"] (defScope s_l_keys) := ⟨rfl, rfl, rfl, by decide +kernel, rfl, by decide +kernel, by decide +kernel⟩
abbrev s_l_kinds : Stmt := topS 87
theorem sc_l_kinds : FnScope ["_law_bag_here", "_law_fields_z", "_law_most", "_law_names", "_law_found", "_law_k", "_law_taking", "_law_birth"] ["_law_bag_here", "_law_fields_z", "_law_most"] (defScope s_l_kinds) := ⟨rfl, rfl, rfl, by decide +kernel, rfl, by decide +kernel, by decide +kernel⟩
abbrev s_l_book : Stmt := topS 88
theorem sc_l_book : FnScope ["_law_bag_here", "_law_room", "_law_most", "_law_fields_z", "_law_names", "_law_ties_z", "_law_k"] ["_law_bag_here", "_law_room", "_law_most"] (defScope s_l_book) := ⟨rfl, rfl, rfl, by decide +kernel, rfl, by decide +kernel, by decide +kernel⟩
abbrev s_l_made : Stmt := topS 89
theorem sc_l_made : FnScope ["_law_m"] ["_law_m"] (defScope s_l_made) := ⟨rfl, rfl, rfl, by decide +kernel, rfl, by decide +kernel, by decide +kernel⟩
abbrev s_l_values : Stmt := topS 90
theorem sc_l_values : FnScope ["_law_fields_z", "_law_found", "_law_name", "_law_options_here", "_law_longer", "_law_value_here", "_law_option"] ["_law_fields_z"] (defScope s_l_values) := ⟨rfl, rfl, rfl, by decide +kernel, rfl, by decide +kernel, by decide +kernel⟩
abbrev s_l_faces : Stmt := topS 91
theorem sc_l_faces : FnScope ["_law_book_here", "_law_twin", "_law_m", "_law_sizes", "_law_face", "_law_good", "_law_part"] ["_law_book_here", "_law_twin", "_law_m"] (defScope s_l_faces) := ⟨rfl, rfl, rfl, by decide +kernel, rfl, by decide +kernel, by decide +kernel⟩
abbrev s_law : Stmt := topS 92
theorem sc_law : FnScope ["_law_script", "_law_bag_here", "_law_turn", "_law_m", "_law_handed", "_law_part", "_law_book_here", "_law_twin", "_law_told", "_law_due", "_law_row", "_law_other", "_law_kind", "_law_birth", "_law_flipped"] ["_law_script"] (defScope s_law) := ⟨rfl, rfl, rfl, by decide +kernel, rfl, by decide +kernel, by decide +kernel⟩
structure Top (K : PySem.W.Frag) (mg : Str → Option Value) : Type where
  a_is_name : Addr
  fd_is_name : FuncData
  d_is_name : Df K mg "is_name" s_is_name ["value"] a_is_name fd_is_name
  a_is_option : Addr
  fd_is_option : FuncData
  d_is_option : Df K mg "is_option" s_is_option ["value"] a_is_option fd_is_option
  a_is_word : Addr
  fd_is_word : FuncData
  d_is_word : Df K mg "_is_word" s_is_word ["value", "characters"] a_is_word fd_is_word
  a_field_fits : Addr
  fd_field_fits : FuncData
  d_field_fits : Df K mg "field_fits" s_field_fits ["before", "field"] a_field_fits fd_field_fits
  a_tie_fits : Addr
  fd_tie_fits : FuncData
  d_tie_fits : Df K mg "tie_fits" s_tie_fits ["fields", "before", "tie"] a_tie_fits fd_tie_fits
  a_kind_fits : Addr
  fd_kind_fits : FuncData
  d_kind_fits : Df K mg "kind_fits" s_kind_fits ["fields", "before", "kind"] a_kind_fits fd_kind_fits
  a_name_fits : Addr
  fd_name_fits : FuncData
  d_name_fits : Df K mg "name_fits" s_name_fits ["before", "name", "most"] a_name_fits fd_name_fits
  a_names_of : Addr
  fd_names_of : FuncData
  d_names_of : Df K mg "names_of" s_names_of ["items"] a_names_of fd_names_of
  a_is_program : Addr
  fd_is_program : FuncData
  d_is_program : Df K mg "is_program" s_is_program ["fields", "value"] a_is_program fd_is_program
  a_is_case : Addr
  fd_is_case : FuncData
  d_is_case : Df K mg "is_case" s_is_case ["fields", "value"] a_is_case fd_is_case
  a_is_holding : Addr
  fd_is_holding : FuncData
  d_is_holding : Df K mg "is_holding" s_is_holding ["fields", "value"] a_is_holding fd_is_holding
  a_is_value : Addr
  fd_is_value : FuncData
  d_is_value : Df K mg "is_value" s_is_value ["fields", "value"] a_is_value fd_is_value
  a_values_of : Addr
  fd_values_of : FuncData
  d_values_of : Df K mg "values_of" s_values_of ["fields"] a_values_of fd_values_of
  a_is_tuple : Addr
  fd_is_tuple : FuncData
  d_is_tuple : Df K mg "_is_tuple" s_is_tuple ["value", "least", "most"] a_is_tuple fd_is_tuple
  a_are_options : Addr
  fd_are_options : FuncData
  d_are_options : Df K mg "_are_options" s_are_options ["value"] a_are_options fd_are_options
  a_are_keys : Addr
  fd_are_keys : FuncData
  d_are_keys : Df K mg "_are_keys" s_are_keys ["fields", "value"] a_are_keys fd_are_keys
  a_is_key : Addr
  fd_is_key : FuncData
  d_is_key : Df K mg "_is_key" s_is_key ["fields", "value"] a_is_key fd_is_key
  a_is_test : Addr
  fd_is_test : FuncData
  d_is_test : Df K mg "_is_test" s_is_test ["fields", "value"] a_is_test fd_is_test
  a_is_step : Addr
  fd_is_step : FuncData
  d_is_step : Df K mg "_is_step" s_is_step ["fields", "value"] a_is_step fd_is_step
  a_options_of : Addr
  fd_options_of : FuncData
  d_options_of : Df K mg "_options_of" s_options_of ["fields", "name"] a_options_of fd_options_of
  a_first_wrong : Addr
  fd_first_wrong : FuncData
  d_first_wrong : Df K mg "_first_wrong" s_first_wrong ["items", "fits"] a_first_wrong fd_first_wrong
  a_l_bag : Addr
  fd_l_bag : FuncData
  d_l_bag : Df K mg "_law_bag" s_l_bag ["_law_script"] a_l_bag fd_l_bag
  a_l_draw : Addr
  fd_l_draw : FuncData
  d_l_draw : Df K mg "_law_draw" s_l_draw ["_law_bag_here", "_law_many"] a_l_draw fd_l_draw
  a_l_any : Addr
  fd_l_any : FuncData
  d_l_any : Df K mg "_law_any" s_l_any ["_law_bag_here", "_law_row"] a_l_any fd_l_any
  a_l_mixed : Addr
  fd_l_mixed : FuncData
  d_l_mixed : Df K mg "_law_mixed" s_l_mixed ["_law_bag_here", "_law_row"] a_l_mixed fd_l_mixed
  a_l_like : Addr
  fd_l_like : FuncData
  d_l_like : Df K mg "_law_like" s_l_like ["_law_found", "_law_due"] a_l_like fd_l_like
  a_l_words : Addr
  fd_l_words : FuncData
  d_l_words : Df K mg "_law_words" s_l_words ["_law_bag_here", "_law_many"] a_l_words fd_l_words
  a_l_options : Addr
  fd_l_options : FuncData
  d_l_options : Df K mg "_law_options" s_l_options ["_law_bag_here", "_law_many"] a_l_options fd_l_options
  a_l_fields : Addr
  fd_l_fields : FuncData
  d_l_fields : Df K mg "_law_fields" s_l_fields ["_law_bag_here", "_law_room"] a_l_fields fd_l_fields
  a_l_case : Addr
  fd_l_case : FuncData
  d_l_case : Df K mg "_law_case" s_l_case ["_law_bag_here", "_law_fields_z"] a_l_case fd_l_case
  a_l_program : Addr
  fd_l_program : FuncData
  d_l_program : Df K mg "_law_program" s_l_program ["_law_bag_here", "_law_fields_z", "_law_most"] a_l_program fd_l_program
  a_l_value : Addr
  fd_l_value : FuncData
  d_l_value : Df K mg "_law_value" s_l_value ["_law_bag_here", "_law_fields_z"] a_l_value fd_l_value
  a_l_keys : Addr
  fd_l_keys : FuncData
  d_l_keys : Df K mg "_law_keys" s_l_keys ["_law_bag_here", "_law_fields_z"] a_l_keys fd_l_keys
  a_l_kinds : Addr
  fd_l_kinds : FuncData
  d_l_kinds : Df K mg "_law_kinds" s_l_kinds ["_law_bag_here", "_law_fields_z", "_law_most"] a_l_kinds fd_l_kinds
  a_l_book : Addr
  fd_l_book : FuncData
  d_l_book : Df K mg "_law_book" s_l_book ["_law_bag_here", "_law_room", "_law_most"] a_l_book fd_l_book
  a_l_made : Addr
  fd_l_made : FuncData
  d_l_made : Df K mg "_law_made" s_l_made ["_law_m"] a_l_made fd_l_made
  a_l_values : Addr
  fd_l_values : FuncData
  d_l_values : Df K mg "_law_values" s_l_values ["_law_fields_z"] a_l_values fd_l_values
  a_l_faces : Addr
  fd_l_faces : FuncData
  d_l_faces : Df K mg "_law_faces" s_l_faces ["_law_book_here", "_law_twin", "_law_m"] a_l_faces fd_l_faces
  b_all : mg "all" = none
  b_dict : mg "dict" = none
  b_isinstance : mg "isinstance" = none
  b_len : mg "len" = none
  b_list : mg "list" = none
  b_max : mg "max" = none
  b_min : mg "min" = none
  b_range : mg "range" = none
  b_sorted : mg "sorted" = none
  b_tuple : mg "tuple" = none
  b_int : mg "int" = none
  b_zip : mg "zip" = none
  b_bool : mg "bool" = none
  b_str : mg "str" = none
  b_set : mg "set" = none
  b_enumerate : mg "enumerate" = none
  b_repr : mg "repr" = none
  g_LETTERS : ∃ t, mg "LETTERS" = some (Value.str "abcdefghijklmnopqrstuvwxyz" t)
  g_LETTERS_AND_DIGITS : ∃ t, mg "LETTERS_AND_DIGITS" = some (Value.str "abcdefghijklmnopqrstuvwxyz0123456789" t)
  g_LONGEST : ∃ t, mg "LONGEST" = some (Value.int 8 t)
  a_SIGNS : Addr
  g_SIGNS : mg "SIGNS" = some (.ref a_SIGNS)
  k_SIGNS : ∀ H : Hp, SqT K H a_SIGNS [V.str "=", V.str "!", V.str "<", V.str ">"]
  g_NEXT : ∃ t, mg "NEXT" = some (Value.str "+" t)
  g_MOST_ITEMS : ∃ t, mg "MOST_ITEMS" = some (Value.int 6 t)
  g_LEAST_OPTIONS : ∃ t, mg "LEAST_OPTIONS" = some (Value.int 2 t)
  g_MOST_OPTIONS : ∃ t, mg "MOST_OPTIONS" = some (Value.int 6 t)
  g_MOST_FIELDS : ∃ t, mg "MOST_FIELDS" = some (Value.int 3 t)
  g_MOST_VALUES : ∃ t, mg "MOST_VALUES" = some (Value.int 24 t)
  g_MOST_CASES : ∃ t, mg "MOST_CASES" = some (Value.int 8 t)
  g_MOST_TIES : ∃ t, mg "MOST_TIES" = some (Value.int 4 t)
  g_MOST_KINDS : ∃ t, mg "MOST_KINDS" = some (Value.int 3 t)
  a_DIRECTIONS : Addr
  g_DIRECTIONS : mg "DIRECTIONS" = some (.ref a_DIRECTIONS)
  k_DIRECTIONS : ∀ H : Hp, SqT K H a_DIRECTIONS [V.str "+", V.str "-"]
section
variable {P : Program} {w : World} {K : PySem.W.Frag} {mg : Str → Option Value} {base : Heap}
theorem cut63 (ns : List Int) (h : ns.length ≤ 63) : cutV (ns.map V.int) none (some 63) = ns.map V.int := by
  unfold cutV
  rw [HT.sIx_none, show HT.sIx (ns.map V.int).length (ns.map V.int).length (some 63) = min 63 (ns.map V.int).length from HT.sIx_nat _ _ 63, List.length_map, Nat.min_eq_right h]
  show List.take (ns.length - 0) (List.drop 0 (ns.map V.int)) = _
  rw [List.drop_zero, Nat.sub_zero]
  exact List.take_of_length_le (by rw [List.length_map]; exact Nat.le_refl _)
theorem ok_bag (T : Top K mg) : FnOk P w K mg base CX0 1 T.a_l_bag T.fd_l_bag ["_law_script"] (spBag K) := by
  refine T.d_l_bag.F.ok sc_l_bag (fun vs H Q E h => ?_) (fun cdv A outer s H vs Q E hr h => ?_)
  · obtain ⟨a, ns, rfl, _⟩ := h
    rfl
  obtain ⟨a, ns, rfl, hS, h63, q⟩ := h
  refine ⟨_, (pss_cons (ps_set (i := 1) sc_l_bag.nd rfl (Or.inl rfl) (pe_op op_add pe_int (pe_op op_mul pe_int (pe_callB (call_len_seq_K (K := K) (by rfl)) (by rfl) T.b_len PySem.boot_len (pa_cons (pe_slice (sl_list_K (K := K) (by rfl)) (pv 0) po_none (po_some pe_int)) pa_nil)))))
    (pss_cons (ps_for PassesOwn.never rfl (pi_list_K (K := K) (by rfl) (pe_slice (sl_list_K (K := K) (by rfl)) (pv 0) po_none (po_some pe_int))) (pg_name (i := 2) sc_l_bag.nd rfl (Or.inl rfl))
      (pss_one (ps_set (i := 1) sc_l_bag.nd rfl (Or.inl rfl) (pe_op op_mod (pe_callTy call_int1 (by rfl) T.b_int (by decide +kernel) (pa_cons (pe_op op_add (pe_op op_add (pe_op op_mul (pv 1) pe_int) (pe_op op_mod (pe_callTy call_int1 (by rfl) T.b_int (by decide +kernel) (pa_cons (pv 2) pa_nil)) pe_int)) pe_int) pa_nil)) pe_int))))
    (pss_one (ps_ret (pe_lst (pa_cons (pe_callTy (call_list_of_K (K := K) (by rfl)) (by rfl) T.b_list (by decide +kernel) (pa_cons (pe_slice (sl_list_K (K := K) (by rfl)) (pv 0) po_none (po_some pe_int)) pa_nil)) (pa_cons pe_int (pa_cons pe_int (pa_cons (pv 1) pa_nil))))))))), ?_⟩
  refine ⟨_, rfl, _, rfl, _, _, rfl, hS, fun p1 n1 => ?_⟩
  rw [cut63 ns h63]
  refine ⟨_, _, rfl, .inl (SqL.of upd_same), _, _, rfl, rfl, .inl ⟨by decide, by decide⟩, _, _, rfl, rfl, ?_⟩
  have e1 : Same H (upd H p1 (.lst (ns.map V.int))) := same_new n1
  refine ⟨_, rfl, _, rfl, _, _, rfl, e1.seq hS, fun p2 n2 => ?_⟩
  rw [cut63 ns h63]
  have e2 := e1.trans (same_new (o := .lst (ns.map V.int)) n2)
  refine ⟨p2, rfl, ⟨_, SqL.of upd_same⟩, for_list (K := K) (a := p2) (xs := ns.map V.int) (fun i σ H' => ∃ (z : Int) (v : Option V), σ = [some (.ref a), some (.int z), v] ∧ (0 < i → 0 ≤ z ∧ z < 2147483647) ∧ (z < 100000 ∨ 0 < i) ∧ 0 ≤ z ∧ H' = (upd (upd H p1 (.lst (ns.map V.int))) p2 (.lst (ns.map V.int))))
    ⟨_, none, rfl, fun z => absurd z (Nat.lt_irrefl _), .inl ?_, ?_, rfl⟩ (fun i σ H' _ ⟨_, _, _, _, _, _, e⟩ => by rw [e]; exact SqL.of upd_same) ?_ ?_⟩
  · rw [List.length_map]
    omega
  · rw [List.length_map]
    omega
  · rintro i y σ H' hi ⟨z, v, rfl, z1, z2, z0, rfl⟩
    obtain ⟨u, _, rfl⟩ := get_map hi
    refine ⟨_, rfl, _, _, rfl, rfl, .inr ⟨by decide, by decide⟩, _, rfl, .inl ⟨_, rfl, _, _, rfl, rfl, p31, _, _, rfl, rfl, _, _, rfl, rfl, .inl ⟨_, rfl, _, _, rfl, rfl, p31, ?_⟩⟩⟩
    refine ⟨_, _, rfl, fun _ => ⟨?_, ?_⟩, .inr (Nat.succ_pos i), ?_, rfl⟩ <;> omega
  · rintro σ H' ⟨z, v, rfl, z1, z2, z0, rfl⟩
    refine ⟨_, rfl, _, rfl, _, _, rfl, e2.seq hS, fun p3 n3 => ?_⟩
    rw [cut63 ns h63]
    refine ⟨_, _, rfl, .inl (SqL.of upd_same), fun l nl => ?_⟩
    have e3 := e2.trans (same_new (o := .lst (ns.map V.int)) n3)
    have e4 := e3.trans (same_new (o := .lst (ns.map V.int)) nl)
    refine ⟨_, rfl, (by show 4 ≤ sizeLine; decide), fun b nb => ?_⟩
    have e5 := e4.trans (same_new (o := .lst [.ref l, .int 0, .int 0, .int z]) nb)
    refine q b l _ (e4.free nb) (e3.free nl) e5 ⟨ns, 0, 0, z, upd_same, ?_, h63, by omega, by omega, by omega, z0, by omega⟩
    rw [upd_ne (ne_of_none upd_same nb), upd_same]
theorem ok_draw (T : Top K mg) : FnOk P w K mg base CX0 1 T.a_l_draw T.fd_l_draw ["_law_bag_here", "_law_many"] spDraw := by
  refine T.d_l_draw.F.ok sc_l_draw (fun vs H Q E h => ?_) (fun cdv A outer s H vs Q E hr h => ?_)
  · obtain ⟨b, l, G, n, rfl, _⟩ := h
    rfl
  obtain ⟨b, l, G, n, rfl, n0, n1, wd, q⟩ := h
  refine ⟨_, (Evl.pss_cut (ps_if (PW.pt (pw_and (pt_cmpR op_eq (pe_ix (ix_list_K (K := K) (by rfl)) (pv 0) pe_int (fun _ _ => rfl)) pe_int (nomark _)) (pw_and1 (pt_cmpR op_lt (pe_ix (ix_list_K (K := K) (by rfl)) (pv 0) pe_int (fun _ _ => rfl)) (pe_callB (call_len_seq_K (K := K) (by rfl)) (by rfl) T.b_len PySem.boot_len (pa_cons (pe_ix (ix_list_K (K := K) (by rfl)) (pv 0) pe_int (fun _ _ => rfl)) pa_nil)) (nomark _))))) (pss_cons (ps_set (i := 2) sc_l_draw.nd rfl (Or.inl rfl) (pe_ix (ix_list_K (K := K) (by rfl)) (pe_ix (ix_list_K (K := K) (by rfl)) (pv 0) pe_int (fun _ _ => rfl)) (pe_ix (ix_list_K (K := K) (by rfl)) (pv 0) pe_int (fun _ _ => rfl)) (fun _ _ => rfl)))
      (pss_cons (ps_asg (pe_op op_add (pe_ix (ix_list_K (K := K) (by rfl)) (pv 0) pe_int (fun _ _ => rfl)) pe_int) (pg_sub (pv 0) pe_int set_list))
      (pss_one (ps_if (pt_cmpR op_ge (pv 2) (pe_op op_pow pe_int pe_int) (nomark _)) (pss_one (ps_asg (pv 2) (pg_sub (pv 0) pe_int set_list))) (pss_one (ps_asg (pe_op op_mod (pe_callTy call_int1 (by rfl) T.b_int (by decide +kernel) (pa_cons (pe_op op_add (pe_op op_add (pe_op op_mul (pe_ix (ix_list_K (K := K) (by rfl)) (pv 0) pe_int (fun _ _ => rfl)) pe_int) (pe_op op_mul (pe_op op_mod (pe_callTy call_int1 (by rfl) T.b_int (by decide +kernel) (pa_cons (pv 2) pa_nil)) pe_int) pe_int)) (pe_ix (ix_list_K (K := K) (by rfl)) (pv 0) pe_int (fun _ _ => rfl))) pa_nil)) pe_int) (pg_sub (pv 0) pe_int set_list))))))) pss_nil)
    (pss_cons (ps_if (pt_cmpR op_gt (pe_ix (ix_list_K (K := K) (by rfl)) (pv 0) pe_int (fun _ _ => rfl)) pe_int (nomark _)) (pss_cons (ps_set (i := 3) sc_l_draw.nd rfl (Or.inl rfl) (pe_op op_mod (pe_callTy call_int1 (by rfl) T.b_int (by decide +kernel) (pa_cons (pe_ix (ix_list_K (K := K) (by rfl)) (pv 0) pe_int (fun _ _ => rfl)) pa_nil)) (pv 1)))
      (pss_cons (ps_asg (pe_op op_fdiv (pe_ix (ix_list_K (K := K) (by rfl)) (pv 0) pe_int (fun _ _ => rfl)) (pv 1)) (pg_sub (pv 0) pe_int set_list))
      (pss_one (ps_ret (pv 3))))) pss_nil)
    (pss_cons (ps_set (i := 4) sc_l_draw.nd rfl (Or.inl rfl) (pe_ix (ix_list_K (K := K) (by rfl)) (pv 0) pe_int (fun _ _ => rfl)))
    (pss_cons (ps_asg (pe_op op_mod (pe_callTy call_int1 (by rfl) T.b_int (by decide +kernel) (pa_cons (pe_op op_add (pe_op op_add (pe_op op_mul (pv 4) (pv 4)) (pe_op op_mul (pv 4) pe_int)) pe_int) pa_nil)) pe_int) (pg_sub (pv 0) pe_int set_list))
    (pss_one (ps_ret (pe_op op_mod (pe_callTy call_int1 (by rfl) T.b_int (by decide +kernel) (pa_cons (pe_op op_add (pe_op op_fdiv (pe_ix (ix_list_K (K := K) (by rfl)) (pv 0) pe_int (fun _ _ => rfl)) pe_int) (pe_op op_mul (pe_op op_mod (pe_callTy call_int1 (by rfl) T.b_int (by decide +kernel) (pa_cons (pe_ix (ix_list_K (K := K) (by rfl)) (pv 0) pe_int (fun _ _ => rfl)) pa_nil)) pe_int) pe_int)) pa_nil)) (pv 1)))))))), ?_⟩
  obtain ⟨ns, i, c, s, hb, hl, h63, i0, i1, c0, s0, s1⟩ := id wd.bag
  have lb : l ≠ b := ne_of hl hb (by intro z; cases ns with | nil => cases z | cons x r => cases r with | nil => cases z | cons => cases z)
  have B := SqL.of (K := K) hb
  refine ⟨fun σ' H' => ∃ v, σ' = [some (.ref b), some (.int n), v, none, none] ∧ Wd b l G H', ?_, ?_⟩
  · refine ⟨_, rfl, _, _, _, _, rfl, rfl, B, rfl, rfl, _, rfl, ?_⟩
    refine ite2 (fun _ => ?_) (fun _ => ?_)
    · refine ⟨_, rfl, _, _, _, _, rfl, rfl, B, rfl, _, rfl, _, _, _, _, rfl, rfl, B, rfl, _, _, rfl, .inl (SqL.of hl), _, _, rfl, rfl, _, rfl, ?_⟩
      refine ite2 (fun c1 => ?_) (fun _ => ?_)
      · have c2 := of_decide_eq_true c1
        rw [List.length_map] at c2
        have c3 : i.toNat < ns.length := by omega
        refine ⟨_, rfl, _, _, _, _, rfl, rfl, B, rfl, _, rfl, _, _, _, _, rfl, rfl, B, rfl, _, _, _, .int ns[i.toNat], rfl, rfl, SqL.of hl, at_nn i0 (by rw [List.getElem?_map, List.getElem?_eq_getElem c3]; rfl), ?_⟩
        refine ⟨_, rfl, _, _, _, _, rfl, rfl, B, rfl, _, _, rfl, rfl, _, rfl, _, _, _, 1, rfl, rfl, hb, rfl, ?_⟩
        refine ⟨_, rfl, _, _, rfl, rfl, ⟨by decide, by decide, by decide⟩, _, _, rfl, rfl, _, rfl, ?_⟩
        refine ite2 (fun g1 => ?_) (fun _ => ?_)
        · have g2 := of_decide_eq_true g1
          refine ⟨_, rfl, _, rfl, _, _, _, 2, rfl, rfl, upd_same, rfl, ?_⟩
          refine ⟨_, rfl, ?_⟩
          rw [upd_upd]
          exact wd.bagged ⟨ns, i + 1, _, s, upd_same, by rw [upd_ne lb]; exact hl, h63, by omega, by omega, Int.le_trans (by decide) g2, s0, s1⟩
        · refine ⟨_, rfl, _, _, _, _, rfl, rfl, SqL.of upd_same, rfl, _, _, rfl, rfl, .inr ⟨by decide, by decide⟩, _, rfl, .inl ⟨_, rfl, _, _, rfl, rfl, p31, _, _, rfl, rfl, .inr ⟨by decide, by decide⟩, _, _, rfl, rfl, _, rfl, _, _, _, _, rfl, rfl, SqL.of upd_same, rfl, _, _, rfl, rfl, .inl ⟨_, rfl, _, _, rfl, rfl, p31, ?_⟩⟩⟩
          refine ⟨_, rfl, _, _, _, 3, rfl, rfl, upd_same, rfl, ?_⟩
          refine ⟨_, rfl, ?_⟩
          rw [upd_upd]
          exact wd.bagged ⟨ns, i + 1, c, _, upd_same, by rw [upd_ne lb]; exact hl, h63, by omega, by omega, c0, Int.emod_nonneg _ (by decide), Int.emod_lt_of_pos _ (by decide)⟩
      · exact ⟨_, rfl, wd⟩
    · exact ⟨_, rfl, wd⟩
  · rintro σ' H' ⟨v, rfl, wd⟩
    obtain ⟨ns, i, c, s, hb, hl, h63, i0, i1, c0, s0, s1⟩ := id wd.bag
    have lb : l ≠ b := ne_of hl hb (by intro z; cases ns with | nil => cases z | cons x r => cases r with | nil => cases z | cons => cases z)
    have B := SqL.of (K := K) hb
    refine ⟨_, rfl, _, _, _, _, rfl, rfl, B, rfl, _, _, rfl, rfl, _, rfl, ?_⟩
    refine ite2 (fun g1 => ?_) (fun _ => ?_)
    · refine ⟨_, rfl, _, _, _, _, rfl, rfl, B, rfl, .inl ⟨_, rfl, _, rfl, _, _, rfl, rfl, n0, ?_⟩⟩
      refine ⟨_, rfl, _, _, _, _, rfl, rfl, B, rfl, _, rfl, _, _, rfl, rfl, ⟨n0, n1⟩, _, rfl, _, _, _, 2, rfl, rfl, hb, rfl, ?_⟩
      refine ⟨_, rfl, ?_⟩
      exact q _ _ (Int.emod_nonneg _ (by omega)) (Int.emod_lt_of_pos _ n0) (wd.bagged ⟨ns, i, c / n, s, upd_same, by rw [upd_ne lb]; exact hl, h63, i0, i1, Int.ediv_nonneg c0 (by omega), s0, s1⟩)
    · refine ⟨_, rfl, _, _, _, _, rfl, rfl, B, rfl, ?_⟩
      refine ⟨_, rfl, _, rfl, _, _, rfl, rfl, .inl ⟨by omega, by omega⟩, _, rfl, _, _, rfl, rfl, .inr ⟨by decide, by decide⟩, _, _, rfl, rfl, _, _, rfl, rfl, .inl ⟨_, rfl, _, _, rfl, rfl, p31, ?_⟩⟩
      refine ⟨_, rfl, _, _, _, 3, rfl, rfl, hb, rfl, ?_⟩
      refine ⟨_, rfl, _, _, _, _, rfl, rfl, SqL.of upd_same, rfl, _, _, rfl, rfl, ⟨by decide, by decide⟩, _, rfl, _, _, _, _, rfl, rfl, SqL.of upd_same, rfl, .inl ⟨_, rfl, _, _, rfl, rfl, p8117, _, _, rfl, rfl, .inr ⟨by decide, by decide⟩, _, _, rfl, rfl, .inl ⟨_, rfl, _, rfl, _, _, rfl, rfl, n0, ?_⟩⟩⟩
      exact q _ _ (Int.emod_nonneg _ (by omega)) (Int.emod_lt_of_pos _ n0) (wd.bagged ⟨ns, i, c, _, upd_same, by rw [upd_ne lb]; exact hl, h63, i0, i1, c0, Int.emod_nonneg _ (by decide), Int.emod_lt_of_pos _ (by decide)⟩)
end
end Bh

set_option Elab.async false
set_option linter.all false
set_option maxRecDepth 100000
set_option maxHeartbeats 1000000
namespace Bh
open PySem PySem.Spec PyProof.Rows L2
def spWord : Sp := fun vs H Q _ => ∃ (w z : Str), vs = [.str w, .str z] ∧ w.length ≤ 100000 ∧ ∀ H', Same H H' → Q (.bl (wordB w z)) H'
def spNm (z : Str) : Sp := fun vs H Q _ => ∃ (w : Str), vs = [.str w] ∧ w.length ≤ 100000 ∧ ∀ H', Same H H' → Q (.bl (wordB w z)) H'
section
variable {P : Program} {w : World} {K : PySem.W.Frag} {mg : Str → Option Value} {base : Heap}
theorem ok_word (T : Top K mg) : FnOk P w K mg base CX0 1 T.a_is_word T.fd_is_word ["value", "characters"] spWord := by
  refine T.d_is_word.F.ok sc_is_word (fun vs H Q E h => ?_) (fun cdv A outer s H vs Q E hr h => ?_)
  · obtain ⟨v, z, rfl, _⟩ := h
    rfl
  obtain ⟨v, z, rfl, hl, q⟩ := h
  refine ⟨_, (pss_cons (ps_if (pt_not (pt_val (pe_callB (call_isi_K (K := K) (by rfl)) (by rfl) T.b_isinstance (by decide +kernel) (pa_cons (pv 0) (pa_cons (pe_tyN "str" (by rfl) T.b_str (by decide +kernel)) pa_nil))))) (pss_one (ps_ret pe_bl)) pss_nil)
    (pss_one (ps_ret (pe_and (pe_chain op_le op_le pe_int (pe_callB call_len_str (by rfl) T.b_len PySem.boot_len (pa_cons (pv 0) pa_nil)) (pe_gI rfl T.g_LONGEST)) (pe_one (pe_callB (cr_all_K (K := K) (by rfl) rfl) (by rfl) T.b_all (by decide +kernel) (pa_cons (pe_lc (own := [("character", 2)]) rfl sc_is_word.nd (pi_str (pv 0)) (blkOk_by (own := [("character", 2)]) (N := ["value", "characters", "character"]) (sc := defScope s_is_word) (by decide +kernel)) (fun _ _ _ _ _ => by exact (pg_name (i := 2) sc_is_word.nd rfl (Or.inl rfl))) (fun _ _ _ _ _ => by exact pts_nil) (fun _ _ _ _ _ => by exact (pe_cmpR op_in_sign (pv 2) (pv 1) (by rfl)))) pa_nil))))))), ?_⟩
  refine ⟨_, rfl, _, _, _, _, true, rfl, .ty _, .base (.str v), kit_ty (by decide +kernel), _, rfl, ?_⟩
  refine iteF ?_
  refine ⟨_, rfl, v, rfl, le_line hl, _, _, rfl, rfl, _, rfl, ?_⟩
  have no : ¬ (1 ≤ v.length ∧ v.length ≤ 8) → Q (.bl false) H := fun z => by
    have k := q H (Same.refl _)
    unfold wordB at k
    rw [decide_eq_false z] at k
    exact k
  refine ite3 (fun h1 => ?_) (fun h1 => ⟨false, rfl, iteF (no (by omega))⟩)
  refine ⟨_, _, rfl, rfl, _, rfl, ite3 (fun h2 => ?_) (fun h2 => no (by omega))⟩
  refine ⟨_, rfl, v, rfl, fun D nD => ?_⟩
  refine lc_it walk_str (fun i H' => Same H H' ∧ H' D = some (.lst ((((TL.tl v).map fun c => decide (c ∈ TL.tl z)).take i).map V.bl))) ⟨same_new nD, upd_same⟩ (fun _ _ _ _ => True.intro) ?_ ?_
  · rintro i y H' H'' hi ⟨s1, hDl⟩ ⟨rfl, c, ec, rfl⟩
    have ec' : (TL.tl v)[i]? = some c := by rw [← ec]; exact Array.getElem?_toList
    refine ⟨rfl, _, rfl, _, rfl, c, z, rfl, rfl, _, hDl, ?_, same_mut s1 nD, ?_⟩
    · rw [List.length_map, List.length_take]
      have : i < v.length := hi
      exact lt_line (by omega)
    · rw [upd_same, List.take_add_one, List.getElem?_map, ec', List.map_append]
      rfl
  · rintro H' ⟨s1, hDl⟩
    rw [List.take_of_length_le (by rw [List.length_map, ← TL.len_tl]; exact Nat.le_refl _)] at hDl
    refine ⟨D, _, rfl, SqL.of hDl, ?_⟩
    have k := q _ s1
    unfold wordB at k
    rw [decide_eq_true (show 1 ≤ v.length ∧ v.length ≤ 8 by omega)] at k
    rw [List.all_map]
    exact k
theorem ok_name (T : Top K mg) : FnOk P w K mg base CX0 2 T.a_is_name T.fd_is_name ["value"] (spNm letters) := by
  have G_is_word := ok_word (P := P) (w := w) (base := base) T
  refine T.d_is_name.F.ok sc_is_name (fun vs H Q E h => ?_) (fun cdv A outer s H vs Q E hr h => ?_)
  · obtain ⟨v, rfl, _⟩ := h
    rfl
  obtain ⟨v, rfl, hl, q⟩ := h
  refine ⟨_, (pss_one (ps_ret (pe_call G_is_word (hr.mono (by decide)) (by rfl) T.d_is_word.g T.d_is_word.kp T.d_is_word.b .nil pass0 (pa_cons (pv 0) (pa_cons (pe_gS rfl T.g_LETTERS) pa_nil))))), ?_⟩
  exact ⟨_, rfl, v, letters, rfl, hl, q⟩
theorem ok_option (T : Top K mg) : FnOk P w K mg base CX0 2 T.a_is_option T.fd_is_option ["value"] (spNm lettersD) := by
  have G_is_word := ok_word (P := P) (w := w) (base := base) T
  refine T.d_is_option.F.ok sc_is_option (fun vs H Q E h => ?_) (fun cdv A outer s H vs Q E hr h => ?_)
  · obtain ⟨v, rfl, _⟩ := h
    rfl
  obtain ⟨v, rfl, hl, q⟩ := h
  refine ⟨_, (pss_one (ps_ret (pe_call G_is_word (hr.mono (by decide)) (by rfl) T.d_is_word.g T.d_is_word.kp T.d_is_word.b .nil pass0 (pa_cons (pv 0) (pa_cons (pe_gS rfl T.g_LETTERS_AND_DIGITS) pa_nil))))), ?_⟩
  exact ⟨_, rfl, v, lettersD, rfl, hl, q⟩
theorem paired_get {α β : Type} {F : α → β → Prop} : ∀ {l : List α} {m : List β} {i : Nat} {x : α}, Paired F l m → l[i]? = some x → ∃ y, m[i]? = some y ∧ F x y
  | _, _, _, _, .nil, e => by cases e
  | _, _, 0, _, .cons h _, e => by
    cases e
    exact ⟨_, rfl, h⟩
  | _, _, i + 1, _, .cons _ t, e => paired_get (i := i) t e
def spTup (K : PySem.W.Frag) : Sp := fun vs H Q _ => ∃ (a : Addr) (xs : List V) (l m : Int), vs = [.ref a, .int l, .int m] ∧ SqT K H a xs ∧ l ≤ xs.length ∧ (xs.length : Int) ≤ m ∧ Q (.bl true) H
theorem ok_tup (T : Top K mg) : FnOk P w K mg base CX0 1 T.a_is_tuple T.fd_is_tuple ["value", "least", "most"] (spTup K) := by
  refine T.d_is_tuple.F.ok sc_is_tuple (fun vs H Q E h => ?_) (fun cdv A outer s H vs Q E hr h => ?_)
  · obtain ⟨a, xs, l, m, rfl, _⟩ := h
    rfl
  obtain ⟨a, xs, l, m, rfl, hx, h1, h2, q⟩ := h
  refine ⟨_, (pss_one (ps_ret (pe_and (pe_callB (call_isi_K (K := K) (by rfl)) (by rfl) T.b_isinstance (by decide +kernel) (pa_cons (pv 0) (pa_cons (pe_tyN "tuple" (by rfl) T.b_tuple (by decide +kernel)) pa_nil))) (pe_one (pe_chain op_le op_le (pv 1) (pe_callB (call_len_seq_K (K := K) (by rfl)) (by rfl) T.b_len PySem.boot_len (pa_cons (pv 0) pa_nil)) (pv 2)))))), ?_⟩
  refine ⟨_, rfl, _, _, _, _, true, rfl, .ty _, tyT hx, kit_ty (by decide +kernel), _, rfl, iteT ?_⟩
  refine ⟨_, rfl, _, rfl, a, xs, rfl, .inr hx, _, _, rfl, rfl, _, rfl, iteY h1 ?_⟩
  refine ⟨_, rfl, _, _, rfl, rfl, ?_⟩
  show Q (.bl (decide ((xs.length : Int) ≤ m))) H
  rw [decide_eq_true h2]
  exact q
def spNamesOf (K : PySem.W.Frag) : Sp := fun vs H Q _ => ∃ (v : V) (ns : List Str), vs = [v] ∧ HdS K H v ns ∧ ns.length ≤ 1000 ∧ ∀ (p : Addr) (H' : Hp), H p = none → Same H H' → H' p = some (.lst (ns.map V.str)) → Q (.ref p) H'
theorem ok_namesof (T : Top K mg) : FnOk P w K mg base CX0 1 T.a_names_of T.fd_names_of ["items"] (spNamesOf K) := by
  refine T.d_names_of.F.ok sc_names_of (fun vs H Q E h => ?_) (fun cdv A outer s H vs Q E hr h => ?_)
  · obtain ⟨v, ns, rfl, _⟩ := h
    rfl
  obtain ⟨v, ns, rfl, ⟨a, xs, rfl, hx, hp⟩, hl, q⟩ := h
  refine ⟨_, (pss_one (ps_ret (pe_lc (own := [("item", 1)]) rfl sc_names_of.nd (pi_seq_K (K := K) (by rfl) (pv 0)) (blkOk_by (own := [("item", 1)]) (N := ["items", "item"]) (sc := defScope s_names_of) (by decide +kernel)) (fun _ _ _ _ _ => by exact (pg_name (i := 1) sc_names_of.nd rfl (Or.inl rfl))) (fun _ _ _ _ _ => by exact pts_nil) (fun _ _ _ _ _ => by exact (pe_ix (ix_tup_K (K := K) (by rfl)) (pv 1) pe_int (fun _ _ => rfl)))))), ?_⟩
  have lx : xs.length = ns.length := hp.length
  refine iSeqV rfl hx fun J G wk hG D nD => ?_
  refine lc_it wk (fun i H' => Same H H' ∧ H' D = some (.lst ((ns.take i).map V.str))) ⟨same_new nD, upd_same⟩ (fun i H' _ p => hG H' p.1) ?_ ?_
  · rintro i y H' H'' hi ⟨s1, hDl⟩ ⟨rfl, ey⟩
    obtain ⟨n, en, t, r, rfl, ht⟩ := paired_get hp ey
    refine ⟨rfl, _, rfl, t, _, (0 : Int), .str n, rfl, rfl, Same.tup s1 ht, at_nn (by decide) rfl, _, hDl, ?_, same_mut s1 nD, ?_⟩
    · rw [List.length_map, List.length_take]
      exact lt_line (by omega)
    · rw [upd_same, List.take_add_one, en, List.map_append]
      rfl
  · rintro H' ⟨s1, hDl⟩
    rw [lx, List.take_of_length_le (Nat.le_refl _)] at hDl
    exact q _ _ nD s1 hDl
def spNameFits (K : PySem.W.Frag) : Sp := fun vs H Q _ => ∃ (v : V) (ns : List Str) (n : Str) (m : Int), vs = [v, .str n, .int m] ∧ HdS K H v ns ∧ ns.length ≤ 1000 ∧ (ns.length : Int) < m ∧ IsNm n ∧ n ∉ ns ∧ ∀ H', Same H H' → Q (.bl true) H'
theorem ok_namefits (T : Top K mg) : FnOk P w K mg base CX0 3 T.a_name_fits T.fd_name_fits ["before", "name", "most"] (spNameFits K) := by
  have G_is_name := ok_name (P := P) (w := w) (base := base) T
  have G_names_of := ok_namesof (P := P) (w := w) (base := base) T
  refine T.d_name_fits.F.ok sc_name_fits (fun vs H Q E h => ?_) (fun cdv A outer s H vs Q E hr h => ?_)
  · obtain ⟨v, ns, n, m, rfl, _⟩ := h
    rfl
  obtain ⟨v, ns, n, m, rfl, hv, hl, hm, hn, hno, q⟩ := h
  refine ⟨_, (pss_one (ps_ret (pe_and (pe_cmpR op_lt (pe_callB (call_len_seq_K (K := K) (by rfl)) (by rfl) T.b_len PySem.boot_len (pa_cons (pv 0) pa_nil)) (pv 2) (nomark _)) (pe_and (pe_call G_is_name (hr.mono (by decide)) (by rfl) T.d_is_name.g T.d_is_name.kp T.d_is_name.b .nil pass0 (pa_cons (pv 1) pa_nil)) (pe_one (pe_cmpR (op_notIn_seq_K (K := K) (by rfl)) (pv 1) (pe_call G_names_of (hr.mono (by decide)) (by rfl) T.d_names_of.g T.d_names_of.kp T.d_names_of.b .nil pass0 (pa_cons (pv 0) pa_nil)) (by rfl))))))), ?_⟩
  obtain ⟨a, xs, rfl, hx, hp⟩ := id hv
  have lx : xs.length = ns.length := hp.length
  refine ⟨_, rfl, a, xs, rfl, hx, _, rfl, _, _, rfl, rfl, _, rfl, iteY (by rw [lx]; exact hm) ?_⟩
  refine ⟨_, rfl, _, rfl, Nat.le_trans hn.hi (by decide), fun H1 s1 => ?_⟩
  rw [hn.word]
  refine ⟨_, rfl, iteT ?_⟩
  refine ⟨_, rfl, _, rfl, _, ns, rfl, hv.mono s1, hl, fun p H2 _ s2 hp2 => ?_⟩
  refine ⟨p, _, rfl, .inl (SqL.of hp2), rfl, flat_strs _, ?_⟩
  show Q (.bl (!inV (.str n) (ns.map V.str))) H2
  rw [in_strs, decide_eq_false hno]
  exact q _ (s1.trans s2)
def spOptsOf (K : PySem.W.Frag) : Sp := fun vs H Q _ => ∃ (v : V) (fs : List Fld) (x : Str), vs = [v, .str x] ∧ DpS K H v (fs.map dF) ∧ (fs.map (·.1)).Nodup ∧ x ∈ fs.map (·.1) ∧ ∀ o, SqT K H o ((optsOf fs x).map V.str) → Q (.ref o) H
theorem ok_optsof (T : Top K mg) : FnOk P w K mg base CX0 1 T.a_options_of T.fd_options_of ["fields", "name"] (spOptsOf K) := by
  refine T.d_options_of.F.ok sc_options_of (fun vs H Q E h => ?_) (fun cdv A outer s H vs Q E hr h => ?_)
  · obtain ⟨v, fs, x, rfl, _⟩ := h
    rfl
  obtain ⟨v, fs, x, rfl, ⟨a, xs, rfl, hS, hD⟩, nd, hx, q⟩ := h
  refine ⟨_, (pss_cons (ps_for PassesOwn.never rfl (pi_seq_K (K := K) (by rfl) (pv 0)) (pg_tup_K (K := K) (by rfl) (n := 2) (by rfl) (pgs_cons (pg_name (i := 2) sc_options_of.nd rfl (Or.inl rfl)) (pgs_cons (pg_name (i := 3) sc_options_of.nd rfl (Or.inl rfl)) pgs_nil)))
      (pss_one (ps_if (pt_cmpR op_eq (pv 2) (pv 1) (nomark _)) (pss_one (ps_ret (pv 3))) pss_nil)))
    (pss_one (ps_ret (pe_tup pa_nil)))), ?_⟩
  have lx : xs.length = fs.length := by rw [DpAll.length hD, List.length_map]
  refine iSeqV rfl hS fun J G wk hG => for_it wk (fun i σ H' => ∃ k o, σ = [some (.ref a), some (.str x), k, o] ∧ H' = H ∧ ∀ (j : Nat) (f : Fld), j < i → fs[j]? = some f → f.1 ≠ x)
    ⟨none, none, rfl, rfl, fun j f h => absurd h (Nat.not_lt_zero j)⟩ (fun i σ H' _ ⟨_, _, _, e, _⟩ => by rw [e]; exact hG _ (Same.refl _)) ?_ ?_
  · rintro i y σ H' H'' hi ⟨k, o, rfl, rfl, hno⟩ ⟨rfl, ey⟩
    obtain ⟨d, e1, e2⟩ := DpAll.get hD ey
    rw [List.getElem?_map] at e1
    cases ef : fs[i]? with
    | none =>
      rw [ef] at e1
      cases e1
    | some f =>
      rw [ef] at e1
      cases e1
      obtain ⟨t, o, rfl, k1, k2⟩ := dp_dF e2
      refine ⟨t, _, rfl, k1, rfl, _, _, rfl, _, _, rfl, rfl, ?_⟩
      refine ⟨_, rfl, _, rfl, rfl, _, rfl, iteB (fun z => ?_) (fun z => ?_)⟩
      · have z1 : f.1 = x := by
          have z2 := of_decide_eq_true z
          cases z2
          rfl
        refine ⟨_, rfl, q o ?_⟩
        rw [← z1, opts_of nd (List.mem_of_getElem? ef)]
        exact k2
      · refine ⟨_, _, rfl, rfl, fun j g hj hg => ?_⟩
        by_cases hji : j = i
        · rw [hji, ef] at hg
          cases hg
          intro z1
          rw [z1] at z
          simp at z
        · exact hno j g (by omega) hg
  · rintro σ H' ⟨k, o, rfl, rfl, hno⟩
    obtain ⟨f, hf, rfl⟩ := List.mem_map.mp hx
    obtain ⟨j, hj⟩ := List.getElem?_of_mem hf
    have lj := (List.getElem?_eq_some_iff.mp hj).1
    exact absurd rfl (hno j f (by rw [lx]; exact lj) hj)
def spIsTest (K : PySem.W.Frag) : Sp := fun vs H Q _ => ∃ (v t : V) (fs : List Fld) (c : Tst), vs = [v, t] ∧ DpS K H v (fs.map dF) ∧ (fs.map (·.1)).Nodup ∧ Dp K H t (dT c) ∧ FitT fs c ∧ c.2.1 ∈ signs ∧ ∀ H', Same H H' → Q (.bl true) H'
theorem ok_istest (T : Top K mg) : FnOk P w K mg base CX0 2 T.a_is_test T.fd_is_test ["fields", "value"] (spIsTest K) := by
  have G_is_tuple := ok_tup (P := P) (w := w) (base := base) T
  have G_options_of := ok_optsof (P := P) (w := w) (base := base) T
  refine T.d_is_test.F.ok sc_is_test (fun vs H Q E h => ?_) (fun cdv A outer s H vs Q E hr h => ?_)
  · obtain ⟨v, t, fs, c, rfl, _⟩ := h
    rfl
  obtain ⟨v, t, fs, c, rfl, hv, nd, ht, hf, hsg, q⟩ := h
  obtain ⟨a, xs, rfl, h1, h2⟩ := dp_tup ht
  obtain ⟨x1, r1, rfl, e1, h2⟩ := dpa_cons h2
  obtain ⟨x2, r2, rfl, e2, h2⟩ := dpa_cons h2
  obtain ⟨x3, r3, rfl, e3, h2⟩ := dpa_cons h2
  obtain rfl := dpa_nil h2
  rw [dp_str e1, dp_str e2, dp_str e3] at h1
  refine ⟨_, (pss_one (ps_ret (pe_and (pe_call G_is_tuple (hr.mono (by decide)) (by rfl) T.d_is_tuple.g T.d_is_tuple.kp T.d_is_tuple.b .nil pass0 (pa_cons (pv 1) (pa_cons pe_int (pa_cons pe_int pa_nil)))) (pe_and (pe_cmpR (op_in_seq_K (K := K) (by rfl)) (pe_ix (ix_tup_K (K := K) (by rfl)) (pv 1) pe_int (fun _ _ => rfl)) (pe_gR rfl T.g_SIGNS) (by rfl)) (pe_one (pe_cmpR (op_in_seq_K (K := K) (by rfl)) (pe_ix (ix_tup_K (K := K) (by rfl)) (pv 1) pe_int (fun _ _ => rfl)) (pe_call G_options_of (hr.mono (by decide)) (by rfl) T.d_options_of.g T.d_options_of.kp T.d_options_of.b .nil pass0 (pa_cons (pv 0) (pa_cons (pe_ix (ix_tup_K (K := K) (by rfl)) (pv 1) pe_int (fun _ _ => rfl)) pa_nil))) (by rfl))))))), ?_⟩
  refine ⟨_, rfl, a, _, 3, 3, rfl, h1, (by show (3 : Int) ≤ 3; decide), (by show (3 : Int) ≤ 3; decide), _, rfl, iteT ?_⟩
  refine ⟨_, rfl, a, _, (1 : Int), .str c.2.1, rfl, rfl, h1, at_nn (by decide) rfl, T.a_SIGNS, signs.map V.str, rfl, .inr (T.k_SIGNS H), rfl, flat_strs _, inV (.str c.2.1) (signs.map V.str), rfl, ?_⟩
  rw [in_strs, decide_eq_true hsg]
  refine iteT ?_
  refine ⟨_, rfl, a, _, (2 : Int), .str c.2.2, rfl, rfl, h1, at_nn (by decide) rfl, _, rfl, _, rfl, a, _, (0 : Int), .str c.1, rfl, rfl, h1, at_nn (by decide) rfl, ?_⟩
  refine ⟨v, fs, c.1, rfl, hv, nd, hf.1, fun o ho => ⟨o, _, rfl, .inr ho, rfl, flat_strs _, ?_⟩⟩
  show Q (.bl (inV (.str c.2.2) ((optsOf fs c.1).map V.str))) H
  rw [in_strs, decide_eq_true hf.2]
  exact q _ (Same.refl H)
def spIsStep (K : PySem.W.Frag) : Sp := fun vs H Q _ => ∃ (v t : V) (fs : List Fld) (c : Stp), vs = [v, t] ∧ DpS K H v (fs.map dF) ∧ (fs.map (·.1)).Nodup ∧ fs.length ≤ 1000 ∧ (∀ f ∈ fs, f.2.length ≤ 1000) ∧ Dp K H t (dS c) ∧ FitS fs c ∧ ∀ H', Same H H' → Q (.bl true) H'
theorem ok_isstep (T : Top K mg) : FnOk P w K mg base CX0 2 T.a_is_step T.fd_is_step ["fields", "value"] (spIsStep K) := by
  have G_is_tuple := ok_tup (P := P) (w := w) (base := base) T
  have G_options_of := ok_optsof (P := P) (w := w) (base := base) T
  have G_names_of := ok_namesof (P := P) (w := w) (base := base) T
  refine T.d_is_step.F.ok sc_is_step (fun vs H Q E h => ?_) (fun cdv A outer s H vs Q E hr h => ?_)
  · obtain ⟨v, t, fs, c, rfl, _⟩ := h
    rfl
  obtain ⟨v, t, fs, c, rfl, hv, nd, hl, ho, ht, hf, q⟩ := h
  obtain ⟨a, xs, rfl, h1, h2⟩ := dp_tup ht
  obtain ⟨x1, r1, rfl, e1, h2⟩ := dpa_cons h2
  obtain ⟨x2, r2, rfl, e2, h2⟩ := dpa_cons h2
  obtain rfl := dpa_nil h2
  rw [dp_str e1, dp_str e2] at h1
  refine ⟨_, (pss_cons (ps_if (pt_not (pt_val (pe_call G_is_tuple (hr.mono (by decide)) (by rfl) T.d_is_tuple.g T.d_is_tuple.kp T.d_is_tuple.b .nil pass0 (pa_cons (pv 1) (pa_cons pe_int (pa_cons pe_int pa_nil)))))) (pss_one (ps_ret pe_bl)) pss_nil)
    (pss_one (ps_ret (pe_and (pe_cmpR (op_in_seq_K (K := K) (by rfl)) (pe_ix (ix_tup_K (K := K) (by rfl)) (pv 1) pe_int (fun _ _ => rfl)) (pe_tup (pa_cons (pe_gS rfl T.g_NEXT) (pa_starK (K := K) (by rfl) (pe_call G_options_of (hr.mono (by decide)) (by rfl) T.d_options_of.g T.d_options_of.kp T.d_options_of.b .nil pass0 (pa_cons (pv 0) (pa_cons (pe_ix (ix_tup_K (K := K) (by rfl)) (pv 1) pe_int (fun _ _ => rfl)) pa_nil))) pa_nil))) (by rfl)) (pe_one (pe_cmpR (op_in_seq_K (K := K) (by rfl)) (pe_ix (ix_tup_K (K := K) (by rfl)) (pv 1) pe_int (fun _ _ => rfl)) (pe_call G_names_of (hr.mono (by decide)) (by rfl) T.d_names_of.g T.d_names_of.kp T.d_names_of.b .nil pass0 (pa_cons (pv 0) pa_nil)) (by rfl))))))), ?_⟩
  refine ⟨_, rfl, a, _, 2, 2, rfl, h1, (by show (2 : Int) ≤ 2; decide), (by show (2 : Int) ≤ 2; decide), _, rfl, iteF ?_⟩
  refine ⟨_, rfl, a, _, (1 : Int), .str c.2, rfl, rfl, h1, at_nn (by decide) rfl, ?_⟩
  refine ⟨_, rfl, _, rfl, a, _, (0 : Int), .str c.1, rfl, rfl, h1, at_nn (by decide) rfl, v, fs, c.1, rfl, hv, nd, hf.1, fun o ho2 => ⟨o, _, rfl, .inl ho2, ?_⟩⟩
  have lo : (optsOf fs c.1).length ≤ 1000 := by
    obtain ⟨f, g1, g2, g3⟩ := pos_at hf.1
    rw [← g3]
    exact ho f (List.mem_of_getElem? g1)
  have le : V.str "+" :: ((optsOf fs c.1).map V.str ++ []) = (("+" : Str) :: optsOf fs c.1).map V.str := by rw [List.append_nil]; rfl
  refine ⟨(by rw [le, List.length_map]; show (optsOf fs c.1).length + 1 ≤ sizeLine; exact le_line (by omega)), fun p np => ?_⟩
  have s1 := same_new (o := .tup (V.str "+" :: ((optsOf fs c.1).map V.str ++ []))) np
  have hp : upd H p (.tup (V.str "+" :: ((optsOf fs c.1).map V.str ++ []))) p = some (.tup ((("+" : Str) :: optsOf fs c.1).map V.str)) := by rw [upd_same, le]
  refine ⟨p, _, rfl, .inr (SqT.of hp), rfl, flat_strs _, inV (.str c.2) ((("+" : Str) :: optsOf fs c.1).map V.str), rfl, ?_⟩
  rw [in_strs, decide_eq_true (show c.2 ∈ ("+" : Str) :: optsOf fs c.1 by
    by_cases z : c.2 = "+"
    · rw [z]
      exact List.mem_cons_self ..
    · exact List.mem_cons_of_mem _ (hf.2 z))]
  refine iteT ?_
  have hns := HdS.of hv (fun d hd => by
    obtain ⟨f, _, rfl⟩ := List.mem_map.mp hd
    exact named_dF f)
  rw [List.map_map] at hns
  refine ⟨_, rfl, a, _, (0 : Int), .str c.1, rfl, rfl, Same.tup s1 h1, at_nn (by decide) rfl, ?_⟩
  refine ⟨_, rfl, v, fs.map (·.1), rfl, hns.mono s1, by rw [List.length_map]; exact hl, fun p2 H2 _ s2 hp2 => ?_⟩
  refine ⟨p2, _, rfl, .inl (SqL.of hp2), rfl, flat_strs _, ?_⟩
  show Q (.bl (inV (.str c.1) ((fs.map (·.1)).map V.str))) H2
  rw [in_strs, decide_eq_true hf.1]
  exact q _ (s1.trans s2)
theorem Dp.tupA {K : PySem.W.Frag} {H : Hp} {v : V} {ds : List PyData} (h : Dp K H v (.tuple ds)) : ∃ a xs, v = .ref a ∧ SqT K H a xs ∧ DpAll K H xs ds ∧ xs.length = ds.length := by
  obtain ⟨a, xs, e, h1, h2⟩ := dp_tup h
  exact ⟨a, xs, e, h1, h2, DpAll.length h2⟩
def spIsCase (K : PySem.W.Frag) : Sp := fun vs H Q _ => ∃ (v t : V) (fs : List Fld) (c : Cas), vs = [v, t] ∧ DpS K H v (fs.map dF) ∧ (fs.map (·.1)).Nodup ∧ fs.length ≤ 1000 ∧ (∀ f ∈ fs, f.2.length ≤ 1000) ∧ Dp K H t (dC c) ∧ OkCas fs c ∧ ∀ H', Same H H' → Q (.bl true) H'
theorem ok_iscase (T : Top K mg) : FnOk P w K mg base CX0 3 T.a_is_case T.fd_is_case ["fields", "value"] (spIsCase K) := by
  have G_is_tuple := ok_tup (P := P) (w := w) (base := base) T
  have G_is_test := ok_istest (P := P) (w := w) (base := base) T
  have G_is_step := ok_isstep (P := P) (w := w) (base := base) T
  refine T.d_is_case.F.ok sc_is_case (fun vs H Q E h => ?_) (fun cdv A outer s H vs Q E hr h => ?_)
  · obtain ⟨v, t, fs, c, rfl, _⟩ := h
    rfl
  obtain ⟨v, t, fs, c, rfl, hv, nd, hl, ho, ht, hc, q⟩ := h
  obtain ⟨a, xs, rfl, h1, h2⟩ := dp_tup ht
  obtain ⟨x1, r1, rfl, e1, h2⟩ := dpa_cons h2
  obtain ⟨x2, r2, rfl, e2, h2⟩ := dpa_cons h2
  obtain rfl := dpa_nil h2
  refine ⟨_, (pss_cons (ps_if (pt_not (pt_val (pe_call G_is_tuple (hr.mono (by decide)) (by rfl) T.d_is_tuple.g T.d_is_tuple.kp T.d_is_tuple.b .nil pass0 (pa_cons (pv 1) (pa_cons pe_int (pa_cons pe_int pa_nil)))))) (pss_one (ps_ret pe_bl)) pss_nil)
    (pss_cons (ps_asg (pv 1) (pg_tup_K (K := K) (by rfl) (n := 2) (by rfl) (pgs_cons (pg_name (i := 2) sc_is_case.nd rfl (Or.inl rfl)) (pgs_cons (pg_name (i := 3) sc_is_case.nd rfl (Or.inl rfl)) pgs_nil))))
    (pss_cons (ps_if (PW.pt (pw_or (pt_not (pt_val (pe_call G_is_tuple (hr.mono (by decide)) (by rfl) T.d_is_tuple.g T.d_is_tuple.kp T.d_is_tuple.b .nil pass0 (pa_cons (pv 2) (pa_cons pe_int (pa_cons (pe_gI rfl T.g_MOST_ITEMS) pa_nil)))))) (pw_or1 (pt_not (pt_val (pe_callB (cr_all_K (K := K) (by rfl) rfl) (by rfl) T.b_all (by decide +kernel) (pa_cons (pe_lc (own := [("test", 4)]) rfl sc_is_case.nd (pi_tup_K (K := K) (by rfl) (pv 2)) (blkOk_by (own := [("test", 4)]) (N := ["fields", "value", "tests", "steps", "test", "step"]) (sc := defScope s_is_case) (by decide +kernel)) (fun _ _ _ _ _ => by exact (pg_name (i := 4) sc_is_case.nd rfl (Or.inl rfl))) (fun _ _ _ _ _ => by exact pts_nil) (fun _ _ _ _ _ => by exact (pe_call G_is_test (hr.mono (by decide)) (by rfl) T.d_is_test.g T.d_is_test.kp T.d_is_test.b .nil pass0 (pa_cons (pv 0) (pa_cons (pv 4) pa_nil))))) pa_nil))))))) (pss_one (ps_ret pe_bl)) pss_nil)
    (pss_one (ps_ret (L2.pe_or (pe_cmpR op_isN (pv 3) pe_non (nomark _)) (pe_one (pe_and (pe_call G_is_tuple (hr.mono (by decide)) (by rfl) T.d_is_tuple.g T.d_is_tuple.kp T.d_is_tuple.b .nil pass0 (pa_cons (pv 3) (pa_cons pe_int (pa_cons (pe_gI rfl T.g_MOST_ITEMS) pa_nil)))) (pe_one (pe_callB (cr_all_K (K := K) (by rfl) rfl) (by rfl) T.b_all (by decide +kernel) (pa_cons (pe_lc (own := [("step", 5)]) rfl sc_is_case.nd (pi_tup_K (K := K) (by rfl) (pv 3)) (blkOk_by (own := [("step", 5)]) (N := ["fields", "value", "tests", "steps", "test", "step"]) (sc := defScope s_is_case) (by decide +kernel)) (fun _ _ _ _ _ => by exact (pg_name (i := 5) sc_is_case.nd rfl (Or.inl rfl))) (fun _ _ _ _ _ => by exact pts_nil) (fun _ _ _ _ _ => by exact (pe_call G_is_step (hr.mono (by decide)) (by rfl) T.d_is_step.g T.d_is_step.kp T.d_is_step.b .nil pass0 (pa_cons (pv 0) (pa_cons (pv 5) pa_nil))))) pa_nil))))))))))), ?_⟩
  refine ⟨_, rfl, a, _, 2, 2, rfl, h1, (by show (2 : Int) ≤ 2; decide), (by show (2 : Int) ≤ 2; decide), _, rfl, iteF ?_⟩
  obtain ⟨tt, ts, rfl, ht1, ht2⟩ := dp_tup e1
  have lt : ts.length = c.1.length := by rw [DpAll.length ht2, List.length_map]
  refine ⟨_, rfl, a, _, rfl, h1, rfl, _, _, rfl, _, _, rfl, rfl, ?_⟩
  refine ⟨_, rfl, tt, ts, 0, 6, rfl, ht1, by omega, by rw [lt]; have := hc.nt; omega, _, rfl, iteF ?_⟩
  refine ⟨_, rfl, tt, rfl, ⟨_, ht1⟩, fun D nD => ?_⟩
  have lt2 := hc.nt
  refine lc_trues walk_tup nD (by omega) (fun H' s => Same.tup s ht1) (fun i x H' R R' ex s1 k => ?_) (fun H1 s1 hD => ?_)
  · obtain ⟨d, g1, g2⟩ := DpAll.get ht2 ex
    obtain ⟨tst, hm, rfl⟩ := List.mem_map.mp (List.mem_of_getElem? g1)
    exact ⟨rfl, _, rfl, _, rfl, v, x, fs, tst, rfl, hv.mono s1, nd, Dp.mono s1 g2, hc.fit.t tst hm, hc.sg tst hm, k⟩
  refine ⟨D, _, rfl, SqL.of hD, ?_⟩
  rw [bls_true]
  refine ⟨_, rfl, iteF ?_⟩
  cases hso : c.2 with
  | none =>
    rw [hso] at e2
    obtain rfl := dp_non e2
    exact ⟨_, rfl, rfl, _, rfl, iteY rfl (q _ s1)⟩
  | some ss =>
    rw [hso] at e2
    obtain ⟨t2, ys, rfl, g1, g2⟩ := dp_tup e2
    have lu : ys.length = ss.length := by rw [DpAll.length g2, List.length_map]
    have lu2 := hc.ns ss hso
    refine ⟨_, rfl, rfl, _, rfl, iteN (fun z => by cases z) ?_⟩
    refine ⟨_, rfl, t2, ys, 0, 6, rfl, Same.tup s1 g1, by omega, by omega, _, rfl, iteT ?_⟩
    refine ⟨_, rfl, t2, rfl, ⟨_, Same.tup s1 g1⟩, fun D2 nD2 => ?_⟩
    refine lc_trues walk_tup nD2 (by omega) (fun H' s => Same.tup (s1.trans s) g1) (fun i x H' R R' ex s2 k => ?_) (fun H2 s2 hD2 => ?_)
    · obtain ⟨d, f1, f2⟩ := DpAll.get g2 ex
      obtain ⟨stp, hm, rfl⟩ := List.mem_map.mp (List.mem_of_getElem? f1)
      exact ⟨rfl, _, rfl, _, rfl, v, x, fs, stp, rfl, hv.mono (s1.trans s2), nd, hl, ho, Dp.mono (s1.trans s2) f2, hc.fit.s ss hso stp hm, k⟩
    refine ⟨D2, _, rfl, SqL.of hD2, ?_⟩
    rw [bls_true]
    exact q _ (s1.trans s2)
structure FsB (fs : List Fld) : Prop where
  nd : (fs.map (·.1)).Nodup
  len : fs.length ≤ 1000
  os : ∀ f ∈ fs, f.2.length ≤ 1000
def spIsProg (K : PySem.W.Frag) : Sp := fun vs H Q _ => ∃ (v t : V) (fs : List Fld) (p : List Cas), vs = [v, t] ∧ DpS K H v (fs.map dF) ∧ FsB fs ∧ Dp K H t (dP p) ∧ OkPrg fs p ∧ ∀ H', Same H H' → Q (.bl true) H'
theorem ok_isprog (T : Top K mg) : FnOk P w K mg base CX0 4 T.a_is_program T.fd_is_program ["fields", "value"] (spIsProg K) := by
  have G_is_tuple := ok_tup (P := P) (w := w) (base := base) T
  have G_is_case := ok_iscase (P := P) (w := w) (base := base) T
  refine T.d_is_program.F.ok sc_is_program (fun vs H Q E h => ?_) (fun cdv A outer s H vs Q E hr h => ?_)
  · obtain ⟨v, t, fs, c, rfl, _⟩ := h
    rfl
  obtain ⟨v, t, fs, p, rfl, hv, fb, ht, hp, q⟩ := h
  obtain ⟨a, xs, rfl, h1, h2⟩ := dp_tup ht
  have lx : xs.length = p.length := by rw [DpAll.length h2, List.length_map]
  have k1 := hp.lo
  have k2 := hp.hi
  refine ⟨_, (pss_one (ps_ret (pe_and (pe_call G_is_tuple (hr.mono (by decide)) (by rfl) T.d_is_tuple.g T.d_is_tuple.kp T.d_is_tuple.b .nil pass0 (pa_cons (pv 1) (pa_cons pe_int (pa_cons (pe_gI rfl T.g_MOST_CASES) pa_nil)))) (pe_one (pe_callB (cr_all_K (K := K) (by rfl) rfl) (by rfl) T.b_all (by decide +kernel) (pa_cons (pe_lc (own := [("case", 2)]) rfl sc_is_program.nd (pi_tup_K (K := K) (by rfl) (pv 1)) (blkOk_by (own := [("case", 2)]) (N := ["fields", "value", "case"]) (sc := defScope s_is_program) (by decide +kernel)) (fun _ _ _ _ _ => by exact (pg_name (i := 2) sc_is_program.nd rfl (Or.inl rfl))) (fun _ _ _ _ _ => by exact pts_nil) (fun _ _ _ _ _ => by exact (pe_call G_is_case (hr.mono (by decide)) (by rfl) T.d_is_case.g T.d_is_case.kp T.d_is_case.b .nil pass0 (pa_cons (pv 0) (pa_cons (pv 2) pa_nil))))) pa_nil)))))), ?_⟩
  refine ⟨_, rfl, a, xs, 1, 8, rfl, h1, by omega, by omega, _, rfl, iteT ?_⟩
  refine ⟨_, rfl, a, rfl, ⟨_, h1⟩, fun D nD => ?_⟩
  refine lc_trues walk_tup nD (by omega) (fun H' s => Same.tup s h1) (fun i x H' R R' ex s1 k => ?_) (fun H1 s1 hD => ?_)
  · obtain ⟨d, g1, g2⟩ := DpAll.get h2 ex
    obtain ⟨cs, hm, rfl⟩ := List.mem_map.mp (List.mem_of_getElem? g1)
    exact ⟨rfl, _, rfl, _, rfl, v, x, fs, cs, rfl, hv.mono s1, fb.nd, fb.len, fb.os, Dp.mono s1 g2, hp.all cs hm, k⟩
  refine ⟨D, _, rfl, SqL.of hD, ?_⟩
  rw [bls_true]
  exact q _ s1
/-- a tie behind others with the names ns -/
def spTieFits (K : PySem.W.Frag) : Sp := fun vs H Q _ => ∃ (v b t : V) (fs : List Fld) (ns : List Str) (c : Tie), vs = [v, b, t] ∧ DpS K H v (fs.map dF) ∧ FsB fs ∧ HdS K H b ns ∧ ns.length < 4 ∧ c.1 ∉ ns ∧ IsNm c.1 ∧ Dp K H t (dTie c) ∧ OkPrg fs c.2 ∧ ∀ H', Same H H' → Q (.bl true) H'
theorem ok_tiefits (T : Top K mg) : FnOk P w K mg base CX0 5 T.a_tie_fits T.fd_tie_fits ["fields", "before", "tie"] (spTieFits K) := by
  have G_is_tuple := ok_tup (P := P) (w := w) (base := base) T
  have G_is_program := ok_isprog (P := P) (w := w) (base := base) T
  have G_name_fits := ok_namefits (P := P) (w := w) (base := base) T
  refine T.d_tie_fits.F.ok sc_tie_fits (fun vs H Q E h => ?_) (fun cdv A outer s H vs Q E hr h => ?_)
  · obtain ⟨v, b, t, fs, ns, c, rfl, _⟩ := h
    rfl
  obtain ⟨v, b, t, fs, ns, c, rfl, hv, fb, hb, hl, hno, hn, ht, hp, q⟩ := h
  obtain ⟨a, xs, rfl, h1, h2⟩ := dp_tup ht
  obtain ⟨x1, r1, rfl, e1, h2⟩ := dpa_cons h2
  obtain ⟨x2, r2, rfl, e2, h2⟩ := dpa_cons h2
  obtain rfl := dpa_nil h2
  rw [dp_str e1] at h1
  refine ⟨_, (pss_one (ps_ret (pe_and (pe_call G_is_tuple (hr.mono (by decide)) (by rfl) T.d_is_tuple.g T.d_is_tuple.kp T.d_is_tuple.b .nil pass0 (pa_cons (pv 2) (pa_cons pe_int (pa_cons pe_int pa_nil)))) (pe_and (pe_call G_name_fits (hr.mono (by decide)) (by rfl) T.d_name_fits.g T.d_name_fits.kp T.d_name_fits.b .nil pass0 (pa_cons (pv 1) (pa_cons (pe_ix (ix_tup_K (K := K) (by rfl)) (pv 2) pe_int (fun _ _ => rfl)) (pa_cons (pe_gI rfl T.g_MOST_TIES) pa_nil)))) (pe_one (pe_call G_is_program (hr.mono (by decide)) (by rfl) T.d_is_program.g T.d_is_program.kp T.d_is_program.b .nil pass0 (pa_cons (pv 0) (pa_cons (pe_ix (ix_tup_K (K := K) (by rfl)) (pv 2) pe_int (fun _ _ => rfl)) pa_nil)))))))), ?_⟩
  refine ⟨_, rfl, a, _, 2, 2, rfl, h1, (by show (2 : Int) ≤ 2; decide), (by show (2 : Int) ≤ 2; decide), _, rfl, iteT ?_⟩
  refine ⟨_, rfl, _, rfl, a, _, (0 : Int), .str c.1, rfl, rfl, h1, at_nn (by decide) rfl, b, ns, c.1, 4, rfl, hb, by omega, by omega, hn, hno, fun H1 s1 => ⟨_, rfl, iteT ?_⟩⟩
  exact ⟨_, rfl, _, rfl, a, _, (1 : Int), x2, rfl, rfl, Same.tup s1 h1, at_nn (by decide) rfl, v, x2, fs, c.2, rfl, hv.mono s1, fb, Dp.mono s1 e2, hp, fun H2 s2 => q _ (s1.trans s2)⟩
def spIsKey (K : PySem.W.Frag) : Sp := fun vs H Q _ => ∃ (v t : V) (fs : List Fld) (k : Str × Str), vs = [v, t] ∧ DpS K H v (fs.map dF) ∧ FsB fs ∧ Dp K H t (dKey k) ∧ k.1 ∈ fs.map (·.1) ∧ (k.2 = "+" ∨ k.2 = "-") ∧ ∀ H', Same H H' → Q (.bl true) H'
theorem ok_iskey (T : Top K mg) : FnOk P w K mg base CX0 2 T.a_is_key T.fd_is_key ["fields", "value"] (spIsKey K) := by
  have G_is_tuple := ok_tup (P := P) (w := w) (base := base) T
  have G_names_of := ok_namesof (P := P) (w := w) (base := base) T
  refine T.d_is_key.F.ok sc_is_key (fun vs H Q E h => ?_) (fun cdv A outer s H vs Q E hr h => ?_)
  · obtain ⟨v, t, fs, c, rfl, _⟩ := h
    rfl
  obtain ⟨v, t, fs, c, rfl, hv, fb, ht, hk, hd, q⟩ := h
  obtain ⟨a, xs, rfl, h1, h2⟩ := dp_tup ht
  obtain ⟨x1, r1, rfl, e1, h2⟩ := dpa_cons h2
  obtain ⟨x2, r2, rfl, e2, h2⟩ := dpa_cons h2
  obtain rfl := dpa_nil h2
  rw [dp_str e1, dp_str e2] at h1
  have hns := HdS.of hv (fun d hd => by
    obtain ⟨f, _, rfl⟩ := List.mem_map.mp hd
    exact named_dF f)
  rw [List.map_map] at hns
  refine ⟨_, (pss_one (ps_ret (pe_and (pe_call G_is_tuple (hr.mono (by decide)) (by rfl) T.d_is_tuple.g T.d_is_tuple.kp T.d_is_tuple.b .nil pass0 (pa_cons (pv 1) (pa_cons pe_int (pa_cons pe_int pa_nil)))) (pe_and (pe_cmpR (op_in_seq_K (K := K) (by rfl)) (pe_ix (ix_tup_K (K := K) (by rfl)) (pv 1) pe_int (fun _ _ => rfl)) (pe_call G_names_of (hr.mono (by decide)) (by rfl) T.d_names_of.g T.d_names_of.kp T.d_names_of.b .nil pass0 (pa_cons (pv 0) pa_nil)) (by rfl)) (pe_one (pe_cmpR (op_in_seq_K (K := K) (by rfl)) (pe_ix (ix_tup_K (K := K) (by rfl)) (pv 1) pe_int (fun _ _ => rfl)) (pe_gR rfl T.g_DIRECTIONS) (by rfl))))))), ?_⟩
  refine ⟨_, rfl, a, _, 2, 2, rfl, h1, (by show (2 : Int) ≤ 2; decide), (by show (2 : Int) ≤ 2; decide), _, rfl, iteT ?_⟩
  refine ⟨_, rfl, a, _, (0 : Int), .str c.1, rfl, rfl, h1, at_nn (by decide) rfl, ?_⟩
  refine ⟨_, rfl, v, fs.map (·.1), rfl, hns, by rw [List.length_map]; exact fb.len, fun p2 H2 _ s2 hp2 => ?_⟩
  refine ⟨p2, _, rfl, .inl (SqL.of hp2), rfl, flat_strs _, inV (.str c.1) ((fs.map (·.1)).map V.str), rfl, ?_⟩
  rw [in_strs, decide_eq_true hk]
  refine iteT ?_
  refine ⟨_, rfl, a, _, (1 : Int), .str c.2, rfl, rfl, Same.tup s2 h1, at_nn (by decide) rfl, T.a_DIRECTIONS, (["+", "-"] : List Str).map V.str, rfl, .inr (T.k_DIRECTIONS _), rfl, flat_strs _, ?_⟩
  show Q (.bl (inV (.str c.2) ((["+", "-"] : List Str).map V.str))) H2
  rw [in_strs, decide_eq_true (show c.2 ∈ (["+", "-"] : List Str) by
    rcases hd with z | z
    · rw [z]; exact List.mem_cons_self ..
    · rw [z]; exact List.mem_cons_of_mem _ (List.mem_cons_self ..))]
  exact q _ s2
end
end Bh

set_option Elab.async false
set_option linter.all false
set_option maxRecDepth 100000
set_option maxHeartbeats 2000000
namespace Bh
open PySem PySem.Spec PyProof.Rows L2
/-! ### enumerate of a tuple, zip of a tuple and a list -/
/-- the tuple at a, each item with its place in a new pair -/
def ItEn (K : PySem.W.Frag) (a : Addr) : It where
  go := fun i H => ∃ (l : List V) (y : V), SqT K H a l ∧ l[i]? = some y
  yld := fun i H v H' => ∃ (T : Addr) (y : V), v = .ref T ∧ H T = none ∧ H' = upd H T (.tup [.int (i : Nat), y]) ∧ ∀ l, SqT K H a l → l[i]? = some y
  stop := fun i H => ∃ l : List V, SqT K H a l ∧ l.length = i
theorem turn_en {P : Program} {w : World} {K : PySem.W.Frag} {elts : List Expr} {kk : Nat} {tpos : Pos} {a e it : Addr} (d1 : e ≠ it) (d2 : a ≠ e) (d3 : a ≠ it) :
    Turn P w K (.Tuple elts kk tpos) (ItEn K a) [e, it] e (fun i h => (∃ old, IsEnum h e it ((i : Nat) : Int) old) ∧ h.IsTupleIter it a i) where
  mem := List.mem_cons_self ..
  obj := fun i h ⟨⟨old, q1⟩, o, q2, _, q3⟩ b hb => by
    rcases List.mem_cons.mp hb with rfl | hb
    · exact ⟨_, q1, fun v z => nomatch z⟩
    · rw [List.mem_singleton.mp hb]
      exact ⟨o, q2, fun v z => by rw [q3] at z; cases z⟩
  keep := fun i h h' ⟨⟨old, q1⟩, q2⟩ k => ⟨⟨old, k e (List.mem_cons_self ..) _ q1⟩, q2.at fun o z => k it (List.mem_cons_of_mem _ (List.mem_singleton.mpr rfl)) o z⟩
  item := by
    intro X eP eW eK hc i pins s σ H E I hf ⟨⟨old, q1⟩, q2⟩ ⟨l, y, hl, hy⟩
    subst eP eW eK
    obtain ⟨its, rv, pl, _⟩ := I.tuple hl
    obtain ⟨u, hu, ru⟩ := rv.get hy
    have li : i < its.toArray.size := by
      rw [List.size_toArray]
      exact (List.getElem?_eq_some_iff.mp hu).1
    have lte : e < s.heap.objs.size := Heap.lt_size q1
    have lti : it < s.heap.objs.size := by
      obtain ⟨_, z, _⟩ := q2
      exact Heap.lt_size z
    have D := Draws.tuple (prog := X.prog) (w := X.w) (A := X.A.in1) (by rw [Around.in1_handled]; exact I.ok.hd hc) it a d3 its.toArray
    refine wpAny_pyNext_enum_itemD D q1 ⟨q2, pl⟩ li d1 (fun z => ?_) fun x h' tk hx ho st' hT hsz hk => ⟨_, rfl, wpAny_letOwnedTupleGo_enum (s := { s with heap := h', toks := tk + 1 }) ho fun h2 he2 sb => ?_⟩
    · rcases List.mem_cons.mp z with z | z
      · exact d1 z
      · exact d2 (List.mem_singleton.mp z).symm
    obtain rfl : x = u := by
      have hx2 : its[i]? = some x := by rw [← hx]; exact List.getElem?_toArray.symm
      rw [hu] at hx2
      exact (Option.some.inj hx2).symm
    have at2 : h2.get? s.heap.objs.size = some { cls := .type "tuple", data := .seq #[.int i tk, x] } := (sb.2 _ (Nat.ne_of_gt lte)).trans hT
    have nw : ObjOk X.prog X.w (upd H s.heap.objs.size (.tup [.int (i : Nat), y])) h2 s.heap.objs.size (.tup [.int (i : Nat), y]) := by
      refine ⟨(by show 2 ≤ sizeLine; decide), [.int i tk, x], .cons ⟨_, rfl⟩ (.cons ru .nil), _, at2, rfl, _, rfl⟩
    have J : Inv X pins σ (upd H s.heap.objs.size (.tup [.int (i : Nat), y])) { s with heap := h2, toks := tk + 1 } := by
      refine I.turnedNew (ch := [e, it]) (fun b o nb z => ?_) hf (Nat.le_refl _) nw
      have n1 : b ≠ e := fun z => nb (by rw [z]; exact List.mem_cons_self ..)
      have n2 : b ≠ it := fun z => nb (by rw [z]; exact List.mem_cons_of_mem _ (List.mem_singleton.mpr rfl))
      exact (sb.2 b n1).trans (hk b o n1 n2 z)
    have ei : ((i + 1 : Nat) : Int) = (i : Int) + 1 := by omega
    refine ⟨.ref s.heap.objs.size, _, J, rfl, ⟨_, y, rfl, I.hok.fresh (Nat.le_refl _), rfl, fun l2 h2' => by rw [I.tuple_inj h2' hl]; exact hy⟩, ⟨⟨x, ei ▸ he2⟩, st'.1.at fun o z => (sb.2 it d1.symm).trans z⟩, fun b hb => ?_⟩
    have lb : b < s.heap.objs.size := by
      rcases List.mem_cons.mp hb with z | z
      · rw [z]; exact lte
      · rw [List.mem_singleton.mp z]; exact lti
    rw [upd_ne (Nat.ne_of_lt lb)]
    exact (hf b hb).1
  done := by
    intro X eP eW eK hc i pins s σ H E I hf ⟨⟨old, q1⟩, q2⟩ ⟨l, hl, hle⟩
    subst eP eW eK
    obtain ⟨its, rv, pl, _⟩ := I.tuple hl
    have en : its.toArray.size = i := by rw [List.size_toArray, ← rv.length, hle]
    obtain ⟨f0, f1, f2, f3, f4, f5⟩ := hf it (List.mem_cons_of_mem _ (List.mem_singleton.mpr rfl))
    have D := Draws.tuple (prog := X.prog) (w := X.w) (A := X.A.in1) (by rw [Around.in1_handled]; exact I.ok.hd hc) it a d3 its.toArray
    rw [en] at D
    exact wpAny_pyNext_enum_endD D q1 ⟨q2, pl⟩ fun h' eb => ⟨rfl, I.turned (t' := s.toks) (fun b o nb z => eb b o nb z) f0 f1 f3 f4 f5⟩
  self := fun A i s Q E ⟨⟨_, q1⟩, _⟩ h => wpAny_pyIter_enum q1 h
abbrev enIt (t : Addr) : Obj := { cls := .type "tuple_iterator", data := .fields #[.ref t, .int 0 0] }
abbrev enOb (it : Addr) : Obj := { cls := .type "enumerate", data := .fields #[.none, .bool false, .ref it, rawInt 0, .none, .none] }
theorem meets_enT {t : Addr} {items : Array Value} : Meets (Builtin.«enumerate.__new__» ⟨[.type "enumerate", .ref t], []⟩) (fun _ R s => s.heap.IsTuple t items ∧ R (.ok (.ret (.ref (s.heap.push (enIt t)).objs.size))) { s with heap := (s.heap.push (enIt t)).push (enOb s.heap.objs.size) }) :=
  .of_wp fun pr wd A R st z => by
    obtain ⟨hp, gg, dr, tk, os⟩ := st
    obtain ⟨z1, z2⟩ := z
    have hsub := sub_enumerate
    have bg : ∀ {A' : Around} {E : Value → Shared → Prop} {Q : Value → Shared → Prop}, Q (.ref hp.objs.size) ⟨hp.push (enIt t), gg, dr, tk, os⟩ → wpAny (model pr wd) A' (pyIter (.ref t)) Q E ⟨hp, gg, dr, tk, os⟩ := fun q => wpAny_pyIter_tuple z1 q
    wp_walk using bg
    refine wpAny_stack_any fun sk => wpAny_pure ?_
    split
    · rename_i c _ _ _ _ _
      cases (c == Value.type "enumerate") <;> (wp_walk using bg; exact ⟨_, rfl, z2⟩)
    · wp_walk using bg
      exact ⟨_, rfl, z2⟩
theorem call_enT {prog : Program} {w : World} {A : Around} {E : Value → Shared → Prop} {s : Shared} {t : Addr} {items : Array Value} {Q : Value → Shared → Prop} (ht : s.heap.IsTuple t items)
    (k : ∀ h', IsEnum h' (s.heap.objs.size + 1) s.heap.objs.size 0 .none → h'.IsTupleIter s.heap.objs.size t 0 → (∀ b o, s.heap.get? b = some o → h'.get? b = some o) → Q (.ref (s.heap.objs.size + 1)) { s with heap := h' }) :
    wpAny (model prog w) A (call (.type "enumerate") [.ref t]) Q E s := by
  refine callType_new F.called_enumerate (by decide) (F.typeCall_enumerate_1 _) (F.newCall_enumerate_1 _) (fun ob => F.args_object_init_2 ob _) F.entry_enumerate_new meets_enT ⟨ht, ?_⟩
  have e1 : (s.heap.push (enIt t)).objs.size = s.heap.objs.size + 1 := Heap.size_push ..
  have e2 : ((s.heap.push (enIt t)).push (enOb s.heap.objs.size)).get? (s.heap.push (enIt t)).objs.size = some (enOb s.heap.objs.size) := Heap.get?_push_size _ rfl
  show _ ∧ _
  rw [e1] at e2 ⊢
  exact ⟨⟨_, e2, rfl⟩, k _ e2 ⟨_, Heap.get?_push_of_some _ (Heap.get?_push_size _ rfl), rfl, rfl⟩ fun b o x => Heap.get?_push_of_some _ (Heap.get?_push_of_some _ x)⟩
def iEnumS (K : PySem.W.Frag) (ta : TA) : TI := fun σ H R => ta σ H fun vs H1 => ∃ a xs, vs = [.ref a] ∧ (SqL K H1 a xs ∨ SqT K H1 a xs) ∧
  ∀ J : It, Walk J xs.length (fun H => Same H1 H) (YPair (fun i => some (.int (i : Nat))) (fun i => xs[i]?)) → R J H1
theorem walk_en {K : PySem.W.Frag} {a : Addr} {xs : List V} : Walk (ItEn K a) xs.length (fun H => SqT K H a xs) (YPair (fun i => some (.int (i : Nat))) (fun i => xs[i]?)) := by
  refine ⟨fun i _ hi q => ⟨xs, xs[i], q, List.getElem?_eq_getElem hi⟩, fun _ q => ⟨xs, q, rfl⟩, fun i H v H' _ q y => ?_⟩
  obtain ⟨T, z, e1, e2, e3, e4⟩ := y
  exact ⟨T, .int (i : Nat), z, e1, e2, e3, rfl, e4 xs q⟩
theorem pi_enumS {X : Cx} {K : PySem.W.Frag} (hK : X.K = K) {e : Expr} {ta : TA} {p pos tpos : Pos} {elts : List Expr} {kk : Nat} (hg : Gl X "enumerate") (hm : X.mg "enumerate" = none) (ha : PA X [e] ta) (hs : starEach [e] X.env = [(false, eval e X.env)] := by rfl) :
    PI X (.Tuple elts kk tpos) (.Call (.Name "enumerate" p) [e] [] pos) (iEnumS K ta) := by
  subst hK
  refine ⟨fun pins s σ H R I h => ?_⟩
  refine Call_ (ld_blt I hg hm boot_enumerate (PyProof.Rows.callWith_type1 (thn (ha.run pos pins s σ H _ I h) fun us s1 ⟨vs, H1, I1, r1, q1⟩ => ?_) hs rfl))
  obtain ⟨a, xs, rfl, hq, q⟩ := q1
  obtain ⟨u, rfl, r⟩ := vals1 r1
  cases r
  have two : ∀ b ∈ [s1.heap.objs.size + 1, s1.heap.objs.size], FpOk X pins H1 b := fun b hb => by
    have le : s1.heap.objs.size ≤ b := by
      rcases List.mem_cons.mp hb with z | z
      · rw [z]; exact Nat.le_succ _
      · rw [List.mem_singleton.mp z]; exact Nat.le_refl _
    exact I1.fpOk le (I1.hok.fresh le)
  rcases hq with hq | hq
  · obtain ⟨its, rv, pl, _⟩ := I1.list hq
    refine call_enumerate_list pl.isList fun h' he hit hsz hk => wpAny_pyIter_enum he ⟨s1.heap.objs.size + 1, _, _, _, H1, rfl, I1.kept (t' := s1.toks) hk, turn_enum a (s1.heap.objs.size + 1) s1.heap.objs.size, ⟨⟨.none, he⟩, hit, Nat.succ_ne_self _⟩, two, q _ ?_⟩
    exact walk_enum.mono (fun H' z => z.seq hq) (fun _ _ _ _ _ _ y => y)
  · obtain ⟨its, rv, pl, _⟩ := I1.tuple hq
    obtain ⟨ob, hob, _⟩ := id pl
    have la : a < s1.heap.objs.size := Heap.lt_size hob
    refine call_enT pl fun h' he hit hk => wpAny_pyIter_enum he ⟨s1.heap.objs.size + 1, _, _, _, H1, rfl, I1.kept (t' := s1.toks) hk, turn_en (a := a) (Nat.succ_ne_self _) (Nat.ne_of_lt (Nat.lt_succ_of_lt la)) (Nat.ne_of_lt la), ⟨⟨.none, he⟩, hit⟩, two, q _ ?_⟩
    exact walk_en.mono (fun H' z => Same.tup z hq) (fun _ _ _ _ _ _ y => y)
end Bh

set_option Elab.async false
set_option linter.all false
set_option maxRecDepth 100000
set_option maxHeartbeats 2000000
namespace Bh
open PySem PySem.Spec PyProof.Rows L2
/-- the tuple at a and the list at b side by side, the items in new pairs -/
def ItZm (K : PySem.W.Frag) (a b : Addr) : It where
  go := fun i H => ∃ (l m : List V) (x y : V), SqT K H a l ∧ SqL K H b m ∧ l[i]? = some x ∧ m[i]? = some y
  yld := fun i H v H' => ∃ (T : Addr) (x y : V), v = .ref T ∧ H T = none ∧ H' = upd H T (.tup [x, y]) ∧ (∀ l, SqT K H a l → l[i]? = some x) ∧ ∀ m, SqL K H b m → m[i]? = some y
  stop := fun i H => ∃ l m : List V, SqT K H a l ∧ SqL K H b m ∧ i ≤ l.length ∧ i ≤ m.length ∧ (i = l.length ∨ i = m.length)
theorem turn_zm {P : Program} {w : World} {K : PySem.W.Frag} {elts : List Expr} {kk : Nat} {tpos : Pos} {a b z TI TO i1 i2 : Addr} (S : ZipSep2 z TI TO i1 i2 [i1, a] [i2, b]) (n1 : a ≠ i1) (n2 : b ≠ i2) :
    Turn P w K (.Tuple elts kk tpos) (ItZm K a b) [z, TI, TO, i1, i2] z (fun i h => IsZip h z TI TO .none ∧ IsTupOf2 h TI (.ref i1) (.ref i2) ∧ (∃ x y, IsTupOf2 h TO x y) ∧ h.IsTupleIter i1 a i ∧ h.IsListIter i2 b i) where
  mem := List.mem_cons_self ..
  obj := fun i h ⟨q1, q2, ⟨x, y, q3⟩, ⟨o1, q4, _, q5⟩, ⟨o2, q6, _, q7⟩⟩ c hc => by
    simp only [List.mem_cons, List.not_mem_nil, or_false] at hc
    rcases hc with rfl | rfl | rfl | rfl | rfl
    · exact ⟨_, q1, fun v u => nomatch u⟩
    · exact ⟨_, q2, fun v u => nomatch u⟩
    · exact ⟨_, q3, fun v u => nomatch u⟩
    · exact ⟨o1, q4, fun v u => by rw [q5] at u; cases u⟩
    · exact ⟨o2, q6, fun v u => by rw [q7] at u; cases u⟩
  keep := fun i h h' ⟨q1, q2, ⟨x, y, q3⟩, q4, q5⟩ k => ⟨k z (by simp) _ q1, k TI (by simp) _ q2, ⟨x, y, k TO (by simp) _ q3⟩, q4.at fun o u => k i1 (by simp) o u, q5.at fun o u => k i2 (by simp) o u⟩
  item := by
    intro X eP eW eK hc i pins s σ H E I hf ⟨q1, q2, ⟨x0, y0, q3⟩, q4, q5⟩ ⟨l, m, x, y, hl, hm, hx, hy⟩
    subst eP eW eK
    obtain ⟨it1, r1, pl1, _⟩ := I.tuple hl
    obtain ⟨it2, r2, pl2, _⟩ := I.list hm
    obtain ⟨u1, hu1, ru1⟩ := r1.get hx
    obtain ⟨u2, hu2, ru2⟩ := r2.get hy
    have hh : X.A.in1.handled = none := by rw [Around.in1_handled]; exact I.ok.hd hc
    have D1 := Draws.tuple (prog := X.prog) (w := X.w) hh i1 a n1 it1.toArray
    have D2 := Draws.list (prog := X.prog) (w := X.w) hh i2 b n2 it2.toArray
    have li1 : i < it1.toArray.size := by rw [List.size_toArray]; exact (List.getElem?_eq_some_iff.mp hu1).1
    have li2 : i < it2.toArray.size := by rw [List.size_toArray]; exact (List.getElem?_eq_some_iff.mp hu2).1
    have lz : z < s.heap.objs.size := Heap.lt_size q1
    refine wpAny_pyNext_zipD2_item S D1 D2 q1 q2 q3 ⟨q4, pl1⟩ ⟨q5, pl2.isList⟩ li1 li2 fun x1 x2 h' tk p1 p2 hz' hO st1 st2 hT hsz hk => ⟨_, rfl, wpAny_letOwnedTupleGo_zip (s := { s with heap := h', toks := tk }) hz' fun h2 hz2 sb => ?_⟩
    obtain rfl : x1 = u1 := by
      have e1 : it1[i]? = some x1 := by rw [← p1]; exact List.getElem?_toArray.symm
      rw [hu1] at e1
      exact (Option.some.inj e1).symm
    obtain rfl : x2 = u2 := by
      have e1 : it2[i]? = some x2 := by rw [← p2]; exact List.getElem?_toArray.symm
      rw [hu2] at e1
      exact (Option.some.inj e1).symm
    have at2 : h2.get? s.heap.objs.size = some { cls := .type "tuple", data := .seq #[x1, x2] } := (sb.2 _ (Nat.ne_of_gt lz)).trans hT
    have nw : ObjOk X.prog X.w (upd H s.heap.objs.size (.tup [x, y])) h2 s.heap.objs.size (.tup [x, y]) := by
      refine ⟨(by show 2 ≤ sizeLine; decide), [x1, x2], .cons ru1 (.cons ru2 .nil), _, at2, rfl, _, rfl⟩
    have J : Inv X pins σ (upd H s.heap.objs.size (.tup [x, y])) { s with heap := h2, toks := tk } := by
      refine I.turnedNew (ch := [z, TI, TO, i1, i2]) (fun b o nb e => ?_) hf (Nat.le_refl _) nw
      exact (sb.2 b (fun e' => nb (by simp [e']))).trans (hk b o (fun e' => nb (by simp [e'])) (fun e' => nb (by simp [e'])) (fun e' => nb (by simp [e'])) (fun e' => nb (by simp [e'])) e)
    refine ⟨.ref s.heap.objs.size, _, J, rfl, ⟨_, x, y, rfl, I.hok.fresh (Nat.le_refl _), rfl, fun l2 h2' => by rw [I.tuple_inj h2' hl]; exact hx, fun m2 h2' => by rw [I.list_inj h2' hm]; exact hy⟩, ⟨hz2, ?_, ⟨x1, x2, ?_⟩, ?_, ?_⟩, fun c hcm => ?_⟩
    · exact (sb.2 _ S.TIz).trans (hk _ _ S.TIz S.TITO S.TIi1 S.TIi2 q2)
    · exact (sb.2 _ S.TOz).trans hO
    · exact st1.1.at fun o e => (sb.2 _ S.zi1.symm).trans e
    · exact st2.1.at fun o e => (sb.2 _ S.zi2.symm).trans e
    · have hlt : c < s.heap.objs.size := by
        have e' : c = z ∨ c = TI ∨ c = TO ∨ c = i1 ∨ c = i2 := by simpa using hcm
        rcases e' with q | q | q | q | q
        · rw [q]; exact lz
        · rw [q]; exact Heap.lt_size q2
        · rw [q]; exact Heap.lt_size q3
        · rw [q]; obtain ⟨_, e1, _⟩ := q4; exact Heap.lt_size e1
        · rw [q]; obtain ⟨_, e2, _⟩ := q5; exact Heap.lt_size e2
      rw [upd_ne (Nat.ne_of_lt hlt)]
      exact (hf c hcm).1
  done := by
    intro X eP eW eK hc i pins s σ H E I hf ⟨q1, q2, ⟨x0, y0, q3⟩, q4, q5⟩ ⟨l, m, hl, hm, hx, hy, he⟩
    subst eP eW eK
    obtain ⟨it1, r1, pl1, _⟩ := I.tuple hl
    obtain ⟨it2, r2, pl2, _⟩ := I.list hm
    have l1 := r1.length
    have l2 := r2.length
    have hh : X.A.in1.handled = none := by rw [Around.in1_handled]; exact I.ok.hd hc
    have D1 := Draws.tuple (prog := X.prog) (w := X.w) hh i1 a n1 it1.toArray
    have D2 := Draws.list (prog := X.prog) (w := X.w) hh i2 b n2 it2.toArray
    refine wpAny_pyNext_zipD2_end S D1 D2 q1 q2 q3 ⟨q4, pl1⟩ ⟨q5, pl2.isList⟩ (by simp; omega) (by simp; omega) (by simp; omega) fun h' tk hk => ⟨rfl, I.turnedL (t' := tk) (ch := [z, TI, TO, i1, i2]) (fun c o hb q =>
      hk c o (fun q' => hb (by simp [q'])) (fun q' => hb (by simp [q'])) (fun q' => hb (by simp [q'])) (fun q' => hb (by simp [q'])) q) hf⟩
  self := fun A i s Q E st h => wpAny_pyIter_zip st.1 h
theorem walk_zm {K : PySem.W.Frag} {a b : Addr} {xs ys : List V} : Walk (ItZm K a b) (min xs.length ys.length) (fun H => SqT K H a xs ∧ SqL K H b ys) (YPair (fun i => xs[i]?) (fun i => ys[i]?)) := by
  refine ⟨fun i _ hi q => ?_, fun _ q => ⟨xs, ys, q.1, q.2, Nat.min_le_left .., Nat.min_le_right .., by omega⟩, fun i H v H' _ q y => ?_⟩
  · have l1 : i < xs.length := by omega
    have l2 : i < ys.length := by omega
    exact ⟨xs, ys, xs[i], ys[i], q.1, q.2, List.getElem?_eq_getElem l1, List.getElem?_eq_getElem l2⟩
  · obtain ⟨T, x, y, e1, e2, e3, e4, e5⟩ := y
    exact ⟨T, x, y, e1, e2, e3, e4 xs q.1, e5 ys q.2⟩
theorem walk_zt {K : PySem.W.Frag} {a b : Addr} {xs ys : List V} : Walk (RZ.ItzT K a b) (min xs.length ys.length) (fun H => SqT K H a xs ∧ SqT K H b ys) (YPair (fun i => xs[i]?) (fun i => ys[i]?)) := by
  refine ⟨fun i _ hi q => ?_, fun _ q => ⟨xs, ys, q.1, q.2, by omega⟩, fun i H v H' _ q y => ?_⟩
  · have l1 : i < xs.length := by omega
    have l2 : i < ys.length := by omega
    exact ⟨xs, ys, xs[i], ys[i], q.1, q.2, List.getElem?_eq_getElem l1, List.getElem?_eq_getElem l2⟩
  · obtain ⟨T, x, y, e1, e2, e3, e4, e5⟩ := y
    exact ⟨T, x, y, e1, e2, e3, e4 xs q.1, e5 ys q.2⟩
theorem apart2 {x y : Nat} (h : x < y ∨ y < x) : x ≠ y := by omega
theorem notIn2 {x y z : Nat} (h : (x < y ∨ y < x) ∧ (x < z ∨ z < x)) : x ∉ [y, z] := by
  intro q
  simp at q
  omega
theorem zip_sepZ {n a b : Nat} (la : a < n) (lb : b < n) : ZipSep2 (n + 4) (n + 2) (n + 3) n (n + 1) [n, a] [n + 1, b] := by
  constructor
  case mem1 => exact List.mem_cons_self ..
  case mem2 => exact List.mem_cons_self ..
  all_goals first | exact apart2 (by omega) | exact notIn2 (by omega)
def iZipM (K : PySem.W.Frag) (ta : TA) : TI := fun σ H R => ta σ H fun vs H1 => ∃ a b xs ys, vs = [.ref a, .ref b] ∧ SqT K H1 a xs ∧ (SqL K H1 b ys ∨ SqT K H1 b ys) ∧
  ∀ J : It, Walk J (min xs.length ys.length) (fun H => Same H1 H) (YPair (fun i => xs[i]?) (fun i => ys[i]?)) → R J H1
theorem pi_zipM {X : Cx} {K : PySem.W.Frag} (hK : X.K = K) {e e2 : Expr} {ta : TA} {p pos tpos : Pos} {elts : List Expr} {kk : Nat} (hg : Gl X "zip") (hm : X.mg "zip" = none) (ha : PA X [e, e2] ta)
    (hs : starEach [e, e2] X.env = (false, eval e X.env) :: starEach [e2] X.env := by rfl) (hpl : (backTo pos (starEach [e2] X.env)).any (·.1) = false := by rfl) :
    PI X (.Tuple elts kk tpos) (.Call (.Name "zip" p) [e, e2] [] pos) (iZipM K ta) := by
  subst hK
  refine ⟨fun pins s σ H R I h => ?_⟩
  refine Call_ (ld_blt I hg hm PyProof.Rows.boot_zip (PyProof.Rows.callWith_type1 (thn (ha.run pos pins s σ H _ I h) fun us s1 ⟨vs, H1, I1, r1, q1⟩ => ?_) hs hpl))
  obtain ⟨a, b, xs, ys, rfl, hqx, hqy, q⟩ := q1
  obtain ⟨u, w, rfl, ra, rb⟩ : ∃ u w, us = [u, w] ∧ RelV (.ref a) u ∧ RelV (.ref b) w := by
    cases r1 with
    | cons x y =>
      cases y with
      | cons x2 z => cases z; exact ⟨_, _, rfl, x, x2⟩
  cases ra
  cases rb
  have new5 : ∀ c ∈ [s1.heap.objs.size + 4, s1.heap.objs.size + 2, s1.heap.objs.size + 3, s1.heap.objs.size, s1.heap.objs.size + 1], FpOk X pins H1 c := fun c hc => by
    have le : s1.heap.objs.size ≤ c := by
      simp only [List.mem_cons, List.not_mem_nil, or_false] at hc
      omega
    exact I1.fpOk le (I1.hok.fresh le)
  obtain ⟨it1, r1', p1, _⟩ := I1.tuple hqx
  obtain ⟨o1, ho1, _⟩ := id p1
  have la : a < s1.heap.objs.size := Heap.lt_size ho1
  rcases hqy with hqy | hqy
  · obtain ⟨it2, r2', p2, _⟩ := I1.list hqy
    have lb : b < s1.heap.objs.size := p2.lt
    refine zip_begins2 (begins_tuple a it1.toArray) (begins_list b it2.toArray) p1 p2.isList fun h' hz hTI hTO g1 g2 hsz hk => wpAny_pyIter_zip hz ?_
    refine ⟨s1.heap.objs.size + 4, _, _, _, H1, rfl, I1.kept (t' := s1.toks) hk, turn_zm (zip_sepZ la lb) (Nat.ne_of_lt la) (Nat.ne_of_lt (Nat.lt_succ_of_lt lb)), ⟨hz, hTI, ⟨_, _, hTO⟩, ⟨_, g1, rfl, rfl⟩, ⟨_, g2, rfl, rfl⟩⟩, new5, q _ ?_⟩
    exact walk_zm.mono (fun H' z => ⟨Same.tup z hqx, z.seq hqy⟩) (fun _ _ _ _ _ _ y => y)
  · obtain ⟨it2, r2', p2, _⟩ := I1.tuple hqy
    obtain ⟨o2, ho2, _⟩ := id p2
    have lb : b < s1.heap.objs.size := Heap.lt_size ho2
    refine RZ.call_zipT (show s1.heap.IsTuple a it1.toArray from p1) (show s1.heap.IsTuple b it2.toArray from p2) fun h' hz hTI hTO h1 h2 hsz hk => wpAny_pyIter_zip hz ?_
    refine ⟨s1.heap.objs.size + 4, _, _, _, H1, rfl, I1.kept (t' := s1.toks) hk, RZ.turn_zipT (PySem.W.ktu_apart s1.heap.objs.size a b la lb), ⟨hz, hTI, ⟨_, _, hTO⟩, h1, h2⟩, new5, q _ ?_⟩
    exact walk_zt.mono (fun H' z => ⟨Same.tup z hqx, Same.tup z hqy⟩) (fun _ _ _ _ _ _ y => y)
end Bh

set_option Elab.async false
set_option linter.all false
set_option maxRecDepth 100000
namespace Bh
open PySem PySem.Spec PyProof.Rows L2
/-! ### len(set(xs)) of distinct texts -/
theorem takeAny {ys : List Str} (d : ys.Nodup) {j : Nat} (hj : j < ys.length) : ((ys.take j).any (· == ys[j])) = false := by
  refine List.any_eq_false.mpr fun z hz ez => ?_
  obtain ⟨i, hi⟩ := List.mem_iff_getElem?.mp hz
  rw [List.getElem?_take] at hi
  split at hi
  · rename_i lt
    obtain ⟨li, ei⟩ := List.getElem?_eq_some_iff.mp hi
    exact List.pairwise_iff_getElem.mp d i j li hj lt (ei.trans (eq_of_beq ez))
  · cases hi
theorem takeGrow {ys : List Str} {j : Nat} (hj : j < ys.length) (c : Str) : ((ys.take j).any (· == c) || decide (c = ys[j])) = (ys.take (j + 1)).any (· == c) := by
  rw [List.take_add_one, List.getElem?_eq_getElem hj, List.any_append]
  congr 1
  show decide (c = ys[j]) = (ys[j] == c || false)
  rw [Bool.or_false]
  by_cases e : c = ys[j]
  · rw [← e]; simp
  · have e2 : ¬ ys[j] = c := fun z => e z.symm
    simp [e, e2]
abbrev TakeSet (P : Program) (w : World) (h : Heap) (D : Addr) (ys : List Str) (j : Nat) : Prop := h.SetOf (strKind P w) D (fun c => (ys.take j).any (· == c)) j
theorem TakeSet.at {P : Program} {w : World} {h h2 : Heap} {D : Addr} {ys : List Str} {j : Nat} (z : TakeSet P w h D ys j) (k : ∀ o, h.get? D = some o → h2.get? D = some o) : TakeSet P w h2 D ys j := by
  obtain ⟨o, es, ep, tb, e, more⟩ := z
  exact ⟨o, es, ep, tb, k o e, more⟩
section
variable {P : Program} {w : World} {A : Around} {C : Result → Shared → Prop} {it : Addr} {fp wr : List Addr} {G : Array GenState → Array GenState → Prop} {n : Nat} {Pv : Nat → Value → Prop} {St : Nat → Shared → Prop}
theorem fillLoop (W : WalksS P w A.in1 it fp wr G n Pv St) (D : Addr) (far : D ∉ fp) (ys : List Str) (hn : ys.length = n) (room : n + 1 < scanBound) (d : ys.Nodup)
    (hv : ∀ j v, Pv j v → ∃ t, v = .str (ys.getD j Str.empty) t) (left : Nat) :
    ∀ (j : Nat) (s : Shared), n - j = left → j ≤ n → St j s → TakeSet P w s.heap D ys j →
      (∀ s2, Moved (D :: wr) G s s2 → TakeSet P w s2.heap D ys n → C (.ok (.ret .none)) s2) →
      codeAny (model P w) A (.builtin "set.update.loop" ⟨[.ref D, .ref it], []⟩) C s := by
  have far2 : D ∉ wr := fun z => far (W.sub _ z)
  induction left with
  | zero =>
    intro j s ej le st z fin
    obtain rfl : j = n := by omega
    refine codeAny_builtin PyProof.Rows.F.entry_set_update_loop ((Around.under_plainId PyProof.Rows.F.plain_set_update_loop _).symm ▸ ?_)
    refine wpAny_bind (m := pyNext (.ref it)) (W.done s _ _ st fun s2 mv => wpAny_pure (fin s2 (mv.mono fun b hb => .tail _ hb) ?_))
    exact z.at fun o e => mv.heap D o far2 e
  | succ left ih =>
    intro j s ej le st z fin
    have lt : j < n := by omega
    have lj : j < ys.length := by omega
    refine codeAny_builtin PyProof.Rows.F.entry_set_update_loop ((Around.under_plainId PyProof.Rows.F.plain_set_update_loop _).symm ▸ ?_)
    refine wpAny_bind (m := pyNext (.ref it)) (W.item j s _ _ lt st fun v s2 pv st2 mv => ?_)
    obtain ⟨t, ev⟩ := hv j v pv
    rw [List.getD_eq_getElem?_getD, List.getElem?_eq_getElem lj] at ev
    change v = .str ys[j] t at ev
    subst ev
    have z2 : TakeSet P w s2.heap D ys j := z.at fun o e => mv.heap D o far2 e
    refine wpAny_bind (m := holding [Value.str ys[j] t] (setAdd D (.str ys[j] t))) (wpAny_holding ?_)
    unfold setAdd
    refine wpAny_holding (wpAny_bind ((strKind P w).pyHash (k := ys[j]) (strKind_is _ _ _ _) ?_))
    refine wpAny_setAddHashed_of (knd := strKind P w) (s := { s2 with toks := s2.toks + 1 }) (strKind_is _ _ _ _) rfl z2 (by omega) fun h3 sb z3 => ?_
    have z4 : TakeSet P w h3 D ys (j + 1) := SetOf_congr z3 (takeGrow lj) (by rw [takeAny d lj]; rfl)
    have off : ∀ {b : Addr} {o : Obj}, b ≠ D → s2.heap.get? b = some o → h3.get? b = some o := fun nb e => (sb.2 _ nb).trans e
    refine wpAny_pure ⟨plainId_quiet PyProof.Rows.F.plain_set_update_loop _, ih (j + 1) _ (by omega) lt (W.frame _ s2 _ _ st2 (Nat.le_succ _) fun b hb o e => off (fun q => far (q ▸ hb)) e) z4 fun s4 mv2 z5 => ?_⟩
    exact fin s4 (Moved.trans W.gtrans ((mv.mono fun b hb => .tail _ hb).then_heap (Nat.le_succ _) fun b o nb e => off (fun q => nb (q ▸ .head _)) e) mv2) z5
end
section
variable {P : Program} {w : World} {A : Around} {E : Value → Shared → Prop} {s : Shared}
abbrev set0 (led : Bool) : Obj := { cls := .type "set", dict := none, data := .set #[] 0 (.fresh 0 0 led) }
/-- set(x), by what set.__init__ does to the new set -/
theorem set_made {x : Value} {Z : Shared → Prop} {Q : Value → Shared → Prop}
    (fill : ∀ led : Bool, wpAny (model P w) A.in1.in1 (Builtin.«set.__init__» ⟨[.ref s.heap.objs.size, x], []⟩)
      (fun fin s2 => match fin with | .done f => wants (fun r s3 => r = .none ∧ Z s3) E (.ok f) s2 | .again c => c.quiet = true ∧ codeAny (model P w) A.in1 c (wants (fun r s3 => r = .none ∧ Z s3) E) s2)
      (fun e s2 => wants (fun r s3 => r = .none ∧ Z s3) E (.error e) s2) { s with heap := s.heap.push (set0 led) })
    (use : ∀ s3, Z s3 → Q (.ref s.heap.objs.size) s3) : wpAny (model P w) A (call (.type "set") [x]) Q E s := by
  obtain ⟨mc, mt, road⟩ := PySem.F.called_set.mro
  have mk1 := PySem.F.called_set.made
  have mk2 := PySem.F.called_set.sub
  have mk3 := PySem.F.called_set.notType
  have mk4 := PySem.F.called_set.canCreate
  have mk5 := PySem.F.typeCall_set_1 x
  refine wpAny_call (codeAny_of_tree (show wpAny (model P w) _ (callAny (.type "set") ⟨[x], []⟩) _ _ s from wpAny_pure ⟨Code.quiet_builtin _ (by decide +kernel), codeAny_builtin PySem.F.entry_type_call ?_⟩))
  rw [Around.under_plain (weight_type_call_type "set" [x] []) rfl]
  repeat (any_goals (first | assumption | wp_step))
  refine codeAny_mono (code_set_new_1 x (E := E) (Q₁ := fun D s2 => ∃ led : Bool, D = .ref s.heap.objs.size ∧ s2 = { s with heap := s.heap.push (set0 led) }) fun led => ⟨led, rfl, rfl⟩) fun r s2 end1 => ?_
  cases r with
  | error e => exact end1
  | ok fl =>
    cases fl with
    | ret D =>
      obtain ⟨led, eD, eS⟩ := end1
      subst eD eS
      have at0 : (s.heap.push (set0 led)).get? s.heap.objs.size = some (set0 led) := Heap.get?_push_size _ rfl
      have ty0 : Shared.TypeIs { s with heap := s.heap.push (set0 led) } (.ref s.heap.objs.size) "set" := ⟨_, at0, rfl⟩
      have in1 := PySem.F.called_set.init.lookup
      have in2 := PySem.F.called_set.init.bind (.ref s.heap.objs.size)
      repeat (any_goals (first | assumption | wp_step))
      refine codeAny_mono (codeAny_call_builtin PySem.F.called_set.init.plain PySem.F.entry_set_init (check_set_init_1 ty0 (fill led))) fun r2 s3 end2 => ?_
      cases r2 with
      | error e => exact end2
      | ok fl2 =>
        cases fl2 with
        | ret r =>
          obtain ⟨er, z⟩ := end2
          subst er
          repeat (any_goals (first | assumption | wp_step))
          exact use _ z
        | _ => exact end2.elim
    | _ => exact end1.elim
end
end Bh

set_option Elab.async false
set_option linter.all false
set_option maxRecDepth 100000
set_option maxHeartbeats 3200000
namespace Bh
open PySem PySem.Spec PyProof.Rows L2
theorem texts_at : ∀ {ys : List Str} {us : List Value}, Vals (ys.map V.str) us → ∀ (j : Nat) (v : Value), us[j]? = some v → ∃ t, v = .str (ys.getD j Str.empty) t
  | [], _, .nil, j, v, h => by simp at h
  | y :: ys, _, .cons ⟨t, e⟩ _, 0, v, h => ⟨t, by simp at h; rw [← h, e]; rfl⟩
  | y :: ys, _, .cons _ more, j + 1, v, h => by
    obtain ⟨t, e⟩ := texts_at more j v (by simpa using h)
    exact ⟨t, by rw [e] <;> rfl⟩
section
variable {P : Program} {w : World} {A : Around} {E : Value → Shared → Prop} {s : Shared}
/-- what stands behind set(x): the set of the texts at the new address -/
def Filled (P : Program) (w : World) (s : Shared) (ys : List Str) (s3 : Shared) : Prop :=
  ∃ h3 t3, s3 = { s with heap := h3, toks := t3 } ∧ TakeSet P w h3 s.heap.objs.size ys ys.length ∧ ∀ b o, b < s.heap.objs.size → s.heap.get? b = some o → h3.get? b = some o
theorem fill_end {s2 : Shared} {D : Addr} {led : Bool} {ob : Obj} {ys : List Str} (mv : Moved [D, (s.heap.push (set0 led)).objs.size] (fun a b => b = a) { s with heap := (s.heap.push (set0 led)).push ob } s2) (eD : D = s.heap.objs.size) (z : TakeSet P w s2.heap D ys ys.length) : Filled P w s ys s2 := by
  subst eD
  refine ⟨s2.heap, s2.toks, ?_, z, fun b o lt e => mv.heap b o ?_ (Heap.get?_push_of_some _ (Heap.get?_push_of_some _ e))⟩
  · obtain ⟨h, g, d, t, os⟩ := s2
    have e1 : g = s.gens := mv.gens
    have e2 : d = s.drawn := mv.drawn
    have e3 : os = s.os := mv.os
    rw [e1, e2, e3]
  · rw [Heap.size_push]
    intro q
    rcases List.mem_cons.mp q with q | q
    · exact Nat.ne_of_lt lt q
    · exact Nat.ne_of_lt (Nat.lt_succ_of_lt lt) (List.mem_singleton.mp q)
theorem fill_list {l : Addr} {us : List Value} {ys : List Str} (hh : A.handled = none) (hl : s.heap.IsList l us.toArray) (rv : Vals (ys.map V.str) us) (d : ys.Nodup) (few : ys.length + 1 < scanBound) (led : Bool) :
    wpAny (model P w) A.in1.in1 (Builtin.«set.__init__» ⟨[.ref s.heap.objs.size, .ref l], []⟩)
      (fun fin s2 => match fin with | .done f => wants (fun r s3 => r = .none ∧ Filled P w s ys s3) E (.ok f) s2 | .again c => c.quiet = true ∧ codeAny (model P w) A.in1 c (wants (fun r s3 => r = .none ∧ Filled P w s ys s3) E) s2)
      (fun e s2 => wants (fun r s3 => r = .none ∧ Filled P w s ys s3) E (.error e) s2) { s with heap := s.heap.push (set0 led) } := by
  have ll : l < s.heap.objs.size := by
    obtain ⟨o, e, _⟩ := id hl
    exact Heap.lt_size e
  obtain ⟨⟨oc, od, odt, osl⟩, oe, ec, on, ed⟩ := id hl
  simp only at ec ed
  subst ec ed
  have at0 : (s.heap.push (set0 led)).get? s.heap.objs.size = some (set0 led) := Heap.get?_push_size _ rfl
  have oe2 : (s.heap.push (set0 led)).get? l = some { cls := .type "list", dict := od, data := .seq us.toArray on, slots := osl } := Heap.get?_push_of_some _ oe
  have no1 := PySem.F.sub_list_set
  have no2 := PySem.F.sub_list_frozenset
  have no3 : (Value.type "list" == Value.type "dict") = false := by decide
  have hl2 : (s.heap.push (set0 led)).IsList l us.toArray := ⟨_, oe2, rfl, on, rfl⟩
  unfold Builtin.«set.__init__» noKeywords Builtin.Frozenset.updateFrom
  generalize ePI : pyIter = PI
  wp_walk
  subst ePI
  refine wpAny_pyIter_list hl2 (wpAny_bind (wpAny_runValue ?_))
  have hh3 : A.in1.in1.in1.handled = none := by simp [hh]
  have ne1 : l ≠ (s.heap.push (set0 led)).objs.size := by rw [Heap.size_push]; exact Nat.ne_of_lt (Nat.lt_succ_of_lt ll)
  have len : us.toArray.size = ys.length := by rw [List.size_toArray, ← rv.length, List.length_map]
  refine fillLoop ((Walks.list hh3 _ l ne1 us.toArray).toS) s.heap.objs.size ?far ys len.symm (by rw [len]; exact few) d (fun j v e => texts_at rv j v (by simpa using e)) us.toArray.size 0 _ rfl (Nat.zero_le _)
    ⟨⟨_, Heap.get?_push_size _ rfl, rfl, rfl⟩, hl2.push _⟩ ?beg fun s2 mv z => ?fin
  case far =>
    rw [Heap.size_push]
    intro q
    rcases List.mem_cons.mp q with q | q
    · exact Nat.ne_of_lt (Nat.lt_succ_self _) q
    · exact Nat.ne_of_gt ll (List.mem_singleton.mp q)
  case beg => exact SetOf_congr ((setObjOf_fresh (knd := strKind P w) led).setOf (Heap.get?_push_of_some _ at0) (by unfold scanBound; omega)) (fun _ => rfl) rfl
  case fin =>
    rw [len] at z
    exact wpAny_pure (wpAny_pure ⟨rfl, fill_end mv rfl z⟩)
theorem fill_tuple {l : Addr} {us : List Value} {ys : List Str} (hh : A.handled = none) (hl : s.heap.IsTuple l us.toArray) (rv : Vals (ys.map V.str) us) (d : ys.Nodup) (few : ys.length + 1 < scanBound) (led : Bool) :
    wpAny (model P w) A.in1.in1 (Builtin.«set.__init__» ⟨[.ref s.heap.objs.size, .ref l], []⟩)
      (fun fin s2 => match fin with | .done f => wants (fun r s3 => r = .none ∧ Filled P w s ys s3) E (.ok f) s2 | .again c => c.quiet = true ∧ codeAny (model P w) A.in1 c (wants (fun r s3 => r = .none ∧ Filled P w s ys s3) E) s2)
      (fun e s2 => wants (fun r s3 => r = .none ∧ Filled P w s ys s3) E (.error e) s2) { s with heap := s.heap.push (set0 led) } := by
  have ll : l < s.heap.objs.size := by
    obtain ⟨o, e, _⟩ := id hl
    exact Heap.lt_size e
  obtain ⟨⟨oc, od, odt, osl⟩, oe, ec, on, ed⟩ := id hl
  simp only at ec ed
  subst ec ed
  have at0 : (s.heap.push (set0 led)).get? s.heap.objs.size = some (set0 led) := Heap.get?_push_size _ rfl
  have oe2 : (s.heap.push (set0 led)).get? l = some { cls := .type "tuple", dict := od, data := .seq us.toArray on, slots := osl } := Heap.get?_push_of_some _ oe
  have no1 := PySem.F.sub_tuple_set
  have no2 := PySem.F.sub_tuple_frozenset
  have no3 : (Value.type "tuple" == Value.type "dict") = false := by decide
  have hl2 : (s.heap.push (set0 led)).IsTuple l us.toArray := ⟨_, oe2, rfl, on, rfl⟩
  unfold Builtin.«set.__init__» noKeywords Builtin.Frozenset.updateFrom
  generalize ePI : pyIter = PI
  wp_walk
  subst ePI
  refine wpAny_pyIter_tuple hl2 (wpAny_bind (wpAny_runValue ?_))
  have hh3 : A.in1.in1.in1.handled = none := by simp [hh]
  have ne1 : l ≠ (s.heap.push (set0 led)).objs.size := by rw [Heap.size_push]; exact Nat.ne_of_lt (Nat.lt_succ_of_lt ll)
  have len : us.toArray.size = ys.length := by rw [List.size_toArray, ← rv.length, List.length_map]
  refine fillLoop ((Walks.tuple hh3 _ l ne1 us.toArray).toS) s.heap.objs.size ?far ys len.symm (by rw [len]; exact few) d (fun j v e => texts_at rv j v (by simpa using e)) us.toArray.size 0 _ rfl (Nat.zero_le _)
    ⟨⟨_, Heap.get?_push_size _ rfl, rfl, rfl⟩, hl2.push _⟩ ?beg fun s2 mv z => ?fin
  case far =>
    rw [Heap.size_push]
    intro q
    rcases List.mem_cons.mp q with q | q
    · exact Nat.ne_of_lt (Nat.lt_succ_self _) q
    · exact Nat.ne_of_gt ll (List.mem_singleton.mp q)
  case beg => exact SetOf_congr ((setObjOf_fresh (knd := strKind P w) led).setOf (Heap.get?_push_of_some _ at0) (by unfold scanBound; omega)) (fun _ => rfl) rfl
  case fin =>
    rw [len] at z
    exact wpAny_pure (wpAny_pure ⟨rfl, fill_end mv rfl z⟩)
end
def tLenSetS (K : PySem.W.Frag) (ta : TE) : TE := fun σ H Q => ta σ H fun x H1 => ∃ (l : Addr) (xs : List Str), x = .ref l ∧ (SqL K H1 l (xs.map V.str) ∨ SqT K H1 l (xs.map V.str)) ∧ xs.Nodup ∧ xs.length ≤ 1000 ∧ Q (.int xs.length) H1
theorem pe_lenSetS {X : Cx} {K : PySem.W.Frag} (hK : X.K = K) {a : Expr} {ta : TE} {p p2 q pos : Pos} (hc : X.calm = true) (hg : Gl X "len") (hm : X.mg "len" = none) (hg2 : Gl X "set") (hm2 : X.mg "set" = none) (ha : PE X a ta)
    (na : starEach [a] X.env = (false, eval a X.env) :: starEach [] X.env := by rfl) : PE X (.Call (.Name "len" p) [.Call (.Name "set" p2) [a] [] q] [] pos) (tLenSetS K ta) := by
  subst hK
  refine ⟨fun pins s σ H Q I h => Call_ (ld_blt I hg hm boot_len (callWith_builtin1 (args_cons ?_ rfl) rfl rfl))⟩
  refine Call_ (ld_blt I hg2 hm2 boot_set (callWith_type1 (args_cons (thn (ha.run pins s σ H _ I h) fun v s1 ⟨x, H1, I1, r1, q1⟩ => args_nil ?_) na) na rfl))
  obtain ⟨l, xs, rfl, hq, nd, few, q1⟩ := q1
  cases r1
  have hcalm := I1.ok.hd hc
  have room : xs.length + 1 < scanBound := by unfold scanBound; omega
  have after : ∀ s3, Filled X.prog X.w s1 xs s3 → wpAny (model X.prog X.w) X.A (spliced (backTo pos (starEach [] X.env))) (fun vs s₂ => wpAny (model X.prog X.w) X.A (call (.builtin "len") (Value.ref s1.heap.objs.size :: vs)) (EP X pins σ Q) X.xe s₂) X.xe s3 := by
    intro s3 ⟨h3, t3, e3, z, kp⟩
    subst e3
    refine args_nil ?_
    obtain ⟨o, es, ep, t, ho, hex, hd, _, _, _, hf, hn⟩ := z
    have I2 : Inv X pins σ H1 { s1 with heap := h3, toks := t3 } := I1.kept fun b o e => kp b o (Heap.lt_size e) e
    exact call_len_set ho hex hd hf (by rw [hn] <;> omega) ⟨.int xs.length, H1, I2.tok _, ⟨_, by rw [hn]⟩, q1⟩
  rcases hq with hq | hq
  · obtain ⟨its, r, pl, hz⟩ := I1.list hq
    exact set_made (fill_list hcalm pl.isList r nd room) after
  · obtain ⟨its, r, pl, hz⟩ := I1.tuple hq
    exact set_made (fill_tuple hcalm pl r nd room) after
end Bh


set_option Elab.async false
set_option linter.all false
set_option maxRecDepth 100000
set_option maxHeartbeats 1000000
namespace Bh
open PySem PySem.Spec PyProof.Rows L2
section
variable {P : Program} {w : World} {K : PySem.W.Frag} {mg : Str → Option Value} {base : Heap}
theorem map_str_inj : ∀ {l m : List Str}, l.map PyData.str = m.map PyData.str → l = m
  | [], [], _ => rfl
  | [], _ :: _, e => by cases e
  | _ :: _, [], e => by cases e
  | a :: l, b :: m, e => by
    have e1 := List.cons.inj e
    have e2 : a = b := by
      have := e1.1
      injection this
    rw [e2, map_str_inj e1.2]
theorem dF_inj {f g : Fld} (e : dF f = dF g) : f = g := by
  unfold dF at e
  injection e with e
  have e1 := List.cons.inj e
  have e2 := List.cons.inj e1.2
  have h1 : f.1 = g.1 := by
    have := e1.1
    injection this
  have h2 : f.2 = g.2 := by
    have := e2.1
    injection this with h
    exact map_str_inj h
  exact Prod.ext h1 h2
/-- how many values the first fields have -/
def FsV (fs : List Fld) : Prop := ∀ i, (vals (fs.take i)).length ≤ 10000
def spValuesOf (K : PySem.W.Frag) : Sp := fun vs H Q _ => ∃ (v : V) (fs : List Fld), vs = [v] ∧ DpS K H v (fs.map dF) ∧ FsB fs ∧ FsV fs ∧ ∀ (p : Addr) (ys : List V) (H' : Hp), H p = none → Same H H' → H' p = some (.lst ys) → DpAll K H' ys ((vals fs).map dV) → Q (.ref p) H'
theorem ok_valuesof (T : Top K mg) : FnOk P w K mg base CX0 1 T.a_values_of T.fd_values_of ["fields"] (spValuesOf K) := by
  refine T.d_values_of.F.ok sc_values_of (fun vs H Q E h => ?_) (fun cdv A outer s H vs Q E hr h => ?_)
  · obtain ⟨v, fs, rfl, _⟩ := h
    rfl
  obtain ⟨v, fs, rfl, ⟨a, xs, rfl, hS, hD⟩, fb, fv, q⟩ := h
  refine ⟨_, (pss_cons (ps_set (i := 1) sc_values_of.nd rfl (Or.inl rfl) (pe_lst (pa_cons (pe_tup pa_nil) pa_nil)))
    (pss_cons (ps_for PassesOwn.never rfl (pi_seq_K (K := K) (by rfl) (pv 0)) (pg_tup_K (K := K) (by rfl) (n := 2) (by rfl) (pgs_cons (pg_name (i := 2) sc_values_of.nd rfl (Or.inl rfl)) (pgs_cons (pg_name (i := 3) sc_values_of.nd rfl (Or.inr rfl)) pgs_nil)))
      (pss_one (ps_setLc2 (i := 1) rfl sc_values_of.nd rfl rfl (sw_true rfl rfl rfl (by decide +kernel)) (pi_list_K (K := K) (by rfl) (pv 1)) (blkOk_by (own := [("value", 4), ("option", 5)]) (N := ["fields", "found", "_", "options", "value", "option"]) (sc := defScope s_values_of) (by decide +kernel)) (vs1 := [5]) (by decide) (fun _ _ _ _ _ => by exact (pg_name (i := 4) sc_values_of.nd rfl (Or.inl rfl))) (fun _ _ _ _ _ => by exact pts_nil) (fun _ _ _ _ _ => by exact (pi_tup_K (K := K) (by rfl) (pv 3))) (fun _ _ _ _ _ => by exact (pg_name (i := 5) sc_values_of.nd rfl (Or.inl rfl))) (fun _ _ _ _ _ => by exact pts_nil) (fun _ _ _ _ _ => by exact (pe_tup (pa_starK (K := K) (by rfl) (pv 4) (pa_cons (pv 5) pa_nil)))))))
    (pss_one (ps_ret (pv 1))))), ?_⟩
  have lx : xs.length = fs.length := by rw [DpAll.length hD, List.length_map]
  refine ⟨Nat.zero_le _, fun t0 n0 => ⟨(by show 1 ≤ sizeLine; decide), fun p0 m0 => ?_⟩⟩
  have s0 := (same_new (o := .tup []) n0).trans (same_new (o := .lst [.ref t0]) m0)
  have h0 : DpAll K (upd (upd H t0 (.tup [])) p0 (.lst [.ref t0])) [.ref t0] ((vals (fs.take 0)).map dV) := .cons (.tup (SqT.of ((same_new (o := .lst [.ref t0]) m0) _ _ upd_same)) .nil) .nil
  refine iSeqV rfl (seq_mono s0 hS) fun J G wk hG => for_it wk (fun i σ H' => ∃ p ys x2 x3, σ = [some (.ref a), some (.ref p), x2, x3, none, none] ∧ Same (upd (upd H t0 (.tup [])) p0 (.lst [.ref t0])) H' ∧ H p = none ∧ H' p = some (.lst ys) ∧ DpAll K H' ys ((vals (fs.take i)).map dV))
    ⟨p0, _, none, none, rfl, Same.refl _, (same_new n0).free m0, upd_same, h0⟩ (fun i σ H' _ ⟨_, _, _, _, _, s, _⟩ => hG H' s) ?_ ?_
  · rintro i y σ H' H'' hi ⟨p, ys, x2, x3, rfl, s1, np, hp, hys⟩ ⟨rfl, ey⟩
    obtain ⟨d, e1, e2⟩ := DpAll.get hD ey
    obtain ⟨f, hf, rfl⟩ := List.mem_map.mp (List.mem_of_getElem? e1)
    have ef : fs[i]? = some f := by
      rw [List.getElem?_map] at e1
      cases ef : fs[i]? with
      | none => rw [ef] at e1; cases e1
      | some g =>
        rw [ef] at e1
        have e3 : dF g = dF f := Option.some.inj e1
        have e4 : g = f := dF_inj e3
        rw [e4]
    obtain ⟨t, o, rfl, k1, k2⟩ := dp_dF (Dp.mono (s0.trans s1) e2)
    have ly : ys.length = (vals (fs.take i)).length := by rw [DpAll.length hys, List.length_map]
    have b1 := fv i
    have b2 := fv (i + 1)
    rw [vals_take ef] at b2
    refine ⟨t, _, rfl, k1, rfl, _, _, rfl, _, _, rfl, rfl, ?_⟩
    refine ⟨_, rfl, p, rfl, ⟨_, SqL.of hp⟩, fun D nD => ?_⟩
    refine walk_out walk_list (fun j H2 => Same H'' H2 ∧ ∃ acc, H2 D = some (.lst acc) ∧ DpAll K H2 acc ((ext1 ((vals (fs.take i)).take j) f).map dV)) ⟨same_new nD, [], upd_same, .nil⟩ (fun j H2 _ z => SqL.of (z.1 _ _ hp)) ?_ ?_
    · rintro j x H2 H3 hj ⟨s2, acc, hacc, dacc⟩ ⟨rfl, ex⟩
      obtain ⟨d, g1, g2⟩ := DpAll.get hys ex
      have ew : ∃ w0, (vals (fs.take i))[j]? = some w0 ∧ d = dV w0 := by
        rw [List.getElem?_map] at g1
        cases ew : (vals (fs.take i))[j]? with
        | none => rw [ew] at g1; cases g1
        | some w0 =>
          rw [ew] at g1
          exact ⟨w0, rfl, (Option.some.inj g1).symm⟩
      obtain ⟨w0, ew, rfl⟩ := ew
      obtain ⟨u, us, rfl, hu, hus⟩ := dp_tup g2
      obtain rfl := dp_strs hus
      have lu : (ext1 ((vals (fs.take i)).take j) f).length + f.2.length ≤ 10000 := by
        refine Nat.le_trans ?_ b2
        unfold ext1
        rw [flat_len, flat_len, List.length_take, ← Nat.succ_mul]
        have : j < (vals (fs.take i)).length := (List.getElem?_eq_some_iff.mp ew).1
        exact Nat.mul_le_mul_right _ (by omega)
      have lw : w0.length ≤ 1000 := by
        have z := (vals_ok (fs := fs.take i) w0 (List.mem_of_getElem? ew)).1
        rw [List.length_take] at z
        have := fb.len
        omega
      have la : acc.length = (ext1 ((vals (fs.take i)).take j) f).length := by rw [DpAll.length dacc, List.length_map]
      refine ⟨rfl, _, rfl, o, rfl, ⟨_, Same.tup s2 k2⟩, ?_⟩
      refine walk_out walk_tup (fun k H4 => Same H'' H4 ∧ ∃ acc4, H4 D = some (.lst acc4) ∧ DpAll K H4 acc4 ((ext1 ((vals (fs.take i)).take j) f ++ (f.2.take k).map fun o => w0 ++ [o]).map dV)) ⟨s2, acc, hacc, by rw [List.take_zero, List.map_nil, List.append_nil]; exact dacc⟩ (fun k H4 _ z => Same.tup z.1 k2) ?_ ?_
      · rintro k x H4 H5 hk ⟨s4, acc4, hacc4, dacc4⟩ ⟨rfl, ex2⟩
        rw [List.getElem?_map] at ex2
        cases eo : f.2[k]? with
        | none => rw [eo] at ex2; cases ex2
        | some o2 =>
          rw [eo] at ex2
          cases ex2
          have lk : k < f.2.length := (List.getElem?_eq_some_iff.mp eo).1
          have l4 : acc4.length ≤ 10000 := by
            rw [DpAll.length dacc4, List.length_map, List.length_append, List.length_map, List.length_take]
            omega
          refine ⟨rfl, _, rfl, u, _, rfl, .inl (Same.tup s4 hu), _, rfl, (by rw [List.length_append, List.length_map]; show _ + 1 ≤ sizeLine; exact le_line (by omega)), fun tq nq => ?_⟩
          have s5 : Same H5 (upd H5 tq (.tup (w0.map V.str ++ [.str o2]))) := same_new nq
          have im : Imm (upd H5 tq (.tup (w0.map V.str ++ [.str o2]))) (upd (upd H5 tq (.tup (w0.map V.str ++ [.str o2]))) D (.lst (acc4 ++ [.ref tq]))) := imm_upd (s5 _ _ hacc4)
          refine ⟨acc4, s5 _ _ hacc4, lt_line (by omega), same_mut (s4.trans s5) nD, _, upd_same, ?_⟩
          have eL : ((ext1 ((vals (fs.take i)).take j) f ++ (f.2.take (k + 1)).map fun o => w0 ++ [o]).map dV) = ((ext1 ((vals (fs.take i)).take j) f ++ (f.2.take k).map fun o => w0 ++ [o]).map dV) ++ [dV (w0 ++ [o2])] := by
            rw [List.take_add_one, eo]
            simp
          rw [eL]
          have ht : upd H5 tq (.tup (w0.map V.str ++ [.str o2])) tq = some (.tup ((w0 ++ [o2]).map V.str)) := by rw [upd_same, List.map_append]; rfl
          exact dpa_snoc (DpAll.imm im (noLs_map noL_dV _) (DpAll.mono s5 dacc4)) (Dp.imm im (noL_dV _) (.tup (SqT.of ht) (strs_dp _)))
      · rintro H4 ⟨s4, acc4, hacc4, dacc4⟩
        rw [List.length_map, List.take_length] at dacc4
        refine ⟨s4, acc4, hacc4, ?_⟩
        rw [List.take_add_one, ew]
        unfold ext1 at dacc4 ⊢
        rw [List.flatMap_append]
        simpa using dacc4
    · rintro H2 ⟨s2, acc, hacc, dacc⟩
      rw [ly, List.take_length] at dacc
      refine ⟨D, acc, _, _, rfl, s1.trans s2, (s0.trans s1).free nD, hacc, ?_⟩
      rw [vals_take ef]
      exact dacc
  · rintro σ H' ⟨p, ys, x2, x3, rfl, s1, np, hp, hys⟩
    rw [lx, List.take_length] at hys
    exact ⟨_, rfl, q _ _ _ np (s0.trans s1) hp hys⟩
/-- names of options -/
def IsOp (o : Str) : Prop := wordB o lettersD = true ∧ o.length ≤ 8
def spAreOpts (K : PySem.W.Frag) : Sp := fun vs H Q _ => ∃ (a : Addr) (os : List Str), vs = [.ref a] ∧ SqT K H a (os.map V.str) ∧ 2 ≤ os.length ∧ os.length ≤ 6 ∧ os.Nodup ∧ (∀ o ∈ os, IsOp o) ∧ ∀ H', Same H H' → Q (.bl true) H'
theorem ok_areopts (T : Top K mg) : FnOk P w K mg base CX0 3 T.a_are_options T.fd_are_options ["value"] (spAreOpts K) := by
  have G_is_tuple := ok_tup (P := P) (w := w) (base := base) T
  have G_is_option := ok_option (P := P) (w := w) (base := base) T
  refine T.d_are_options.F.ok sc_are_options (fun vs H Q E h => ?_) (fun cdv A outer s H vs Q E hr h => ?_)
  · obtain ⟨a, os, rfl, _⟩ := h
    rfl
  obtain ⟨a, os, rfl, hx, l1, l2, nd, hop, q⟩ := h
  refine ⟨_, (pss_cons (ps_if (pt_not (pt_val (pe_call G_is_tuple (hr.mono (by decide)) (by rfl) T.d_is_tuple.g T.d_is_tuple.kp T.d_is_tuple.b .nil pass0 (pa_cons (pv 0) (pa_cons (pe_gI rfl T.g_LEAST_OPTIONS) (pa_cons (pe_gI rfl T.g_MOST_OPTIONS) pa_nil)))))) (pss_one (ps_ret pe_bl)) pss_nil)
    (pss_one (ps_ret (pe_and (pe_callB (cr_all_K (K := K) (by rfl) rfl) (by rfl) T.b_all (by decide +kernel) (pa_cons (pe_lc (own := [("option", 1)]) rfl sc_are_options.nd (pi_tup_K (K := K) (by rfl) (pv 0)) (blkOk_by (own := [("option", 1)]) (N := ["value", "option"]) (sc := defScope s_are_options) (by decide +kernel)) (fun _ _ _ _ _ => by exact (pg_name (i := 1) sc_are_options.nd rfl (Or.inl rfl))) (fun _ _ _ _ _ => by exact pts_nil) (fun _ _ _ _ _ => by exact (pe_call G_is_option (hr.mono (by decide)) (by rfl) T.d_is_option.g T.d_is_option.kp T.d_is_option.b .nil pass0 (pa_cons (pv 1) pa_nil)))) pa_nil)) (pe_one (pe_cmpR op_eq (pe_lenSetS (K := K) (by rfl) rfl (by rfl) T.b_len (by rfl) T.b_set (pv 0)) (pe_callB (call_len_seq_K (K := K) (by rfl)) (by rfl) T.b_len PySem.boot_len (pa_cons (pv 0) pa_nil)) (nomark _))))))), ?_⟩
  have lo : (os.map V.str).length = os.length := List.length_map _
  refine ⟨_, rfl, a, _, 2, 6, rfl, hx, by omega, by omega, _, rfl, iteF ?_⟩
  refine ⟨_, rfl, a, rfl, ⟨_, hx⟩, fun D nD => ?_⟩
  refine lc_trues walk_tup nD (by omega) (fun H' s => Same.tup s hx) (fun i x H' R R' ex s1 k => ?_) (fun H1 s1 hD => ?_)
  · rw [List.getElem?_map] at ex
    cases eo : os[i]? with
    | none => rw [eo] at ex; cases ex
    | some o =>
      rw [eo] at ex
      cases ex
      have ho := hop o (List.mem_of_getElem? eo)
      refine ⟨rfl, _, rfl, o, rfl, Nat.le_trans ho.2 (by decide), fun H4 s4 => ?_⟩
      rw [ho.1]
      exact k H4 s4
  refine ⟨D, _, rfl, SqL.of hD, ?_⟩
  rw [bls_true]
  refine ⟨_, rfl, iteT ?_⟩
  refine ⟨_, rfl, a, os, rfl, .inr (Same.tup s1 hx), nd, by omega, _, rfl, a, _, rfl, .inr (Same.tup s1 hx), rfl, ?_⟩
  show Q (.bl (decide (V.int (os.length : Int) = V.int ((os.map V.str).length : Int)))) H1
  rw [lo, decide_eq_true rfl]
  exact q _ s1
theorem names_hd {H : Hp} {v : V} {fs : List Fld} (h : DpS K H v (fs.map dF)) : HdS K H v (fs.map (·.1)) := by
  have hns := HdS.of h (fun d hd => by
    obtain ⟨f, _, rfl⟩ := List.mem_map.mp hd
    exact named_dF f)
  rw [List.map_map] at hns
  exact hns
/-- a field that may stand behind these -/
structure OkFld (fs : List Fld) (f : Fld) : Prop where
  few : fs.length < 3
  no : f.1 ∉ fs.map (·.1)
  nm : IsNm f.1
  lo : 2 ≤ f.2.length
  hi : f.2.length ≤ 6
  nd : f.2.Nodup
  op : ∀ o ∈ f.2, IsOp o
  fb : FsB (fs ++ [f])
  fv : FsV (fs ++ [f])
  sz : (vals (fs ++ [f])).length ≤ 24
def spFieldFits (K : PySem.W.Frag) : Sp := fun vs H Q _ => ∃ (b t : V) (fs : List Fld) (f : Fld), vs = [b, t] ∧ DpS K H b (fs.map dF) ∧ Dp K H t (dF f) ∧ OkFld fs f ∧ ∀ H', Same H H' → Q (.bl true) H'
theorem ok_fieldfits (T : Top K mg) : FnOk P w K mg base CX0 4 T.a_field_fits T.fd_field_fits ["before", "field"] (spFieldFits K) := by
  have G_is_tuple := ok_tup (P := P) (w := w) (base := base) T
  have G_name_fits := ok_namefits (P := P) (w := w) (base := base) T
  have G_are_options := ok_areopts (P := P) (w := w) (base := base) T
  have G_values_of := ok_valuesof (P := P) (w := w) (base := base) T
  refine T.d_field_fits.F.ok sc_field_fits (fun vs H Q E h => ?_) (fun cdv A outer s H vs Q E hr h => ?_)
  · obtain ⟨b, t, fs, f, rfl, _⟩ := h
    rfl
  obtain ⟨b, t, fs, f, rfl, hb, ht, ok, q⟩ := h
  obtain ⟨a, o, rfl, h1, h2⟩ := dp_dF ht
  refine ⟨_, (pss_cons (ps_if (PW.pt (pw_or (pt_not (pt_val (pe_call G_is_tuple (hr.mono (by decide)) (by rfl) T.d_is_tuple.g T.d_is_tuple.kp T.d_is_tuple.b .nil pass0 (pa_cons (pv 1) (pa_cons pe_int (pa_cons pe_int pa_nil)))))) (pw_or (pt_not (pt_val (pe_call G_name_fits (hr.mono (by decide)) (by rfl) T.d_name_fits.g T.d_name_fits.kp T.d_name_fits.b .nil pass0 (pa_cons (pv 0) (pa_cons (pe_ix (ix_tup_K (K := K) (by rfl)) (pv 1) pe_int (fun _ _ => rfl)) (pa_cons (pe_gI rfl T.g_MOST_FIELDS) pa_nil)))))) (pw_or1 (pt_not (pt_val (pe_call G_are_options (hr.mono (by decide)) (by rfl) T.d_are_options.g T.d_are_options.kp T.d_are_options.b .nil pass0 (pa_cons (pe_ix (ix_tup_K (K := K) (by rfl)) (pv 1) pe_int (fun _ _ => rfl)) pa_nil)))))))) (pss_one (ps_ret pe_bl)) pss_nil)
    (pss_one (ps_ret (pe_cmpR op_le (pe_callB (call_len_seq_K (K := K) (by rfl)) (by rfl) T.b_len PySem.boot_len (pa_cons (pe_call G_values_of (hr.mono (by decide)) (by rfl) T.d_values_of.g T.d_values_of.kp T.d_values_of.b .nil pass0 (pa_cons (pe_lst (pa_starK (K := K) (by rfl) (pv 0) (pa_cons (pv 1) pa_nil))) pa_nil)) pa_nil)) (pe_gI rfl T.g_MOST_VALUES) (nomark _))))), ?_⟩
  have few := ok.few
  have lf : (fs.map (·.1)).length = fs.length := List.length_map _
  refine ⟨_, rfl, a, _, 2, 2, rfl, h1, (by show (2 : Int) ≤ 2; decide), (by show (2 : Int) ≤ 2; decide), _, rfl, iteF ?_⟩
  refine ⟨_, rfl, _, rfl, a, _, (0 : Int), .str f.1, rfl, rfl, h1, at_nn (by decide) rfl, b, fs.map (·.1), f.1, 3, rfl, names_hd hb, by omega, by omega, ok.nm, ok.no, fun H1 s1 => ⟨_, rfl, iteF ?_⟩⟩
  refine ⟨_, rfl, a, _, (1 : Int), .ref o, rfl, rfl, Same.tup s1 h1, at_nn (by decide) rfl, o, f.2, rfl, Same.tup s1 h2, ok.lo, ok.hi, ok.nd, ok.op, fun H2 s2 => ⟨_, rfl, iteF ?_⟩⟩
  have s12 := s1.trans s2
  obtain ⟨ab, bs, rfl, hS, hD⟩ := hb.mono s12
  have lb : bs.length = fs.length := by rw [DpAll.length hD, List.length_map]
  refine ⟨_, rfl, ab, bs, rfl, hS.symm, _, rfl, (by rw [List.length_append, lb]; show _ + 1 ≤ sizeLine; exact le_line (by omega)), fun p np => ?_⟩
  have s3 := same_new (o := .lst (bs ++ [.ref a])) np
  refine ⟨.ref p, fs ++ [f], rfl, ⟨p, _, rfl, .inl (SqL.of upd_same), ?_⟩, ok.fb, ok.fv, fun p2 ys H4 _ s4 hp2 hys => ?_⟩
  · rw [List.map_append]
    exact dpa_snoc (DpAll.mono s3 hD) (Dp.mono (s12.trans s3) ht)
  have ly : ys.length = (vals (fs ++ [f])).length := by rw [DpAll.length hys, List.length_map]
  refine ⟨p2, ys, rfl, .inl (SqL.of hp2), _, _, rfl, rfl, ?_⟩
  show Q (.bl (decide ((ys.length : Int) ≤ 24))) H4
  have sz := ok.sz
  rw [decide_eq_true (by omega)]
  exact q _ (s12.trans (s3.trans s4))
def spAreKeys (K : PySem.W.Frag) : Sp := fun vs H Q _ => ∃ (v t : V) (fs : List Fld) (ks : List (Str × Str)), vs = [v, t] ∧ DpS K H v (fs.map dF) ∧ FsB fs ∧ Dp K H t (.tuple (ks.map dKey)) ∧ OkKeys fs ks ∧ ∀ H', Same H H' → Q (.bl true) H'
theorem ok_arekeys (T : Top K mg) : FnOk P w K mg base CX0 3 T.a_are_keys T.fd_are_keys ["fields", "value"] (spAreKeys K) := by
  have G_is_tuple := ok_tup (P := P) (w := w) (base := base) T
  have G_is_key := ok_iskey (P := P) (w := w) (base := base) T
  have G_names_of := ok_namesof (P := P) (w := w) (base := base) T
  refine T.d_are_keys.F.ok sc_are_keys (fun vs H Q E h => ?_) (fun cdv A outer s H vs Q E hr h => ?_)
  · obtain ⟨v, t, fs, ks, rfl, _⟩ := h
    rfl
  obtain ⟨v, t, fs, ks, rfl, hv, fb, ht, ok, q⟩ := h
  obtain ⟨a, xs, rfl, h1, h2⟩ := dp_tup ht
  have lk : xs.length = ks.length := by rw [DpAll.length h2, List.length_map]
  have l1 := ok.hi
  have l2 := fb.len
  refine ⟨_, (pss_cons (ps_if (PW.pt (pw_or (pt_not (pt_val (pe_call G_is_tuple (hr.mono (by decide)) (by rfl) T.d_is_tuple.g T.d_is_tuple.kp T.d_is_tuple.b .nil pass0 (pa_cons (pv 1) (pa_cons pe_int (pa_cons (pe_callB (call_len_seq_K (K := K) (by rfl)) (by rfl) T.b_len PySem.boot_len (pa_cons (pv 0) pa_nil)) pa_nil)))))) (pw_or1 (pt_not (pt_val (pe_callB (cr_all_K (K := K) (by rfl) rfl) (by rfl) T.b_all (by decide +kernel) (pa_cons (pe_lc (own := [("key", 2)]) rfl sc_are_keys.nd (pi_tup_K (K := K) (by rfl) (pv 1)) (blkOk_by (own := [("key", 2)]) (N := ["fields", "value", "key"]) (sc := defScope s_are_keys) (by decide +kernel)) (fun _ _ _ _ _ => by exact (pg_name (i := 2) sc_are_keys.nd rfl (Or.inl rfl))) (fun _ _ _ _ _ => by exact pts_nil) (fun _ _ _ _ _ => by exact (pe_call G_is_key (hr.mono (by decide)) (by rfl) T.d_is_key.g T.d_is_key.kp T.d_is_key.b .nil pass0 (pa_cons (pv 0) (pa_cons (pv 2) pa_nil))))) pa_nil))))))) (pss_one (ps_ret pe_bl)) pss_nil)
    (pss_one (ps_ret (pe_cmpR op_eq (pe_lenSetS (K := K) (by rfl) rfl (by rfl) T.b_len (by rfl) T.b_set (pe_call G_names_of (hr.mono (by decide)) (by rfl) T.d_names_of.g T.d_names_of.kp T.d_names_of.b .nil pass0 (pa_cons (pv 1) pa_nil))) (pe_callB (call_len_seq_K (K := K) (by rfl)) (by rfl) T.b_len PySem.boot_len (pa_cons (pv 1) pa_nil)) (nomark _))))), ?_⟩
  obtain ⟨av, vs', rfl, hS, hD⟩ := id hv
  have lv : vs'.length = fs.length := by rw [DpAll.length hD, List.length_map]
  refine ⟨_, rfl, _, rfl, av, vs', rfl, hS, a, xs, 0, (vs'.length : Int), rfl, h1, by omega, by omega, _, rfl, iteF ?_⟩
  refine ⟨_, rfl, a, rfl, ⟨_, h1⟩, fun D nD => ?_⟩
  refine lc_trues walk_tup nD (by omega) (fun H' s => Same.tup s h1) (fun i x H' R R' ex s1 k => ?_) (fun H1 s1 hD1 => ?_)
  · obtain ⟨d, g1, g2⟩ := DpAll.get h2 ex
    obtain ⟨ky, hm, rfl⟩ := List.mem_map.mp (List.mem_of_getElem? g1)
    exact ⟨rfl, _, rfl, _, rfl, .ref av, x, fs, ky, rfl, hv.mono s1, fb, Dp.mono s1 g2, (ok.all ky hm).1, (ok.all ky hm).2, k⟩
  refine ⟨D, _, rfl, SqL.of hD1, ?_⟩
  rw [bls_true]
  refine ⟨_, rfl, iteF ?_⟩
  have hns : HdS K H1 (.ref a) (ks.map (·.1)) := by
    have z := HdS.of (DpS.ofT (Dp.mono s1 ht)) (fun d hd => by
      obtain ⟨f, _, rfl⟩ := List.mem_map.mp hd
      exact ⟨_, _, rfl⟩)
    rw [List.map_map] at z
    exact z
  have lk2 : (ks.map (·.1)).length = ks.length := List.length_map _
  refine ⟨_, rfl, .ref a, ks.map (·.1), rfl, hns, by omega, fun p H2 _ s2 hp2 => ?_⟩
  refine ⟨p, ks.map (·.1), rfl, .inl (SqL.of hp2), ok.nd, by omega, _, rfl, a, xs, rfl, .inr (Same.tup (s1.trans s2) h1), rfl, ?_⟩
  show Q (.bl (decide (V.int ((ks.map (·.1)).length : Int) = V.int (xs.length : Int)))) H2
  rw [lk2, lk, decide_eq_true rfl]
  exact q _ (s1.trans s2)
def spIsValue (K : PySem.W.Frag) : Sp := fun vs H Q _ => ∃ (v t : V) (fs : List Fld) (u : List Str), vs = [v, t] ∧ DpS K H v (fs.map dF) ∧ FsB fs ∧ Dp K H t (dV u) ∧ FitV fs u ∧ ∀ H', Same H H' → Q (.bl true) H'
theorem ok_isvalue (T : Top K mg) : FnOk P w K mg base CX0 2 T.a_is_value T.fd_is_value ["fields", "value"] (spIsValue K) := by
  have G_is_tuple := ok_tup (P := P) (w := w) (base := base) T
  refine T.d_is_value.F.ok sc_is_value (fun vs H Q E h => ?_) (fun cdv A outer s H vs Q E hr h => ?_)
  · obtain ⟨v, t, fs, ks, rfl, _⟩ := h
    rfl
  obtain ⟨v, t, fs, u, rfl, hv, fb, ht, ok, q⟩ := h
  obtain ⟨a, xs, rfl, h1, h2⟩ := dp_tup ht
  obtain rfl := dp_strs h2
  have lu : (u.map V.str).length = u.length := List.length_map _
  have l1 := ok.1
  have l2 := fb.len
  refine ⟨_, (pss_cons (ps_if (pt_not (pt_val (pe_call G_is_tuple (hr.mono (by decide)) (by rfl) T.d_is_tuple.g T.d_is_tuple.kp T.d_is_tuple.b .nil pass0 (pa_cons (pv 1) (pa_cons (pe_callB (call_len_seq_K (K := K) (by rfl)) (by rfl) T.b_len PySem.boot_len (pa_cons (pv 0) pa_nil)) (pa_cons (pe_callB (call_len_seq_K (K := K) (by rfl)) (by rfl) T.b_len PySem.boot_len (pa_cons (pv 0) pa_nil)) pa_nil)))))) (pss_one (ps_ret pe_bl)) pss_nil)
    (pss_one (ps_ret (pe_callB (cr_all_K (K := K) (by rfl) rfl) (by rfl) T.b_all (by decide +kernel) (pa_cons (pe_lc (own := [("option", 2), ("_", 3), ("options", 4)]) rfl sc_is_value.nd (pi_zipM (K := K) (by rfl) (by rfl) T.b_zip (pa_cons (pv 1) (pa_cons (pv 0) pa_nil))) (blkOk_by (own := [("option", 2), ("_", 3), ("options", 4)]) (N := ["fields", "value", "option", "_", "options"]) (sc := defScope s_is_value) (by decide +kernel)) (fun _ _ _ _ _ => by exact (pg_tup_K (K := K) (by rfl) (n := 2) (by rfl) (pgs_cons (pg_name (i := 2) sc_is_value.nd rfl (Or.inl rfl)) (pgs_cons (pg_tup_K (K := K) (by rfl) (n := 2) (by rfl) (pgs_cons (pg_name (i := 3) sc_is_value.nd rfl (Or.inl rfl)) (pgs_cons (pg_name (i := 4) sc_is_value.nd rfl (Or.inl rfl)) pgs_nil))) pgs_nil)))) (fun _ _ _ _ _ => by exact pts_nil) (fun _ _ _ _ _ => by exact (pe_cmpR (op_in_seq_K (K := K) (by rfl)) (pv 2) (pv 4) (by rfl)))) pa_nil))))), ?_⟩
  obtain ⟨av, vs', rfl, hS, hD⟩ := id hv
  have lv : vs'.length = fs.length := by rw [DpAll.length hD, List.length_map]
  refine ⟨_, rfl, _, rfl, av, vs', rfl, hS, _, rfl, av, vs', rfl, hS, a, _, (vs'.length : Int), (vs'.length : Int), rfl, h1, by omega, by omega, _, rfl, iteF ?_⟩
  refine ⟨_, rfl, _, rfl, a, av, _, vs', rfl, h1, hS, fun J wk D nD => ?_⟩
  have lm : min (u.map V.str).length vs'.length = fs.length := by omega
  rw [lm] at wk
  refine lc_truesP wk nD (by omega) (fun H' s => s) (fun i x y T0 H' R R' ex ey s1 nT k => ?_) (fun H1 s1 hD1 => ?_)
  · obtain ⟨d, g1, g2⟩ := DpAll.get hD ey
    rw [List.getElem?_map] at g1 ex
    cases ef : fs[i]? with
    | none => rw [ef] at g1; cases g1
    | some f =>
      rw [ef] at g1
      cases g1
      cases eo : u[i]? with
      | none => rw [eo] at ex; cases ex
      | some o =>
        rw [eo] at ex
        cases ex
        have s2 := s1.trans (same_new (o := .tup [.str o, y]) nT)
        obtain ⟨t2, o2, rfl, k1, k2⟩ := dp_dF (Dp.mono s2 g2)
        refine ⟨T0, _, rfl, SqT.of upd_same, rfl, _, _, rfl, _, _, rfl, t2, _, rfl, k1, rfl, _, _, rfl, _, _, rfl, rfl, rfl, rfl, ?_⟩
        refine ⟨_, rfl, _, rfl, o2, _, rfl, .inr k2, rfl, flat_strs _, ?_⟩
        show R (.bl (inV (.str o) (f.2.map V.str))) _
        rw [in_strs, decide_eq_true (ok.2 i f o ef eo)]
        exact k _ (Same.refl _)
  refine ⟨D, _, rfl, SqL.of hD1, ?_⟩
  rw [bls_true]
  exact q _ s1
def spIsHolding (K : PySem.W.Frag) : Sp := fun vs H Q _ => ∃ (v t : V) (fs : List Fld) (u : Option (List Str)), vs = [v, t] ∧ DpS K H v (fs.map dF) ∧ FsB fs ∧ Dp K H t (dH u) ∧ (∀ w, u = some w → FitV fs w) ∧ ∀ H', Same H H' → Q (.bl true) H'
theorem ok_isholding (T : Top K mg) : FnOk P w K mg base CX0 3 T.a_is_holding T.fd_is_holding ["fields", "value"] (spIsHolding K) := by
  have G_is_value := ok_isvalue (P := P) (w := w) (base := base) T
  refine T.d_is_holding.F.ok sc_is_holding (fun vs H Q E h => ?_) (fun cdv A outer s H vs Q E hr h => ?_)
  · obtain ⟨v, t, fs, ks, rfl, _⟩ := h
    rfl
  obtain ⟨v, t, fs, u, rfl, hv, fb, ht, ok, q⟩ := h
  refine ⟨_, (pss_one (ps_ret (L2.pe_or (pe_cmpR op_isN (pv 1) pe_non (nomark _)) (pe_one (pe_call G_is_value (hr.mono (by decide)) (by rfl) T.d_is_value.g T.d_is_value.kp T.d_is_value.b .nil pass0 (pa_cons (pv 0) (pa_cons (pv 1) pa_nil))))))), ?_⟩
  cases u with
  | none =>
    obtain rfl := dp_non ht
    exact ⟨_, rfl, rfl, _, rfl, iteY rfl (q _ (Same.refl _))⟩
  | some w0 =>
    obtain ⟨a, xs, rfl, h1, h2⟩ := dp_tup ht
    exact ⟨_, rfl, rfl, _, rfl, iteN (fun z => by cases z) ⟨_, rfl, _, rfl, v, .ref a, fs, w0, rfl, hv, fb, ht, ok w0 rfl, q⟩⟩
def spKindFits (K : PySem.W.Frag) : Sp := fun vs H Q _ => ∃ (v b t : V) (fs : List Fld) (ns : List Str) (k : Knd), vs = [v, b, t] ∧ DpS K H v (fs.map dF) ∧ FsB fs ∧ HdS K H b ns ∧ ns.length < 3 ∧ k.name ∉ ns ∧ Dp K H t (dKnd k) ∧ OkKnd fs k ∧ ∀ H', Same H H' → Q (.bl true) H'
theorem ok_kindfits (T : Top K mg) : FnOk P w K mg base CX0 5 T.a_kind_fits T.fd_kind_fits ["fields", "before", "kind"] (spKindFits K) := by
  have G_is_tuple := ok_tup (P := P) (w := w) (base := base) T
  have G_is_program := ok_isprog (P := P) (w := w) (base := base) T
  have G_name_fits := ok_namefits (P := P) (w := w) (base := base) T
  have G_are_keys := ok_arekeys (P := P) (w := w) (base := base) T
  have G_is_holding := ok_isholding (P := P) (w := w) (base := base) T
  refine T.d_kind_fits.F.ok sc_kind_fits (fun vs H Q E h => ?_) (fun cdv A outer s H vs Q E hr h => ?_)
  · obtain ⟨v, b, t, fs, ns, c, rfl, _⟩ := h
    rfl
  obtain ⟨v, b, t, fs, ns, k, rfl, hv, fb, hb, hl, hno, ht, ok, q⟩ := h
  obtain ⟨a, xs, rfl, h1, h2⟩ := dp_tup ht
  obtain ⟨x1, r1, rfl, e1, h2⟩ := dpa_cons h2
  obtain ⟨x2, r2, rfl, e2, h2⟩ := dpa_cons h2
  obtain ⟨x3, r3, rfl, e3, h2⟩ := dpa_cons h2
  obtain ⟨x4, r4, rfl, e4, h2⟩ := dpa_cons h2
  obtain rfl := dpa_nil h2
  rw [dp_str e1] at h1
  refine ⟨_, (pss_cons (ps_if (pt_not (pt_val (pe_call G_is_tuple (hr.mono (by decide)) (by rfl) T.d_is_tuple.g T.d_is_tuple.kp T.d_is_tuple.b .nil pass0 (pa_cons (pv 2) (pa_cons pe_int (pa_cons pe_int pa_nil)))))) (pss_one (ps_ret pe_bl)) pss_nil)
    (pss_cons (ps_asg (pv 2) (pg_tup_K (K := K) (by rfl) (n := 4) (by rfl) (pgs_cons (pg_name (i := 3) sc_kind_fits.nd rfl (Or.inl rfl)) (pgs_cons (pg_name (i := 4) sc_kind_fits.nd rfl (Or.inl rfl)) (pgs_cons (pg_name (i := 5) sc_kind_fits.nd rfl (Or.inl rfl)) (pgs_cons (pg_name (i := 6) sc_kind_fits.nd rfl (Or.inl rfl)) pgs_nil))))))
    (pss_cons (ps_if (PW.pt (pw_or (pt_not (pt_val (pe_call G_name_fits (hr.mono (by decide)) (by rfl) T.d_name_fits.g T.d_name_fits.kp T.d_name_fits.b .nil pass0 (pa_cons (pv 1) (pa_cons (pv 3) (pa_cons (pe_gI rfl T.g_MOST_KINDS) pa_nil)))))) (pw_or1 (pt_not (pt_val (pe_call G_are_keys (hr.mono (by decide)) (by rfl) T.d_are_keys.g T.d_are_keys.kp T.d_are_keys.b .nil pass0 (pa_cons (pv 0) (pa_cons (pv 4) pa_nil)))))))) (pss_one (ps_ret pe_bl)) pss_nil)
    (pss_one (ps_ret (pe_and (L2.pe_or (pe_cmpR op_isN (pv 5) pe_non (nomark _)) (pe_one (pe_call G_is_program (hr.mono (by decide)) (by rfl) T.d_is_program.g T.d_is_program.kp T.d_is_program.b .nil pass0 (pa_cons (pv 0) (pa_cons (pv 5) pa_nil))))) (pe_one (pe_call G_is_holding (hr.mono (by decide)) (by rfl) T.d_is_holding.g T.d_is_holding.kp T.d_is_holding.b .nil pass0 (pa_cons (pv 0) (pa_cons (pv 6) pa_nil)))))))))), ?_⟩
  refine ⟨_, rfl, a, _, 4, 4, rfl, h1, (by show (4 : Int) ≤ 4; decide), (by show (4 : Int) ≤ 4; decide), _, rfl, iteF ?_⟩
  refine ⟨_, rfl, a, _, rfl, h1, rfl, _, _, rfl, _, _, rfl, _, _, rfl, _, _, rfl, rfl, ?_⟩
  refine ⟨_, rfl, _, rfl, b, ns, k.name, 3, rfl, hb, by omega, by omega, ok.nm, hno, fun H1 s1 => ⟨_, rfl, iteF ?_⟩⟩
  refine ⟨_, rfl, _, rfl, v, x2, fs, k.keys, rfl, hv.mono s1, fb, Dp.mono s1 e2, ok.ks, fun H2 s2 => ⟨_, rfl, iteF ?_⟩⟩
  have s12 := s1.trans s2
  have fin : ∀ H3, Same H2 H3 → tCall (spIsHolding K) [] E0 (tCons (tVar 0) (tCons (tVar 6) tNil)) [some v, some b, some (.ref a), some (.str k.name), some x2, some x3, some x4] H3 Q := fun H3 s3 =>
    ⟨_, rfl, _, rfl, v, x4, fs, k.birth, rfl, hv.mono (s12.trans s3), fb, Dp.mono (s12.trans s3) e4, ok.bt, fun H4 s4 => q _ (s12.trans (s3.trans s4))⟩
  cases hk : k.taking with
  | none =>
    rw [hk] at e3
    obtain rfl := dp_non e3
    exact ⟨_, rfl, rfl, _, rfl, iteY rfl ⟨_, rfl, iteT (fin _ (Same.refl _))⟩⟩
  | some p =>
    rw [hk] at e3
    obtain ⟨tp, us, rfl, g1, g2⟩ := dp_tup e3
    exact ⟨_, rfl, rfl, _, rfl, iteN (fun z => by cases z) ⟨_, rfl, _, rfl, v, _, fs, p, rfl, hv.mono s12, fb, Dp.mono s12 e3, ok.tk p hk, fun H3 s3 => ⟨_, rfl, iteT (fin _ s3)⟩⟩⟩
end
end Bh

set_option Elab.async false
set_option linter.all false
set_option maxRecDepth 100000
set_option maxHeartbeats 1000000
namespace Bh
open PySem PySem.Spec PyProof.Rows L2 LamX NdefX
section
variable {P : Program} {w : World} {K : PySem.W.Frag} {mg : Str → Option Value} {base : Heap}
/-- a call of the function value fv that the callee holds in its second slot -/
def tFit (fv : V) (I0 : Hp → Prop) (tl : List V → Hp → VK → Prop) (t : TA) : TE := fun σ H Q => σ[1]? = some (some fv) ∧ I0 H ∧ t σ H fun vs H1 => tl vs H1 Q
theorem isi_lt {H : Hp} {p a : Addr} {xs : List V} (hx : SqL K H a xs ∨ SqT K H a xs) (np : H p = none) {Q' : VK} (q : Q' (.bl true) (upd H p (.tup [.ty "list", .ty "tuple"]))) : rIsiT K [.ref a, .ref p] (upd H p (.tup [.ty "list", .ty "tuple"])) Q' := by
  rcases hx with hx | hx
  · exact ⟨_, p, _, _, _, true, rfl, upd_same, .cons (.ty _) (.cons (.ty _) .nil), tyL ((same_new np).seq hx), kitAny_cons (kit_ty (b := "list") (r := true) (by decide +kernel)) (fun z => nomatch z) (fun _ => rfl), q⟩
  · exact ⟨_, p, _, _, _, true, rfl, upd_same, .cons (.ty _) (.cons (.ty _) .nil), tyT (Same.tup (same_new np) hx), kitAny_cons (kit_ty (b := "list") (r := false) (by decide +kernel)) (fun _ => kitAny_cons (kit_ty (r := true) (by decide +kernel)) (fun z => nomatch z) (fun _ => rfl)) (fun z => nomatch z), q⟩
theorem fw_go {CXg : CXT} {E : XK} {cdv : Value} {A : Around} {outer : List Env} {s : Shared} {H : Hp} {Q : VK} (T : Top K mg) {fv : V} {I0 : Hp → Prop} {tl : List V → Hp → VK → Prop}
    (act : ∀ (e : Expr) (es : List Expr) (t : TA) (p1 p2 : Pos), PA (cxOf CXg P w K mg base ["items", "fits", "position", "item"] "_first_wrong" (defScope s_first_wrong) T.a_first_wrong cdv A outer s H E).nox (e :: es) t →
      starEach (e :: es) (cxOf CXg P w K mg base ["items", "fits", "position", "item"] "_first_wrong" (defScope s_first_wrong) T.a_first_wrong cdv A outer s H E).nox.env = (false, eval e (cxOf CXg P w K mg base ["items", "fits", "position", "item"] "_first_wrong" (defScope s_first_wrong) T.a_first_wrong cdv A outer s H E).nox.env) :: starEach es (cxOf CXg P w K mg base ["items", "fits", "position", "item"] "_first_wrong" (defScope s_first_wrong) T.a_first_wrong cdv A outer s H E).nox.env →
      (backTo p2 (starEach es (cxOf CXg P w K mg base ["items", "fits", "position", "item"] "_first_wrong" (defScope s_first_wrong) T.a_first_wrong cdv A outer s H E).nox.env)).any (·.1) = false →
      PE (cxOf CXg P w K mg base ["items", "fits", "position", "item"] "_first_wrong" (defScope s_first_wrong) T.a_first_wrong cdv A outer s H E).nox (.Call (.Name "fits" p1) (e :: es) [] p2) (tFit fv I0 tl t))
    (hI : ∀ H1 H2, Same H1 H2 → I0 H1 → I0 H2) (h0 : I0 H) {a : Addr} {xs : List V} (hx : SqL K H a xs ∨ SqT K H a xs) (ne : 1 ≤ xs.length) (hl : xs.length ≤ 1000)
    (hs : ∀ (i : Nat) (x : V) (b : Addr) (H' : Hp) (R : VK), xs[i]? = some x → Same H H' → (SqL K H' b (xs.take i) ∨ SqT K H' b (xs.take i)) → (∀ H2, Same H' H2 → R (.bl true) H2) → tl [.ref b, x] H' R)
    (q : ∀ H', Same H H' → Q .non H') :
    ∃ t, PSs (cxOf CXg P w K mg base ["items", "fits", "position", "item"] "_first_wrong" (defScope s_first_wrong) T.a_first_wrong cdv A outer s H E).nox (defBody s_first_wrong) t ∧ t { nx := fun _ H' => Q .non H', rt := Q } (L2.start ["items", "fits", "position", "item"] [.ref a, fv]) H := by
  refine ⟨_, (pss_cons (ps_if (PW.pt (pw_or (pt_not (pt_val (pe_callB (call_isiT_K (K := K) (by rfl)) (by rfl) T.b_isinstance (by decide +kernel) (pa_cons (pv 0) (pa_cons (pe_tup (pa_cons (pe_tyN "list" (by rfl) T.b_list (by decide +kernel)) (pa_cons (pe_tyN "tuple" (by rfl) T.b_tuple (by decide +kernel)) pa_nil))) pa_nil))))) (pw_or1 (pt_cmpR op_eq (pe_callB (call_len_seq_K (K := K) (by rfl)) (by rfl) T.b_len PySem.boot_len (pa_cons (pv 0) pa_nil)) pe_int (nomark _))))) (pss_one (ps_ret pe_int)) pss_nil)
    (pss_cons (ps_for PassesOwn.never rfl (pi_enumS (K := K) (by rfl) (by rfl) T.b_enumerate (pa_cons (pv 0) pa_nil)) (pg_tup_K (K := K) (by rfl) (n := 2) (by rfl) (pgs_cons (pg_name (i := 2) sc_first_wrong.nd rfl (Or.inl rfl)) (pgs_cons (pg_name (i := 3) sc_first_wrong.nd rfl (Or.inl rfl)) pgs_nil)))
      (pss_one (ps_if (pt_not (pt_val (act _ _ _ _ _ (pa_cons (pe_slice (SlR.or (sl_list_K (K := K) (by rfl)) (sl_tupA_K (K := K) (by rfl))) (pv 0) po_none (po_some (pv 2))) (pa_cons (pv 3) pa_nil)) (by rfl) (by rfl)))) (pss_one (ps_ret (pv 2))) pss_nil)))
    (pss_one (ps_ret pe_non)))), ?_⟩
  refine ⟨_, rfl, (by show 2 ≤ sizeLine; decide), fun p np => ?_⟩
  dsimp only [tNil]
  refine isi_lt hx np ?_
  have s0 := same_new (o := .tup [.ty "list", .ty "tuple"]) np
  have hx0 := seq_mono s0 hx
  refine ⟨_, rfl, iteF ?_⟩
  refine ⟨_, rfl, a, xs, rfl, hx0, rfl, _, rfl, iteN (fun z => by
    have z1 : ((xs.length : Nat) : Int) = 0 := by injection z
    omega) ?_⟩
  refine ⟨_, rfl, a, xs, rfl, hx0, fun J wk => for_it wk (fun i σ H' => ∃ x2 x3, σ = [some (.ref a), some fv, x2, x3] ∧ Same (upd H p (.tup [.ty "list", .ty "tuple"])) H') ⟨none, none, rfl, Same.refl _⟩ (fun i σ H' _ ⟨_, _, _, e⟩ => e) ?_ ?_⟩
  · rintro i y σ H' H'' hi ⟨x2, x3, rfl, s1⟩ ⟨T0, xi, yi, rfl, nT, rfl, ei, ey⟩
    cases ei
    have s2 := s1.trans (same_new (o := .tup [.int (i : Nat), yi]) nT)
    refine ⟨T0, _, rfl, SqT.of upd_same, rfl, _, _, rfl, _, _, rfl, rfl, ?_⟩
    have hx2 := seq_mono s2 hx0
    refine ⟨rfl, hI _ _ (s0.trans s2) h0, ?_⟩
    have key : ∀ (b : Addr) (H3 : Hp), Same (upd H' T0 (.tup [.int (i : Nat), yi])) H3 → (SqL K H3 b (xs.take i) ∨ SqT K H3 b (xs.take i)) → ∀ R : VK, (∀ H2, Same H3 H2 → R (.bl true) H2) → tl [.ref b, yi] H3 R := fun b H3 s3 hb R k => hs i yi b H3 R ey (s0.trans (s2.trans s3)) hb k
    have fin : ∀ (b : Addr) (o : HO), upd H' T0 (.tup [.int (i : Nat), yi]) b = none → ∀ H4, Same (upd (upd H' T0 (.tup [.int (i : Nat), yi])) b o) H4 → Same (upd H p (.tup [.ty "list", .ty "tuple"])) H4 := fun b o nb H4 s4 => s2.trans ((same_new nb).trans s4)
    refine ⟨_, rfl, _, rfl, (i : Int), rfl, ?_⟩
    rcases hx2 with hL | hT
    · refine .inl ⟨a, xs, rfl, hL, fun b nb => ⟨_, rfl, key b _ (same_new nb) (.inl (SqL.of ?_)) _ fun H4 s4 => ⟨_, rfl, iteF ⟨_, _, rfl, fin b _ nb _ s4⟩⟩⟩⟩
      rw [upd_same, cutV_take xs (by omega)]
      rfl
    · refine .inr ⟨a, xs, rfl, hT, fun ⟨_, z⟩ => ?_, fun _ b nb => ⟨_, rfl, key b _ (same_new nb) (.inr (SqT.of ?_)) _ fun H4 s4 => ⟨_, rfl, iteF ⟨_, _, rfl, fin b _ nb _ s4⟩⟩⟩⟩
      · rw [show HT.sIx xs.length xs.length (some (i : Int)) = min i xs.length from HT.sIx_nat _ _ i] at z
        omega
      · rw [upd_same, cutV_take xs (by omega)]
        rfl
  · rintro σ H' ⟨x2, x3, rfl, s1⟩
    exact q _ (s0.trans s1)
theorem pe_imp {X : Cx} {e : Expr} {t t' : TE} (h : PE X e t) (w : ∀ σ H Q, t' σ H Q → t σ H Q) : PE X e t' := ⟨fun pins s σ H Q I z => h.run pins s σ H Q I (w _ _ _ z)⟩
/-- what _first_wrong makes of a function that says True of each item behind those ahead of it -/
def TTfw (K : PySem.W.Frag) (tl : List V → Hp → VK → Prop) (v1 : V) (H : Hp) (Q : VK) : Prop := ∃ a xs, v1 = .ref a ∧ (SqL K H a xs ∨ SqT K H a xs) ∧ 1 ≤ xs.length ∧ xs.length ≤ 1000 ∧
  (∀ (i : Nat) (x : V) (b : Addr) (H' : Hp) (R : VK), xs[i]? = some x → Same H H' → (SqL K H' b (xs.take i) ∨ SqT K H' b (xs.take i)) → (∀ H2, Same H' H2 → R (.bl true) H2) → tl [.ref b, x] H' R) ∧
  ∀ H', Same H H' → Q .non H'
theorem fw_gives {X : Cx} (T : Top X.K X.mg) (cdg : Value) (q : Str) : GivesTo2 X ["items", "fits", "position", "item"] "_first_wrong" (defScope s_first_wrong) T.a_first_wrong cdg (defBody s_first_wrong) "fits" q 2 (TTfw X.K) := by
  intro f c' s H Q v1 N ws tb act hc h
  obtain ⟨a, xs, rfl, hx, ne, hl, hs, hq⟩ := h
  exact fw_go T (fv := .ref f) (I0 := fun H => H c' = some (CodeO c' q)) (tl := fun vs H1 Q => H1 c' = some (CodeO c' q) ∧ vs.length = 2 ∧ tb (startF N vs ws) H1 Q) act (fun H1 H2 s h => s _ _ h) hc hx ne hl
    (fun i x b H' R ex s1 hb k => ⟨s1 _ _ hc, rfl, hs i x b H' R ex s1 hb k⟩) hq
def spFw1 (K : PySem.W.Frag) (fv : Addr) : Sp := fun vs H Q _ => ∃ (a : Addr) (xs : List V) (fs : List Fld), vs = [.ref a, .ref fv] ∧ (SqL K H a xs ∨ SqT K H a xs) ∧ DpAll K H xs (fs.map dF) ∧ 1 ≤ fs.length ∧ fs.length ≤ 1000 ∧ (∀ (i : Nat) (f : Fld), fs[i]? = some f → OkFld (fs.take i) f) ∧ ∀ H', Same H H' → Q .non H'
theorem ok_fw1 (T : Top K mg) : FnOk P w K mg base CX0 5 T.a_first_wrong T.fd_first_wrong ["items", "fits"] (spFw1 K T.a_field_fits) := by
  have G_field_fits := ok_fieldfits (P := P) (w := w) (base := base) T
  refine T.d_first_wrong.F.ok sc_first_wrong (fun vs H Q E h => ?_) (fun cdv A outer s H vs Q E hr h => ?_)
  · obtain ⟨a, xs, fs, rfl, _⟩ := h
    rfl
  obtain ⟨a, xs, fs, rfl, hx, hD, l1, l2, ok, q⟩ := h
  have lx : xs.length = fs.length := by rw [DpAll.length hD, List.length_map]
  refine fw_go T (fv := .ref T.a_field_fits) (I0 := fun _ => True) (tl := fun vs H1 Q => spFieldFits K (vs ++ []) H1 Q E0)
    (fun e es t p1 p2 ha he hp => pe_imp (pe_callL (i := 1) (dvs := []) (E := E0) G_field_fits (hr.mono (by decide)) (by rfl) (.inl (by rfl)) T.d_field_fits.kp T.d_field_fits.b .nil pass0 ha (he := he) (hpl := hp)) (fun σ H Q z => ⟨z.1, z.2.2⟩)) (fun _ _ _ _ => trivial) trivial hx (by omega) (by omega) (fun i x b H' R ex s1 hb k => ?_) q
  obtain ⟨d, g1, g2⟩ := DpAll.get hD ex
  rw [List.getElem?_map] at g1
  cases ef : fs[i]? with
  | none => rw [ef] at g1; cases g1
  | some f =>
    rw [ef] at g1
    cases g1
    refine ⟨.ref b, x, fs.take i, f, rfl, ⟨b, _, rfl, hb, ?_⟩, Dp.mono s1 g2, ok i f ef, k⟩
    rw [List.map_take]
    exact DpAll.take i (DpAll.mono s1 hD)
end
end Bh

set_option Elab.async false
set_option linter.all false
set_option maxRecDepth 100000
set_option maxHeartbeats 1000000
namespace Bh
open PySem PySem.Spec PyProof.Rows L2 LamX NdefX
/-- what is known, but tables of code objects and the object x -/
def noT (x : Addr) (H : Hp) : Hp := fun a => if a = x then none else match H a with
  | some (.tbl _) => none
  | o => o
theorem noT_le {x : Addr} {H : Hp} : Same (noT x H) H := fun a o e => by
  unfold noT at e
  split at e
  · cases e
  · split at e
    · cases e
    · exact e
theorem noT_at {x : Addr} {H : Hp} {a : Addr} {o : HO} (e : H a = some o) (n : ∀ ps, o ≠ .tbl ps) (m : a ≠ x) : noT x H a = some o := by
  unfold noT
  rw [if_neg m, e]
  cases o with
  | tbl ps => exact absurd rfl (n ps)
  | _ => rfl
theorem noT_x {x : Addr} {H : Hp} : noT x H x = none := if_pos rfl
theorem noT_tbl {x : Addr} {H : Hp} {a : Addr} {ps : Array Value} (e : H a = some (.tbl ps)) : noT x H a = none := by
  unfold noT
  split
  · rfl
  · rw [e]
/-- x is an instance -/
def InsX (H : Hp) (x : Addr) : Prop := ∃ C dx fs, H x = some (.ins C dx fs)
theorem noT_lst {x : Addr} {H : Hp} (hx : InsX H x) {a : Addr} {o : HO} (e : H a = some o) (n : ∀ ps, o ≠ .tbl ps) (m : ∀ C dx fs, o ≠ .ins C dx fs) : noT x H a = some o :=
  noT_at e n fun z => by
    obtain ⟨C, dx, fs, h⟩ := hx
    rw [z, h] at e
    cases e
    exact m _ _ _ rfl
theorem ExtN.same {x : Addr} {H H' : Hp} (e : ExtN H H') : Same (noT x H) H' := fun a o h => e a o (noT_le a o h) fun ps z => by
  rw [noT_tbl (by rw [noT_le a o h, z])] at h
  cases h
/-- an instance changes -/
theorem Same.ins {D H : Hp} {a : Addr} {o : HO} (s : Same D H) (n : D a = none) : Same D (upd H a o) := fun b u e => by
  rw [upd_ne (ne_of_none e n)]
  exact s _ _ e
theorem SqL.nT {K : PySem.W.Frag} {H : Hp} {x a : Addr} {xs : List V} (hx : InsX H x) (h : SqL K H a xs) : SqL K (noT x H) a xs :=
  h.imp (fun h => h.imp (fun h => noT_lst hx h (fun _ z => nomatch z) fun _ _ _ z => nomatch z) fun ⟨o, h⟩ => ⟨o, noT_lst hx h (fun _ z => nomatch z) fun _ _ _ z => nomatch z⟩) id
theorem SqT.nT {K : PySem.W.Frag} {H : Hp} {x a : Addr} {xs : List V} (hx : InsX H x) (h : SqT K H a xs) : SqT K (noT x H) a xs :=
  h.imp (fun h => h.imp (fun h => noT_lst hx h (fun _ z => nomatch z) fun _ _ _ z => nomatch z) fun ⟨o, h⟩ => ⟨o, noT_lst hx h (fun _ z => nomatch z) fun _ _ _ z => nomatch z⟩) id
mutual
theorem Dp.nT {K : PySem.W.Frag} {H : Hp} {x : Addr} (hx : InsX H x) : ∀ {v : V} {d : PyData}, Dp K H v d → Dp K (noT x H) v d
  | _, _, .non => .non
  | _, _, .bl b => .bl b
  | _, _, .int i => .int i
  | _, _, .str x => .str x
  | _, _, .lst h all => .lst (SqL.nT hx h) (DpAll.nT hx all)
  | _, _, .tup h all => .tup (SqT.nT hx h) (DpAll.nT hx all)
theorem DpAll.nT {K : PySem.W.Frag} {H : Hp} {x : Addr} (hx : InsX H x) : ∀ {vs : List V} {ds : List PyData}, DpAll K H vs ds → DpAll K (noT x H) vs ds
  | _, _, .nil => .nil
  | _, _, .cons h t => .cons (Dp.nT hx h) (DpAll.nT hx t)
end
theorem DpS.nT {K : PySem.W.Frag} {H : Hp} {x : Addr} (hx : InsX H x) {v : V} {ds : List PyData} (h : DpS K H v ds) : DpS K (noT x H) v ds := by
  obtain ⟨a, xs, e, h1, h2⟩ := h
  exact ⟨a, xs, e, h1.imp (SqL.nT hx) (SqT.nT hx), DpAll.nT hx h2⟩
/-- a rulebook's parts -/
structure OkBook (fs : List Fld) (ts : List Tie) (ks : List Knd) : Prop where
  f1 : 1 ≤ fs.length
  f2 : fs.length ≤ 3
  fok : ∀ (i : Nat) (f : Fld), fs[i]? = some f → OkFld (fs.take i) f
  fb : FsB fs
  fv : FsV fs
  t1 : 1 ≤ ts.length
  t2 : ts.length ≤ 4
  tnd : (ts.map (·.1)).Nodup
  tok : ∀ t ∈ ts, IsNm t.1 ∧ OkPrg fs t.2
  k1 : 1 ≤ ks.length
  k2 : ks.length ≤ 3
  knd : (ks.map (·.name)).Nodup
  kok : ∀ k ∈ ks, OkKnd fs k
theorem TabS.ins {H : Hp} {P x C C2 dx dx2 : Addr} {fs fs2 : List (Str × V)} {q : Str} (t : TabS H P q) (hx : H x = some (.ins C2 dx2 fs2)) : TabS (upd H x (.ins C dx fs)) P q := by
  obtain ⟨ps, h1, h2, h3⟩ := t
  refine ⟨ps, ?_, h2, fun pos cv hc => ?_⟩
  · rw [upd_ne (fun z => by rw [z, hx] at h1; cases h1)]
    exact h1
  · obtain ⟨c, e1, e2⟩ := h3 pos cv hc
    refine ⟨c, e1, ?_⟩
    rw [upd_ne (fun z => by rw [z, hx] at e2; unfold CodeO at e2; cases e2)]
    exact e2
theorem nd_take {l : List Str} {i : Nat} {x : Str} (nd : l.Nodup) (h : l[i]? = some x) : x ∉ l.take i := fun m => by
  obtain ⟨j, hj⟩ := List.getElem?_of_mem m
  have lj : j < i := by
    have := (List.getElem?_eq_some_iff.mp hj).1
    rw [List.length_take] at this
    omega
  rw [List.getElem?_take_of_lt lj] at hj
  have e := (List.getElem?_inj (List.getElem?_eq_some_iff.mp hj).1 nd).mp (hj.trans h.symm)
  omega
theorem nd_takeM {α : Type} {f : α → Str} {l : List α} {i : Nat} {x : α} (nd : (l.map f).Nodup) (h : l[i]? = some x) : f x ∉ (l.take i).map f := by
  rw [List.map_take]
  exact nd_take nd (by rw [List.getElem?_map, h]; rfl)
section
variable {P : Program} {w : World} {K : PySem.W.Frag} {mg : Str → Option Value} {base : Heap}
def rbF (a1 a2 a3 : Addr) : List (Str × V) := [("_fields", .ref a1), ("_ties", .ref a2), ("_kinds", .ref a3)]
/-- the class Rulebook -/
structure RbC (K : PySem.W.Frag) (mg : Str → Option Value) : Type where
  C : Addr
  g : mg "Rulebook" = some (.ref C)
  cl : Cls K C
  n1 : NoAttr K C "_fields"
  n2 : NoAttr K C "_ties"
  n3 : NoAttr K C "_kinds"
  ha : PySem.W.findIn K (.ref C) "__class__" = some (some (.builtin "object.__class__"))
  hn : PySem.W.specialIn K (.builtin "object.__class__") "__get__" = some (some (.builtin "getset_descriptor.__get__"))
  ht : PySem.W.takesIn K (.builtin "object.__class__") = some true
  hm : PySem.W.mroIn K C (.type "object") = some true
  k1 : PySem.W.kitOne K (.ref C) (.ref C) = some true
  k2 : PySem.W.kitOne K (.type "tuple") (.ref C) = some false
abbrev rbQ : Str := "Rulebook.__init__.<locals>.<lambda>"
def spInit (K : PySem.W.Frag) (pI C : Addr) : Sp := fun vs H Q _ => ∃ (x dx : Addr) (v1 v2 v3 : V) (fs : List Fld) (ts : List Tie) (ks : List Knd), vs = [.ref x, v1, v2, v3] ∧ H x = some (.ins C dx []) ∧ DpS K H v1 (fs.map dF) ∧ DpS K H v2 (ts.map dTie) ∧ DpS K H v3 (ks.map dKnd) ∧ OkBook fs ts ks ∧ TabS H pI rbQ ∧
  ∀ (H' : Hp) (a1 a2 a3 : Addr) (y1 y2 y3 : List V), Same (noT x H) H' → H' x = some (.ins C dx (rbF a1 a2 a3)) → H' a1 = some (.lst y1) → H' a2 = some (.lst y2) → H' a3 = some (.lst y3) → noT x H a1 = none → noT x H a2 = none → noT x H a3 = none → 
    DpAll K H' y1 (fs.map dF) → DpAll K H' y2 (ts.map dTie) → DpAll K H' y3 (ks.map dKnd) → TabS H' pI rbQ → Q .non H'
theorem ok_rinit {fI cI pI : Addr} {od an : Option Addr} {oc kV doc pm ct : Value} {osl : Array (Option Value)} (T : Top K mg) (R : RbC K mg) (TB : TabB base mg cI pI)
    (lk : K.lookup fI = some ⟨oc, od, .func (PySem.W.fnOf "__init__" "Rulebook.__init__" (defArgs s_Rulebook__init) (defBody s_Rulebook__init) (defScope s_Rulebook__init) .none kV doc pm an (.ref cI) ct), osl⟩) (hcd : PySem.W.codeIn K (.ref cI) "Rulebook.__init__" = true) :
    FnOk P w K mg base CX0 9 fI (PySem.W.fnOf "__init__" "Rulebook.__init__" (defArgs s_Rulebook__init) (defBody s_Rulebook__init) (defScope s_Rulebook__init) .none kV doc pm an (.ref cI) ct) ["self", "fields", "ties", "kinds"] (spInit K pI R.C) := by
  have G_first_wrong := ok_fw1 (P := P) (w := w) (base := base) T
  have G_tie_fits := ok_tiefits (P := P) (w := w) (base := base) T
  have G_kind_fits := ok_kindfits (P := P) (w := w) (base := base) T
  obtain ⟨oc2, od2, kV2, doc2, pm2, an2, cdvF, ct2, osl2, eF, lkF, hcF⟩ := T.d_first_wrong.F.ex
  have bF := T.d_first_wrong.b
  rw [eF] at bF lkF
  refine fn_of lk hcd sc_Rulebook__init (fun vs H Q E h => ?_) (fun A outer s H vs Q E hr h => ?_)
  · obtain ⟨x, dx, v1, v2, v3, fs, ts, ks, rfl, _⟩ := h
    rfl
  obtain ⟨x, dx, v1, v2, v3, fs, ts, ks, rfl, hx, h1, h2, h3, ok, hT, q⟩ := h
  have mT : (pI, ("Rulebook.__init__.<locals>." : Str) ++ "<lambda>") ∈ [(pI, rbQ)] := by
    rw [show (("Rulebook.__init__.<locals>." : Str) ++ "<lambda>") = rbQ by decide +kernel]
    exact List.mem_singleton.mpr rfl
  have uT : ∀ p ∈ [(pI, rbQ)], p.1 = pI → p.2 = ("Rulebook.__init__.<locals>." : Str) ++ "<lambda>" := fun p hp _ => by
    rw [List.mem_singleton.mp hp]
    exact (show rbQ = ("Rulebook.__init__.<locals>." : Str) ++ "<lambda>" by decide +kernel)
  refine ⟨_, PSs.nox (pss_cons (ps_set (i := 4) sc_Rulebook__init.nd rfl (Or.inl rfl) (pe_call G_first_wrong (hr.mono (by decide)) (by rfl) T.d_first_wrong.g T.d_first_wrong.kp T.d_first_wrong.b .nil pass0 (pa_cons (pv 1) (pa_cons (pe_gR rfl T.d_field_fits.g) pa_nil))))
    (pss_cons (ps_if (pt_cmpR op_notN (pv 4) pe_non (nomark _)) (pss_one ps_dead) pss_nil)
    (pss_cons (ps_set (i := 4) sc_Rulebook__init.nd rfl (Or.inl rfl) (pe_lamcall2 (T := [(pI, "Rulebook.__init__.<locals>.<lambda>")]) (TT := TTfw K) (a1 := "items") (a := "fits") (Ng := ["items", "fits", "position", "item"]) (N := ["before", "tie", "fields"]) (ps := ["before", "tie"]) (fr := ["fields"]) (js := [1]) (k := 5) (tb := tCall (spTieFits K) [] E0 (tCons (tVar 2) (tCons (tVar 0) (tCons (tVar 1) tNil)))) (by rfl) T.d_first_wrong.g T.d_first_wrong.kp lkF hcF bF sc_first_wrong rfl (.inl (by rfl)) (pv 2) (fw_gives (X := (cxOf CX0 P w K mg base ["self", "fields", "ties", "kinds", "wrong"] "Rulebook.__init__" (defScope s_Rulebook__init) fI (.ref cI) A outer s H E).nox) T cdvF _) TB rfl mT uT (hr.mono (by decide)) rfl (nscope_by (by decide +kernel)) (ndef_free (sc := defScope s_Rulebook__init) (fr := ["fields"]) (by decide +kernel)) (ndef_fr (sc := defScope s_Rulebook__init) (by decide +kernel)) rfl (fun _ _ _ _ _ us hl => match us, hl with | [_, _], _ => rfl) (fun A outer s H F f hF hr2 => by
      obtain ⟨fn, fq, fp, fb, fsc, fcl, fc⟩ := F
      cases hF
      exact (pe_call G_tie_fits (hr2.mono (by decide)) (by rfl) T.d_tie_fits.g T.d_tie_fits.kp T.d_tie_fits.b .nil pass0 (pa_cons (pv 2) (pa_cons (pv 0) (pa_cons (pv 1) pa_nil)))))))
    (pss_cons (ps_if (pt_cmpR op_notN (pv 4) pe_non (nomark _)) (pss_one ps_dead) pss_nil)
    (pss_cons (ps_set (i := 4) sc_Rulebook__init.nd rfl (Or.inl rfl) (pe_lamcall2 (T := [(pI, "Rulebook.__init__.<locals>.<lambda>")]) (TT := TTfw K) (a1 := "items") (a := "fits") (Ng := ["items", "fits", "position", "item"]) (N := ["before", "kind", "fields"]) (ps := ["before", "kind"]) (fr := ["fields"]) (js := [1]) (k := 5) (tb := tCall (spKindFits K) [] E0 (tCons (tVar 2) (tCons (tVar 0) (tCons (tVar 1) tNil)))) (by rfl) T.d_first_wrong.g T.d_first_wrong.kp lkF hcF bF sc_first_wrong rfl (.inl (by rfl)) (pv 3) (fw_gives (X := (cxOf CX0 P w K mg base ["self", "fields", "ties", "kinds", "wrong"] "Rulebook.__init__" (defScope s_Rulebook__init) fI (.ref cI) A outer s H E).nox) T cdvF _) TB rfl mT uT (hr.mono (by decide)) rfl (nscope_by (by decide +kernel)) (ndef_free (sc := defScope s_Rulebook__init) (fr := ["fields"]) (by decide +kernel)) (ndef_fr (sc := defScope s_Rulebook__init) (by decide +kernel)) rfl (fun _ _ _ _ _ us hl => match us, hl with | [_, _], _ => rfl) (fun A outer s H F f hF hr2 => by
      obtain ⟨fn, fq, fp, fb, fsc, fcl, fc⟩ := F
      cases hF
      exact (pe_call G_kind_fits (hr2.mono (by decide)) (by rfl) T.d_kind_fits.g T.d_kind_fits.kp T.d_kind_fits.b .nil pass0 (pa_cons (pv 2) (pa_cons (pv 0) (pa_cons (pv 1) pa_nil)))))))
    (pss_cons (ps_if (pt_cmpR op_notN (pv 4) pe_non (nomark _)) (pss_one ps_dead) pss_nil)
    (pss_cons (ps_fld (pv 0) (pe_callTy (call_list_of_K (K := K) (by rfl)) (by rfl) T.b_list (by decide +kernel) (pa_cons (pv 1) pa_nil)) (by rfl))
    (pss_cons (ps_fld (pv 0) (pe_callTy (call_list_of_K (K := K) (by rfl)) (by rfl) T.b_list (by decide +kernel) (pa_cons (pv 2) pa_nil)) (by rfl))
    (pss_one (ps_fld (pv 0) (pe_callTy (call_list_of_K (K := K) (by rfl)) (by rfl) T.b_list (by decide +kernel) (pa_cons (pv 3) pa_nil)) (by rfl))))))))))), ?_⟩
  have d1 := DpS.nT ⟨_, _, _, hx⟩ h1
  have d2 := DpS.nT ⟨_, _, _, hx⟩ h2
  have d3 := DpS.nT ⟨_, _, _, hx⟩ h3
  have nx := (noT_x : noT x H x = none)
  obtain ⟨b1, x1, rfl, hb1, hd1⟩ := id d1
  obtain ⟨b2, x2, rfl, hb2, hd2⟩ := id d2
  obtain ⟨b3, x3, rfl, hb3, hd3⟩ := id d3
  have l1 : x1.length = fs.length := by rw [DpAll.length hd1, List.length_map]
  have l2 : x2.length = ts.length := by rw [DpAll.length hd2, List.length_map]
  have l3 : x3.length = ks.length := by rw [DpAll.length hd3, List.length_map]
  have f1 := ok.f1
  have f2 := ok.f2
  have t1 := ok.t1
  have t2 := ok.t2
  have k1 := ok.k1
  have k2 := ok.k2
  refine ⟨_, rfl, b1, x1, fs, rfl, seq_mono noT_le hb1, DpAll.mono noT_le hd1, f1, by omega, ok.fok, fun H1 s1 => ?_⟩
  refine ⟨_, rfl, rfl, _, rfl, iteB (fun z => by simp at z) (fun _ => ?_)⟩
  have g1 : Same (noT x H) H1 := noT_le.trans s1
  have T1 : TabS H1 pI rbQ := hT.ext s1
  refine ⟨_, rfl, (fun p hp => by rw [List.mem_singleton.mp hp]; exact T1), fun H2 e2 T2 => ?_⟩
  have hx2 : H2 x = some (.ins R.C dx []) := e2 _ _ (s1 _ _ hx) fun _ z => nomatch z
  have g2 : Same (noT x H) H2 := fun a o h => e2 a o (g1 a o h) fun ps z => by
    rw [noT_tbl (by rw [noT_le a o h, z])] at h
    cases h
  have T2' : TabS H2 pI rbQ := T2 _ (List.mem_singleton.mpr rfl)
  refine ⟨b2, x2, rfl, seq_mono g2 hb2, by omega, by omega, fun i y b H' R ex s' hb k => ?_, fun H3 s3 => ?_⟩
  · obtain ⟨d, e1, e2⟩ := DpAll.get hd2 ex
    rw [List.getElem?_map] at e1
    cases et : ts[i]? with
    | none => rw [et] at e1; cases e1
    | some c =>
      rw [et] at e1
      cases e1
      have gs := g2.trans s'
      have li : i < ts.length := (List.getElem?_eq_some_iff.mp et).1
      have hh : HdS K H' (.ref b) ((ts.take i).map (·.1)) := by
        have z := hds_of (DpAll.take i (DpAll.mono gs hd2)) (fun d hd => by
          obtain ⟨c2, _, rfl⟩ := List.mem_map.mp (List.mem_of_mem_take hd)
          exact named_dTie c2)
        rw [← List.map_take, List.map_map] at z
        exact ⟨b, _, rfl, hb, z⟩
      have tk := ok.tok c (List.mem_of_getElem? et)
      exact ⟨_, rfl, _, rfl, _, rfl, .ref b1, .ref b, y, fs, _, c, rfl, d1.mono gs, ok.fb, hh, by rw [List.length_map, List.length_take]; omega, nd_takeM (f := fun c : Tie => c.1) ok.tnd et, tk.1, Dp.mono gs e2, tk.2, k⟩
  refine ⟨_, rfl, rfl, _, rfl, iteB (fun z => by simp at z) (fun _ => ?_)⟩
  have g3 := g2.trans s3
  have hx3 := s3 _ _ hx2
  refine ⟨_, rfl, (fun p hp => by rw [List.mem_singleton.mp hp]; exact T2'.ext s3), fun H4 e4 T4 => ?_⟩
  have hx4 : H4 x = some (.ins R.C dx []) := e4 _ _ hx3 fun _ z => nomatch z
  have g4 : Same (noT x H) H4 := fun a o h => e4 a o (g3 a o h) fun ps z => by
    rw [noT_tbl (by rw [noT_le a o h, z])] at h
    cases h
  have T4' : TabS H4 pI rbQ := T4 _ (List.mem_singleton.mpr rfl)
  refine ⟨b3, x3, rfl, seq_mono g4 hb3, by omega, by omega, fun i y b H' R ex s' hb k => ?_, fun H5 s5 => ?_⟩
  · obtain ⟨d, e1, e2⟩ := DpAll.get hd3 ex
    rw [List.getElem?_map] at e1
    cases et : ks[i]? with
    | none => rw [et] at e1; cases e1
    | some c =>
      rw [et] at e1
      cases e1
      have gs := g4.trans s'
      have li : i < ks.length := (List.getElem?_eq_some_iff.mp et).1
      have hh : HdS K H' (.ref b) ((ks.take i).map (·.name)) := by
        have z := hds_of (DpAll.take i (DpAll.mono gs hd3)) (fun d hd => by
          obtain ⟨c2, _, rfl⟩ := List.mem_map.mp (List.mem_of_mem_take hd)
          exact named_dKnd c2)
        rw [← List.map_take, List.map_map] at z
        exact ⟨b, _, rfl, hb, z⟩
      exact ⟨_, rfl, _, rfl, _, rfl, .ref b1, .ref b, y, fs, _, c, rfl, d1.mono gs, ok.fb, hh, by rw [List.length_map, List.length_take]; omega, nd_takeM (f := Knd.name) ok.knd et, Dp.mono gs e2, ok.kok c (List.mem_of_getElem? et), k⟩
  refine ⟨_, rfl, rfl, _, rfl, iteB (fun z => by simp at z) (fun _ => ?_)⟩
  have g5 := g4.trans s5
  have hx5 := s5 _ _ hx4
  have T5 := T4'.ext s5
  refine ⟨_, rfl, b1, x1, rfl, seq_mono g5 hb1, fun a1 n1 => ⟨_, rfl, x, R.C, dx, [], rfl, (same_new n1) _ _ hx5, R.cl, R.n1, by decide, ?_⟩⟩
  have n1x : a1 ≠ x := (ne_of_none hx5 n1).symm
  have g6 : Same (noT x H) (upd (upd H5 a1 (.lst x1)) x (.ins R.C dx [("_fields", .ref a1)])) := Same.ins (g5.trans (same_new n1)) nx
  refine ⟨_, rfl, b2, x2, rfl, seq_mono g6 hb2, fun a2 n2 => ⟨_, rfl, x, R.C, dx, [("_fields", .ref a1)], rfl, (same_new n2) _ _ upd_same, R.cl, R.n2, (by show 1 < 1000; decide), ?_⟩⟩
  have n2x : a2 ≠ x := (ne_of_none upd_same n2).symm
  have g7 : Same (noT x H) (upd (upd (upd (upd H5 a1 (.lst x1)) x (.ins R.C dx [("_fields", .ref a1)])) a2 (.lst x2)) x (.ins R.C dx [("_fields", .ref a1), ("_ties", .ref a2)])) := Same.ins (g6.trans (same_new n2)) nx
  refine ⟨_, rfl, b3, x3, rfl, seq_mono g7 hb3, fun a3 n3 => ⟨_, rfl, x, R.C, dx, [("_fields", .ref a1), ("_ties", .ref a2)], rfl, (same_new n3) _ _ upd_same, R.cl, R.n3, (by show 2 < 1000; decide), ?_⟩⟩
  have n3x : a3 ≠ x := (ne_of_none upd_same n3).symm
  have g8 : Same (noT x H) (upd (upd (upd (upd (upd (upd H5 a1 (.lst x1)) x (.ins R.C dx [("_fields", .ref a1)])) a2 (.lst x2)) x (.ins R.C dx [("_fields", .ref a1), ("_ties", .ref a2)])) a3 (.lst x3)) x (.ins R.C dx (rbF a1 a2 a3))) := Same.ins (g7.trans (same_new n3)) nx
  have e1 := (upd_ne (H := upd (upd (upd (upd (upd H5 a1 (.lst x1)) x (.ins R.C dx [("_fields", .ref a1)])) a2 (.lst x2)) x (.ins R.C dx [("_fields", .ref a1), ("_ties", .ref a2)])) a3 (.lst x3)) (o := .ins R.C dx (rbF a1 a2 a3)) n1x).trans ((same_new n3) _ _ ((upd_ne n1x).trans ((same_new n2) _ _ ((upd_ne n1x).trans upd_same))))
  have e2 := (upd_ne (H := upd (upd (upd (upd (upd H5 a1 (.lst x1)) x (.ins R.C dx [("_fields", .ref a1)])) a2 (.lst x2)) x (.ins R.C dx [("_fields", .ref a1), ("_ties", .ref a2)])) a3 (.lst x3)) (o := .ins R.C dx (rbF a1 a2 a3)) n2x).trans ((same_new n3) _ _ ((upd_ne n2x).trans upd_same))
  have e3 := (upd_ne (H := upd (upd (upd (upd (upd H5 a1 (.lst x1)) x (.ins R.C dx [("_fields", .ref a1)])) a2 (.lst x2)) x (.ins R.C dx [("_fields", .ref a1), ("_ties", .ref a2)])) a3 (.lst x3)) (o := .ins R.C dx (rbF a1 a2 a3)) n3x).trans upd_same
  have T6 := TabS.ins (C := R.C) (dx := dx) (fs := rbF a1 a2 a3) (((TabS.ins (C := R.C) (dx := dx) (fs := [("_fields", .ref a1), ("_ties", .ref a2)]) (((TabS.ins (C := R.C) (dx := dx) (fs := [("_fields", .ref a1)]) (T5.ext (same_new (o := .lst x1) n1)) ((same_new n1) _ _ hx5)).ext (same_new (o := .lst x2) n2))) ((same_new n2) _ _ upd_same)).ext (same_new (o := .lst x3) n3))) ((same_new n3) _ _ upd_same)
  exact q _ a1 a2 a3 x1 x2 x3 g8 upd_same e1 e2 e3 (g5.free n1) (g6.free n2) (g7.free n3) (DpAll.mono g8 hd1) (DpAll.mono g8 hd2) (DpAll.mono g8 hd3) T6
end
end Bh

set_option Elab.async false
set_option linter.all false
set_option maxRecDepth 100000
namespace Bh
open PySem PySem.Spec PyProof.Rows L2
/-! ### ends of the law of programs -/
theorem at_last {α : Type} {xs : List α} {v : α} (h : xs.getLast? = some v) : atI xs (-1) = some v := by
  cases xs with
  | nil => cases h
  | cons x r =>
    have e : (x :: r).getLast? = (x :: r)[(x :: r).length - 1]? := List.getLast?_eq_getElem?
    unfold atI ixN
    rw [if_neg (by decide), if_pos (by rw [List.length_cons]; omega)]
    show (x :: r)[(-1 + ((x :: r).length : Int)).toNat]? = some v
    rw [show (-1 + ((x :: r).length : Int)).toNat = (x :: r).length - 1 by rw [List.length_cons]; omega, ← e]
    exact h
theorem vals_first : ∀ (fs : List Fld) (acc : List (List Str)) (h : List Str), acc[0]? = some h → (∀ f ∈ fs, f.2 ≠ []) → ∃ t : List Str, (fs.foldl ext1 acc)[0]? = some (h ++ t) ∧ ∀ f r, fs = f :: r → t[0]? = f.2[0]?
  | [], acc, h, h0, _ => ⟨[], by rw [List.append_nil]; exact h0, fun f r e => by cases e⟩
  | f :: r, acc, h, h0, hn => by
    cases ho : f.2 with
    | nil => exact absurd ho (hn f (List.mem_cons_self ..))
    | cons o os =>
      cases acc with
      | nil => cases h0
      | cons a as =>
        have eh : a = h := Option.some.inj h0
        subst eh
        have e1 : (ext1 (a :: as) f)[0]? = some (a ++ [o]) := by
          unfold ext1
          rw [List.flatMap_cons, ho]
          rfl
        obtain ⟨t, e2, _⟩ := vals_first r (ext1 (a :: as) f) (a ++ [o]) e1 (fun g hg => hn g (List.mem_cons_of_mem _ hg))
        refine ⟨o :: t, ?_, fun g r' e => ?_⟩
        · show (r.foldl ext1 (ext1 (a :: as) f))[0]? = _
          rw [e2, List.append_assoc]
          rfl
        · cases e
          rw [ho]
          rfl
theorem vals_zero {f : Fld} {r : List Fld} (hn : ∀ g ∈ f :: r, g.2 ≠ []) : ∃ v : List Str, (vals (f :: r))[0]? = some v ∧ v[0]? = f.2[0]? := by
  obtain ⟨t, e1, e2⟩ := vals_first (f :: r) [[]] [] rfl hn
  exact ⟨t, e1, e2 f r rfl⟩
theorem plus_steps {f : Fld} {r : List Fld} (nd : f.2.Nodup) : ∀ (m k : Nat) (v : List Str) (o : Str), v[0]? = some o → f.2[k]? = some o → (stepped (f :: r) (List.replicate m ((f.1, "+") : Stp)) v)[0]? = f.2[min (k + m) (f.2.length - 1)]?
  | 0, k, v, o, hv, hk => by
    have hl := (List.getElem?_eq_some_iff.mp hk).1
    show v[0]? = _
    rw [hv, Nat.add_zero, show min k (f.2.length - 1) = k by omega, hk]
  | m + 1, k, v, o, hv, hk => by
    have hl := (List.getElem?_eq_some_iff.mp hk).1
    have hp : posOf (f :: r) f.1 = 0 := by
      show ix (f.1 :: r.map (·.1)) f.1 = 0
      unfold ix
      rw [if_pos rfl]
    have ho : optsOf (f :: r) f.1 = f.2 := by
      unfold optsOf
      rw [hp]
      rfl
    have hlv : 0 < v.length := (List.getElem?_eq_some_iff.mp hv).1
    have hk2 : f.2[min (k + 1) (f.2.length - 1)]? = some (nextO f.2 o) := by
      have q := (next_mem (List.mem_of_getElem? hk)).1
      rw [ix_at nd hk] at q
      exact q
    have hv2 : (stepO (f :: r) v ((f.1, "+") : Stp))[0]? = some (nextO f.2 o) := by
      unfold stepO
      show (v.set (posOf (f :: r) f.1) _)[0]? = _
      rw [hp, List.getElem?_set_self hlv, if_pos rfl, ho, List.getD_eq_getElem?_getD, hv]
      rfl
    rw [List.replicate_succ]
    show (stepped (f :: r) (List.replicate m ((f.1, "+") : Stp)) (stepO (f :: r) v ((f.1, "+") : Stp)))[0]? = _
    rw [plus_steps nd m _ _ _ hv2 hk2]
    congr 1
    omega
def perm3 {α : Type} : List α → List α
  | [a, b, c] => [a, c, b]
  | _ => []
theorem perm3_rel {vs : List V} {us : List Value} (h : Vals vs us) : Vals (perm3 vs) (perm3 us) := by
  cases h with
  | nil => exact .nil
  | cons a h =>
    cases h with
    | nil => exact .nil
    | cons b h =>
      cases h with
      | nil => exact .nil
      | cons c h =>
        cases h with
        | nil => exact .cons a (.cons c (.cons b .nil))
        | cons d h => exact .nil
theorem Sh.strs (n : Nat) (zs : List Str) (h : zs.length ≤ 100000) : Sh (n + 1) (.tuple (zs.map PyData.str)) :=
  .tup (by rw [List.length_map]; exact h) fun d hd => by
    obtain ⟨z, _, rfl⟩ := List.mem_map.mp hd
    exact .str
end Bh

set_option Elab.async false
set_option linter.all false
set_option maxRecDepth 100000
set_option maxHeartbeats 1000000
namespace Bh
open PySem PySem.Spec PyProof.Rows L2
theorem wordsOf_nodup4 {z : Str} {k : Nat} {s : Int} {n : Nat} (h : k ≤ z.length) (hn : n ≤ 4) : (wordsOf z k s n).Nodup := by
  unfold wordsOf
  refine List.pairwise_map.mpr ((List.pairwise_lt_range (n := n)).imp_of_mem fun {a b} ha hb hab e => ?_)
  have h2 := List.mem_range.mp hb
  have q := wordK_inj h e
  omega
theorem tails_noz : ∀ z ∈ tails, z.length = 7 → ∃ c ∈ z.cps.toList, c ≠ 122 := by decide +kernel
theorem wordsOf_noz {z : Str} (hz : z ∈ tails) {k : Nat} {s : Int} {n : Nat} (h : k ≤ z.length) : ∀ w ∈ wordsOf z k s n, w ≠ "zzzzzzzz" := fun w hw e => by
  obtain ⟨i, _, rfl⟩ := List.mem_map.mp hw
  have l1 := wordK_length z k (97 + ((s + 5 * (i : Int)) % 26).toNat) h
  rw [e] at l1
  have l2 : ("zzzzzzzz" : Str).length = 8 := by decide +kernel
  rw [l2] at l1
  obtain ⟨c, hc, nc⟩ := tails_noz z hz (by omega)
  have e2 := wordK_cps z k (97 + ((s + 5 * (i : Int)) % 26).toNat) h
  rw [e] at e2
  have key : ∀ c ∈ ("zzzzzzzz" : Str).cps.toList, c = 122 := by decide +kernel
  refine nc (key c ?_)
  rw [e2]
  rw [← List.take_append_drop k z.cps.toList] at hc
  rcases List.mem_append.mp hc with q | q
  · exact List.mem_append_left _ q
  · exact List.mem_append_right _ (List.mem_cons_of_mem _ q)
def spWords5 : Sp := fun vs H Q _ => ∃ (b l : Addr) (G : Hp) (n : Int), vs = [.ref b, .int n] ∧ 0 ≤ n ∧ n ≤ 4 ∧ Wd b l G H ∧
  ∀ (G' H' : Hp) (p : Addr) (ws : List Str), Same G G' → Wd b l G' H' → G' p = some (.lst (ws.map V.str)) → ws.length = n.toNat → ws.Nodup → (∀ w ∈ ws, IsNm w ∧ w ≠ "zzzzzzzz") → Q (.ref p) H'
/-- fields of at most 24 values -/
structure FsOk5 (fs : List Fld) : Prop where
  ok : FsOk fs
  sz : (vals fs).length ≤ 24
theorem vals_snoc (fs : List Fld) (f : Fld) : (vals (fs ++ [f])).length = (vals fs).length * f.2.length := by
  unfold vals
  rw [List.foldl_append]
  show (ext1 _ f).length = _
  unfold ext1
  rw [flat_len]
theorem room_lt {left r : Int} (h : 2 ≤ left) (hr : r < (if (if left - 1 > 1 then left - 1 else 1) < 5 then (if left - 1 > 1 then left - 1 else 1) else 5)) : 2 + r ≤ left := by
  split at hr <;> split at hr <;> omega
theorem room_next {a m left : Int} (a0 : 0 ≤ a) (h : a * left ≤ 24) (h1 : 1 ≤ m) (h2 : m ≤ left) : a * m * (left / m) ≤ 24 ∧ 1 ≤ left / m := by
  refine ⟨Int.le_trans ?_ h, Int.le_ediv_of_mul_le (by omega) (by omega)⟩
  rw [Int.mul_assoc]
  refine Int.mul_le_mul_of_nonneg_left ?_ a0
  rw [Int.mul_comm]
  exact Int.ediv_mul_le left (by omega)
def spFields5 (K : PySem.W.Frag) : Sp := fun vs H Q _ => ∃ (b l : Addr) (G : Hp), vs = [.ref b, .int 24] ∧ Wd b l G H ∧
  ∀ (G' H' : Hp) (p : Addr) (xs : List V) (fs : List Fld), Same G G' → Wd b l G' H' → G' p = some (.lst xs) → Paired (FdAt K G') xs fs → FsOk5 fs → Q (.ref p) H'
section
variable {P : Program} {w : World} {K : PySem.W.Frag} {mg : Str → Option Value} {base : Heap}
theorem ok_any (T : Top K mg) : FnOk P w K mg base CX0 2 T.a_l_any T.fd_l_any ["_law_bag_here", "_law_row"] (spAny K) := by
  have G_l_draw := ok_draw (P := P) (w := w) (base := base) T
  refine T.d_l_any.F.ok sc_l_any (fun vs H Q E h => ?_) (fun cdv A outer s H vs Q E hr h => ?_)
  · obtain ⟨b, l, a, G, xs, rfl, _⟩ := h
    rfl
  obtain ⟨b, l, a, G, xs, rfl, hS, ne, hl, wd, q⟩ := h
  refine ⟨_, (pss_one (ps_ret (pe_ix (ix_seq_K (K := K) (by rfl)) (pv 1) (pe_call G_l_draw (hr.mono (by decide)) (by rfl) T.d_l_draw.g T.d_l_draw.kp T.d_l_draw.b .nil pass0 (pa_cons (pv 0) (pa_cons (pe_callB (call_len_seq_K (K := K) (by rfl)) (by rfl) T.b_len PySem.boot_len (pa_cons (pv 1) pa_nil)) pa_nil))) (fun _ _ => rfl)))), ?_⟩
  have hp : 0 < xs.length := List.length_pos_iff.mpr ne
  refine ⟨_, rfl, _, rfl, _, rfl, a, xs, rfl, seq_mono wd.sm hS, b, l, G, _, rfl, by omega, by omega, wd, fun r H1 r0 r1 w1 => ?_⟩
  obtain ⟨v, e, hm⟩ := at_lt r0 r1
  exact rIx_go (seq_mono w1.sm hS) e (q v H1 hm w1)
theorem ok_mixed (T : Top K mg) : FnOk P w K mg base CX0 2 T.a_l_mixed T.fd_l_mixed ["_law_bag_here", "_law_row"] (spMixed K) := by
  have G_l_draw := ok_draw (P := P) (w := w) (base := base) T
  refine T.d_l_mixed.F.ok sc_l_mixed (fun vs H Q E h => ?_) (fun cdv A outer s H vs Q E hr h => ?_)
  · obtain ⟨b, l, a, G, xs, rfl, _⟩ := h
    rfl
  obtain ⟨b, l, a, G, xs, rfl, hS, hl, wd, q⟩ := h
  refine ⟨_, (pss_cons (ps_set (i := 2) sc_l_mixed.nd rfl (Or.inl rfl) (pe_lst pa_nil))
    (pss_cons (ps_for PassesOwn.never rfl (pi_list_K (K := K) (by rfl) (pv 1)) (pg_name (i := 3) sc_l_mixed.nd rfl (Or.inl rfl))
      (pss_one (ps_expr (pe_bm_K (K := K) (by rfl) PySem.F.plainAttrs_list PySem.F.slot_list_insert PySem.F.type_list_insert mt_insert (pv 2) (pa_cons (pe_call G_l_draw (hr.mono (by decide)) (by rfl) T.d_l_draw.g T.d_l_draw.kp T.d_l_draw.b .nil pass0 (pa_cons (pv 0) (pa_cons (pe_op op_add (pe_callB (call_len_seq_K (K := K) (by rfl)) (by rfl) T.b_len PySem.boot_len (pa_cons (pv 2) pa_nil)) pe_int) pa_nil))) (pa_cons (pv 3) pa_nil))))))
    (pss_one (ps_ret (pv 2))))), ?_⟩
  refine ⟨Nat.zero_le _, fun p np => ?_⟩
  have gp : G p = none := wd.free np
  refine ⟨_, rfl, a, rfl, ⟨_, (wd.sm.trans (same_new np)).seq hS⟩, for_it walk_list (fun i σ H' => ∃ v3 G' ys, σ = [some (.ref b), some (.ref a), some (.ref p), v3] ∧ Same G G' ∧ Wd b l G' H' ∧ G' p = some (.lst ys) ∧ ys.Perm (xs.take i))
    ⟨none, _, [], rfl, same_new gp, wd.new np, upd_same, .nil⟩ (fun i σ H' _ ⟨_, _, _, _, e, w', _⟩ => (e.trans w'.sm).seq hS) ?_ ?_⟩
  · rintro i x σ H' H'' hi ⟨v3, G', ys, rfl, sg, w1, hp, pm⟩ ⟨rfl, ex⟩
    have ly : ys.length = i := by
      rw [pm.length_eq, List.length_take]
      omega
    refine ⟨_, rfl, .inl ⟨rfl, _, SqL.of (w1.sm _ _ hp)⟩, _, rfl, _, rfl, p, ys, rfl, .inl (SqL.of (w1.sm _ _ hp)), _, _, rfl, rfl, b, l, G', _, rfl, by omega, by omega, w1, fun r H1 r0 r1 w2 => ?_⟩
    refine ⟨_, rfl, p, ys, r, x, rfl, rfl, w2.sm _ _ hp, lt_line (by omega), r0, by omega, ?_⟩
    refine ⟨_, _, ys.take r.toNat ++ [x] ++ ys.drop r.toNat, rfl, same_mut sg gp, w2.mut hp, upd_same, ?_⟩
    have e : xs.take (i + 1) = xs.take i ++ [x] := by rw [List.take_add_one, ex]; rfl
    rw [e]
    have k : (ys.take r.toNat ++ [x] ++ ys.drop r.toNat).Perm (ys.take r.toNat ++ ys.drop r.toNat ++ [x]) := by
      rw [List.append_assoc, List.append_assoc]
      exact List.Perm.append_left _ List.perm_append_comm
    rw [List.take_append_drop] at k
    exact k.trans (pm.append_right [x])
  · rintro σ H' ⟨v3, G', ys, rfl, sg, w1, hp, pm⟩
    rw [List.take_length] at pm
    exact ⟨_, rfl, q G' H' p ys sg w1 hp pm⟩
theorem ok_words (T : Top K mg) : FnOk P w K mg base CX0 3 T.a_l_words T.fd_l_words ["_law_bag_here", "_law_many"] spWords5 := by
  have G_l_draw := ok_draw (P := P) (w := w) (base := base) T
  have G_l_any := ok_any (P := P) (w := w) (base := base) T
  refine T.d_l_words.F.ok sc_l_words (fun vs H Q E h => ?_) (fun cdv A outer s H vs Q E hr h => ?_)
  · obtain ⟨b, l, G, n, rfl, _⟩ := h
    rfl
  obtain ⟨b, l, G, n, rfl, n0, n3, wd, q⟩ := h
  refine ⟨_, (pss_cons (ps_set (i := 2) sc_l_words.nd rfl (Or.inr rfl) (pe_call G_l_any (hr.mono (by decide)) (by rfl) T.d_l_any.g T.d_l_any.kp T.d_l_any.b .nil pass0 (pa_cons (pv 0) (pa_cons (pe_lst (pa_cons pe_str (pa_cons pe_str (pa_cons pe_str (pa_cons pe_str (pa_cons pe_str pa_nil)))))) pa_nil))))
    (pss_cons (ps_asg (pe_tup (pa_cons (pe_call G_l_draw (hr.mono (by decide)) (by rfl) T.d_l_draw.g T.d_l_draw.kp T.d_l_draw.b .nil pass0 (pa_cons (pv 0) (pa_cons (pe_op op_add (pe_callB call_len_str (by rfl) T.b_len PySem.boot_len (pa_cons (pv 2) pa_nil)) pe_int) pa_nil))) (pa_cons (pe_call G_l_draw (hr.mono (by decide)) (by rfl) T.d_l_draw.g T.d_l_draw.kp T.d_l_draw.b .nil pass0 (pa_cons (pv 0) (pa_cons pe_int pa_nil))) pa_nil))) (pg_tup_K (K := K) (by rfl) (n := 2) (by rfl) (pgs_cons (pg_name (i := 3) sc_l_words.nd rfl (Or.inr rfl)) (pgs_cons (pg_name (i := 4) sc_l_words.nd rfl (Or.inr rfl)) pgs_nil))))
    (pss_cons (ps_set (i := 5) sc_l_words.nd rfl (Or.inr rfl) pe_str)
    (pss_one (ps_ret (pe_lc (own := [("_law_k", 6)]) rfl sc_l_words.nd (pi_range1 rfl T.b_range (pa_cons (pv 1) pa_nil)) (blkOk_by (own := [("_law_k", 6)]) (N := ["_law_bag_here", "_law_many", "_law_tail", "_law_at", "_law_start", "_law_letters", "_law_k"]) (sc := defScope s_l_words) (by decide +kernel)) (fun _ _ _ _ _ => by exact (pg_name (i := 6) sc_l_words.nd rfl (Or.inl rfl))) (fun _ _ _ _ _ => by exact pts_nil) (fun _ _ _ _ _ => by exact (pe_op op_add_str (pe_op op_add_str (pe_slice sl_str (pv 2) po_none (po_some (pv 3))) (pe_ix ix_str (pv 5) (pe_op op_mod (pe_callTy call_int1 (by rfl) T.b_int (by decide +kernel) (pa_cons (pe_op op_add (pv 4) (pe_op op_mul pe_int (pv 6))) pa_nil)) pe_int) (fun _ _ => rfl))) (pe_slice sl_str (pv 2) (po_some (pv 3)) po_none))))))))), ?_⟩
  refine ⟨_, rfl, (by show 5 ≤ sizeLine; decide), fun p np => ?_⟩
  refine ⟨b, l, p, upd G p (.lst (tails.map V.str)), tails.map V.str, rfl, .inl (SqL.of upd_same), (fun z => by cases z), by decide, wd.new np, fun x H1 hx w1 => ?_⟩
  have s1 : Same G (upd G p (.lst (tails.map V.str))) := wd.sameG np
  obtain ⟨z, hz, rfl⟩ := List.mem_map.mp hx
  obtain ⟨z1, z2⟩ := tails_ok z hz
  refine ⟨_, rfl, _, rfl, z, rfl, le_line (by omega), _, _, rfl, rfl, b, l, _, _, rfl, by omega, by omega, w1, fun k H2 k0 k1 w2 => ?_⟩
  refine ⟨_, rfl, b, l, _, 26, rfl, by decide, by decide, w2, fun st H3 t0 t1 w3 => ?_⟩
  refine ⟨(by show 2 ≤ sizeLine; decide), fun t nt => ?_⟩
  have w4 := w3.new (o := .tup [.int k, .int st]) nt
  have s2 := s1.trans (w3.sameG (o := .tup [.int k, .int st]) nt)
  refine ⟨t, _, rfl, .inl (.inl upd_same), rfl, _, _, rfl, _, _, rfl, rfl, ?_⟩
  obtain ⟨kn, rfl⟩ : ∃ m : Nat, k = (m : Int) := ⟨k.toNat, by omega⟩
  have hk : kn ≤ z.length := by omega
  refine ⟨_, rfl, n, rfl, by omega, by omega, fun D nD => ?_⟩
  have gD := w4.free nD
  refine lc_it walk_range (fun i H' => ∃ G', Same G G' ∧ Wd b l G' H' ∧ G' D = some (.lst ((wordsOf z kn st i).map V.str))) ⟨_, s2.trans (w4.sameG nD), w4.new nD, upd_same⟩ (fun _ _ _ _ => True.intro) ?_ ?_
  · rintro i v H' H'' hi ⟨G', sg, w5, hD⟩ ⟨rfl, rfl⟩
    refine ⟨rfl, ?_⟩
    have a0 : (0 : Int) + (i : Int) = (i : Int) := by omega
    have ln1 : (cutS z none (some (kn : Int))).length ≤ z.length := cutS_length z _ _
    have ln2 : (cutS z (some (kn : Int)) none).length ≤ z.length := cutS_length z _ _
    have m0 := Int.emod_nonneg (st + 5 * ((0 : Int) + (i : Int))) (show (26 : Int) ≠ 0 by decide)
    have m1 := Int.emod_lt_of_pos (st + 5 * ((0 : Int) + (i : Int))) (show (0 : Int) < 26 by decide)
    refine ⟨_, rfl, _, rfl, _, rfl, z, rfl, le_line (by omega), _, rfl, _, rfl, _, rfl, _, _, rfl, rfl, .inl ⟨by decide, by decide⟩, _, _, rfl, rfl, .inl ⟨_, rfl, _, _, rfl, rfl, (show (0 : Int) < 26 by decide), letters, _, _, rfl, rfl, le_line (by decide +kernel), letters_at m0 m1, ?_⟩⟩
    refine ⟨_, _, rfl, rfl, ?_, _, rfl, _, rfl, _, rfl, z, rfl, le_line (by omega), _, _, rfl, rfl, ?_, _, w5.sm _ _ hD, ?_, ?_⟩
    · exact le_line (by show _ + 1 ≤ _; omega)
    · refine le_line ?_
      have e : (cutS z none (some (kn : Int)) ++ (⟨#[97 + ((st + 5 * ((0 : Int) + (i : Int))) % 26).toNat]⟩ : Str)).length = (cutS z none (some (kn : Int))).length + 1 := by
        show ((cutS z none (some (kn : Int))).cps ++ #[_]).size = _
        rw [Array.size_append]
        rfl
      rw [e]
      omega
    · rw [List.length_map, wordsOf_len]
      exact lt_line (by omega)
    · refine ⟨_, same_mut sg (s2.free gD), w5.mut hD, ?_⟩
      rw [upd_same]
      have e : wordsOf z kn st (i + 1) = wordsOf z kn st i ++ [wordK z kn (97 + ((st + 5 * (i : Int)) % 26).toNat)] := by
        unfold wordsOf
        rw [List.range_succ, List.map_append]
        rfl
      rw [e, List.map_append, a0]
      rfl
  · rintro H' ⟨G', sg, w5, hD⟩
    exact q G' H' D _ sg w5 hD wordsOf_len (wordsOf_nodup4 hk (by omega)) fun w hw => ⟨wordsOf_nm hz hk w hw, wordsOf_noz hz hk w hw⟩
theorem ok_options (T : Top K mg) : FnOk P w K mg base CX0 3 T.a_l_options T.fd_l_options ["_law_bag_here", "_law_many"] (spOptions K) := by
  have G_l_mixed := ok_mixed (P := P) (w := w) (base := base) T
  refine T.d_l_options.F.ok sc_l_options (fun vs H Q E h => ?_) (fun cdv A outer s H vs Q E hr h => ?_)
  · obtain ⟨b, l, G, n, rfl, _⟩ := h
    rfl
  obtain ⟨b, l, G, n, rfl, n2, n6, wd, q⟩ := h
  refine ⟨_, (pss_cons (ps_set (i := 2) sc_l_options.nd rfl (Or.inl rfl) (pe_lst (pa_cons pe_str (pa_cons pe_str (pa_cons pe_str (pa_cons pe_str (pa_cons pe_str (pa_cons pe_str (pa_cons pe_str (pa_cons pe_str (pa_cons pe_str (pa_cons pe_str pa_nil))))))))))))
    (pss_one (ps_ret (pe_callTy (call_tuple_of_P (K := K) (by rfl)) (by rfl) T.b_tuple (by decide +kernel) (pa_cons (pe_slice (sl_list_K (K := K) (by rfl)) (pe_call G_l_mixed (hr.mono (by decide)) (by rfl) T.d_l_mixed.g T.d_l_mixed.kp T.d_l_mixed.b .nil pass0 (pa_cons (pv 0) (pa_cons (pv 2) pa_nil))) po_none (po_some (pv 1))) pa_nil))))), ?_⟩
  refine ⟨(by show 10 ≤ sizeLine; decide), fun p np => ?_⟩
  refine ⟨_, rfl, _, rfl, b, l, p, upd G p (.lst (pool.map V.str)), pool.map V.str, rfl, SqL.of upd_same, by decide, wd.new np, fun G1 H1 p1 ys s1 w1 h1 pm => ?_⟩
  have s0 := (wd.sameG (o := .lst (pool.map V.str)) np).trans s1
  obtain ⟨zs, pz, rfl⟩ := perm_strs pm
  refine ⟨_, rfl, _, rfl, _, _, rfl, SqL.of (w1.sm _ _ h1), fun c nc => ?_⟩
  rw [cutV_take _ (by omega), ← List.map_take]
  have w2 := w1.new (o := .lst ((zs.take n.toNat).map V.str)) nc
  refine ⟨c, _, rfl, .inl ⟨SqL.of upd_same, fun t o nt ho => ?_⟩⟩
  have w3 := w2.new (o := .frz o (.tup ((zs.take n.toNat).map V.str))) nt
  have lz : zs.length = 10 := pz.length_eq
  refine q _ _ t (zs.take n.toNat) ((s0.trans (w1.sameG nc)).trans (w2.sameG nt)) w3 (SqP.new ho) (by rw [List.length_take]; omega) ((pz.nodup_iff.mpr pool_nodup).sublist (List.take_sublist _ _)) fun o' h' => pz.mem_iff.mp (List.mem_of_mem_take h')
theorem ok_fields (T : Top K mg) : FnOk P w K mg base CX0 4 T.a_l_fields T.fd_l_fields ["_law_bag_here", "_law_room"] (spFields5 K) := by
  have G_l_draw := ok_draw (P := P) (w := w) (base := base) T
  have G_l_words := ok_words (P := P) (w := w) (base := base) T
  have G_l_options := ok_options (P := P) (w := w) (base := base) T
  refine T.d_l_fields.F.ok sc_l_fields (fun vs H Q E h => ?_) (fun cdv A outer s H vs Q E hr h => ?_)
  · obtain ⟨b, l, G, rfl, _⟩ := h
    rfl
  obtain ⟨b, l, G, rfl, wd, q⟩ := h
  refine ⟨_, (pss_cons (ps_par3 (i := 2) (j := 3) (l := 4) (by rfl) sc_l_fields.nd rfl rfl rfl (by decide) (by decide) (by decide) rfl rfl rfl (pa_cons (pe_call G_l_words (hr.mono (by decide)) (by rfl) T.d_l_words.g T.d_l_words.kp T.d_l_words.b .nil pass0 (pa_cons (pv 0) (pa_cons pe_int pa_nil))) (pa_cons (pe_lst pa_nil) (pa_cons (pv 1) pa_nil))) (by rfl))
    (pss_cons (ps_for PassesOwn.never rfl (pi_range1 rfl T.b_range (pa_cons (pe_op op_add pe_int (pe_call G_l_draw (hr.mono (by decide)) (by rfl) T.d_l_draw.g T.d_l_draw.kp T.d_l_draw.b .nil pass0 (pa_cons (pv 0) (pa_cons pe_int pa_nil)))) pa_nil)) (pg_name (i := 5) sc_l_fields.nd rfl (Or.inl rfl))
      (pss_one (ps_if (PW.pt (pw_or (pt_cmpR op_ge (pv 4) pe_int (nomark _)) (pw_or1 (pt_cmpR (op_eqP (K := K) (by rfl) hr.units) (pv 3) (pe_lst pa_nil) (nomark _))))) (pss_cons (ps_set (i := 6) sc_l_fields.nd rfl (Or.inl rfl) (pe_op op_add pe_int (pe_call G_l_draw (hr.mono (by decide)) (by rfl) T.d_l_draw.g T.d_l_draw.kp T.d_l_draw.b .nil pass0 (pa_cons (pv 0) (pa_cons (pe_callB (call_min2 rfl) (by rfl) T.b_min (by decide +kernel) (pa_cons pe_int (pa_cons (pe_callB (call_max2 rfl) (by rfl) T.b_max (by decide +kernel) (pa_cons pe_int (pa_cons (pe_op op_sub (pv 4) pe_int) pa_nil))) pa_nil))) pa_nil)))))
        (pss_cons (ps_expr (pe_bm_K (K := K) (by rfl) PySem.F.plainAttrs_list PySem.F.slot_list_append PySem.F.type_list_append mt_append (pv 3) (pa_cons (pe_tup (pa_cons (pe_ix (ix_list_K (K := K) (by rfl)) (pv 2) (pv 5) (fun _ _ => rfl)) (pa_cons (pe_call G_l_options (hr.mono (by decide)) (by rfl) T.d_l_options.g T.d_l_options.kp T.d_l_options.b .nil pass0 (pa_cons (pv 0) (pa_cons (pv 6) pa_nil))) pa_nil))) pa_nil)))
        (pss_one (ps_set (i := 4) sc_l_fields.nd rfl (Or.inl rfl) (pe_op op_fdiv (pv 4) (pv 6)))))) pss_nil)))
    (pss_one (ps_ret (pv 3))))), ?_⟩
  refine ⟨_, rfl, b, l, G, 3, rfl, by decide, by decide, wd, fun G1 H1 p ws s1 w1 h1 lw ndw nmw => ?_⟩
  refine ⟨Nat.zero_le _, fun pf nf => ?_⟩
  have g1f : G pf = none := s1.free (w1.free nf)
  have w2 := w1.new (o := .lst []) nf
  have s2 := s1.trans (w1.sameG (o := .lst []) nf)
  have h1' : (upd G1 pf (.lst [])) p = some (.lst (ws.map V.str)) := by
    rw [upd_ne (ne_of_none h1 (w1.free nf))]
    exact h1
  have hpf : p ≠ pf := ne_of_none h1 (w1.free nf)
  refine ⟨_, rfl, _, _, _, rfl, ?_⟩
  refine ⟨_, rfl, b, l, _, 3, rfl, by decide, by decide, w2, fun r H4 r0 r1 w4 => ?_⟩
  refine ⟨_, _, rfl, rfl, _, rfl, by omega, by omega, ?_⟩
  refine for_it walk_range (fun i σ H' => ∃ x5 x6 G' xs fs left, σ = [some (.ref b), some (.int 24), some (.ref p), some (.ref pf), some (.int left), x5, x6] ∧ Same G G' ∧ Wd b l G' H' ∧ G' pf = some (.lst xs) ∧ Paired (FdAt K G') xs fs ∧
      G' p = some (.lst (ws.map V.str)) ∧ fs.length ≤ i ∧ (0 < i → fs ≠ []) ∧ (fs ≠ [] ∨ 2 ≤ left) ∧ (∀ f ∈ fs, ∃ j, j < i ∧ ws[j]? = some f.1) ∧ (fs.map (·.1)).Nodup ∧ (∀ f ∈ fs, f.2.Nodup ∧ 2 ≤ f.2.length ∧ f.2.length ≤ 6 ∧ ∀ o ∈ f.2, o ∈ pool) ∧ ((vals fs).length : Int) * left ≤ 24 ∧ 1 ≤ left)
    ⟨none, none, _, [], [], 24, rfl, s2, w4, upd_same, .nil, h1', Nat.le_refl _, fun z => absurd z (Nat.lt_irrefl _), .inr (by decide), (fun f hf => by cases hf), .nil, (fun f hf => by cases hf), by decide, by decide⟩ (fun _ _ _ _ _ => True.intro) ?_ ?_
  · rintro i v σ H' H'' hi ⟨x5, x6, G', xs, fs, left, rfl, sg, w5, hx, hp, hw, hl, hne, hor, hj, nd, hos, hz, hz1⟩ ⟨rfl, rfl⟩
    have hi3 : i < 3 := by omega
    have lxs := fds_len hp
    have hwi : ws[i]? = some ws[i] := List.getElem?_eq_getElem (by rw [lw]; exact hi3)
    have body : 2 ≤ left → True := fun _ => True.intro
    refine ⟨_, rfl, _, _, rfl, rfl, _, rfl, ite3 (fun h2 => ?_) (fun h2 => ?_)⟩
    · refine ⟨_, rfl, _, rfl, _, _, rfl, rfl, _, _, rfl, _, _, rfl, b, l, G', _, rfl, (min_max_bound _).1, by have := (min_max_bound (left - 1)).2; omega, w5, fun r5 H5 r50 r51 w6 => ?_⟩
      have r6 := (min_max_bound (left - 1)).2
      have r7 := room_lt h2 r51
      obtain ⟨z1, z2⟩ := room_next (Int.natCast_nonneg _) hz (show 1 ≤ 2 + r5 by omega) r7
      refine ⟨_, _, rfl, rfl, ?_⟩
      refine ⟨_, rfl, .inl ⟨rfl, _, SqL.of (w6.sm _ _ hx)⟩, _, rfl, _, rfl, p, _, _, .str ws[i], rfl, rfl, SqL.of (w6.sm _ _ hw), at_nn (by omega) (by rw [show ((0 : Int) + (i : Int)).toNat = i by omega, List.getElem?_map, hwi]; rfl), ?_⟩
      refine ⟨_, rfl, _, rfl, b, l, G', 2 + r5, rfl, by omega, by omega, w6, fun G7 H7 po os s7 w7 hP7 lo ndo hpo => ?_⟩
      refine ⟨(by show 2 ≤ sizeLine; decide), fun t7 nt7 => ?_⟩
      have w8 := w7.new (o := .tup [.str ws[i], .ref po]) nt7
      have s8 := s7.trans (w7.sameG (o := .tup [.str ws[i], .ref po]) nt7)
      have hx8 := s8 _ _ hx
      refine ⟨pf, xs, _, rfl, rfl, w8.sm _ _ hx8, lt_line (by omega), ?_⟩
      refine ⟨_, rfl, _, rfl, _, _, rfl, rfl, ⟨by omega, by omega⟩, ?_⟩
      have hfd : FdAt K (upd (upd G7 t7 (.tup [.str ws[i], .ref po])) pf (.lst (xs ++ [.ref t7]))) (.ref t7) (ws[i], os) := by
        have nf7 : t7 ≠ pf := fun z => by
          have k := s7 _ _ hx
          rw [← z, w7.free nt7] at k
          cases k
        refine ⟨t7, po, rfl, .inl (.inl ?_), ?_⟩
        · rw [upd_ne nf7]
          exact upd_same
        · have k := hP7.mono (w7.sameG (o := .tup [.str ws[i], .ref po]) nt7)
          rcases k with ⟨o, k, ko⟩ | k
          · refine .inl ⟨o, ?_, ko⟩
            rw [upd_ne (ne_of k hx8 (by intro z; cases z))]
            exact k
          · exact .inr k
      have hp8 : Paired (FdAt K (upd (upd G7 t7 (.tup [.str ws[i], .ref po])) pf (.lst (xs ++ [.ref t7])))) xs fs := by
        have key : ∀ {ys : List V} {gs : List Fld}, Paired (FdAt K G') ys gs → Paired (FdAt K (upd (upd G7 t7 (.tup [.str ws[i], .ref po])) pf (.lst (xs ++ [.ref t7])))) ys gs := by
          intro ys gs k
          induction k with
          | nil => exact .nil
          | cons h _ ih =>
            refine .cons ?_ ih
            obtain ⟨a', o', e', k1, k2⟩ := h.mono s8
            refine ⟨a', o', e', ?_, ?_⟩
            · rcases k1 with (k1 | ⟨u, k1⟩) | k1
              · exact .inl (.inl (by rw [upd_ne (ne_of k1 hx8 (by intro z; cases z))]; exact k1))
              · exact .inl (.inr ⟨u, by rw [upd_ne (ne_of k1 hx8 (by intro z; cases z))]; exact k1⟩)
              · exact .inr k1
            · rcases k2 with ⟨u, k2, ku⟩ | k2
              · exact .inl ⟨u, by rw [upd_ne (ne_of k2 hx8 (by intro z; cases z))]; exact k2, ku⟩
              · exact .inr k2
        exact key hp
      refine ⟨_, _, _, _, fs ++ [(ws[i], os)], _, rfl, same_mut (sg.trans s8) g1f, w8.mut hx8, upd_same, fds_snoc hp8 hfd, ?_, ?_, fun _ z => by simp at z, .inl (by simp), ?_, ?_, ?_⟩
      · rw [upd_ne hpf]
        exact s8 _ _ hw
      · rw [List.length_append]
        exact Nat.succ_le_succ hl
      · intro f hf
        rcases List.mem_append.mp hf with hf | hf
        · obtain ⟨j, h1, h2⟩ := hj f hf
          exact ⟨j, by omega, h2⟩
        · cases List.mem_singleton.mp hf
          exact ⟨i, by omega, hwi⟩
      · rw [List.map_append]
        refine List.nodup_append.mpr ⟨nd, by simp, fun x hx1 y hy e => ?_⟩
        obtain ⟨f, hf, rfl⟩ := List.mem_map.mp hx1
        have ey : y = ws[i] := by simpa using hy
        obtain ⟨j, h1, h2⟩ := hj f hf
        rw [e, ey] at h2
        have := nd_ix ndw h2 hwi
        omega
      · refine ⟨fun f hf => ?_, ?_⟩
        rotate_left
        · rw [vals_snoc, Int.natCast_mul, show ((ws[i], os) : Fld).2.length = (2 + r5).toNat from lo, Int.toNat_of_nonneg (by omega)]
          exact ⟨z1, z2⟩
        rcases List.mem_append.mp hf with hf | hf
        · exact hos f hf
        · cases List.mem_singleton.mp hf
          exact ⟨ndo, by rw [lo]; omega, by rw [lo]; omega, hpo⟩
    · have hnn : fs ≠ [] := hor.resolve_right h2
      refine ⟨_, rfl, Nat.zero_le _, fun e ne => ?_⟩
      have w6 := w5.new (o := .lst []) ne
      have s6 := w5.sameG (o := .lst []) ne
      refine ⟨.list (fs.map dF), .list [], .lst (SqL.of (w6.sm _ _ (s6 _ _ hx))) (DpAll.mono (s6.trans w6.sm) (fds_dp hp)), .lst (SqL.of upd_same) .nil, ?_, _, rfl, ?_⟩
      · exact Nat.le_trans (Nat.min_le_right _ _) (by decide)
      have ev : PyData.eqv (.list (fs.map dF)) (.list []) = false := by
        cases fs with
        | nil => exact absurd rfl hnn
        | cons f r => rfl
      rw [ev]
      exact ⟨_, _, _, _, fs, left, rfl, sg.trans s6, w6, s6 _ _ hx, fds_mono s6 hp, s6 _ _ hw, by omega, fun _ => hnn, .inl hnn, (fun f hf => by obtain ⟨j, h1, h2⟩ := hj f hf; exact ⟨j, by omega, h2⟩), nd, hos, hz, hz1⟩
  · rintro σ H' ⟨x5, x6, G', xs, fs, left, rfl, sg, w5, hx, hp, hw, hl, hne, hor, hj, nd, hos, hz, hz1⟩
    refine ⟨_, rfl, q G' H' pf xs fs sg w5 hx hp ⟨⟨?_, by omega, nd, fun f hf => ?_, hos⟩, ?_⟩⟩
    · exact List.length_pos_iff.mpr (hne (by omega))
    · obtain ⟨j, h1, h2⟩ := hj f hf
      exact (nmw _ (List.mem_of_getElem? h2)).1
    · have z := Int.mul_le_mul_of_nonneg_left hz1 (Int.natCast_nonneg (vals fs).length)
      omega
end
end Bh

set_option Elab.async false
set_option linter.all false
set_option maxRecDepth 100000
set_option maxHeartbeats 1000000
namespace Bh
open PySem PySem.Spec PyProof.Rows L2
section
variable {P : Program} {w : World} {K : PySem.W.Frag} {mg : Str → Option Value} {base : Heap}
theorem ok_case (T : Top K mg) : FnOk P w K mg base CX0 3 T.a_l_case T.fd_l_case ["_law_bag_here", "_law_fields_z"] (spCase K) := by
  have G_l_draw := ok_draw (P := P) (w := w) (base := base) T
  have G_l_any := ok_any (P := P) (w := w) (base := base) T
  refine T.d_l_case.F.ok sc_l_case (fun vs H Q E h => ?_) (fun cdv A outer s H vs Q E hr h => ?_)
  · obtain ⟨b, l, a, G, xs, fs, rfl, _⟩ := h
    rfl
  obtain ⟨b, l, a, G, xs, fs, rfl, hS, hF, ok, wd, q⟩ := h
  refine ⟨_, (pss_cons (ps_par (i := 2) (j := 3) (by rfl) sc_l_case.nd rfl rfl (by decide) rfl rfl (pa_cons (pe_lst pa_nil) (pa_cons (pe_lst pa_nil) pa_nil)) (by rfl))
    (pss_cons (ps_for PassesOwn.never rfl (pi_range1 rfl T.b_range (pa_cons (pe_call G_l_draw (hr.mono (by decide)) (by rfl) T.d_l_draw.g T.d_l_draw.kp T.d_l_draw.b .nil pass0 (pa_cons (pv 0) (pa_cons pe_int pa_nil))) pa_nil)) (pg_name (i := 4) sc_l_case.nd rfl (Or.inl rfl))
      (pss_cons (ps_asg (pe_call G_l_any (hr.mono (by decide)) (by rfl) T.d_l_any.g T.d_l_any.kp T.d_l_any.b .nil pass0 (pa_cons (pv 0) (pa_cons (pv 1) pa_nil))) (pg_tup_K (K := K) (by rfl) (n := 2) (by rfl) (pgs_cons (pg_name (i := 5) sc_l_case.nd rfl (Or.inl rfl)) (pgs_cons (pg_name (i := 6) sc_l_case.nd rfl (Or.inl rfl)) pgs_nil))))
      (pss_one (ps_expr (pe_bm_K (K := K) (by rfl) PySem.F.plainAttrs_list PySem.F.slot_list_append PySem.F.type_list_append mt_append (pv 2) (pa_cons (pe_tup (pa_cons (pv 5) (pa_cons (pe_call G_l_any (hr.mono (by decide)) (by rfl) T.d_l_any.g T.d_l_any.kp T.d_l_any.b .nil pass0 (pa_cons (pv 0) (pa_cons (pe_lst (pa_cons pe_str (pa_cons pe_str (pa_cons pe_str (pa_cons pe_str pa_nil))))) pa_nil))) (pa_cons (pe_call G_l_any (hr.mono (by decide)) (by rfl) T.d_l_any.g T.d_l_any.kp T.d_l_any.b .nil pass0 (pa_cons (pv 0) (pa_cons (pv 6) pa_nil))) pa_nil)))) pa_nil))))))
    (pss_cons (ps_for PassesOwn.never rfl (pi_range1 rfl T.b_range (pa_cons (pe_call G_l_draw (hr.mono (by decide)) (by rfl) T.d_l_draw.g T.d_l_draw.kp T.d_l_draw.b .nil pass0 (pa_cons (pv 0) (pa_cons pe_int pa_nil))) pa_nil)) (pg_name (i := 4) sc_l_case.nd rfl (Or.inl rfl))
      (pss_cons (ps_asg (pe_call G_l_any (hr.mono (by decide)) (by rfl) T.d_l_any.g T.d_l_any.kp T.d_l_any.b .nil pass0 (pa_cons (pv 0) (pa_cons (pv 1) pa_nil))) (pg_tup_K (K := K) (by rfl) (n := 2) (by rfl) (pgs_cons (pg_name (i := 5) sc_l_case.nd rfl (Or.inl rfl)) (pgs_cons (pg_name (i := 6) sc_l_case.nd rfl (Or.inl rfl)) pgs_nil))))
      (pss_one (ps_expr (pe_bm_K (K := K) (by rfl) PySem.F.plainAttrs_list PySem.F.slot_list_append PySem.F.type_list_append mt_append (pv 3) (pa_cons (pe_tup (pa_cons (pv 5) (pa_cons (pe_call G_l_any (hr.mono (by decide)) (by rfl) T.d_l_any.g T.d_l_any.kp T.d_l_any.b .nil pass0 (pa_cons (pv 0) (pa_cons (pe_op op_cat (pe_lst (pa_cons pe_str pa_nil)) (pe_callTy (call_list_of_K (K := K) (by rfl)) (by rfl) T.b_list (by decide +kernel) (pa_cons (pv 6) pa_nil))) pa_nil))) pa_nil))) pa_nil))))))
    (pss_one (ps_ret (pe_tup (pa_cons (pe_callTy (call_tuple_of_P (K := K) (by rfl)) (by rfl) T.b_tuple (by decide +kernel) (pa_cons (pv 2) pa_nil)) (pa_cons (pe_ifExp (pt_cmpR op_eq (pe_call G_l_draw (hr.mono (by decide)) (by rfl) T.d_l_draw.g T.d_l_draw.kp T.d_l_draw.b .nil pass0 (pa_cons (pv 0) (pa_cons pe_int pa_nil))) pe_int (nomark _)) pe_non (pe_callTy (call_tuple_of_P (K := K) (by rfl)) (by rfl) T.b_tuple (by decide +kernel) (pa_cons (pv 3) pa_nil))) pa_nil)))))))), ?_⟩
  have lxs := fds_len hF
  have xne : xs ≠ [] := fun z => by
    have := ok.ne
    rw [← lxs, z] at this
    cases this
  have xle : xs.length ≤ 100000 := by
    have := ok.le
    omega
  refine ⟨Nat.zero_le _, fun pt npt => ?_⟩
  have w1 := wd.new (o := .lst []) npt
  have gpt := wd.free npt
  refine ⟨Nat.zero_le _, fun ps nps => ?_⟩
  have w2 := w1.new (o := .lst []) nps
  have gps1 := w1.free nps
  have pts : pt ≠ ps := ne_of_none upd_same gps1
  have gps : G ps = none := by
    rw [upd_ne pts.symm] at gps1
    exact gps1
  have sG : ∀ {G' : Hp}, Same G G' → Same G (hid ps (hid pt G')) := fun e => hid_of (hid_of e gpt) gps
  refine ⟨_, _, rfl, ?_⟩
  refine ⟨_, rfl, b, l, _, 3, rfl, by decide, by decide, w2, fun r3 H3 r30 r31 w3 => ?_⟩
  refine ⟨_, rfl, by omega, by omega, ?_⟩
  refine for_it walk_range (fun i σ H' => ∃ x4 x5 x6 G' txs ts, σ = [some (.ref b), some (.ref a), some (.ref pt), some (.ref ps), x4, x5, x6] ∧ Same G (hid ps (hid pt G')) ∧ Wd b l G' H' ∧ G' pt = some (.lst txs) ∧ G' ps = some (.lst []) ∧
      DpAll K (hid ps (hid pt G')) txs (ts.map dT) ∧ ts.length = i ∧ ∀ t ∈ ts, FitT fs t ∧ t.2.1 ∈ signs)
    ⟨none, none, none, _, [], [], rfl, sG ((same_new gpt).trans (same_new gps1)), w3, (upd_ne pts).trans upd_same, upd_same, .nil, rfl, (fun t ht => by cases ht)⟩ (fun _ _ _ _ _ => True.intro) ?_ ?_
  · rintro i v σ H' H'' hi ⟨x4, x5, x6, G', txs, ts, rfl, sg, w4, hpt, hps, hD, lt, ht⟩ ⟨rfl, rfl⟩
    have sg' : Same G G' := sg.trans (hid_le.trans hid_le)
    refine ⟨_, rfl, _, rfl, b, l, a, G', xs, rfl, .inl (sg'.seq hS), xne, xle, w4, fun x H5 hx w5 => ?_⟩
    obtain ⟨f, hf, hfd⟩ := fds_mem hF hx
    obtain ⟨ta, oa, rfl, k1, k2⟩ := hfd
    have hfo := ok.os f hf
    have fit : ∀ o, o ∈ f.2 → f.1 ∈ fs.map (·.1) ∧ o ∈ optsOf fs f.1 := fun o ho => ⟨List.mem_map.mpr ⟨f, hf, rfl⟩, by rw [opts_of ok.nd hf]; exact ho⟩
    refine ⟨ta, _, rfl, Same.tup (sg'.trans w5.sm) k1, rfl, _, _, rfl, _, _, rfl, rfl, ?_⟩
    refine ⟨_, rfl, .inl ⟨rfl, _, SqL.of (w5.sm _ _ hpt)⟩, _, rfl, _, rfl, (by show 4 ≤ sizeLine; decide), fun p6 n6 => ?_⟩
    have w6 := w5.new (o := .lst (signs.map V.str)) n6
    have s6 := w5.sameG (o := .lst (signs.map V.str)) n6
    refine ⟨b, l, p6, _, signs.map V.str, rfl, .inl (SqL.of upd_same), (by simp [signs]), by decide, w6, fun y H7 hy w7 => ?_⟩
    obtain ⟨sg1, hsg, rfl⟩ := List.mem_map.mp hy
    have one : f.2 ≠ [] := fun z => by
      have := hfo.2.1
      rw [z] at this
      cases this
    have six : f.2.length ≤ 6 := hfo.2.2.1
    refine ⟨_, rfl, _, rfl, b, l, oa, _, f.2.map V.str, rfl, .inr (Same.tup (sg'.trans s6) k2.sqT), (by simpa using one), by rw [List.length_map]; omega, w7, fun y8 H8 hy8 w8 => ?_⟩
    obtain ⟨op, hop, rfl⟩ := List.mem_map.mp hy8
    refine ⟨(by show 3 ≤ sizeLine; decide), fun t nt => ?_⟩
    have w9 := w8.new (o := .tup [.str f.1, .str sg1, .str op]) nt
    have s9 := s6.trans (w8.sameG (o := .tup [.str f.1, .str sg1, .str op]) nt)
    have hpt9 := s9 _ _ hpt
    have hps9 := s9 _ _ hps
    have ltx : txs.length = i := by rw [DpAll.length hD, List.length_map, lt]
    refine ⟨pt, txs, _, rfl, rfl, w9.sm _ _ hpt9, lt_line (by omega), ?_⟩
    have ntp : t ≠ pt := fun z => by
      have k := s6 _ _ hpt
      rw [← z, w8.free nt] at k
      cases k
    have nts : t ≠ ps := fun z => by
      have k := s6 _ _ hps
      rw [← z, w8.free nt] at k
      cases k
    have sh : Same (hid ps (hid pt G')) (hid ps (hid pt (upd (upd (upd G' p6 (.lst (signs.map V.str))) t (.tup [.str f.1, .str sg1, .str op])) pt (.lst (txs ++ [.ref t]))))) := by
      rw [hid_upd]
      exact hid_same (hid_same s9)
    refine ⟨_, _, _, _, txs ++ [.ref t], ts ++ [(f.1, sg1, op)], rfl, sg.trans sh, w9.mut hpt9, upd_same, ?_, ?_, ?_, ?_⟩
    · rw [upd_ne pts.symm]
      exact hps9
    · rw [List.map_append]
      refine dpa_snoc (DpAll.mono sh hD) ?_
      refine .tup (xs := [.str f.1, .str sg1, .str op]) (.inl (.inl ?_)) (.cons (.str _) (.cons (.str _) (.cons (.str _) .nil)))
      rw [hid_ne nts, hid_ne ntp, upd_ne ntp, upd_same]
    · rw [List.length_append, lt]
      rfl
    · intro t' ht'
      rcases List.mem_append.mp ht' with h' | h'
      · exact ht t' h'
      · cases List.mem_singleton.mp h'
        exact ⟨fit op hop, hsg⟩
  · rintro σ H' ⟨x4, x5, x6, G', txs, ts, rfl, sg, w4, hpt, hps, hD, lt, ht⟩
    refine ⟨_, rfl, b, l, G', 3, rfl, by decide, by decide, w4, fun r5 H5 r50 r51 w5 => ?_⟩
    refine ⟨_, rfl, by omega, by omega, ?_⟩
    refine for_it walk_range (fun i σ H' => ∃ x4 x5 x6 G' sxs ss, σ = [some (.ref b), some (.ref a), some (.ref pt), some (.ref ps), x4, x5, x6] ∧ Same G (hid ps (hid pt G')) ∧ Wd b l G' H' ∧ G' pt = some (.lst txs) ∧ G' ps = some (.lst sxs) ∧
        DpAll K (hid ps (hid pt G')) txs (ts.map dT) ∧ DpAll K (hid ps (hid pt G')) sxs (ss.map dS) ∧ ss.length = i ∧ ∀ s ∈ ss, FitS fs s)
      ⟨x4, x5, x6, G', [], [], rfl, sg, w5, hpt, hps, hD, .nil, rfl, (fun t ht => by cases ht)⟩ (fun _ _ _ _ _ => True.intro) ?_ ?_
    · rintro i v σ H' H'' hi ⟨x4, x5, x6, G', sxs, ss, rfl, sg, w4, hpt, hps, hD, hE, ls, hs⟩ ⟨rfl, rfl⟩
      have sg' : Same G G' := sg.trans (hid_le.trans hid_le)
      refine ⟨_, rfl, _, rfl, b, l, a, G', xs, rfl, .inl (sg'.seq hS), xne, xle, w4, fun x H5 hx w5 => ?_⟩
      obtain ⟨f, hf, hfd⟩ := fds_mem hF hx
      obtain ⟨ta, oa, rfl, k1, k2⟩ := hfd
      have hfo := ok.os f hf
      have fit : ∀ o, o ∈ f.2 → f.1 ∈ fs.map (·.1) ∧ o ∈ optsOf fs f.1 := fun o ho => ⟨List.mem_map.mpr ⟨f, hf, rfl⟩, by rw [opts_of ok.nd hf]; exact ho⟩
      refine ⟨ta, _, rfl, Same.tup (sg'.trans w5.sm) k1, rfl, _, _, rfl, _, _, rfl, rfl, ?_⟩
      refine ⟨_, rfl, .inl ⟨rfl, _, SqL.of (w5.sm _ _ hps)⟩, _, rfl, _, rfl, (by show 1 ≤ sizeLine; decide), fun p6 n6 => ?_⟩
      have w6 := w5.new (o := .lst [.str "+"]) n6
      have s6 := w5.sameG (o := .lst [.str "+"]) n6
      refine ⟨_, rfl, oa, _, rfl, .inr (Same.tup (sg'.trans (s6.trans w6.sm)) k2.sqT), fun l7 n7 => ?_⟩
      have w7 := w6.new (o := .lst (f.2.map V.str)) n7
      have s7 := s6.trans (w6.sameG (o := .lst (f.2.map V.str)) n7)
      have six : f.2.length ≤ 6 := hfo.2.2.1
      refine ⟨p6, l7, [.str "+"], f.2.map V.str, rfl, rfl, (upd_ne (ne_of_none upd_same n7)).trans upd_same, upd_same, le_line (by rw [List.length_map]; show 1 + _ ≤ _; omega), fun c8 n8 => ?_⟩
      have w8 := w7.new (o := .lst ([.str "+"] ++ f.2.map V.str)) n8
      have s8 := s7.trans (w7.sameG (o := .lst ([.str "+"] ++ f.2.map V.str)) n8)
      refine ⟨b, l, c8, _, [.str "+"] ++ f.2.map V.str, rfl, .inl (SqL.of upd_same), (by simp), by rw [List.length_append, List.length_map]; show 1 + _ ≤ _; omega, w8, fun y H9 hy w9 => ?_⟩
      have hy' : ∃ o : Str, y = .str o ∧ (o ≠ "+" → o ∈ f.2) := by
        rcases List.mem_append.mp hy with h' | h'
        · exact ⟨"+", List.mem_singleton.mp h', fun z => absurd rfl z⟩
        · obtain ⟨o, ho, rfl⟩ := List.mem_map.mp h'
          exact ⟨o, rfl, fun _ => ho⟩
      obtain ⟨op, rfl, hop⟩ := hy'
      refine ⟨(by show 2 ≤ sizeLine; decide), fun t nt => ?_⟩
      have w10 := w9.new (o := .tup [.str f.1, .str op]) nt
      have s10 := s8.trans (w9.sameG (o := .tup [.str f.1, .str op]) nt)
      have hpt9 := s10 _ _ hpt
      have hps9 := s10 _ _ hps
      have ltx : sxs.length = i := by rw [DpAll.length hE, List.length_map, ls]
      refine ⟨ps, sxs, _, rfl, rfl, w10.sm _ _ hps9, lt_line (by omega), ?_⟩
      have ntp : t ≠ pt := fun z => by
        have k := s8 _ _ hpt
        rw [← z, w9.free nt] at k
        cases k
      have nts : t ≠ ps := fun z => by
        have k := s8 _ _ hps
        rw [← z, w9.free nt] at k
        cases k
      have sh : Same (hid ps (hid pt G')) (hid ps (hid pt (upd (upd (upd (upd (upd G' p6 (.lst [.str "+"])) l7 (.lst (f.2.map V.str))) c8 (.lst ([.str "+"] ++ f.2.map V.str))) t (.tup [.str f.1, .str op])) ps (.lst (sxs ++ [.ref t]))))) := by
        rw [hid_comm, hid_comm (p := ps) (q := pt), hid_upd]
        exact hid_same (hid_same s10)
      refine ⟨_, _, _, _, sxs ++ [.ref t], ss ++ [(f.1, op)], rfl, sg.trans sh, w10.mut hps9, ?_, upd_same, DpAll.mono sh hD, ?_, ?_, ?_⟩
      · rw [upd_ne pts]
        exact hpt9
      · rw [List.map_append]
        refine dpa_snoc (DpAll.mono sh hE) ?_
        refine .tup (xs := [.str f.1, .str op]) (.inl (.inl ?_)) (.cons (.str _) (.cons (.str _) .nil))
        rw [hid_ne nts, hid_ne ntp, upd_ne nts, upd_same]
      · rw [List.length_append, ls]
        rfl
      · intro s' hs'
        rcases List.mem_append.mp hs' with h' | h'
        · exact hs s' h'
        · cases List.mem_singleton.mp h'
          exact ⟨List.mem_map.mpr ⟨f, hf, rfl⟩, fun z => (fit op (hop z)).2⟩
    · rintro σ H' ⟨x4, x5, x6, G', sxs, ss, rfl, sg, w4, hpt, hps, hD, hE, ls, hs⟩
      have sg' : Same G G' := sg.trans (hid_le.trans hid_le)
      have hD' := DpAll.mono (hid_le.trans hid_le) hD
      have hE' := DpAll.mono (hid_le.trans hid_le) hE
      refine ⟨_, rfl, pt, txs, rfl, .inl ⟨SqL.of (w4.sm _ _ hpt), fun q1 o1 n1 d1 => ?_⟩⟩
      have w5 := w4.new (o := .frz o1 (.tup txs)) n1
      have s5 := w4.sameG (o := .frz o1 (.tup txs)) n1
      have tD : Dp K (upd G' q1 (.frz o1 (.tup txs))) (.ref q1) (.tuple (ts.map dT)) := .tup (SqP.new d1).sqT (DpAll.mono s5 hD')
      refine ⟨_, rfl, b, l, _, 5, rfl, by decide, by decide, w5, fun r6 H6 r60 r61 w6 => ⟨rfl, _, rfl, ite3 (fun e => ?_) (fun e => ?_)⟩⟩
      · refine ⟨(by show 2 ≤ sizeLine; decide), fun y ny => ?_⟩
        have w7 := w6.new (o := .tup [.ref q1, .non]) ny
        have s7 := w6.sameG (o := .tup [.ref q1, .non]) ny
        refine q _ _ _ (ts, none) (sg'.trans (s5.trans s7)) w7 (.tup (SqT.of upd_same) (.cons (Dp.mono s7 tD) (.cons .non .nil))) ⟨fun t h' => (ht t h').1, fun ss h' => (by cases h'), (by show ts.length ≤ 1000; omega), fun ss h' => (by cases h')⟩ (by show ts.length ≤ 2; omega) (fun ss h' => by cases h') fun t h' => (ht t h').2
      · refine ⟨_, rfl, ps, sxs, rfl, .inl ⟨SqL.of (w6.sm _ _ (s5 _ _ hps)), fun q2 o2 n2 d2 => ?_⟩⟩
        have w7 := w6.new (o := .frz o2 (.tup sxs)) n2
        have s7 := w6.sameG (o := .frz o2 (.tup sxs)) n2
        refine ⟨(by show 2 ≤ sizeLine; decide), fun y ny => ?_⟩
        have w8 := w7.new (o := .tup [.ref q1, .ref q2]) ny
        have s8 := w7.sameG (o := .tup [.ref q1, .ref q2]) ny
        refine q _ _ _ (ts, some ss) (sg'.trans (s5.trans (s7.trans s8))) w8 (.tup (SqT.of upd_same) (.cons (Dp.mono (s7.trans s8) tD) (.cons (Dp.mono s8 (.tup (SqP.new d2).sqT (DpAll.mono (s5.trans s7) hE'))) .nil))) ⟨fun t h' => (ht t h').1, fun ss' h' => (by cases h'; exact hs), (by show ts.length ≤ 1000; omega), fun ss' h' => (by cases h'; omega)⟩ (by show ts.length ≤ 2; omega) (fun ss' h' => by cases h'; omega) fun t h' => (ht t h').2
end
end Bh

set_option Elab.async false
set_option linter.all false
set_option maxRecDepth 100000
set_option maxHeartbeats 1000000
namespace Bh
open PySem PySem.Spec PyProof.Rows L2
section
variable {P : Program} {w : World} {K : PySem.W.Frag} {mg : Str → Option Value} {base : Heap}
theorem ok_program (T : Top K mg) : FnOk P w K mg base CX0 4 T.a_l_program T.fd_l_program ["_law_bag_here", "_law_fields_z", "_law_most"] (spProg K) := by
  have G_l_draw := ok_draw (P := P) (w := w) (base := base) T
  have G_l_case := ok_case (P := P) (w := w) (base := base) T
  refine T.d_l_program.F.ok sc_l_program (fun vs H Q E h => ?_) (fun cdv A outer s H vs Q E hr h => ?_)
  · obtain ⟨b, l, a, G, n, xs, fs, rfl, _⟩ := h
    rfl
  obtain ⟨b, l, a, G, n, xs, fs, rfl, hS, hF, ok, n0, n8, wd, q⟩ := h
  refine ⟨_, (pss_one (ps_ret (pe_callTy (call_tuple_of_P (K := K) (by rfl)) (by rfl) T.b_tuple (by decide +kernel) (pa_cons (pe_lc (own := [("_law_k", 3)]) rfl sc_l_program.nd (pi_range1 rfl T.b_range (pa_cons (pe_op op_add pe_int (pe_call G_l_draw (hr.mono (by decide)) (by rfl) T.d_l_draw.g T.d_l_draw.kp T.d_l_draw.b .nil pass0 (pa_cons (pv 0) (pa_cons (pv 2) pa_nil)))) pa_nil)) (blkOk_by (own := [("_law_k", 3)]) (N := ["_law_bag_here", "_law_fields_z", "_law_most", "_law_k"]) (sc := defScope s_l_program) (by decide +kernel)) (fun _ _ _ _ _ => by exact (pg_name (i := 3) sc_l_program.nd rfl (Or.inl rfl))) (fun _ _ _ _ _ => by exact pts_nil) (fun _ _ _ _ _ => by exact (pe_call G_l_case (hr.mono (by decide)) (by rfl) T.d_l_case.g T.d_l_case.kp T.d_l_case.b .nil pass0 (pa_cons (pv 0) (pa_cons (pv 1) pa_nil))))) pa_nil)))), ?_⟩
  refine ⟨_, rfl, _, rfl, b, l, G, n, rfl, n0, by omega, wd, fun r H1 r0 r1 w1 => ?_⟩
  refine ⟨_, _, rfl, rfl, _, rfl, by omega, by omega, fun D nD => ?_⟩
  have gD := w1.free nD
  refine lc_it walk_range (fun i H' => ∃ G' ys p, Same G G' ∧ Wd b l G' H' ∧ G' D = some (.lst ys) ∧ DpAll K G' ys (p.map dC) ∧ p.length = i ∧ ∀ c ∈ p, FitC fs c ∧ c.1.length ≤ 2 ∧ (∀ ss, c.2 = some ss → ss.length ≤ 2) ∧ ∀ t ∈ c.1, t.2.1 ∈ signs)
    ⟨_, [], [], w1.sameG nD, w1.new nD, upd_same, .nil, rfl, (fun c hc => by cases hc)⟩ (fun _ _ _ _ => True.intro) ?_ ?_
  · rintro i v H' H'' hi ⟨G', ys, p, sg, w2, hD, hp, lp, hc⟩ ⟨rfl, rfl⟩
    refine ⟨rfl, ?_⟩
    refine ⟨_, rfl, _, rfl, b, l, a, G', xs, fs, rfl, sg.seq hS, fds_mono sg hF, ok, w2, fun G3 H3 y c s3 w3 hy fc c2 c3 c4 => ?_⟩
    have hD3 := s3 _ _ hD
    refine ⟨ys, w3.sm _ _ hD3, lt_line (by rw [DpAll.length hp, List.length_map]; omega), ?_⟩
    have im : Imm G3 (upd G3 D (.lst (ys ++ [y]))) := imm_upd hD3
    refine ⟨_, ys ++ [y], p ++ [c], same_mut (sg.trans s3) gD, w3.mut hD3, upd_same, ?_, ?_, ?_⟩
    · rw [List.map_append]
      exact dpa_snoc (DpAll.imm im (noLs_map noL_dC p) (DpAll.mono s3 hp)) (Dp.imm im (noL_dC c) hy)
    · rw [List.length_append, lp]
      rfl
    · intro c' h'
      rcases List.mem_append.mp h' with h' | h'
      · exact hc c' h'
      · cases List.mem_singleton.mp h'
        exact ⟨fc, c2, c3, c4⟩
  · rintro H' ⟨G', ys, p, sg, w2, hD, hp, lp, hc⟩
    refine ⟨D, ys, rfl, .inl ⟨SqL.of (w2.sm _ _ hD), fun t o nt ho => ?_⟩⟩
    have w3 := w2.new (o := .frz o (.tup ys)) nt
    have s3 := w2.sameG (o := .frz o (.tup ys)) nt
    exact q _ _ _ p (sg.trans s3) w3 (.tup (SqP.new ho).sqT (DpAll.mono s3 hp)) hc (by omega) (by omega)
theorem ok_values (T : Top K mg) : FnOk P w K mg base CX0 1 T.a_l_values T.fd_l_values ["_law_fields_z"] (spVals K) := by
  refine T.d_l_values.F.ok sc_l_values (fun vs H Q E h => ?_) (fun cdv A outer s H vs Q E hr h => ?_)
  · obtain ⟨a, xs, fs, rfl, _⟩ := h
    rfl
  obtain ⟨a, xs, fs, rfl, hS, hF, ok, q⟩ := h
  refine ⟨_, (pss_cons (ps_set (i := 1) sc_l_values.nd rfl (Or.inl rfl) (pe_lst (pa_cons (pe_tup pa_nil) pa_nil)))
    (pss_cons (ps_for PassesOwn.never rfl (pi_list_K (K := K) (by rfl) (pv 0)) (pg_tup_K (K := K) (by rfl) (n := 2) (by rfl) (pgs_cons (pg_name (i := 2) sc_l_values.nd rfl (Or.inl rfl)) (pgs_cons (pg_name (i := 3) sc_l_values.nd rfl (Or.inl rfl)) pgs_nil)))
      (pss_cons (ps_set (i := 4) sc_l_values.nd rfl (Or.inl rfl) (pe_lst pa_nil))
      (pss_cons (ps_for PassesOwn.never rfl (pi_list_K (K := K) (by rfl) (pv 1)) (pg_name (i := 5) sc_l_values.nd rfl (Or.inr rfl))
        (pss_one (ps_set (i := 4) sc_l_values.nd rfl (Or.inl rfl) (pe_op op_cat (pv 4) (pe_lc (own := [("_law_option", 6)]) rfl sc_l_values.nd (pi_tup_K (K := K) (by rfl) (pv 3)) (blkOk_by (own := [("_law_option", 6)]) (N := ["_law_fields_z", "_law_found", "_law_name", "_law_options_here", "_law_longer", "_law_value_here", "_law_option"]) (sc := defScope s_l_values) (by decide +kernel)) (fun _ _ _ _ _ => by exact (pg_name (i := 6) sc_l_values.nd rfl (Or.inl rfl))) (fun _ _ _ _ _ => by exact pts_nil) (fun _ _ _ _ _ => by exact (pe_op (op_catA_K (K := K) (by rfl)) (pv 5) (pe_tup (pa_cons (pv 6) pa_nil)))))))))
      (pss_one (ps_set (i := 1) sc_l_values.nd rfl (Or.inl rfl) (pv 4))))))
    (pss_one (ps_ret (pv 1))))), ?_⟩
  have lxs := fds_len hF
  have six : ∀ f ∈ fs, f.2.length ≤ 6 := fun f hf => (ok.os f hf).2.2.1
  have big : ∀ i, i ≤ 3 → (vals (fs.take i)).length ≤ 216 := fun i hi => Nat.le_trans (vals_len six i) (Nat.pow_le_pow_right (by decide) hi)
  refine ⟨Nat.zero_le _, fun e ne => ⟨(by show 1 ≤ sizeLine; decide), fun p0 np0 => ?_⟩⟩
  have se : Same H (upd H e (.tup [])) := same_new ne
  have sp : Same H (upd (upd H e (.tup [])) p0 (.lst [.ref e])) := se.trans (same_new np0)
  refine ⟨_, rfl, a, rfl, ⟨_, sp.seq hS⟩, for_it walk_list (fun i σ H' => ∃ x2 x3 x4 x5 x6 p ys, σ = [some (.ref a), some (.ref p), x2, x3, x4, x5, x6] ∧ Same H H' ∧ H' p = some (.lst ys) ∧ DpAll K H' ys ((vals (fs.take i)).map dV))
    ⟨none, none, none, none, none, p0, [.ref e], rfl, sp, upd_same, .cons (.tup (.inl (.inl ((upd_ne (ne_of_none upd_same np0)).trans upd_same))) .nil) .nil⟩ (fun i σ H' _ ⟨_, _, _, _, _, _, _, _, e, _⟩ => e.seq hS) ?_ ?_⟩
  · rintro i x σ H' H'' hi ⟨x2, x3, x4, x5, x6, p, ys, rfl, s1, hp, hD⟩ ⟨rfl, ex⟩
    have hi3 : i < fs.length := by omega
    have hf : fs[i]? = some fs[i] := List.getElem?_eq_getElem hi3
    obtain ⟨x', ex', hfd⟩ := fds_get hF hf
    rw [ex] at ex'
    cases ex'
    have six' := six fs[i] (List.getElem_mem hi3)
    have lys : ys.length = (vals (fs.take i)).length := by rw [DpAll.length hD, List.length_map]
    have b216 : (vals (fs.take i)).length * fs[i].2.length ≤ 216 := by
      have k := big (i + 1) (by have := ok.le; omega)
      rw [vals_take hf] at k
      unfold ext1 at k
      rw [flat_len] at k
      exact k
    obtain ⟨t, o, rfl, k1, k2⟩ := hfd.mono s1
    refine ⟨t, _, rfl, k1, rfl, _, _, rfl, _, _, rfl, rfl, ?_⟩
    refine ⟨Nat.zero_le _, fun q0 nq0 => ?_⟩
    have sq : Same H'' (upd H'' q0 (.lst [])) := same_new nq0
    refine ⟨_, rfl, p, rfl, ⟨_, SqL.of (sq _ _ hp)⟩, for_it walk_list (fun j σ H2 => ∃ x5 x6 qq zs, σ = [some (.ref a), some (.ref p), some (.str fs[i].1), some (.ref o), some (.ref qq), x5, x6] ∧ Same H'' H2 ∧ H2 qq = some (.lst zs) ∧ H'' qq = none ∧
        DpAll K H2 zs ((ext1 ((vals (fs.take i)).take j) fs[i]).map dV))
      ⟨x5, x6, q0, [], rfl, sq, upd_same, nq0, .nil⟩ (fun j σ H2 _ ⟨_, _, _, _, _, e, _⟩ => SqL.of (e _ _ hp)) ?_ ?_⟩
    · rintro j y σ H2 H3 hj ⟨x5, x6, qq, zs, rfl, s2, hq, nq, hE⟩ ⟨rfl, ey⟩
      obtain ⟨d, e1, e2⟩ := DpAll.get hD ey
      rw [List.getElem?_map] at e1
      cases ev : (vals (fs.take i))[j]? with
      | none =>
        rw [ev] at e1
        cases e1
      | some v =>
        rw [ev] at e1
        cases e1
        obtain ⟨ya, rfl, hya⟩ := dp_dV (Dp.mono s2 e2)
        have lv : v.length ≤ 3 := by
          have z := (vals_ok (fs := fs.take i) v (List.mem_of_getElem? ev)).1
          rw [List.length_take] at z
          have := ok.le
          omega
        refine ⟨_, rfl, _, rfl, o, rfl, ⟨_, Same.tup s2 k2.sqT⟩, fun D nD => ?_⟩
        refine lc_it walk_tup (fun m H4 => ∃ ws, Same H3 H4 ∧ H4 D = some (.lst ws) ∧ DpAll K H4 ws (((fs[i].2.take m).map fun o => v ++ [o]).map dV)) ⟨[], same_new nD, upd_same, .nil⟩ (fun m H4 _ ⟨_, e, _⟩ => Same.tup (s2.trans e) k2.sqT) ?_ ?_
        · rintro m z H4 H5 hm ⟨ws, s4, hD4, hW⟩ ⟨rfl, ez⟩
          rw [List.getElem?_map] at ez
          cases eo : fs[i].2[m]? with
          | none =>
            rw [eo] at ez
            cases ez
          | some op =>
            rw [eo] at ez
            cases ez
            have hmm : m < fs[i].2.length := (List.getElem?_eq_some_iff.mp eo).1
            have lw : ws.length < sizeLine := lt_line (by rw [DpAll.length hW, List.length_map, List.length_map, List.length_take]; omega)
            refine ⟨rfl, ?_⟩
            refine ⟨_, rfl, _, rfl, (by show 1 ≤ sizeLine; decide), fun t1 n1 => ?_⟩
            have s5 : Same H5 (upd H5 t1 (.tup [.str op])) := same_new n1
            refine ⟨ya, t1, v.map V.str, [.str op], rfl, rfl, Same.tup (s4.trans s5) hya, .inl (.inl upd_same), le_line (by rw [List.length_map]; show _ + 1 ≤ _; omega), fun hnil => ?_, fun _ z => (by cases z), fun hne _ t2 n2 => ?_⟩
            · have vn : v = [] := by simpa using hnil
              subst vn
              have hD5 := s5 _ _ hD4
              have im : Imm (upd H5 t1 (.tup [.str op])) (upd (upd H5 t1 (.tup [.str op])) D (.lst (ws ++ [.ref t1]))) := imm_upd hD5
              refine ⟨ws, hD5, lw, ws ++ [.ref t1], same_mut (s4.trans s5) nD, upd_same, ?_⟩
              rw [List.take_add_one, eo, List.map_append, List.map_append]
              exact dpa_snoc (DpAll.imm im (noLs_map noL_dV _) (DpAll.mono s5 hW)) (Dp.imm im (noL_dV _) (dV_dp (w := [op]) (.inl (.inl upd_same))))
            · have s6 := s5.trans (same_new (o := .tup (v.map V.str ++ [.str op])) n2)
              have hD5 := s6 _ _ hD4
              have im : Imm (upd (upd H5 t1 (.tup [.str op])) t2 (.tup (v.map V.str ++ [.str op]))) (upd (upd (upd H5 t1 (.tup [.str op])) t2 (.tup (v.map V.str ++ [.str op]))) D (.lst (ws ++ [.ref t2]))) := imm_upd hD5
              refine ⟨ws, hD5, lw, ws ++ [.ref t2], same_mut (s4.trans s6) nD, upd_same, ?_⟩
              rw [List.take_add_one, eo, List.map_append, List.map_append]
              exact dpa_snoc (DpAll.imm im (noLs_map noL_dV _) (DpAll.mono s6 hW)) (Dp.imm im (noL_dV _) (dV_dp (w := v ++ [op]) (by rw [List.map_append]; exact .inl (.inl upd_same))))
        · rintro H4 ⟨ws, s4, hD4, hW⟩
          rw [List.length_map, List.take_length] at hW
          have lzs : zs.length = (ext1 ((vals (fs.take i)).take j) fs[i]).length := by rw [DpAll.length hE, List.length_map]
          have lws : ws.length = fs[i].2.length := by rw [DpAll.length hW, List.length_map, List.length_map]
          have lz2 : (ext1 ((vals (fs.take i)).take j) fs[i]).length ≤ 216 := by
            unfold ext1
            rw [flat_len]
            refine Nat.le_trans (Nat.mul_le_mul_right _ ?_) b216
            rw [List.length_take]
            exact Nat.min_le_right _ _
          refine ⟨qq, D, zs, ws, rfl, rfl, s4 _ _ hq, hD4, le_line (by omega), fun c nc => ?_⟩
          have s5 : Same H4 (upd H4 c (.lst (zs ++ ws))) := same_new nc
          refine ⟨_, _, c, zs ++ ws, rfl, s2.trans (s4.trans s5), upd_same, ?_, ?_⟩
          · exact (s2.trans s4).free nc
          have e3 : ext1 ((vals (fs.take i)).take (j + 1)) fs[i] = ext1 ((vals (fs.take i)).take j) fs[i] ++ fs[i].2.map fun o => v ++ [o] := by
            unfold ext1
            rw [List.take_add_one, ev, List.flatMap_append]
            simp
          rw [e3, List.map_append]
          exact DpAll.append (DpAll.mono (s4.trans s5) hE) (DpAll.mono s5 hW)
    · rintro σ H2 ⟨x5, x6, qq, zs, rfl, s2, hq, nq, hE⟩
      rw [lys, List.take_length] at hE
      refine ⟨_, rfl, ?_⟩
      refine ⟨_, _, _, _, _, qq, zs, rfl, s1.trans s2, hq, ?_⟩
      rw [vals_take hf]
      exact hE
  · rintro σ H' ⟨x2, x3, x4, x5, x6, p, ys, rfl, s1, hp, hD⟩
    rw [lxs, List.take_length] at hD
    exact ⟨_, rfl, q H' p ys s1 hp hD⟩
def spVals5 (K : PySem.W.Frag) : Sp := fun vs H Q _ => ∃ (a : Addr) (xs : List V) (fs : List Fld), vs = [.ref a] ∧ SqL K H a xs ∧ DpAll K H xs (fs.map dF) ∧ fs.length ≤ 3 ∧ (∀ f ∈ fs, f.2.length ≤ 6) ∧
  ∀ (H' : Hp) (p : Addr) (ys : List V), Same H H' → H p = none → H' p = some (.lst ys) → DpAll K H' ys ((vals fs).map dV) → Q (.ref p) H'
theorem ok_values5 (T : Top K mg) : FnOk P w K mg base CX0 1 T.a_l_values T.fd_l_values ["_law_fields_z"] (spVals5 K) := by
  refine T.d_l_values.F.ok sc_l_values (fun vs H Q E h => ?_) (fun cdv A outer s H vs Q E hr h => ?_)
  · obtain ⟨a, xs, fs, rfl, _⟩ := h
    rfl
  obtain ⟨a, xs, fs, rfl, hS, hF, le3, six, q⟩ := h
  refine ⟨_, (pss_cons (ps_set (i := 1) sc_l_values.nd rfl (Or.inl rfl) (pe_lst (pa_cons (pe_tup pa_nil) pa_nil)))
    (pss_cons (ps_for PassesOwn.never rfl (pi_list_K (K := K) (by rfl) (pv 0)) (pg_tup_K (K := K) (by rfl) (n := 2) (by rfl) (pgs_cons (pg_name (i := 2) sc_l_values.nd rfl (Or.inl rfl)) (pgs_cons (pg_name (i := 3) sc_l_values.nd rfl (Or.inl rfl)) pgs_nil)))
      (pss_cons (ps_set (i := 4) sc_l_values.nd rfl (Or.inl rfl) (pe_lst pa_nil))
      (pss_cons (ps_for PassesOwn.never rfl (pi_list_K (K := K) (by rfl) (pv 1)) (pg_name (i := 5) sc_l_values.nd rfl (Or.inr rfl))
        (pss_one (ps_set (i := 4) sc_l_values.nd rfl (Or.inl rfl) (pe_op op_cat (pv 4) (pe_lc (own := [("_law_option", 6)]) rfl sc_l_values.nd (pi_tup_K (K := K) (by rfl) (pv 3)) (blkOk_by (own := [("_law_option", 6)]) (N := ["_law_fields_z", "_law_found", "_law_name", "_law_options_here", "_law_longer", "_law_value_here", "_law_option"]) (sc := defScope s_l_values) (by decide +kernel)) (fun _ _ _ _ _ => by exact (pg_name (i := 6) sc_l_values.nd rfl (Or.inl rfl))) (fun _ _ _ _ _ => by exact pts_nil) (fun _ _ _ _ _ => by exact (pe_op (op_catA_K (K := K) (by rfl)) (pv 5) (pe_tup (pa_cons (pv 6) pa_nil)))))))))
      (pss_one (ps_set (i := 1) sc_l_values.nd rfl (Or.inl rfl) (pv 4))))))
    (pss_one (ps_ret (pv 1))))), ?_⟩
  have lxs : xs.length = fs.length := by rw [DpAll.length hF, List.length_map]
  have big : ∀ i, i ≤ 3 → (vals (fs.take i)).length ≤ 216 := fun i hi => Nat.le_trans (vals_len six i) (Nat.pow_le_pow_right (by decide) hi)
  refine ⟨Nat.zero_le _, fun e ne => ⟨(by show 1 ≤ sizeLine; decide), fun p0 np0 => ?_⟩⟩
  have se : Same H (upd H e (.tup [])) := same_new ne
  have sp : Same H (upd (upd H e (.tup [])) p0 (.lst [.ref e])) := se.trans (same_new np0)
  refine ⟨_, rfl, a, rfl, ⟨_, sp.seq hS⟩, for_it walk_list (fun i σ H' => ∃ x2 x3 x4 x5 x6 p ys, σ = [some (.ref a), some (.ref p), x2, x3, x4, x5, x6] ∧ Same H H' ∧ H' p = some (.lst ys) ∧ DpAll K H' ys ((vals (fs.take i)).map dV) ∧ H p = none)
    ⟨none, none, none, none, none, p0, [.ref e], rfl, sp, upd_same, .cons (.tup (.inl (.inl ((upd_ne (ne_of_none upd_same np0)).trans upd_same))) .nil) .nil, se.free np0⟩ (fun i σ H' _ ⟨_, _, _, _, _, _, _, _, e, _⟩ => e.seq hS) ?_ ?_⟩
  · rintro i x σ H' H'' hi ⟨x2, x3, x4, x5, x6, p, ys, rfl, s1, hp, hD, np⟩ ⟨rfl, ex⟩
    have hi3 : i < fs.length := by omega
    have hf : fs[i]? = some fs[i] := List.getElem?_eq_getElem hi3
    obtain ⟨d', ed', hfd⟩ := DpAll.get hF ex
    rw [List.getElem?_map, hf] at ed'
    cases ed'
    have six' := six fs[i] (List.getElem_mem hi3)
    have lys : ys.length = (vals (fs.take i)).length := by rw [DpAll.length hD, List.length_map]
    have b216 : (vals (fs.take i)).length * fs[i].2.length ≤ 216 := by
      have k := big (i + 1) (by omega)
      rw [vals_take hf] at k
      unfold ext1 at k
      rw [flat_len] at k
      exact k
    obtain ⟨t, o, rfl, k1, k2⟩ := dp_dF (Dp.mono s1 hfd)
    refine ⟨t, _, rfl, k1, rfl, _, _, rfl, _, _, rfl, rfl, ?_⟩
    refine ⟨Nat.zero_le _, fun q0 nq0 => ?_⟩
    have sq : Same H'' (upd H'' q0 (.lst [])) := same_new nq0
    refine ⟨_, rfl, p, rfl, ⟨_, SqL.of (sq _ _ hp)⟩, for_it walk_list (fun j σ H2 => ∃ x5 x6 qq zs, σ = [some (.ref a), some (.ref p), some (.str fs[i].1), some (.ref o), some (.ref qq), x5, x6] ∧ Same H'' H2 ∧ H2 qq = some (.lst zs) ∧ H'' qq = none ∧
        DpAll K H2 zs ((ext1 ((vals (fs.take i)).take j) fs[i]).map dV))
      ⟨x5, x6, q0, [], rfl, sq, upd_same, nq0, .nil⟩ (fun j σ H2 _ ⟨_, _, _, _, _, e, _⟩ => SqL.of (e _ _ hp)) ?_ ?_⟩
    · rintro j y σ H2 H3 hj ⟨x5, x6, qq, zs, rfl, s2, hq, nq, hE⟩ ⟨rfl, ey⟩
      obtain ⟨d, e1, e2⟩ := DpAll.get hD ey
      rw [List.getElem?_map] at e1
      cases ev : (vals (fs.take i))[j]? with
      | none =>
        rw [ev] at e1
        cases e1
      | some v =>
        rw [ev] at e1
        cases e1
        obtain ⟨ya, rfl, hya⟩ := dp_dV (Dp.mono s2 e2)
        have lv : v.length ≤ 3 := by
          have z := (vals_ok (fs := fs.take i) v (List.mem_of_getElem? ev)).1
          rw [List.length_take] at z
          omega
        refine ⟨_, rfl, _, rfl, o, rfl, ⟨_, Same.tup s2 k2⟩, fun D nD => ?_⟩
        refine lc_it walk_tup (fun m H4 => ∃ ws, Same H3 H4 ∧ H4 D = some (.lst ws) ∧ DpAll K H4 ws (((fs[i].2.take m).map fun o => v ++ [o]).map dV)) ⟨[], same_new nD, upd_same, .nil⟩ (fun m H4 _ ⟨_, e, _⟩ => Same.tup (s2.trans e) k2) ?_ ?_
        · rintro m z H4 H5 hm ⟨ws, s4, hD4, hW⟩ ⟨rfl, ez⟩
          rw [List.getElem?_map] at ez
          cases eo : fs[i].2[m]? with
          | none =>
            rw [eo] at ez
            cases ez
          | some op =>
            rw [eo] at ez
            cases ez
            have hmm : m < fs[i].2.length := (List.getElem?_eq_some_iff.mp eo).1
            have lw : ws.length < sizeLine := lt_line (by rw [DpAll.length hW, List.length_map, List.length_map, List.length_take]; omega)
            refine ⟨rfl, ?_⟩
            refine ⟨_, rfl, _, rfl, (by show 1 ≤ sizeLine; decide), fun t1 n1 => ?_⟩
            have s5 : Same H5 (upd H5 t1 (.tup [.str op])) := same_new n1
            refine ⟨ya, t1, v.map V.str, [.str op], rfl, rfl, Same.tup (s4.trans s5) hya, .inl (.inl upd_same), le_line (by rw [List.length_map]; show _ + 1 ≤ _; omega), fun hnil => ?_, fun _ z => (by cases z), fun hne _ t2 n2 => ?_⟩
            · have vn : v = [] := by simpa using hnil
              subst vn
              have hD5 := s5 _ _ hD4
              have im : Imm (upd H5 t1 (.tup [.str op])) (upd (upd H5 t1 (.tup [.str op])) D (.lst (ws ++ [.ref t1]))) := imm_upd hD5
              refine ⟨ws, hD5, lw, ws ++ [.ref t1], same_mut (s4.trans s5) nD, upd_same, ?_⟩
              rw [List.take_add_one, eo, List.map_append, List.map_append]
              exact dpa_snoc (DpAll.imm im (noLs_map noL_dV _) (DpAll.mono s5 hW)) (Dp.imm im (noL_dV _) (dV_dp (w := [op]) (.inl (.inl upd_same))))
            · have s6 := s5.trans (same_new (o := .tup (v.map V.str ++ [.str op])) n2)
              have hD5 := s6 _ _ hD4
              have im : Imm (upd (upd H5 t1 (.tup [.str op])) t2 (.tup (v.map V.str ++ [.str op]))) (upd (upd (upd H5 t1 (.tup [.str op])) t2 (.tup (v.map V.str ++ [.str op]))) D (.lst (ws ++ [.ref t2]))) := imm_upd hD5
              refine ⟨ws, hD5, lw, ws ++ [.ref t2], same_mut (s4.trans s6) nD, upd_same, ?_⟩
              rw [List.take_add_one, eo, List.map_append, List.map_append]
              exact dpa_snoc (DpAll.imm im (noLs_map noL_dV _) (DpAll.mono s6 hW)) (Dp.imm im (noL_dV _) (dV_dp (w := v ++ [op]) (by rw [List.map_append]; exact .inl (.inl upd_same))))
        · rintro H4 ⟨ws, s4, hD4, hW⟩
          rw [List.length_map, List.take_length] at hW
          have lzs : zs.length = (ext1 ((vals (fs.take i)).take j) fs[i]).length := by rw [DpAll.length hE, List.length_map]
          have lws : ws.length = fs[i].2.length := by rw [DpAll.length hW, List.length_map, List.length_map]
          have lz2 : (ext1 ((vals (fs.take i)).take j) fs[i]).length ≤ 216 := by
            unfold ext1
            rw [flat_len]
            refine Nat.le_trans (Nat.mul_le_mul_right _ ?_) b216
            rw [List.length_take]
            exact Nat.min_le_right _ _
          refine ⟨qq, D, zs, ws, rfl, rfl, s4 _ _ hq, hD4, le_line (by omega), fun c nc => ?_⟩
          have s5 : Same H4 (upd H4 c (.lst (zs ++ ws))) := same_new nc
          refine ⟨_, _, c, zs ++ ws, rfl, s2.trans (s4.trans s5), upd_same, ?_, ?_⟩
          · exact (s2.trans s4).free nc
          have e3 : ext1 ((vals (fs.take i)).take (j + 1)) fs[i] = ext1 ((vals (fs.take i)).take j) fs[i] ++ fs[i].2.map fun o => v ++ [o] := by
            unfold ext1
            rw [List.take_add_one, ev, List.flatMap_append]
            simp
          rw [e3, List.map_append]
          exact DpAll.append (DpAll.mono (s4.trans s5) hE) (DpAll.mono s5 hW)
    · rintro σ H2 ⟨x5, x6, qq, zs, rfl, s2, hq, nq, hE⟩
      rw [lys, List.take_length] at hE
      refine ⟨_, rfl, ?_⟩
      refine ⟨_, _, _, _, _, qq, zs, rfl, s1.trans s2, hq, ?_, s1.free nq⟩
      rw [vals_take hf]
      exact hE
  · rintro σ H' ⟨x2, x3, x4, x5, x6, p, ys, rfl, s1, hp, hD, np⟩
    rw [lxs, List.take_length] at hD
    exact ⟨_, rfl, q H' p ys s1 np hp hD⟩
end
end Bh

set_option Elab.async false
set_option linter.all false
set_option maxRecDepth 100000
set_option maxHeartbeats 1000000
namespace Bh
open PySem PySem.Spec PyProof.Rows L2
theorem paired_perm {α β : Type} {R : α → β → Prop} {xs ys : List α} (p : ys.Perm xs) : ∀ {fs : List β}, Paired R xs fs → ∃ gs, gs.Perm fs ∧ Paired R ys gs := by
  induction p with
  | nil => intro fs h; cases h; exact ⟨[], .nil, .nil⟩
  | cons x _ ih =>
    intro fs h
    cases h with
    | cons h t =>
      obtain ⟨gs, g1, g2⟩ := ih t
      exact ⟨_ :: gs, g1.cons _, .cons h g2⟩
  | swap x y l =>
    intro fs h
    cases h with
    | cons h t =>
      cases t with
      | cons h2 t => exact ⟨_ :: _ :: _, .swap _ _ _, .cons h2 (.cons h t)⟩
  | trans _ _ ih1 ih2 =>
    intro fs h
    obtain ⟨gs, g1, g2⟩ := ih2 h
    obtain ⟨hs, h1, h2⟩ := ih1 g2
    exact ⟨hs, h1.trans g1, h2⟩
theorem paired_take {α β : Type} {R : α → β → Prop} : ∀ {xs : List α} {fs : List β} (n : Nat), Paired R xs fs → Paired R (xs.take n) (fs.take n)
  | _, _, 0, _ => by rw [List.take_zero, List.take_zero]; exact .nil
  | _, _, n + 1, .nil => .nil
  | _, _, n + 1, .cons h t => .cons h (paired_take n t)
theorem fit_snoc {fs : List Fld} {v : List Str} {i : Nat} {f : Fld} {o : Str} (h : FitV (fs.take i) v) (hf : fs[i]? = some f) (ho : o ∈ f.2) : FitV (fs.take (i + 1)) (v ++ [o]) := by
  have e : fs.take (i + 1) = fs.take i ++ [f] := by rw [List.take_add_one, hf]; rfl
  obtain ⟨l1, l2⟩ := h
  rw [e]
  refine ⟨by rw [List.length_append, List.length_append, l1]; rfl, fun j g p hg hp => ?_⟩
  by_cases hj : j < (fs.take i).length
  · rw [List.getElem?_append_left hj] at hg
    rw [List.getElem?_append_left (by omega)] at hp
    exact l2 j g p hg hp
  · rw [List.getElem?_append_right (by omega)] at hg
    rw [List.getElem?_append_right (by omega), l1] at hp
    have z : j - (fs.take i).length = 0 := by
      have := (List.getElem?_eq_some_iff.mp hg).1
      simp only [List.length_singleton] at this
      omega
    rw [z] at hg hp
    cases hg
    cases hp
    exact ho
theorem noL_dKey (k : Str × Str) : noL (dKey k) = true := rfl
def spValue5 (K : PySem.W.Frag) : Sp := fun vs H Q _ => ∃ (b l a : Addr) (G : Hp) (xs : List V) (fs : List Fld), vs = [.ref b, .ref a] ∧ SqL K G a xs ∧ Paired (FdAt K G) xs fs ∧ FsOk fs ∧ Wd b l G H ∧
  ∀ (G' H' : Hp) (y : V) (v : List Str), Same G G' → Wd b l G' H' → Dp K G' y (dV v) → FitV fs v → Q y H'
def spKeys5 (K : PySem.W.Frag) : Sp := fun vs H Q _ => ∃ (b l a : Addr) (G : Hp) (xs : List V) (fs : List Fld), vs = [.ref b, .ref a] ∧ SqL K G a xs ∧ Paired (FdAt K G) xs fs ∧ FsOk fs ∧ Wd b l G H ∧
  ∀ (G' H' : Hp) (y : V) (ks : List (Str × Str)), Same G G' → Wd b l G' H' → Dp K G' y (.tuple (ks.map dKey)) → OkKeys fs ks → Q y H'
def spKinds5 (K : PySem.W.Frag) : Sp := fun vs H Q _ => ∃ (b l a : Addr) (G : Hp) (xs : List V) (fs : List Fld), vs = [.ref b, .ref a, .int 3] ∧ SqL K G a xs ∧ Paired (FdAt K G) xs fs ∧ FsOk fs ∧ Wd b l G H ∧
  ∀ (G' H' : Hp) (p : Addr) (ys : List V) (ks : List Knd), Same G G' → Wd b l G' H' → G' p = some (.lst ys) → DpAll K G' ys (ks.map dKnd) → 1 ≤ ks.length → ks.length ≤ 3 → (ks.map (·.name)).Nodup → (∀ k ∈ ks, OkKnd fs k) → Q (.ref p) H'
section
variable {P : Program} {w : World} {K : PySem.W.Frag} {mg : Str → Option Value} {base : Heap}
theorem ok_value5 (T : Top K mg) : FnOk P w K mg base CX0 3 T.a_l_value T.fd_l_value ["_law_bag_here", "_law_fields_z"] (spValue5 K) := by
  have G_l_any := ok_any (P := P) (w := w) (base := base) T
  refine T.d_l_value.F.ok sc_l_value (fun vs H Q E h => ?_) (fun cdv A outer s H vs Q E hr h => ?_)
  · obtain ⟨b, l, a, G, xs, fs, rfl, _⟩ := h
    rfl
  obtain ⟨b, l, a, G, xs, fs, rfl, hS, hF, ok, wd, q⟩ := h
  refine ⟨_, (pss_one (ps_ret (pe_callTy (call_tuple_of_P (K := K) (by rfl)) (by rfl) T.b_tuple (by decide +kernel) (pa_cons (pe_lc (own := [("_law_name", 2), ("_law_options_here", 3)]) rfl sc_l_value.nd (pi_list_K (K := K) (by rfl) (pv 1)) (blkOk_by (own := [("_law_name", 2), ("_law_options_here", 3)]) (N := ["_law_bag_here", "_law_fields_z", "_law_name", "_law_options_here"]) (sc := defScope s_l_value) (by decide +kernel)) (fun _ _ _ _ _ => by exact (pg_tup_K (K := K) (by rfl) (n := 2) (by rfl) (pgs_cons (pg_name (i := 2) sc_l_value.nd rfl (Or.inl rfl)) (pgs_cons (pg_name (i := 3) sc_l_value.nd rfl (Or.inl rfl)) pgs_nil)))) (fun _ _ _ _ _ => by exact pts_nil) (fun _ _ _ _ _ => by exact (pe_call G_l_any (hr.mono (by decide)) (by rfl) T.d_l_any.g T.d_l_any.kp T.d_l_any.b .nil pass0 (pa_cons (pv 0) (pa_cons (pv 3) pa_nil))))) pa_nil)))), ?_⟩
  have lxs := fds_len hF
  have le3 := ok.le
  refine ⟨_, rfl, a, rfl, ⟨_, wd.sm.seq hS⟩, fun D nD => ?_⟩
  have gD := wd.free nD
  refine lc_it walk_list (fun i H' => ∃ (G' : Hp) (v : List Str), Same G G' ∧ Wd b l G' H' ∧ G' D = some (.lst (v.map V.str)) ∧ v.length = i ∧ FitV (fs.take i) v)
    ⟨_, [], wd.sameG nD, wd.new nD, upd_same, rfl, rfl, fun i f o e => by simp at e⟩ (fun i H' _ ⟨G', _, sg, w1, _⟩ => (sg.trans w1.sm).seq hS) ?_ ?_
  · rintro i x H' H'' hi ⟨G', v, sg, w1, hD, lv, fv⟩ ⟨rfl, ex⟩
    have li : i < fs.length := by omega
    have hf : fs[i]? = some fs[i] := List.getElem?_eq_getElem li
    obtain ⟨x', ex', hfd⟩ := fds_get hF hf
    rw [ex] at ex'
    cases ex'
    have hos := ok.os _ (List.getElem_mem li)
    obtain ⟨t, o, rfl, k1, k2⟩ := hfd.mono sg
    refine ⟨t, _, rfl, Same.tup w1.sm k1, rfl, _, _, rfl, _, _, rfl, rfl, rfl, ?_⟩
    refine ⟨_, rfl, _, rfl, b, l, o, G', fs[i].2.map V.str, rfl, .inr k2.sqT, (fun z => ?_), ?_, w1, fun y H5 hy w5 => ?_⟩
    · have z1 := congrArg List.length z
      rw [List.length_map] at z1
      have := hos.2.1
      rw [z1] at this
      cases this
    · rw [List.length_map]
      omega
    · obtain ⟨op, hop, rfl⟩ := List.mem_map.mp hy
      refine ⟨v.map V.str, w5.sm _ _ hD, lt_line (by rw [List.length_map]; omega), _, v ++ [op], same_mut sg gD, w5.mut hD, ?_, ?_, fit_snoc fv hf hop⟩
      · rw [upd_same, List.map_append]
        rfl
      · rw [List.length_append, lv]
        rfl
  · rintro H' ⟨G', v, sg, w1, hD, lv, fv⟩
    rw [lxs, List.take_length] at fv
    refine ⟨D, v.map V.str, rfl, .inl ⟨SqL.of (w1.sm _ _ hD), fun t o nt ho => ?_⟩⟩
    have w3 := w1.new (o := .frz o (.tup (v.map V.str))) nt
    have s3 := w1.sameG (o := .frz o (.tup (v.map V.str))) nt
    exact q _ _ _ v (sg.trans s3) w3 (dV_dp (SqP.new ho).sqT) fv
theorem ok_keys5 (T : Top K mg) : FnOk P w K mg base CX0 3 T.a_l_keys T.fd_l_keys ["_law_bag_here", "_law_fields_z"] (spKeys5 K) := by
  have G_l_draw := ok_draw (P := P) (w := w) (base := base) T
  have G_l_any := ok_any (P := P) (w := w) (base := base) T
  have G_l_mixed := ok_mixed (P := P) (w := w) (base := base) T
  refine T.d_l_keys.F.ok sc_l_keys (fun vs H Q E h => ?_) (fun cdv A outer s H vs Q E hr h => ?_)
  · obtain ⟨b, l, a, G, xs, fs, rfl, _⟩ := h
    rfl
  obtain ⟨b, l, a, G, xs, fs, rfl, hS, hF, ok, wd, q⟩ := h
  refine ⟨_, (pss_cons (ps_set (i := 2) sc_l_keys.nd rfl (Or.inl rfl) (pe_slice (sl_list_K (K := K) (by rfl)) (pe_call G_l_mixed (hr.mono (by decide)) (by rfl) T.d_l_mixed.g T.d_l_mixed.kp T.d_l_mixed.b .nil pass0 (pa_cons (pv 0) (pa_cons (pv 1) pa_nil))) po_none (po_some (pe_call G_l_draw (hr.mono (by decide)) (by rfl) T.d_l_draw.g T.d_l_draw.kp T.d_l_draw.b .nil pass0 (pa_cons (pv 0) (pa_cons (pe_op op_add (pe_callB (call_len_seq_K (K := K) (by rfl)) (by rfl) T.b_len PySem.boot_len (pa_cons (pv 1) pa_nil)) pe_int) pa_nil))))))
    (pss_one (ps_ret (pe_callTy (call_tuple_of_P (K := K) (by rfl)) (by rfl) T.b_tuple (by decide +kernel) (pa_cons (pe_lc (own := [("_law_name", 3), ("_law_options_here", 4)]) rfl sc_l_keys.nd (pi_list_K (K := K) (by rfl) (pv 2)) (blkOk_by (own := [("_law_name", 3), ("_law_options_here", 4)]) (N := ["_law_bag_here", "_law_fields_z", "_law_chosen", "_law_name", "_law_options_here"]) (sc := defScope s_l_keys) (by decide +kernel)) (fun _ _ _ _ _ => by exact (pg_tup_K (K := K) (by rfl) (n := 2) (by rfl) (pgs_cons (pg_name (i := 3) sc_l_keys.nd rfl (Or.inl rfl)) (pgs_cons (pg_name (i := 4) sc_l_keys.nd rfl (Or.inl rfl)) pgs_nil)))) (fun _ _ _ _ _ => by exact pts_nil) (fun _ _ _ _ _ => by exact (pe_tup (pa_cons (pv 3) (pa_cons (pe_call G_l_any (hr.mono (by decide)) (by rfl) T.d_l_any.g T.d_l_any.kp T.d_l_any.b .nil pass0 (pa_cons (pv 0) (pa_cons (pe_lst (pa_cons pe_str (pa_cons pe_str pa_nil))) pa_nil))) pa_nil))))) pa_nil))))), ?_⟩
  have lxs := fds_len hF
  have le3 := ok.le
  refine ⟨_, rfl, _, rfl, b, l, a, G, xs, rfl, hS, by omega, wd, fun G1 H1 p ys s1 w1 hp pm => ?_⟩
  obtain ⟨gs, pg, hG⟩ := paired_perm pm hF
  have lg : gs.length = fs.length := pg.length_eq
  have lys : ys.length = xs.length := pm.length_eq
  refine ⟨_, rfl, _, rfl, a, xs, rfl, .inl ((s1.trans w1.sm).seq hS), _, _, rfl, rfl, b, l, G1, _, rfl, by omega, by omega, w1, fun r H2 r0 r1 w2 => ?_⟩
  refine ⟨_, rfl, p, ys, rfl, SqL.of (w2.sm _ _ hp), fun c nc => ?_⟩
  rw [cutV_take _ (by omega)]
  have w3 := w2.new (o := .lst (ys.take r.toNat)) nc
  have s3 := s1.trans (w2.sameG (o := .lst (ys.take r.toNat)) nc)
  have hP : Paired (FdAt K G) (ys.take r.toNat) (gs.take r.toNat) := paired_take _ hG
  generalize eU : ys.take r.toNat = us at w3 s3 hP
  generalize eV : gs.take r.toNat = vs at hP
  have lus := fds_len hP
  have lvs : vs.length ≤ fs.length := by rw [← eV, List.length_take]; omega
  have sub : ∀ f ∈ vs, f ∈ fs := fun f hf => pg.mem_iff.mp (List.mem_of_mem_take (eV ▸ hf))
  have nd : (vs.map (·.1)).Nodup := by
    rw [← eV, List.map_take]
    exact ((pg.map (·.1)).nodup_iff.mpr ok.nd).sublist (List.take_sublist _ _)
  have hc := upd_same (H := G1) (a := c) (o := .lst us)
  generalize eG : upd G1 c (.lst us) = G3 at w3 s3 hc
  generalize upd H2 c (.lst us) = H3 at w3
  refine ⟨_, rfl, c, rfl, ⟨_, SqL.of (w3.sm _ _ hc)⟩, fun D nD => ?_⟩
  have gD := w3.free nD
  refine lc_it walk_list (fun i H' => ∃ (G' : Hp) (ks : List (Str × Str)) (zs : List V), Same G3 G' ∧ Wd b l G' H' ∧ G' D = some (.lst zs) ∧ DpAll K G' zs (ks.map dKey) ∧ ks.map (·.1) = (vs.take i).map (·.1) ∧ ∀ k ∈ ks, k.2 = "+" ∨ k.2 = "-")
    ⟨_, [], [], w3.sameG nD, w3.new nD, upd_same, .nil, rfl, (fun k hk => by cases hk)⟩ (fun i H' _ ⟨G', _, _, sg, w4, _⟩ => SqL.of (w4.sm _ _ (sg _ _ hc))) ?_ ?_
  · rintro i x H' H'' hi ⟨G', ks, zs, sg, w4, hD, hK, ek, hk⟩ ⟨rfl, ex⟩
    have li : i < vs.length := by omega
    have hf : vs[i]? = some vs[i] := List.getElem?_eq_getElem li
    obtain ⟨x', ex', hfd⟩ := fds_get hP hf
    rw [ex] at ex'
    cases ex'
    obtain ⟨t, o, rfl, k1, k2⟩ := hfd.mono (s3.trans sg)
    have lk : ks.length = i := by
      have z := congrArg List.length ek
      rw [List.length_map, List.length_map, List.length_take] at z
      omega
    refine ⟨t, _, rfl, Same.tup w4.sm k1, rfl, _, _, rfl, _, _, rfl, rfl, rfl, ?_⟩
    refine ⟨_, rfl, _, rfl, (by show 2 ≤ sizeLine; decide), fun p6 n6 => ?_⟩
    have w6 := w4.new (o := .lst [.str "+", .str "-"]) n6
    have s6 := w4.sameG (o := .lst [.str "+", .str "-"]) n6
    refine ⟨b, l, p6, _, [.str "+", .str "-"], rfl, .inl (SqL.of upd_same), (fun z => by cases z), by decide, w6, fun y H7 hy w7 => ?_⟩
    obtain ⟨sg1, hsg, rfl⟩ : ∃ z : Str, (z = "+" ∨ z = "-") ∧ y = .str z := by
      rcases List.mem_cons.mp hy with e | e
      · exact ⟨_, .inl rfl, e⟩
      · exact ⟨_, .inr rfl, List.mem_singleton.mp e⟩
    refine ⟨(by show 2 ≤ sizeLine; decide), fun t8 n8 => ?_⟩
    have w8 := w7.new (o := .tup [.str vs[i].1, .str sg1]) n8
    have s8 := s6.trans (w7.sameG (o := .tup [.str vs[i].1, .str sg1]) n8)
    have hD8 := s8 _ _ hD
    refine ⟨zs, w8.sm _ _ hD8, lt_line (by rw [DpAll.length hK, List.length_map]; omega), ?_⟩
    have im : Imm (upd (upd G' p6 (.lst [.str "+", .str "-"])) t8 (.tup [.str vs[i].1, .str sg1])) (upd (upd (upd G' p6 (.lst [.str "+", .str "-"])) t8 (.tup [.str vs[i].1, .str sg1])) D (.lst (zs ++ [.ref t8]))) := imm_upd hD8
    refine ⟨_, ks ++ [(vs[i].1, sg1)], zs ++ [.ref t8], same_mut (sg.trans s8) gD, w8.mut hD8, upd_same, ?_, ?_, ?_⟩
    · rw [List.map_append]
      refine dpa_snoc (DpAll.imm im (noLs_map noL_dKey ks) (DpAll.mono s8 hK)) (Dp.imm im (noL_dKey _) (.tup (xs := [.str vs[i].1, .str sg1]) (.inl (.inl upd_same)) (.cons (.str _) (.cons (.str _) .nil))))
    · rw [List.map_append, ek, List.take_add_one, hf, List.map_append]
      rfl
    · intro k h'
      rcases List.mem_append.mp h' with h' | h'
      · exact hk k h'
      · cases List.mem_singleton.mp h'
        exact hsg
  · rintro H' ⟨G', ks, zs, sg, w4, hD, hK, ek, hk⟩
    rw [lus, List.take_length] at ek
    have lk : ks.length = vs.length := by
      have z := congrArg List.length ek
      rw [List.length_map, List.length_map] at z
      exact z
    refine ⟨D, zs, rfl, .inl ⟨SqL.of (w4.sm _ _ hD), fun t o nt ho => ?_⟩⟩
    have w5 := w4.new (o := .frz o (.tup zs)) nt
    have s5 := w4.sameG (o := .frz o (.tup zs)) nt
    refine q _ _ _ ks (s3.trans (sg.trans s5)) w5 (.tup (SqP.new ho).sqT (DpAll.mono s5 hK)) ⟨by omega, by rw [ek]; exact nd, fun k h' => ⟨?_, hk k h'⟩⟩
    have z : k.1 ∈ vs.map (·.1) := ek ▸ List.mem_map.mpr ⟨k, h', rfl⟩
    obtain ⟨f, hf, e⟩ := List.mem_map.mp z
    exact List.mem_map.mpr ⟨f, sub f hf, e⟩
end
end Bh

set_option Elab.async false
set_option linter.all false
set_option maxRecDepth 100000
set_option maxHeartbeats 1000000
namespace Bh
open PySem PySem.Spec PyProof.Rows L2
theorem meet3 {t1 t2 : TE} {σ : L2.St} {H : Hp} {k : VK} {b : Bool} (R : V → Hp → Prop) (h : ∀ k' : VK, (∀ y H', R y H' → k' y H') → if b = true then t1 σ H k' else t2 σ H k') (hk : ∀ y H', R y H' → k y H') : if b = true then t1 σ H k else t2 σ H k := h k hk
theorem noL_dH : ∀ o : Option (List Str), noL (dH o) = true
  | none => rfl
  | some v => noL_dV v
theorem noL_dOP : ∀ o : Option (List Cas), noL (dOP o) = true
  | none => rfl
  | some p => noLs_map noL_dC p
theorem noL_dKnd (k : Knd) : noL (dKnd k) = true := by
  show (true && (noLs (k.keys.map dKey) && (noL (dOP k.taking) && (noL (dH k.birth) && true)))) = true
  rw [noLs_map noL_dKey, noL_dOP, noL_dH]
  rfl
section
variable {P : Program} {w : World} {K : PySem.W.Frag} {mg : Str → Option Value} {base : Heap}
theorem ok_kinds5 (T : Top K mg) : FnOk P w K mg base CX0 5 T.a_l_kinds T.fd_l_kinds ["_law_bag_here", "_law_fields_z", "_law_most"] (spKinds5 K) := by
  have G_l_draw := ok_draw (P := P) (w := w) (base := base) T
  have G_l_words := ok_words (P := P) (w := w) (base := base) T
  have G_l_program := ok_program (P := P) (w := w) (base := base) T
  have G_l_value := ok_value5 (P := P) (w := w) (base := base) T
  have G_l_keys := ok_keys5 (P := P) (w := w) (base := base) T
  refine T.d_l_kinds.F.ok sc_l_kinds (fun vs H Q E h => ?_) (fun cdv A outer s H vs Q E hr h => ?_)
  · obtain ⟨b, l, a, G, xs, fs, rfl, _⟩ := h
    rfl
  obtain ⟨b, l, a, G, xs, fs, rfl, hS, hF, ok, wd, q⟩ := h
  refine ⟨_, (pss_cons (ps_par (i := 3) (j := 4) (by rfl) sc_l_kinds.nd rfl rfl (by decide) rfl rfl (pa_cons (pe_call G_l_words (hr.mono (by decide)) (by rfl) T.d_l_words.g T.d_l_words.kp T.d_l_words.b .nil pass0 (pa_cons (pv 0) (pa_cons pe_int pa_nil))) (pa_cons (pe_lst pa_nil) pa_nil)) (by rfl))
    (pss_cons (ps_for PassesOwn.never rfl (pi_range1 rfl T.b_range (pa_cons (pe_op op_add pe_int (pe_call G_l_draw (hr.mono (by decide)) (by rfl) T.d_l_draw.g T.d_l_draw.kp T.d_l_draw.b .nil pass0 (pa_cons (pv 0) (pa_cons (pe_callB (call_min2 rfl) (by rfl) T.b_min (by decide +kernel) (pa_cons (pv 2) (pa_cons pe_int pa_nil))) pa_nil)))) pa_nil)) (pg_name (i := 5) sc_l_kinds.nd rfl (Or.inl rfl))
      (pss_cons (ps_set (i := 6) sc_l_kinds.nd rfl (Or.inl rfl) (pe_ifExp (pt_cmpR op_eq (pe_call G_l_draw (hr.mono (by decide)) (by rfl) T.d_l_draw.g T.d_l_draw.kp T.d_l_draw.b .nil pass0 (pa_cons (pv 0) (pa_cons pe_int pa_nil))) pe_int (nomark _)) (pe_call G_l_program (hr.mono (by decide)) (by rfl) T.d_l_program.g T.d_l_program.kp T.d_l_program.b .nil pass0 (pa_cons (pv 0) (pa_cons (pv 1) (pa_cons pe_int pa_nil)))) pe_non))
      (pss_cons (ps_set (i := 7) sc_l_kinds.nd rfl (Or.inl rfl) (pe_ifExp (pt_cmpR op_eq (pe_call G_l_draw (hr.mono (by decide)) (by rfl) T.d_l_draw.g T.d_l_draw.kp T.d_l_draw.b .nil pass0 (pa_cons (pv 0) (pa_cons pe_int pa_nil))) pe_int (nomark _)) (pe_call G_l_value (hr.mono (by decide)) (by rfl) T.d_l_value.g T.d_l_value.kp T.d_l_value.b .nil pass0 (pa_cons (pv 0) (pa_cons (pv 1) pa_nil))) pe_non))
      (pss_one (ps_expr (pe_bm_K (K := K) (by rfl) PySem.F.plainAttrs_list PySem.F.slot_list_append PySem.F.type_list_append mt_append (pv 4) (pa_cons (pe_tup (pa_cons (pe_ix (ix_list_K (K := K) (by rfl)) (pv 3) (pv 5) (fun _ _ => rfl)) (pa_cons (pe_call G_l_keys (hr.mono (by decide)) (by rfl) T.d_l_keys.g T.d_l_keys.kp T.d_l_keys.b .nil pass0 (pa_cons (pv 0) (pa_cons (pv 1) pa_nil))) (pa_cons (pv 6) (pa_cons (pv 7) pa_nil))))) pa_nil)))))))
    (pss_one (ps_ret (pv 4))))), ?_⟩
  refine ⟨_, rfl, b, l, G, 3, rfl, by decide, by decide, wd, fun G1 H1 p ws s1 w1 h1 lw ndw nmw => ?_⟩
  refine ⟨Nat.zero_le _, fun pf nf => ?_⟩
  have g1f : G1 pf = none := w1.free nf
  have gf : G pf = none := s1.free g1f
  have w2 := w1.new (o := .lst []) nf
  have s2 := s1.trans (w1.sameG (o := .lst []) nf)
  have hpf : p ≠ pf := ne_of_none h1 g1f
  refine ⟨_, _, rfl, ?_⟩
  refine ⟨_, rfl, _, rfl, _, _, rfl, b, l, _, 3, rfl, by decide, by decide, w2, fun r H4 r0 r1 w4 => ?_⟩
  refine ⟨_, _, rfl, rfl, _, rfl, by omega, by omega, ?_⟩
  have h1' : (upd G1 pf (.lst [])) p = some (.lst (ws.map V.str)) := (upd_ne hpf).trans h1
  refine for_it walk_range (fun i σ H' => ∃ x5 x6 x7 G' ys ks, σ = [some (.ref b), some (.ref a), some (.int 3), some (.ref p), some (.ref pf), x5, x6, x7] ∧ Same G G' ∧ Wd b l G' H' ∧ G' pf = some (.lst ys) ∧ DpAll K G' ys (ks.map dKnd) ∧
      G' p = some (.lst (ws.map V.str)) ∧ ks.map (·.name) = ws.take i ∧ ∀ k ∈ ks, OkKnd fs k)
    ⟨none, none, none, _, [], [], rfl, s2, w4, upd_same, .nil, h1', rfl, (fun k hk => by cases hk)⟩ (fun _ _ _ _ _ => True.intro) ?_ ?_
  · rintro i v σ H' H'' hi ⟨x5, x6, x7, G', ys, ks, rfl, sg, w5, hx, hK, hw, ek, hk⟩ ⟨rfl, rfl⟩
    have sg' := sg
    have i3 : i < 3 := by omega
    refine ⟨_, rfl, b, l, _, 3, rfl, by decide, by decide, w5, fun r5 H5 r50 r51 w6 => ⟨rfl, _, rfl, ?_⟩⟩
    refine meet3 (fun y H6 => ∃ (G6 : Hp) (o : Option (List Cas)), Same G' G6 ∧ Wd b l G6 H6 ∧ Dp K G6 y (dOP o) ∧ ∀ p, o = some p → OkPrg fs p) (fun k' hk' => ?_) fun y6 H6 ⟨G6, o6, s6, w7, d6, t6⟩ => ?_
    · refine ite3 (fun e => ?_) (fun e => ?_)
      · refine ⟨_, rfl, _, rfl, b, l, a, G', 2, xs, fs, rfl, sg'.seq hS, fds_mono sg' hF, ok, by decide, by decide, w6, fun G7 H7 y7 pg s7 w7 d7 hc l1 l8 => ?_⟩
        exact hk' _ _ ⟨G7, some pg, s7, w7, d7, fun p e => by cases e; exact ⟨l1, l8, fun c h => ⟨(hc c h).1, by have := (hc c h).2.1; omega, fun ss e => by have := (hc c h).2.2.1 ss e; omega, (hc c h).2.2.2⟩⟩⟩
      · exact hk' _ _ ⟨G', none, Same.refl _, w6, .non, fun p e => by cases e⟩
    refine ⟨_, rfl, b, l, _, 2, rfl, by decide, by decide, w7, fun r7 H7 r70 r71 w8 => ⟨rfl, _, rfl, ?_⟩⟩
    refine meet3 (fun y H6 => ∃ (G8 : Hp) (o : Option (List Str)), Same G6 G8 ∧ Wd b l G8 H6 ∧ Dp K G8 y (dH o) ∧ ∀ v, o = some v → FitV fs v) (fun k' hk' => ?_) fun y8 H8 ⟨G8, o8, s8, w9, d8, t8⟩ => ?_
    · refine ite3 (fun e => ?_) (fun e => ?_)
      · have sg6 := sg.trans s6
        refine ⟨_, rfl, _, rfl, b, l, a, G6, xs, fs, rfl, sg6.seq hS, fds_mono sg6 hF, ok, w8, fun G7 H7 y7 v s7 w7 d7 hv => ?_⟩
        exact hk' _ _ ⟨G7, some v, s7, w7, d7, fun u e => by cases e; exact hv⟩
      · exact hk' _ _ ⟨G6, none, Same.refl _, w8, .non, fun p e => by cases e⟩
    have s68 := s6.trans s8
    have sg8 := sg.trans s68
    have hwi : ws[i]? = some ws[i] := List.getElem?_eq_getElem (by rw [lw]; exact i3)
    refine ⟨_, rfl, .inl ⟨rfl, _, SqL.of (w9.sm _ _ (s68 _ _ hx))⟩, _, rfl, _, rfl, p, _, _, .str ws[i], rfl, rfl, SqL.of (w9.sm _ _ (s68 _ _ hw)), at_nn (by omega) (by rw [show ((0 : Int) + (i : Int)).toNat = i by omega, List.getElem?_map, hwi]; rfl), ?_⟩
    refine ⟨_, rfl, _, rfl, b, l, a, G8, xs, fs, rfl, sg8.seq hS, fds_mono sg8 hF, ok, w9, fun G9 H9 y9 k9 s9 w10 d9 ok9 => ?_⟩
    refine ⟨_, rfl, _, rfl, (by show 4 ≤ sizeLine; decide), fun t nt => ?_⟩
    have w11 := w10.new (o := .tup [.str ws[i], y9, y6, y8]) nt
    have s11 := w10.sameG (o := .tup [.str ws[i], y9, y6, y8]) nt
    have sA := s68.trans (s9.trans s11)
    have hxA := sA _ _ hx
    have lks : ks.length = i := by
      have z := congrArg List.length ek
      rw [List.length_map, List.length_take, lw] at z
      omega
    refine ⟨pf, ys, _, rfl, rfl, w11.sm _ _ hxA, lt_line (by rw [DpAll.length hK, List.length_map]; omega), ?_⟩
    have im : Imm (upd G9 t (.tup [.str ws[i], y9, y6, y8])) (upd (upd G9 t (.tup [.str ws[i], y9, y6, y8])) pf (.lst (ys ++ [.ref t]))) := imm_upd hxA
    refine ⟨_, _, _, _, ys ++ [.ref t], ks ++ [⟨ws[i], k9, o6, o8⟩], rfl, same_mut (sg.trans sA) gf, w11.mut hxA, upd_same, ?_, ?_, ?_, ?_⟩
    · rw [List.map_append]
      refine dpa_snoc (DpAll.imm im (noLs_map noL_dKnd ks) (DpAll.mono sA hK)) (Dp.imm im (noL_dKnd _) ?_)
      exact .tup (SqT.of upd_same) (.cons (.str _) (.cons (Dp.mono s11 d9) (.cons (Dp.mono (s8.trans (s9.trans s11)) d6) (.cons (Dp.mono (s9.trans s11) d8) .nil))))
    · rw [upd_ne hpf]
      exact sA _ _ hw
    · rw [List.map_append, ek, List.take_add_one, hwi]
      rfl
    · intro k h'
      rcases List.mem_append.mp h' with h' | h'
      · exact hk k h'
      · cases List.mem_singleton.mp h'
        exact ⟨(nmw _ (List.mem_of_getElem? hwi)).1, ok9, t6, t8⟩
  · rintro σ H' ⟨x5, x6, x7, G', ys, ks, rfl, sg, w5, hx, hK, hw, ek, hk⟩
    have lk : ks.length = (1 + r).toNat := by
      have z := congrArg List.length ek
      rw [List.length_map, List.length_take, lw] at z
      omega
    refine ⟨_, rfl, q G' H' pf ys ks sg w5 hx hK (by omega) (by omega) ?_ hk⟩
    rw [ek]
    exact ndw.sublist (List.take_sublist _ _)
end
end Bh

set_option Elab.async false
set_option linter.all false
set_option maxRecDepth 100000
set_option maxHeartbeats 1000000
namespace Bh
open PySem PySem.Spec PyProof.Rows L2
theorem ext_ge : ∀ (fs : List Fld) (acc : List (List Str)), (∀ f ∈ fs, 1 ≤ f.2.length) → acc.length ≤ (fs.foldl ext1 acc).length
  | [], _, _ => Nat.le_refl _
  | f :: r, acc, h => by
    refine Nat.le_trans ?_ (ext_ge r (ext1 acc f) fun g hg => h g (List.mem_cons_of_mem _ hg))
    unfold ext1
    rw [flat_len]
    exact Nat.le_mul_of_pos_right _ (h f (List.mem_cons_self ..))
theorem vals_pre {fs : List Fld} (h : ∀ f ∈ fs, 1 ≤ f.2.length) (i : Nat) : (vals (fs.take i)).length ≤ (vals fs).length := by
  have e : vals fs = (fs.drop i).foldl ext1 (vals (fs.take i)) := by
    unfold vals
    rw [← List.foldl_append, List.take_append_drop]
  rw [e]
  exact ext_ge _ _ fun f hf => h f (List.mem_of_mem_drop hf)
theorem pool_op : ∀ o ∈ pool, IsOp o := by
  unfold IsOp
  decide +kernel
theorem FsOk5.pos {fs : List Fld} (h : FsOk5 fs) : ∀ f ∈ fs, 1 ≤ f.2.length := fun f hf => by
  have := (h.ok.os f hf).2.1
  omega
theorem FsOk5.fv {fs : List Fld} (h : FsOk5 fs) (i : Nat) : FsV (fs.take i) := fun j => by
  rw [List.take_take]
  have z := vals_pre h.pos (min j i)
  have := h.sz
  omega
theorem FsOk5.fb {fs : List Fld} (h : FsOk5 fs) (i : Nat) : FsB (fs.take i) := by
  refine ⟨?_, ?_, fun f hf => ?_⟩
  · rw [List.map_take]
    exact h.ok.nd.sublist (List.take_sublist _ _)
  · rw [List.length_take]
    have := h.ok.le
    omega
  · have := (h.ok.os f (List.mem_of_mem_take hf)).2.2.1
    omega
theorem FsOk5.fld {fs : List Fld} (h : FsOk5 fs) {i : Nat} {f : Fld} (hf : fs[i]? = some f) : OkFld (fs.take i) f := by
  have li := (List.getElem?_eq_some_iff.mp hf).1
  have hm := List.mem_of_getElem? hf
  have e : fs.take i ++ [f] = fs.take (i + 1) := by rw [List.take_add_one, hf]; rfl
  have os := h.ok.os f hm
  have le := h.ok.le
  refine ⟨?_, nd_takeM (f := fun f : Fld => f.1) h.ok.nd hf, h.ok.nm f hm, os.2.1, os.2.2.1, os.1, fun o ho => pool_op o (os.2.2.2 o ho), ?_, ?_, ?_⟩
  · rw [List.length_take]
    omega
  · rw [e]
    exact h.fb _
  · rw [e]
    exact h.fv _
  · rw [e]
    exact Nat.le_trans (vals_pre h.pos _) h.sz
theorem okbook_of {fs : List Fld} {ts : List Tie} {ks : List Knd} (h : FsOk5 fs) (t1 : 1 ≤ ts.length) (t2 : ts.length ≤ 4) (tnd : (ts.map (·.1)).Nodup) (tok : ∀ t ∈ ts, IsNm t.1 ∧ OkPrg fs t.2) (k1 : 1 ≤ ks.length) (k2 : ks.length ≤ 3) (knd : (ks.map (·.name)).Nodup) (kok : ∀ k ∈ ks, OkKnd fs k) : OkBook fs ts ks := by
  have z := h.fb fs.length
  have z2 := h.fv fs.length
  rw [List.take_length] at z z2
  exact ⟨h.ok.ne, h.ok.le, fun i f e => h.fld e, z, z2, t1, t2, tnd, tok, k1, k2, knd, kok⟩
theorem noL_dTie (t : Tie) : noL (dTie t) = true := by
  show (true && (noLs (t.2.map dC) && true)) = true
  rw [noLs_map noL_dC]
  rfl
def spBook5 (K : PySem.W.Frag) : Sp := fun vs H Q _ => ∃ (b l : Addr) (G : Hp), vs = [.ref b, .int 24, .int 3] ∧ Wd b l G H ∧
  ∀ (G' H' : Hp) (t p1 p2 p3 : Addr) (y1 y2 y3 : List V) (fs : List Fld) (ts : List Tie) (ks : List Knd), Same G G' → Wd b l G' H' → G' t = some (.tup [.ref p1, .ref p2, .ref p3]) → G' p1 = some (.lst y1) → G' p2 = some (.lst y2) → G' p3 = some (.lst y3) →
    DpAll K G' y1 (fs.map dF) → DpAll K G' y2 (ts.map dTie) → DpAll K G' y3 (ks.map dKnd) → OkBook fs ts ks → ts.length ≤ 3 → (∀ t ∈ ts, t.1 ≠ "zzzzzzzz") → Q (.ref t) H'
section
variable {P : Program} {w : World} {K : PySem.W.Frag} {mg : Str → Option Value} {base : Heap}
theorem ok_book5 (T : Top K mg) : FnOk P w K mg base CX0 6 T.a_l_book T.fd_l_book ["_law_bag_here", "_law_room", "_law_most"] (spBook5 K) := by
  have G_l_draw := ok_draw (P := P) (w := w) (base := base) T
  have G_l_words := ok_words (P := P) (w := w) (base := base) T
  have G_l_fields := ok_fields (P := P) (w := w) (base := base) T
  have G_l_program := ok_program (P := P) (w := w) (base := base) T
  have G_l_kinds := ok_kinds5 (P := P) (w := w) (base := base) T
  refine T.d_l_book.F.ok sc_l_book (fun vs H Q E h => ?_) (fun cdv A outer s H vs Q E hr h => ?_)
  · obtain ⟨b, l, G, rfl, _⟩ := h
    rfl
  obtain ⟨b, l, G, rfl, wd, q⟩ := h
  refine ⟨_, (pss_cons (ps_set (i := 3) sc_l_book.nd rfl (Or.inr rfl) (pe_call G_l_fields (hr.mono (by decide)) (by rfl) T.d_l_fields.g T.d_l_fields.kp T.d_l_fields.b .nil pass0 (pa_cons (pv 0) (pa_cons (pv 1) pa_nil))))
    (pss_cons (ps_set (i := 4) sc_l_book.nd rfl (Or.inr rfl) (pe_call G_l_words (hr.mono (by decide)) (by rfl) T.d_l_words.g T.d_l_words.kp T.d_l_words.b .nil pass0 (pa_cons (pv 0) (pa_cons pe_int pa_nil))))
    (pss_cons (ps_setLc (i := 5) (own := [("_law_k", 6)]) rfl sc_l_book.nd rfl rfl (sw_true rfl rfl rfl (by decide +kernel)) (pi_range1 rfl T.b_range (pa_cons (pe_op op_add pe_int (pe_call G_l_draw (hr.mono (by decide)) (by rfl) T.d_l_draw.g T.d_l_draw.kp T.d_l_draw.b .nil pass0 (pa_cons (pv 0) (pa_cons (pv 2) pa_nil)))) pa_nil)) (blkOk_by (own := [("_law_k", 6)]) (N := ["_law_bag_here", "_law_room", "_law_most", "_law_fields_z", "_law_names", "_law_ties_z", "_law_k"]) (sc := defScope s_l_book) (by decide +kernel)) (fun _ _ _ _ _ => by exact (pg_name (i := 6) sc_l_book.nd rfl (Or.inl rfl))) (fun _ _ _ _ _ => by exact pts_nil) (fun _ _ _ _ _ => by exact (pe_tup (pa_cons (pe_ix (ix_list_K (K := K) (by rfl)) (pv 4) (pv 6) (fun _ _ => rfl)) (pa_cons (pe_call G_l_program (hr.mono (by decide)) (by rfl) T.d_l_program.g T.d_l_program.kp T.d_l_program.b .nil pass0 (pa_cons (pv 0) (pa_cons (pv 3) (pa_cons pe_int pa_nil)))) pa_nil)))))
    (pss_one (ps_ret (pe_tup (pa_cons (pv 3) (pa_cons (pv 5) (pa_cons (pe_call G_l_kinds (hr.mono (by decide)) (by rfl) T.d_l_kinds.g T.d_l_kinds.kp T.d_l_kinds.b .nil pass0 (pa_cons (pv 0) (pa_cons (pv 3) (pa_cons (pv 2) pa_nil)))) pa_nil))))))))), ?_⟩
  refine ⟨_, rfl, _, rfl, b, l, G, rfl, wd, fun G1 H1 p1 y1 fs s1 w1 h1 hF ok5 => ?_⟩
  refine ⟨_, rfl, b, l, G1, 4, rfl, by decide, by decide, w1, fun G2 H2 p ws s2 w2 h2 lw ndw nmw => ?_⟩
  refine ⟨_, rfl, _, rfl, b, l, G2, 3, rfl, by decide, by decide, w2, fun r H3 r0 r1 w3 => ?_⟩
  refine ⟨_, _, rfl, rfl, _, rfl, by omega, by omega, fun D nD => ?_⟩
  have gD := w3.free nD
  refine lc_it walk_range (fun i H' => ∃ (G' : Hp) (ts : List Tie) (zs : List V), Same G2 G' ∧ Wd b l G' H' ∧ G' D = some (.lst zs) ∧ DpAll K G' zs (ts.map dTie) ∧ ts.map (·.1) = ws.take i ∧ ∀ t ∈ ts, (IsNm t.1 ∧ OkPrg fs t.2) ∧ t.1 ≠ "zzzzzzzz")
    ⟨_, [], [], w3.sameG nD, w3.new nD, upd_same, .nil, rfl, (fun k hk => by cases hk)⟩ (fun _ _ _ _ => True.intro) ?_ ?_
  · rintro i v H' H'' hi ⟨G', ts, zs, sg, w4, hD, hK, ek, hk⟩ ⟨rfl, rfl⟩
    refine ⟨rfl, ?_⟩
    have i3 : i < 4 := by omega
    have hwi : ws[i]? = some ws[i] := List.getElem?_eq_getElem (by rw [lw]; exact i3)
    have lts : ts.length = i := by
      have z := congrArg List.length ek
      rw [List.length_map, List.length_take, lw] at z
      omega
    refine ⟨_, rfl, _, rfl, p, _, _, .str ws[i], rfl, rfl, SqL.of (w4.sm _ _ (sg _ _ h2)), at_nn (by omega) (by rw [show ((0 : Int) + (i : Int)).toNat = i by omega, List.getElem?_map, hwi]; rfl), ?_⟩
    have sG := s2.trans sg
    refine ⟨_, rfl, _, rfl, b, l, p1, G', 3, y1, fs, rfl, SqL.of (sG _ _ h1), fds_mono sG hF, ok5.ok, by decide, by decide, w4, fun G5 H5 y pg s5 w5 d5 hc l1 l8 => ?_⟩
    refine ⟨(by show 2 ≤ sizeLine; decide), fun t nt => ?_⟩
    have w6 := w5.new (o := .tup [.str ws[i], y]) nt
    have s6 := w5.sameG (o := .tup [.str ws[i], y]) nt
    have sA := s5.trans s6
    have hDA := sA _ _ hD
    refine ⟨zs, w6.sm _ _ hDA, lt_line (by rw [DpAll.length hK, List.length_map]; omega), ?_⟩
    have im : Imm (upd G5 t (.tup [.str ws[i], y])) (upd (upd G5 t (.tup [.str ws[i], y])) D (.lst (zs ++ [.ref t]))) := imm_upd hDA
    refine ⟨_, ts ++ [(ws[i], pg)], zs ++ [.ref t], same_mut (sg.trans sA) gD, w6.mut hDA, upd_same, ?_, ?_, ?_⟩
    · rw [List.map_append]
      refine dpa_snoc (DpAll.imm im (noLs_map noL_dTie ts) (DpAll.mono sA hK)) (Dp.imm im (noL_dTie _) ?_)
      exact .tup (SqT.of upd_same) (.cons (.str _) (.cons (Dp.mono s6 d5) .nil))
    · rw [List.map_append, ek, List.take_add_one, hwi]
      rfl
    · intro k h'
      rcases List.mem_append.mp h' with h' | h'
      · exact hk k h'
      · cases List.mem_singleton.mp h'
        have z := nmw _ (List.mem_of_getElem? hwi)
        exact ⟨⟨z.1, l1, l8, fun c h => ⟨(hc c h).1, by have := (hc c h).2.1; omega, fun ss e => by have := (hc c h).2.2.1 ss e; omega, (hc c h).2.2.2⟩⟩, z.2⟩
  · rintro H' ⟨G', ts, zs, sg, w4, hD, hK, ek, hk⟩
    have sG := s2.trans sg
    have lts : ts.length = (1 + r).toNat := by
      have z := congrArg List.length ek
      rw [List.length_map, List.length_take, lw] at z
      omega
    refine ⟨_, rfl, _, rfl, _, rfl, _, rfl, _, rfl, b, l, p1, G', y1, fs, rfl, SqL.of (sG _ _ h1), fds_mono sG hF, ok5.ok, w4, fun G5 H5 p3 y3 ks s5 w5 h3 d3 k1 k2 knd kok => ?_⟩
    refine ⟨(by show 3 ≤ sizeLine; decide), fun t nt => ?_⟩
    have w6 := w5.new (o := .tup [.ref p1, .ref D, .ref p3]) nt
    have s6 := w5.sameG (o := .tup [.ref p1, .ref D, .ref p3]) nt
    have s56 := s5.trans s6
    refine q _ _ t p1 D p3 y1 zs y3 fs ts ks (s1.trans (sG.trans s56)) w6 upd_same (s56 _ _ (sG _ _ h1)) (s56 _ _ hD) (s6 _ _ h3) (fds_dp (fds_mono (sG.trans s56) hF)) (DpAll.mono s56 hK) (DpAll.mono s6 d3) (okbook_of ok5 (by omega) (by omega) ?_ (fun t h => (hk t h).1) k1 k2 knd kok) (by omega) fun t h => (hk t h).2
    rw [ek]
    exact ndw.sublist (List.take_sublist _ _)
end
end Bh

set_option Elab.async false
set_option linter.all false
set_option maxRecDepth 100000
set_option maxHeartbeats 1000000
namespace Bh
open PySem PySem.Spec PyProof.Rows L2 LamX NdefX
/-- the rulebook x has these parts -/
def RbAt (K : PySem.W.Frag) (H : Hp) (C x : Addr) (fs : List Fld) (ts : List Tie) (ks : List Knd) : Prop := ∃ (dx a1 a2 a3 : Addr) (y1 y2 y3 : List V), H x = some (.ins C dx (rbF a1 a2 a3)) ∧ H a1 = some (.lst y1) ∧ H a2 = some (.lst y2) ∧ H a3 = some (.lst y3) ∧
  DpAll K H y1 (fs.map dF) ∧ DpAll K H y2 (ts.map dTie) ∧ DpAll K H y3 (ks.map dKnd)
theorem RbAt.mono {K : PySem.W.Frag} {H H' : Hp} {C x : Addr} {fs : List Fld} {ts : List Tie} {ks : List Knd} (s : Same H H') (h : RbAt K H C x fs ts ks) : RbAt K H' C x fs ts ks := by
  obtain ⟨dx, a1, a2, a3, y1, y2, y3, h0, h1, h2, h3, d1, d2, d3⟩ := h
  exact ⟨dx, a1, a2, a3, y1, y2, y3, s _ _ h0, s _ _ h1, s _ _ h2, s _ _ h3, DpAll.mono s d1, DpAll.mono s d2, DpAll.mono s d3⟩
/-- how deep the parts are -/
theorem sh_T (t : Tst) : Sh 1 (dT t) := .tup (by show 3 ≤ 100000; decide) fun d h => by
  simp only [List.mem_cons, List.not_mem_nil, or_false] at h
  rcases h with rfl | rfl | rfl <;> exact .str
theorem depth_map {α : Type} {f : α → PyData} {n : Nat} (h : ∀ x, (f x).depth ≤ n) (l : List α) : PyData.depthAll (l.map f) ≤ n := depth_all fun d hd => by
  obtain ⟨x, _, rfl⟩ := List.mem_map.mp hd
  exact h x
theorem dep_str (l : List Str) : PyData.depthAll (l.map PyData.str) ≤ 0 := depth_map (fun _ => Nat.le_refl 0) l
theorem dep_dF (f : Fld) : (dF f).depth ≤ 2 := Nat.succ_le_succ (Nat.max_le.mpr ⟨Nat.zero_le _, Nat.max_le.mpr ⟨Nat.succ_le_succ (dep_str _), Nat.zero_le _⟩⟩)
theorem dep_dT (t : Tst) : (dT t).depth ≤ 1 := (sh_T t).depth
theorem dep_dS (s : Stp) : (dS s).depth ≤ 1 := Nat.succ_le_succ (Nat.max_le.mpr ⟨Nat.le_refl 0, Nat.max_le.mpr ⟨Nat.le_refl 0, Nat.le_refl 0⟩⟩)
theorem dep_dO : ∀ o : Option (List Stp), (dO o).depth ≤ 2
  | none => Nat.zero_le _
  | some ss => Nat.succ_le_succ (depth_map dep_dS ss)
theorem dep_dC (c : Cas) : (dC c).depth ≤ 3 := Nat.succ_le_succ (Nat.max_le.mpr ⟨Nat.succ_le_succ (depth_map dep_dT c.1), Nat.max_le.mpr ⟨dep_dO c.2, Nat.zero_le _⟩⟩)
theorem dep_dP (p : List Cas) : (dP p).depth ≤ 4 := Nat.succ_le_succ (depth_map dep_dC p)
theorem dep_dTie (t : Tie) : (dTie t).depth ≤ 5 := Nat.succ_le_succ (Nat.max_le.mpr ⟨Nat.zero_le _, Nat.max_le.mpr ⟨dep_dP _, Nat.zero_le _⟩⟩)
theorem dep_dOP : ∀ o : Option (List Cas), (dOP o).depth ≤ 4
  | none => Nat.zero_le _
  | some p => dep_dP p
theorem dep_dH : ∀ o : Option (List Str), (dH o).depth ≤ 4
  | none => Nat.zero_le _
  | some v => Nat.le_trans (Nat.succ_le_succ (dep_str v)) (by decide)
theorem dep_dKey (k : Str × Str) : (dKey k).depth ≤ 1 := Nat.succ_le_succ (Nat.max_le.mpr ⟨Nat.le_refl 0, Nat.max_le.mpr ⟨Nat.le_refl 0, Nat.le_refl 0⟩⟩)
theorem dep_dKnd (k : Knd) : (dKnd k).depth ≤ 5 := Nat.succ_le_succ (Nat.max_le.mpr ⟨Nat.zero_le _, Nat.max_le.mpr ⟨Nat.le_trans (Nat.succ_le_succ (depth_map dep_dKey k.keys)) (by decide), Nat.max_le.mpr ⟨dep_dOP _, Nat.max_le.mpr ⟨dep_dH _, Nat.zero_le _⟩⟩⟩⟩)
theorem dep_F (a b : List Fld) : min (PyData.list (a.map dF)).depth (PyData.list (b.map dF)).depth ≤ 64 := Nat.le_trans (Nat.min_le_left _ _) (Nat.le_trans (Nat.succ_le_succ (depth_map dep_dF a)) (by decide))
theorem dep_T (a b : List Tie) : min (PyData.list (a.map dTie)).depth (PyData.list (b.map dTie)).depth ≤ 64 := Nat.le_trans (Nat.min_le_left _ _) (Nat.le_trans (Nat.succ_le_succ (depth_map dep_dTie a)) (by decide))
theorem dep_K (a b : List Knd) : min (PyData.list (a.map dKnd)).depth (PyData.list (b.map dKnd)).depth ≤ 64 := Nat.le_trans (Nat.min_le_left _ _) (Nat.le_trans (Nat.succ_le_succ (depth_map dep_dKnd a)) (by decide))
/-- a method without parameters: a new list of these -/
def spLs (K : PySem.W.Frag) (C : Addr) (sel : List Fld → List Tie → List Knd → List PyData) : Sp := fun vs H Q _ => ∃ (x : Addr) (fs : List Fld) (ts : List Tie) (ks : List Knd), vs = [.ref x] ∧ RbAt K H C x fs ts ks ∧ OkBook fs ts ks ∧
  ∀ (p : Addr) (H' : Hp) (ys : List V), H p = none → Same H H' → H' p = some (.lst ys) → DpAll K H' ys (sel fs ts ks) → Q (.ref p) H'
section
variable {P : Program} {w : World} {K : PySem.W.Frag} {mg : Str → Option Value} {base : Heap} {f : Addr} {fd : FuncData}
theorem ok_mfields (T : Top K mg) (R : RbC K mg) (F : Fun K "fields" "Rulebook.fields" s_Rulebook_fields f fd) : FnOk P w K mg base CX0 1 f fd ["self"] (spLs K R.C (fun fs _ _ => fs.map dF)) := by
  refine F.ok sc_Rulebook_fields (fun vs H Q E h => ?_) (fun cdv A outer s H vs Q E hr h => ?_)
  · obtain ⟨x, fs, ts, ks, rfl, _⟩ := h
    rfl
  obtain ⟨x, fs, ts, ks, rfl, ⟨dx, a1, a2, a3, y1, y2, y3, h0, h1, h2, h3, d1, d2, d3⟩, ok, q⟩ := h
  refine ⟨_, (pss_one (ps_ret (pe_callTy (call_list_of_K (K := K) (by rfl)) (by rfl) T.b_list (by decide +kernel) (pa_cons (pe_fld (pv 0) (by rfl)) pa_nil)))), ?_⟩
  exact ⟨_, rfl, x, R.C, dx, _, .ref a1, rfl, h0, R.cl, R.n1, rfl, a1, _, rfl, .inl (SqL.of h1), fun p np => q p _ _ np (same_new np) upd_same (DpAll.mono (same_new np) d1)⟩
theorem ok_mties (T : Top K mg) (R : RbC K mg) (F : Fun K "ties" "Rulebook.ties" s_Rulebook_ties f fd) : FnOk P w K mg base CX0 1 f fd ["self"] (spLs K R.C (fun _ ts _ => ts.map dTie)) := by
  refine F.ok sc_Rulebook_ties (fun vs H Q E h => ?_) (fun cdv A outer s H vs Q E hr h => ?_)
  · obtain ⟨x, fs, ts, ks, rfl, _⟩ := h
    rfl
  obtain ⟨x, fs, ts, ks, rfl, ⟨dx, a1, a2, a3, y1, y2, y3, h0, h1, h2, h3, d1, d2, d3⟩, ok, q⟩ := h
  refine ⟨_, (pss_one (ps_ret (pe_callTy (call_list_of_K (K := K) (by rfl)) (by rfl) T.b_list (by decide +kernel) (pa_cons (pe_fld (pv 0) (by rfl)) pa_nil)))), ?_⟩
  exact ⟨_, rfl, x, R.C, dx, _, .ref a2, rfl, h0, R.cl, R.n2, rfl, a2, _, rfl, .inl (SqL.of h2), fun p np => q p _ _ np (same_new np) upd_same (DpAll.mono (same_new np) d2)⟩
theorem ok_mkinds (T : Top K mg) (R : RbC K mg) (F : Fun K "kinds" "Rulebook.kinds" s_Rulebook_kinds f fd) : FnOk P w K mg base CX0 1 f fd ["self"] (spLs K R.C (fun _ _ ks => ks.map dKnd)) := by
  refine F.ok sc_Rulebook_kinds (fun vs H Q E h => ?_) (fun cdv A outer s H vs Q E hr h => ?_)
  · obtain ⟨x, fs, ts, ks, rfl, _⟩ := h
    rfl
  obtain ⟨x, fs, ts, ks, rfl, ⟨dx, a1, a2, a3, y1, y2, y3, h0, h1, h2, h3, d1, d2, d3⟩, ok, q⟩ := h
  refine ⟨_, (pss_one (ps_ret (pe_callTy (call_list_of_K (K := K) (by rfl)) (by rfl) T.b_list (by decide +kernel) (pa_cons (pe_fld (pv 0) (by rfl)) pa_nil)))), ?_⟩
  exact ⟨_, rfl, x, R.C, dx, _, .ref a3, rfl, h0, R.cl, R.n3, rfl, a3, _, rfl, .inl (SqL.of h3), fun p np => q p _ _ np (same_new np) upd_same (DpAll.mono (same_new np) d3)⟩
theorem ok_mtie_names (T : Top K mg) (R : RbC K mg) (F : Fun K "tie_names" "Rulebook.tie_names" s_Rulebook_tie_names f fd) : FnOk P w K mg base CX0 2 f fd ["self"] (spLs K R.C (fun _ ts _ => ts.map fun c => .str c.1)) := by
  have G_names_of := ok_namesof (P := P) (w := w) (base := base) T
  refine F.ok sc_Rulebook_tie_names (fun vs H Q E h => ?_) (fun cdv A outer s H vs Q E hr h => ?_)
  · obtain ⟨x, fs, ts, ks, rfl, _⟩ := h
    rfl
  obtain ⟨x, fs, ts, ks, rfl, ⟨dx, a1, a2, a3, y1, y2, y3, h0, h1, h2, h3, d1, d2, d3⟩, ok, q⟩ := h
  refine ⟨_, (pss_one (ps_ret (pe_call G_names_of (hr.mono (by decide)) (by rfl) T.d_names_of.g T.d_names_of.kp T.d_names_of.b .nil pass0 (pa_cons (pe_fld (pv 0) (by rfl)) pa_nil)))), ?_⟩
  have hn := hds_of d2 (fun d hd => by
    obtain ⟨c, _, rfl⟩ := List.mem_map.mp hd
    exact named_dTie c)
  rw [List.map_map] at hn
  have hn : Paired (HdAt K H) y2 (ts.map fun c : Tie => c.1) := hn
  have t2 := ok.t2
  have k2 := ok.k2
  refine ⟨_, rfl, x, R.C, dx, _, .ref a2, rfl, h0, R.cl, R.n2, rfl, .ref a2, _, rfl, ⟨a2, _, rfl, .inl (SqL.of h2), hn⟩, by rw [List.length_map]; omega, fun p H' np s1 hp => q p H' _ np s1 hp ?_⟩
  have e : ts.map (fun c : Tie => PyData.str c.1) = (ts.map fun c : Tie => c.1).map PyData.str := by
    rw [List.map_map]
    rfl
  show DpAll K H' _ (ts.map fun c : Tie => PyData.str c.1)
  rw [e]
  exact strs_dp _
theorem ok_mkind_names (T : Top K mg) (R : RbC K mg) (F : Fun K "kind_names" "Rulebook.kind_names" s_Rulebook_kind_names f fd) : FnOk P w K mg base CX0 2 f fd ["self"] (spLs K R.C (fun _ _ ks => ks.map fun c => .str c.name)) := by
  have G_names_of := ok_namesof (P := P) (w := w) (base := base) T
  refine F.ok sc_Rulebook_kind_names (fun vs H Q E h => ?_) (fun cdv A outer s H vs Q E hr h => ?_)
  · obtain ⟨x, fs, ts, ks, rfl, _⟩ := h
    rfl
  obtain ⟨x, fs, ts, ks, rfl, ⟨dx, a1, a2, a3, y1, y2, y3, h0, h1, h2, h3, d1, d2, d3⟩, ok, q⟩ := h
  refine ⟨_, (pss_one (ps_ret (pe_call G_names_of (hr.mono (by decide)) (by rfl) T.d_names_of.g T.d_names_of.kp T.d_names_of.b .nil pass0 (pa_cons (pe_fld (pv 0) (by rfl)) pa_nil)))), ?_⟩
  have hn := hds_of d3 (fun d hd => by
    obtain ⟨c, _, rfl⟩ := List.mem_map.mp hd
    exact named_dKnd c)
  rw [List.map_map] at hn
  have hn : Paired (HdAt K H) y3 (ks.map Knd.name) := hn
  have t2 := ok.t2
  have k2 := ok.k2
  refine ⟨_, rfl, x, R.C, dx, _, .ref a3, rfl, h0, R.cl, R.n3, rfl, .ref a3, _, rfl, ⟨a3, _, rfl, .inl (SqL.of h3), hn⟩, by rw [List.length_map]; omega, fun p H' np s1 hp => q p H' _ np s1 hp ?_⟩
  have e : ks.map (fun c : Knd => PyData.str c.name) = (ks.map Knd.name).map PyData.str := by
    rw [List.map_map]
    rfl
  show DpAll K H' _ (ks.map fun c : Knd => PyData.str c.name)
  rw [e]
  exact strs_dp _
theorem ok_mall_values (T : Top K mg) (R : RbC K mg) (F : Fun K "all_values" "Rulebook.all_values" s_Rulebook_all_values f fd) : FnOk P w K mg base CX0 2 f fd ["self"] (spLs K R.C (fun fs _ _ => (vals fs).map dV)) := by
  have G_values_of := ok_valuesof (P := P) (w := w) (base := base) T
  refine F.ok sc_Rulebook_all_values (fun vs H Q E h => ?_) (fun cdv A outer s H vs Q E hr h => ?_)
  · obtain ⟨x, fs, ts, ks, rfl, _⟩ := h
    rfl
  obtain ⟨x, fs, ts, ks, rfl, ⟨dx, a1, a2, a3, y1, y2, y3, h0, h1, h2, h3, d1, d2, d3⟩, ok, q⟩ := h
  refine ⟨_, (pss_one (ps_ret (pe_call G_values_of (hr.mono (by decide)) (by rfl) T.d_values_of.g T.d_values_of.kp T.d_values_of.b .nil pass0 (pa_cons (pe_fld (pv 0) (by rfl)) pa_nil)))), ?_⟩
  exact ⟨_, rfl, x, R.C, dx, _, .ref a1, rfl, h0, R.cl, R.n1, rfl, .ref a1, fs, rfl, ⟨a1, _, rfl, .inl (SqL.of h1), d1⟩, ok.fb, ok.fv, fun p ys H' np s1 hp hd => q p H' ys np s1 hp hd⟩
theorem lg5 : ∀ n < 5, (((n : Nat) : Int)).natAbs.log2 < 1920 := by decide
theorem sz1000 {n : Nat} (h : n ≤ 1000) : n ≤ sizeLine := le_line (by omega)
abbrev fc1 : Str := Str.empty ++ "Rulebook("
abbrev fc2 (a : Nat) : Str := fc1 ++ toString (a : Int)
abbrev fc3 (a : Nat) : Str := fc2 a ++ " fields, "
abbrev fc4 (a b : Nat) : Str := fc3 a ++ toString (b : Int)
abbrev fc5 (a b : Nat) : Str := fc4 a b ++ " ties, "
abbrev fc6 (a b c : Nat) : Str := fc5 a b ++ toString (c : Int)
abbrev fc7 (a b c : Nat) : Str := fc6 a b c ++ " kinds)"
def fcB (a b c : Nat) : Bool := decide (fc1.length ≤ 1000) && (decide ((fc2 a).length ≤ 1000) && (decide ((fc3 a).length ≤ 1000) && (decide ((fc4 a b).length ≤ 1000) && (decide ((fc5 a b).length ≤ 1000) && (decide ((fc6 a b c).length ≤ 1000) && (decide ((fc7 a b c).length ≤ 1000) &&
    decide (fc7 a b c = ("Rulebook(" : Str) ++ toString (a : Int) ++ " fields, " ++ toString (b : Int) ++ " ties, " ++ toString (c : Int) ++ " kinds)")))))))
theorem rb_all : ((List.range 4).all fun a => (List.range 5).all fun b => (List.range 4).all fun c => fcB a b c) = true := by decide +kernel
theorem rb_face0 (a : Nat) (ha : a < 4) (b : Nat) (hb : b < 5) (c : Nat) (hc : c < 4) : fc1.length ≤ 1000 ∧ (fc2 a).length ≤ 1000 ∧ (fc3 a).length ≤ 1000 ∧ (fc4 a b).length ≤ 1000 ∧ (fc5 a b).length ≤ 1000 ∧ (fc6 a b c).length ≤ 1000 ∧ (fc7 a b c).length ≤ 1000 ∧
    fc7 a b c = ("Rulebook(" : Str) ++ toString (a : Int) ++ " fields, " ++ toString (b : Int) ++ " ties, " ++ toString (c : Int) ++ " kinds)" := by
  have h := List.all_eq_true.mp (List.all_eq_true.mp (List.all_eq_true.mp rb_all a (List.mem_range.mpr ha)) b (List.mem_range.mpr hb)) c (List.mem_range.mpr hc)
  unfold fcB at h
  simp only [Bool.and_eq_true, decide_eq_true_eq] at h
  exact h
theorem rb_face (a : Nat) (ha : a < 4) (b : Nat) (hb : b < 5) (c : Nat) (hc : c < 4) : fc1.length ≤ sizeLine ∧ (fc2 a).length ≤ sizeLine ∧ (fc3 a).length ≤ sizeLine ∧ (fc4 a b).length ≤ sizeLine ∧ (fc5 a b).length ≤ sizeLine ∧ (fc6 a b c).length ≤ sizeLine ∧ (fc7 a b c).length ≤ sizeLine ∧
    fc7 a b c = ("Rulebook(" : Str) ++ toString (a : Int) ++ " fields, " ++ toString (b : Int) ++ " ties, " ++ toString (c : Int) ++ " kinds)" := by
  obtain ⟨z1, z2, z3, z4, z5, z6, z7, z8⟩ := rb_face0 a ha b hb c hc
  exact ⟨sz1000 z1, sz1000 z2, sz1000 z3, sz1000 z4, sz1000 z5, sz1000 z6, sz1000 z7, z8⟩
def spRepr (K : PySem.W.Frag) (C : Addr) : Sp := fun vs H Q _ => ∃ (x : Addr) (fs : List Fld) (ts : List Tie) (ks : List Knd), vs = [.ref x] ∧ RbAt K H C x fs ts ks ∧ OkBook fs ts ks ∧ Q (.str ("Rulebook(" ++ toString (fs.length : Int) ++ " fields, " ++ toString (ts.length : Int) ++ " ties, " ++ toString (ks.length : Int) ++ " kinds)")) H
theorem ok_mrepr (T : Top K mg) (R : RbC K mg) (F : Fun K "__repr__" "Rulebook.__repr__" s_Rulebook__repr f fd) : FnOk P w K mg base CX0 1 f fd ["self"] (spRepr K R.C) := by
  refine F.ok sc_Rulebook__repr (fun vs H Q E h => ?_) (fun cdv A outer s H vs Q E hr h => ?_)
  · obtain ⟨x, fs, ts, ks, rfl, _⟩ := h
    rfl
  obtain ⟨x, fs, ts, ks, rfl, ⟨dx, a1, a2, a3, y1, y2, y3, h0, h1, h2, h3, d1, d2, d3⟩, ok, q⟩ := h
  refine ⟨_, (pss_one (ps_ret (pe_joined (.cons pe_str (.cons (pe_fmt (pe_callB (call_len_seq_K (K := K) (by rfl)) (by rfl) T.b_len PySem.boot_len (pa_cons (pe_fld (pv 0) (by rfl)) pa_nil))) (.cons pe_str (.cons (pe_fmt (pe_callB (call_len_seq_K (K := K) (by rfl)) (by rfl) T.b_len PySem.boot_len (pa_cons (pe_fld (pv 0) (by rfl)) pa_nil))) (.cons pe_str (.cons (pe_fmt (pe_callB (call_len_seq_K (K := K) (by rfl)) (by rfl) T.b_len PySem.boot_len (pa_cons (pe_fld (pv 0) (by rfl)) pa_nil))) (.cons pe_str .nil)))))))))), ?_⟩
  have l1 : y1.length = fs.length := by rw [DpAll.length d1, List.length_map]
  have l2 : y2.length = ts.length := by rw [DpAll.length d2, List.length_map]
  have l3 : y3.length = ks.length := by rw [DpAll.length d3, List.length_map]
  have f1 := ok.f1
  have f2 := ok.f2
  have t1 := ok.t1
  have t2 := ok.t2
  have k1 := ok.k1
  have k2 := ok.k2
  obtain ⟨z1, z2, z3, z4, z5, z6, z7, z8⟩ := rb_face y1.length (by omega) y2.length (by omega) y3.length (by omega)
  rw [← l1, ← l2, ← l3, ← z8] at q
  refine ⟨_, rfl, z1, ?_⟩
  refine ⟨_, rfl, x, R.C, dx, _, .ref a1, rfl, h0, R.cl, R.n1, rfl, a1, y1, rfl, .inl (SqL.of h1), .inr ⟨_, rfl, lg5 _ (by omega), _, rfl, z2, _, rfl, z3, ?_⟩⟩
  refine ⟨_, rfl, x, R.C, dx, _, .ref a2, rfl, h0, R.cl, R.n2, rfl, a2, y2, rfl, .inl (SqL.of h2), .inr ⟨_, rfl, lg5 _ (by omega), _, rfl, z4, _, rfl, z5, ?_⟩⟩
  refine ⟨_, rfl, x, R.C, dx, _, .ref a3, rfl, h0, R.cl, R.n3, rfl, a3, y3, rfl, .inl (SqL.of h3), .inr ⟨_, rfl, lg5 _ (by omega), _, rfl, z6, _, rfl, z7, ?_⟩⟩
  exact q
def spEqR (K : PySem.W.Frag) (C : Addr) : Sp := fun vs H Q _ => ∃ (x : Addr) (y : V) (fs : List Fld) (ts : List Tie) (ks : List Knd), vs = [.ref x, y] ∧ RbAt K H C x fs ts ks ∧ OkBook fs ts ks ∧
  ((∃ (z : Addr) (fs2 : List Fld) (ts2 : List Tie) (ks2 : List Knd), y = .ref z ∧ RbAt K H C z fs2 ts2 ks2 ∧ OkBook fs2 ts2 ks2 ∧ Q (.bl (PyData.eqv (.list (fs.map dF)) (.list (fs2.map dF)) && (PyData.eqv (.list (ts.map dTie)) (.list (ts2.map dTie)) && PyData.eqv (.list (ks.map dKnd)) (.list (ks2.map dKnd))))) H) ∨
   (∃ (z : Addr) (zs : List V), y = .ref z ∧ SqT K H z zs ∧ Q (.bl false) H))
theorem ok_meq (T : Top K mg) (R : RbC K mg) (F : Fun K "__eq__" "Rulebook.__eq__" s_Rulebook__eq f fd) : FnOk P w K mg base CX0 1 f fd ["self", "other"] (spEqR K R.C) := by
  refine F.ok sc_Rulebook__eq (fun vs H Q E h => ?_) (fun cdv A outer s H vs Q E hr h => ?_)
  · obtain ⟨x, y, fs, ts, ks, rfl, _⟩ := h
    rfl
  obtain ⟨x, y, fs, ts, ks, rfl, ⟨dx, a1, a2, a3, y1, y2, y3, h0, h1, h2, h3, d1, d2, d3⟩, ok, q⟩ := h
  refine ⟨_, (pss_cons (ps_if (pt_not (pt_val (pe_callB (call_isi_K (K := K) (by rfl)) (by rfl) T.b_isinstance (by decide +kernel) (pa_cons (pv 1) (pa_cons (pe_glob (v := .ref R.C) rfl R.g rfl) pa_nil))))) (pss_one (ps_ret pe_bl)) pss_nil)
    (pss_one (ps_ret (pe_and (pe_cmpR (op_eqP (K := K) (by rfl) hr.units) (pe_fld (pv 0) (by rfl)) (pe_fld (pv 1) (by rfl)) (nomark _)) (pe_and (pe_cmpR (op_eqP (K := K) (by rfl) hr.units) (pe_fld (pv 0) (by rfl)) (pe_fld (pv 1) (by rfl)) (nomark _)) (pe_one (pe_cmpR (op_eqP (K := K) (by rfl) hr.units) (pe_fld (pv 0) (by rfl)) (pe_fld (pv 1) (by rfl)) (nomark _)))))))), ?_⟩
  rcases q with ⟨z, fs2, ts2, ks2, rfl, ⟨dx', c1, c2, c3, z1, z2, z3, g0, g1, g2, g3, e1, e2, e3⟩, ok2, q⟩ | ⟨z, zs, rfl, hz, q⟩
  · refine ⟨_, rfl, _, _, _, _, true, rfl, .own _, .base (.ins g0 R.cl R.ha R.hn R.ht R.hm), R.k1, _, rfl, iteF ?_⟩
    have p1 : Dp K H (.ref a1) (.list (fs.map dF)) := .lst (SqL.of h1) d1
    have p2 : Dp K H (.ref a2) (.list (ts.map dTie)) := .lst (SqL.of h2) d2
    have p3 : Dp K H (.ref a3) (.list (ks.map dKnd)) := .lst (SqL.of h3) d3
    have r1 : Dp K H (.ref c1) (.list (fs2.map dF)) := .lst (SqL.of g1) e1
    have r2 : Dp K H (.ref c2) (.list (ts2.map dTie)) := .lst (SqL.of g2) e2
    have r3 : Dp K H (.ref c3) (.list (ks2.map dKnd)) := .lst (SqL.of g3) e3
    refine ⟨_, rfl, x, R.C, dx, _, .ref a1, rfl, h0, R.cl, R.n1, rfl, _, rfl, z, R.C, dx', _, .ref c1, rfl, g0, R.cl, R.n1, rfl, _, _, p1, r1, dep_F _ _, _, rfl, iteB (fun w1 => ?_) (fun w1 => ?_)⟩
    · refine ⟨_, rfl, x, R.C, dx, _, .ref a2, rfl, h0, R.cl, R.n2, rfl, _, rfl, z, R.C, dx', _, .ref c2, rfl, g0, R.cl, R.n2, rfl, _, _, p2, r2, dep_T _ _, _, rfl, iteB (fun w2 => ?_) (fun w2 => ?_)⟩
      · refine ⟨_, rfl, x, R.C, dx, _, .ref a3, rfl, h0, R.cl, R.n3, rfl, _, rfl, z, R.C, dx', _, .ref c3, rfl, g0, R.cl, R.n3, rfl, _, _, p3, r3, dep_K _ _, ?_⟩
        rw [w1, w2] at q
        exact q
      · rw [w1, w2] at q
        exact q
    · rw [w1] at q
      exact q
  · exact ⟨_, rfl, _, _, _, _, false, rfl, .own _, tyT hz, R.k2, _, rfl, iteT q⟩
end
end Bh

set_option Elab.async false
set_option linter.all false
set_option maxRecDepth 100000
set_option maxHeartbeats 2000000
namespace Bh
open PySem PySem.Spec PyProof.Rows L2
/-! ### own == and repr -/
/-- x == y by the class's own __eq__; y an instance of the class, or a tuple -/
def rEqIns (K : PySem.W.Frag) (C : Addr) (sp : Sp) : R2 := fun x y H Q => ∃ (a dx : Addr) (fs : List (Str × V)), x = .ref a ∧ H a = some (.ins C dx fs) ∧
  ((∃ (b dy : Addr) (gs : List (Str × V)), y = .ref b ∧ H b = some (.ins C dy gs)) ∨ ∃ (b : Addr) (zs : List V), y = .ref b ∧ SqT K H b zs) ∧ sp [x, y] H (fun v H' => (∃ r, v = .bl r) ∧ Q v H') C8.E0
section
variable {X : Cx} {C f : Addr} {fd : FuncData} {k : Nat} {sp : Sp} {p1 p2 : Str}
/-- the def f called with two values by the interpreter itself -/
theorem own_two (F : FnOk X.prog X.w X.K X.mg X.base C8.CX0 k f fd [p1, p2] sp) (hb : Binds X.K fd [p1, p2] []) {A : Around} (hr : Room k A) (fr : A.frames = X.A.frames) {pins : List (Addr × Obj)} {s : Shared} {σ : L2.St} {H : Hp} {x y : V} {u v : Value} {Q : VK} {E : Value → Shared → Prop}
    (I : Inv X pins σ H s) (rx : RelV x u) (ry : RelV y v) (h : sp [x, y] H Q C8.E0) : wpAny (model X.prog X.w) A (call (.ref f) [u, v]) (EP X pins σ Q) E s := by
  have en := I.env0
  have e0 : Env0 X.prog X.w X.K X.mg X.base A X.stack s H := ⟨by rw [fr]; exact en.frames, en.mod, en.bs, en.bsz, en.funs, en.frf, en.hok, en.bare⟩
  have bnd := hb s [u, v] I.kIn rfl
  rw [List.append_nil] at bnd
  refine wpAny_call (codeAny_mono (F.run A X.stack s H ⟨[u, v], []⟩ [u, v] [x, y] Q C8.E0 hr e0 bnd (.cons rx (.cons ry .nil)) h) fun r s2 z => ?_)
  cases r with
  | error e => exact (show False from z).elim
  | ok fl =>
    cases fl with
    | ret w => exact I.after z
    | next => exact z.elim
    | brk => exact z.elim
    | cont => exact z.elim
theorem op_eqIns (F : FnOk X.prog X.w X.K X.mg X.base C8.CX0 k f fd [p1, p2] sp) (hs : PySem.W.findIn X.K (.ref C) "__eq__" = some (some (.ref f))) (hf : PySem.W.isFn X.K (.ref f) = true) (hb : Binds X.K fd [p1, p2] []) (hr : Room k X.A)
    (ht : PySem.W.subIn X.K (.type "tuple") (.ref C) = some false) : OpR X (compareOp .Eq) (rEqIns X.K C sp) := by
  intro pins s σ H x y v u Q I rx ry h
  obtain ⟨a, dx, fs, rfl, ha, hy, hsp⟩ := h
  cases rx
  obtain ⟨mA, J, _⟩ := ins_get I.hok ha
  obtain ⟨od, J, _⟩ := J.look
  obtain ⟨m, hF⟩ := I.fr
  have body := own_two F hb hr rfl (E := X.xe) I (x := .ref a) (y := y) (u := .ref a) (v := u) rfl ry hsp
  show wpAny (model X.prog X.w) X.A (richCompare .Eq (.ref a) u) (EP X pins σ Q) X.xe s
  have go : ∀ tb, PySem.W.Looks (model X.prog X.w) s.heap (typeOf u) tb → PySem.W.notFirst X.K C tb = true → wpAny (model X.prog X.w) X.A (richCompare .Eq (.ref a) u) (EP X pins σ Q) X.xe s := fun tb h1 h2 => by
    refine PySem.W.cmp_K (op := .Eq) (tb := tb) hr.units0 hF I.ok.mod.kin J h1 h2 hs hf (wpAny_mono body (fun w s' z => ?_) fun _ _ e => e)
    obtain ⟨vr, H', I', rv, ⟨r, rfl⟩, q⟩ := z
    cases rv
    exact ⟨.bl r, H', I', rfl, q⟩
  rcases hy with ⟨b, dy, gs, rfl, hb'⟩ | ⟨b, zs, rfl, hz⟩
  · cases ry
    obtain ⟨mB, J', _⟩ := ins_get I.hok hb'
    obtain ⟨od', J', _⟩ := J'.look
    exact go _ J'.type (by simp [PySem.W.notFirst])
  · cases ry
    obtain ⟨its, _, pl, _⟩ := I.tuple hz
    obtain ⟨ob, ho, hc, _⟩ := id pl
    exact go (.type "tuple") (hc ▸ (PySem.W.Looks.ld ho).andThen .now) (by unfold PySem.W.notFirst; rw [ht]; rfl)
/-- repr(x) by the class's own __repr__ -/
def rReprIns (C : Addr) (sp : Sp) : List V → Hp → VK → Prop := fun xs H Q => ∃ (a dx : Addr) (fs : List (Str × V)), xs = [.ref a] ∧ H a = some (.ins C dx fs) ∧ sp xs H (fun v H' => (∃ r, v = .str r) ∧ Q v H') C8.E0
theorem own_one (F : FnOk X.prog X.w X.K X.mg X.base C8.CX0 k f fd [p1] sp) (hb : Binds X.K fd [p1] []) {A : Around} (hr : Room k A) (fr : A.frames = X.A.frames) {pins : List (Addr × Obj)} {s : Shared} {σ : L2.St} {H : Hp} {x : V} {u : Value} {Q : VK} {E : Value → Shared → Prop}
    (I : Inv X pins σ H s) (rx : RelV x u) (h : sp [x] H Q C8.E0) : wpAny (model X.prog X.w) A (call (.ref f) [u]) (EP X pins σ Q) E s := by
  have en := I.env0
  have e0 : Env0 X.prog X.w X.K X.mg X.base A X.stack s H := ⟨by rw [fr]; exact en.frames, en.mod, en.bs, en.bsz, en.funs, en.frf, en.hok, en.bare⟩
  have bnd := hb s [u] I.kIn rfl
  rw [List.append_nil] at bnd
  refine wpAny_call (codeAny_mono (F.run A X.stack s H ⟨[u], []⟩ [u] [x] Q C8.E0 hr e0 bnd (.cons rx .nil) h) fun r s2 z => ?_)
  cases r with
  | error e => exact (show False from z).elim
  | ok fl =>
    cases fl with
    | ret w => exact I.after z
    | next => exact z.elim
    | brk => exact z.elim
    | cont => exact z.elim
theorem call_reprIns (F : FnOk X.prog X.w X.K X.mg X.base C8.CX0 k f fd [p1] sp) (hs : PySem.W.findIn X.K (.ref C) "__repr__" = some (some (.ref f))) (hf : PySem.W.isFn X.K (.ref f) = true) (hb : Binds X.K fd [p1] []) (hr : Room (k + 1) X.A) : CallR X (.builtin "repr") (rReprIns C sp) := by
  intro pins s σ H xs us Q I r h
  obtain ⟨a, dx, fs, rfl, ha, hsp⟩ := h
  obtain ⟨u, rfl, rx⟩ := vals1 r
  cases rx
  obtain ⟨mA, J, _⟩ := ins_get I.hok ha
  obtain ⟨od, J, _⟩ := J.look
  obtain ⟨m, hF⟩ := I.fr
  have body := own_one F hb hr.in1 rfl (E := X.xe) I (x := .ref a) (u := .ref a) rfl hsp
  refine PySem.W.repr_K hr.in1.units0 hF I.ok.mod.kin J hs hf (wpAny_mono body (fun w s' z => ?_) fun _ _ e => e)
  obtain ⟨vr, H', I', rv, ⟨r, rfl⟩, q⟩ := z
  obtain ⟨t, rfl⟩ := rv
  exact ⟨.str r, H', I', ⟨t, rfl⟩, q⟩
/-- the class's own names: its __eq__, no __ne__ -/
def nsB (K : PySem.W.Frag) (N f : Addr) : Bool := match K.lookup N with
  | some ⟨_, _, .dict es _, _⟩ => (es.toList.all fun e => match e.key with
      | .str _ _ => true
      | _ => false) && (decide (nsFind es "__eq__" = some (.ref f)) && decide (nsFind es "__ne__" = none))
  | _ => false
/-- a class over object alone -/
structure NeC (K : PySem.W.Frag) (C f : Addr) : Prop where
  lk : ∃ nm q N bs hdct sn sub ab col dd k0 k1 k2 k3 k5 newId, K.lookup C = some (excClassObj nm q C N bs [.type "object"] hdct sn sub ab col dd k0 k1 k2 k3 k5 newId) ∧ nsB K N f = true
  fn : ∃ o : Obj, K.lookup f = some o ∧ o.cls = .type "function"
theorem NeC.own {K : PySem.W.Frag} {C f x : Addr} {h : Heap} {ox : Obj} (c : NeC K C f) (X : K.In h) (hx : h.get? x = some ox) (hc : ox.cls = .ref C) : h.OwnEqNoNe x C f "object" [.type "object"] := by
  obtain ⟨nm, q, N, bs, hdct, sn, sub, ab, col, dd, k0, k1, k2, k3, k5, newId, lk, hn⟩ := c.lk
  obtain ⟨of, lf, cf⟩ := c.fn
  unfold nsB at hn
  cases e : K.lookup N with
  | none => rw [e] at hn; cases hn
  | some o =>
    obtain ⟨oc, od, dt, osl⟩ := o
    rw [e] at hn
    cases dt with
    | dict es ep =>
      have hn : ((es.toList.all fun e => match e.key with
        | .str _ _ => true
        | _ => false) && (decide (nsFind es "__eq__" = some (.ref f)) && decide (nsFind es "__ne__" = none))) = true := hn
      rw [Bool.and_eq_true, Bool.and_eq_true, decide_eq_true_eq, decide_eq_true_eq] at hn
      obtain ⟨n1, n2, n3⟩ := hn
      have sk : StrKeys es := fun u hu => by
        have z := List.all_eq_true.mp n1 u (Array.mem_toList_iff.mpr hu)
        cases ek : u.key with
        | str a b => exact ⟨a, b, rfl⟩
        | _ => rw [ek] at z; cases z
      exact ⟨ox, of, nm, q, N, bs, hdct, sn, sub, ab, col, dd, k0, k1, k2, k3, k5, newId, nsFind es, _, hx, hc, X _ _ lk, ⟨_, es, ep, X _ _ e, rfl, sk, fun _ => rfl⟩, n2, X _ _ lf, cf, F.cmp_object.mro, F.cmp_object.eq.lookup, n3⟩
    | _ => cases hn
/-- x != y of two instances of a class with its own __eq__ -/
def rNeIns (C : Addr) (sp : Sp) : R2 := fun x y H Q => ∃ (a dx : Addr) (fs : List (Str × V)) (b dy : Addr) (gs : List (Str × V)), x = .ref a ∧ H a = some (.ins C dx fs) ∧ y = .ref b ∧ H b = some (.ins C dy gs) ∧ sp [x, y] H (fun v H' => ∃ r, v = .bl r ∧ Q (.bl (!r)) H') C8.E0
theorem op_neIns (F : FnOk X.prog X.w X.K X.mg X.base C8.CX0 k f fd [p1, p2] sp) (c : NeC X.K C f) (hb : Binds X.K fd [p1, p2] []) (hr : Room (k + 1) X.A) : OpR X (compareOp .NotEq) (rNeIns C sp) := by
  intro pins s σ H x y v u Q I rx ry h
  obtain ⟨a, dx, fs, b, dy, gs, rfl, ha, rfl, hb', hsp⟩ := h
  cases rx
  cases ry
  obtain ⟨mA, J, _⟩ := ins_get I.hok ha
  obtain ⟨od, J, _⟩ := J.look
  obtain ⟨mB, J', _⟩ := ins_get I.hok hb'
  obtain ⟨od', J', _⟩ := J'.look
  have body := own_two F hb hr.in1 rfl (E := X.xe) I (x := .ref a) (y := .ref b) (u := .ref a) (v := .ref b) rfl rfl hsp
  refine compareOp_ne_ownEq PySem.F.cmp_object (c.own I.kIn J.at_ J.cls) J'.at_ J'.cls (by have := hr.units; omega) (wpAny_mono body (fun w s' z => ?_) fun _ _ e => e)
  obtain ⟨vr, H', I', rv, r, rfl, q⟩ := z
  cases rv
  exact ⟨r, rfl, .bl (!r), H', I', rfl, q⟩
end
end Bh

set_option Elab.async false
set_option linter.all false
set_option maxRecDepth 100000
set_option maxHeartbeats 1000000
namespace Bh
open PySem PySem.Spec PyProof.Rows L2 LamX NdefX
/-- a method of the class at C -/
structure Mt (K : PySem.W.Frag) (C : Addr) (m qual : Str) (st : Stmt) (ps : List Str) : Type where
  f : Addr
  fd : FuncData
  F : Fun K m qual st f fd
  M : Meth K C m f
  b : Binds K fd ps []
/-- the class Rulebook with all that is called of it -/
structure RbM (K : PySem.W.Frag) (mg : Str → Option Value) (R : RbC K mg) (cI pI : Addr) : Type where
  fI : Addr
  od : Option Addr
  an : Option Addr
  oc : Value
  kV : Value
  doc : Value
  pm : Value
  ct : Value
  osl : Array (Option Value)
  lk : K.lookup fI = some ⟨oc, od, .func (PySem.W.fnOf "__init__" "Rulebook.__init__" (defArgs s_Rulebook__init) (defBody s_Rulebook__init) (defScope s_Rulebook__init) .none kV doc pm an (.ref cI) ct), osl⟩
  hcd : PySem.W.codeIn K (.ref cI) "Rulebook.__init__" = true
  mkr : Mk K R.C fI
  fields : Mt K R.C "fields" "Rulebook.fields" s_Rulebook_fields ["self"]
  ties : Mt K R.C "ties" "Rulebook.ties" s_Rulebook_ties ["self"]
  kinds : Mt K R.C "kinds" "Rulebook.kinds" s_Rulebook_kinds ["self"]
  tie_names : Mt K R.C "tie_names" "Rulebook.tie_names" s_Rulebook_tie_names ["self"]
  kind_names : Mt K R.C "kind_names" "Rulebook.kind_names" s_Rulebook_kind_names ["self"]
  all_values : Mt K R.C "all_values" "Rulebook.all_values" s_Rulebook_all_values ["self"]
  eq : Mt K R.C "__eq__" "Rulebook.__eq__" s_Rulebook__eq ["self", "other"]
  rp : Mt K R.C "__repr__" "Rulebook.__repr__" s_Rulebook__repr ["self"]
  eqT : PySem.W.subIn K (.type "tuple") (.ref R.C) = some false
  ne : NeC K R.C eq.f
  mc : Value
  cr : ClX.CRead K R.C mc
  u1 : Value
  u2 : Value
  u3 : Value
  v1 : ClX.CVal K R.C mc "MAX_VALUES" (.int 24) u1
  v2 : ClX.CVal K R.C mc "MAX_TIES" (.int 4) u2
  v3 : ClX.CVal K R.C mc "MAX_KINDS" (.int 3) u3
abbrev RbM.fdI {K : PySem.W.Frag} {mg : Str → Option Value} {R : RbC K mg} {cI pI : Addr} (M : RbM K mg R cI pI) : FuncData := PySem.W.fnOf "__init__" "Rulebook.__init__" (defArgs s_Rulebook__init) (defBody s_Rulebook__init) (defScope s_Rulebook__init) .none M.kV M.doc M.pm M.an (.ref cI) M.ct
theorem kb_ties_kinds {K : PySem.W.Frag} {mg : Str → Option Value} {R : RbC K mg} {cI pI : Addr} (M : RbM K mg R cI pI) : KBn K M.fdI ["self", "fields", "ties", "kinds"] 2 ["ties", "kinds"] (fun us ws => us ++ ws) (fun vs zs => vs ++ zs) :=
  ⟨fun s us ws _ l1 l2 => match us, ws, l1, l2 with
    | [_, _], [_, _], _, _ => .of_eq rfl, fun r1 r2 => r1.append r2⟩
def turn4 {α : Type} : List α → List α → List α
  | [a], [k, t, f] => [a, f, t, k]
  | _, _ => []
theorem turn4_rel {vs zs : List V} {us ws : List Value} (h : Vals vs us) (k : Vals zs ws) : Vals (turn4 vs zs) (turn4 us ws) := by
  cases h with
  | nil => exact .nil
  | cons a h =>
    cases h with
    | cons b h => exact .nil
    | nil =>
      cases k with
      | nil => exact .nil
      | cons x k =>
        cases k with
        | nil => exact .nil
        | cons y k =>
          cases k with
          | nil => exact .nil
          | cons z k =>
            cases k with
            | nil => exact .cons a (.cons z (.cons y (.cons x .nil)))
            | cons _ k => exact .nil
theorem kb_kinds_ties_fields {K : PySem.W.Frag} {mg : Str → Option Value} {R : RbC K mg} {cI pI : Addr} (M : RbM K mg R cI pI) : KBn K M.fdI ["self", "fields", "ties", "kinds"] 1 ["kinds", "ties", "fields"] turn4 turn4 :=
  ⟨fun s us ws _ l1 l2 => match us, ws, l1, l2 with
    | [_], [_, _, _], _, _ => .of_eq rfl, fun r1 r2 => turn4_rel r1 r2⟩
/-- what is known, but tables of code objects -/
def noTb (H : Hp) : Hp := fun a => match H a with
  | some (.tbl _) => none
  | o => o
theorem noTb_le {H : Hp} : Same (noTb H) H := fun a o e => by
  unfold noTb at e
  split at e
  · cases e
  · exact e
theorem noTb_at {H : Hp} {a : Addr} {o : HO} (e : H a = some o) (n : ∀ ps, o ≠ .tbl ps) : noTb H a = some o := by
  unfold noTb
  rw [e]
  cases o with
  | tbl ps => exact absurd rfl (n ps)
  | _ => rfl
theorem noTb_not {H : Hp} {a : Addr} {o : HO} (e : noTb H a = some o) : ∀ ps, o ≠ .tbl ps := fun ps z => by
  unfold noTb at e
  split at e
  · cases e
  · rename_i n
    exact n ps (z ▸ e)
/-- the rulebook x with its lists -/
def RbA (K : PySem.W.Frag) (H : Hp) (C x a1 a2 a3 : Addr) (fs : List Fld) (ts : List Tie) (ks : List Knd) : Prop := ∃ (dx : Addr) (y1 y2 y3 : List V), H x = some (.ins C dx (rbF a1 a2 a3)) ∧ H a1 = some (.lst y1) ∧ H a2 = some (.lst y2) ∧ H a3 = some (.lst y3) ∧
  DpAll K H y1 (fs.map dF) ∧ DpAll K H y2 (ts.map dTie) ∧ DpAll K H y3 (ks.map dKnd)
theorem RbA.at_ {K : PySem.W.Frag} {H : Hp} {C x a1 a2 a3 : Addr} {fs : List Fld} {ts : List Tie} {ks : List Knd} (h : RbA K H C x a1 a2 a3 fs ts ks) : RbAt K H C x fs ts ks := by
  obtain ⟨dx, y1, y2, y3, h⟩ := h
  exact ⟨dx, a1, a2, a3, y1, y2, y3, h⟩
theorem rb_made {K : PySem.W.Frag} {pI C : Addr} {H : Hp} {v1 v2 v3 : V} {fs : List Fld} {ts : List Tie} {ks : List Knd} {Q : Hp → Prop} {E : XK} {x dx : Addr} (nx : H x = none) (nd : H dx = none) (ne : dx ≠ x) (h1 : DpS K H v1 (fs.map dF)) (h2 : DpS K H v2 (ts.map dTie)) (h3 : DpS K H v3 (ks.map dKnd))
    (ok : OkBook fs ts ks) (tb : TabS H pI rbQ) (q : ∀ (H' : Hp) (a1 a2 a3 : Addr), Same (noTb H) H' → noTb H a1 = none → noTb H a2 = none → noTb H a3 = none → RbA K H' C x a1 a2 a3 fs ts ks → TabS H' pI rbQ → Q H') :
    spInit K pI C [.ref x, v1, v2, v3] (upd (upd H dx (.own x)) x (.ins C dx [])) (fun v H3 => v = .non ∧ Q H3) E := by
  have s1 : Same H (upd (upd H dx (.own x)) x (.ins C dx [])) := (same_new nd).trans (same_new ((upd_ne (Ne.symm ne)).trans nx))
  have up : Same (noTb H) (noT x (upd (upd H dx (.own x)) x (.ins C dx []))) := fun a o e =>
    noT_at (s1 _ _ (noTb_le _ _ e)) (noTb_not e) fun z => by
      have := noTb_le _ _ e
      rw [z, nx] at this
      cases this
  have non : ∀ {a : Addr}, noT x (upd (upd H dx (.own x)) x (.ins C dx [])) a = none → noTb H a = none := fun {a} e => by
    cases k : noTb H a with
    | none => rfl
    | some o =>
      rw [up _ _ k] at e
      cases e
  refine ⟨x, dx, v1, v2, v3, fs, ts, ks, rfl, upd_same, h1.mono s1, h2.mono s1, h3.mono s1, ok, tb.ext s1, fun H' a1 a2 a3 y1 y2 y3 s hx g1 g2 g3 n1 n2 n3 d1 d2 d3 t => ⟨rfl, ?_⟩⟩
  exact q H' a1 a2 a3 (up.trans s) (non n1) (non n2) (non n3) ⟨dx, y1, y2, y3, hx, g1, g2, g3, d1, d2, d3⟩ t
/-- the three parts, as they are drawn -/
def BkAt (K : PySem.W.Frag) (H : Hp) (t p1 p2 p3 : Addr) (fs : List Fld) (ts : List Tie) (ks : List Knd) : Prop := ∃ (y1 y2 y3 : List V), H t = some (.tup [.ref p1, .ref p2, .ref p3]) ∧ H p1 = some (.lst y1) ∧ H p2 = some (.lst y2) ∧ H p3 = some (.lst y3) ∧
  DpAll K H y1 (fs.map dF) ∧ DpAll K H y2 (ts.map dTie) ∧ DpAll K H y3 (ks.map dKnd)
theorem BkAt.mono {K : PySem.W.Frag} {H H' : Hp} {t p1 p2 p3 : Addr} {fs : List Fld} {ts : List Tie} {ks : List Knd} (s : Same H H') (h : BkAt K H t p1 p2 p3 fs ts ks) : BkAt K H' t p1 p2 p3 fs ts ks := by
  obtain ⟨y1, y2, y3, h0, h1, h2, h3, d1, d2, d3⟩ := h
  exact ⟨y1, y2, y3, s _ _ h0, s _ _ h1, s _ _ h2, s _ _ h3, DpAll.mono s d1, DpAll.mono s d2, DpAll.mono s d3⟩
theorem RbA.mono {K : PySem.W.Frag} {H H' : Hp} {C x a1 a2 a3 : Addr} {fs : List Fld} {ts : List Tie} {ks : List Knd} (s : Same H H') (h : RbA K H C x a1 a2 a3 fs ts ks) : RbA K H' C x a1 a2 a3 fs ts ks := by
  obtain ⟨dx, y1, y2, y3, h0, h1, h2, h3, d1, d2, d3⟩ := h
  exact ⟨dx, y1, y2, y3, s _ _ h0, s _ _ h1, s _ _ h2, s _ _ h3, DpAll.mono s d1, DpAll.mono s d2, DpAll.mono s d3⟩
def spMade5 (K : PySem.W.Frag) (pI C : Addr) : Sp := fun vs H Q _ => ∃ (t p1 p2 p3 : Addr) (fs : List Fld) (ts : List Tie) (ks : List Knd), vs = [.ref t] ∧ BkAt K H t p1 p2 p3 fs ts ks ∧ OkBook fs ts ks ∧ TabS H pI rbQ ∧
  ∀ (H' : Hp) (x a1 a2 a3 : Addr), Same (noTb H) H' → H x = none → noTb H a1 = none → noTb H a2 = none → noTb H a3 = none → RbA K H' C x a1 a2 a3 fs ts ks → TabS H' pI rbQ → Q (.ref x) H'
section
variable {P : Program} {w : World} {K : PySem.W.Frag} {mg : Str → Option Value} {base : Heap} {cI pI : Addr}
theorem ok_made5 (T : Top K mg) {R : RbC K mg} (M : RbM K mg R cI pI) (TB : TabB base mg cI pI) : FnOk P w K mg base CX0 11 T.a_l_made T.fd_l_made ["_law_m"] (spMade5 K pI R.C) := by
  have G_Rulebook := ok_rinit (P := P) (w := w) T R TB M.lk M.hcd
  refine T.d_l_made.F.ok sc_l_made (fun vs H Q E h => ?_) (fun cdv A outer s H vs Q E hr h => ?_)
  · obtain ⟨t, p1, p2, p3, fs, ts, ks, rfl, _⟩ := h
    rfl
  obtain ⟨t, p1, p2, p3, fs, ts, ks, rfl, hB, ok, tb, q⟩ := h
  refine ⟨_, (pss_one (ps_ret (pe_makeK M.mkr G_Rulebook (hr.mono (by decide)) (by rfl) R.g (kb_ties_kinds M) pass0 (pa_cons (pe_ix (ix_tup_K (K := K) (by rfl)) (pv 0) pe_int (fun _ _ => rfl)) pa_nil) (pk_cons (pe_ix (ix_tup_K (K := K) (by rfl)) (pv 0) pe_int (fun _ _ => rfl)) (pk_cons (pe_ix (ix_tup_K (K := K) (by rfl)) (pv 0) pe_int (fun _ _ => rfl)) pk_nil))))), ?_⟩
  obtain ⟨y1, y2, y3, h0, h1, h2, h3, d1, d2, d3⟩ := id hB
  have ht : SqT K H t [.ref p1, .ref p2, .ref p3] := SqT.of h0
  refine ⟨_, rfl, t, _, (0 : Int), .ref p1, rfl, rfl, ht, at_nn (by decide) rfl, _, rfl, t, _, (1 : Int), .ref p2, rfl, rfl, ht, at_nn (by decide) rfl, _, rfl, t, _, (2 : Int), .ref p3, rfl, rfl, ht, at_nn (by decide) rfl, rfl, rfl, fun x dx nx nd ne => ?_⟩
  exact rb_made nx nd ne ⟨p1, y1, rfl, .inl (SqL.of h1), d1⟩ ⟨p2, y2, rfl, .inl (SqL.of h2), d2⟩ ⟨p3, y3, rfl, .inl (SqL.of h3), d3⟩ ok tb fun H' a1 a2 a3 s n1 n2 n3 ra t2 => q H' x a1 a2 a3 s nx n1 n2 n3 ra t2
abbrev dst (n : Nat) : Str := toString (n : Int)
def szs (a b c : Nat) : List Str := [dst a, dst b, dst c]
abbrev ga : Str := "Rulebook("
abbrev g1 (a : Nat) : Str := ga ++ toString (a : Int)
abbrev g2 (a : Nat) : Str := g1 a ++ " fields, "
abbrev g3 (a b : Nat) : Str := g2 a ++ toString (b : Int)
abbrev g4 (a b : Nat) : Str := g3 a b ++ " ties, "
abbrev g5 (a b c : Nat) : Str := g4 a b ++ toString (c : Int)
def gB (a b c : Nat) : Bool := decide (ga.length + (toString (a : Int) : Str).length ≤ 1000) && (decide ((g1 a).length + (" fields, " : Str).length ≤ 1000) && (decide ((g2 a).length + (toString (b : Int) : Str).length ≤ 1000) && (decide ((g3 a b).length + (" ties, " : Str).length ≤ 1000) &&
  (decide ((g4 a b).length + (toString (c : Int) : Str).length ≤ 1000) && decide ((g5 a b c).length + (" kinds)" : Str).length ≤ 1000)))))
theorem g_all : ((List.range 4).all fun a => (List.range 5).all fun b => (List.range 4).all fun c => gB a b c) = true := by decide +kernel
theorem g_face (a : Nat) (ha : a < 4) (b : Nat) (hb : b < 5) (c : Nat) (hc : c < 4) : ga.length + (toString (a : Int) : Str).length ≤ 1000 ∧ (g1 a).length + (" fields, " : Str).length ≤ 1000 ∧ (g2 a).length + (toString (b : Int) : Str).length ≤ 1000 ∧ (g3 a b).length + (" ties, " : Str).length ≤ 1000 ∧
    (g4 a b).length + (toString (c : Int) : Str).length ≤ 1000 ∧ (g5 a b c).length + (" kinds)" : Str).length ≤ 1000 := by
  have h := List.all_eq_true.mp (List.all_eq_true.mp (List.all_eq_true.mp g_all a (List.mem_range.mpr ha)) b (List.mem_range.mpr hb)) c (List.mem_range.mpr hc)
  unfold gB at h
  simp only [Bool.and_eq_true, decide_eq_true_eq] at h
  exact h
def spFaces5 (K : PySem.W.Frag) (C : Addr) : Sp := fun vs H Q _ => ∃ (x y t p1 p2 p3 a1 a2 a3 c1 c2 c3 : Addr) (fs : List Fld) (ts : List Tie) (ks : List Knd), vs = [.ref x, .ref y, .ref t] ∧ RbA K H C x a1 a2 a3 fs ts ks ∧ RbA K H C y c1 c2 c3 fs ts ks ∧ BkAt K H t p1 p2 p3 fs ts ks ∧ OkBook fs ts ks ∧ ∀ H', Same H H' → Q (.bl true) H'
theorem ok_faces5 (T : Top K mg) {R : RbC K mg} (M : RbM K mg R cI pI) : FnOk P w K mg base CX0 3 T.a_l_faces T.fd_l_faces ["_law_book_here", "_law_twin", "_law_m"] (spFaces5 K R.C) := by
  have G_eq := ok_meq (P := P) (w := w) (base := base) T R M.eq.F
  have G_rp := ok_mrepr (P := P) (w := w) (base := base) T R M.rp.F
  refine T.d_l_faces.F.ok sc_l_faces (fun vs H Q E h => ?_) (fun cdv A outer s H vs Q E hr h => ?_)
  · obtain ⟨x, y, t, p1, p2, p3, a1, a2, a3, c1, c2, c3, fs, ts, ks, rfl, _⟩ := h
    rfl
  obtain ⟨x, y, t, p1, p2, p3, a1, a2, a3, c1, c2, c3, fs, ts, ks, rfl, hx, hy, hB, ok, q⟩ := h
  refine ⟨_, (pss_cons (ps_setLc (i := 3) (own := [("_law_part", 6)]) rfl sc_l_faces.nd rfl rfl (sw_true rfl rfl rfl (by decide +kernel)) (pi_tup_K (K := K) (by rfl) (pv 2)) (blkOk_by (own := [("_law_part", 6)]) (N := ["_law_book_here", "_law_twin", "_law_m", "_law_sizes", "_law_face", "_law_good", "_law_part"]) (sc := defScope s_l_faces) (by decide +kernel)) (fun _ _ _ _ _ => by exact (pg_name (i := 6) sc_l_faces.nd rfl (Or.inl rfl))) (fun _ _ _ _ _ => by exact pts_nil) (fun _ _ _ _ _ => by exact (pe_callTy call_str_int (by rfl) T.b_str (by decide +kernel) (pa_cons (pe_callB (call_len_seq_K (K := K) (by rfl)) (by rfl) T.b_len PySem.boot_len (pa_cons (pv 6) pa_nil)) pa_nil))))
    (pss_cons (ps_set (i := 4) sc_l_faces.nd rfl (Or.inl rfl) (pe_op op_add_str (pe_op op_add_str (pe_op op_add_str (pe_op op_add_str pe_str (pe_ix (ix_list_K (K := K) (by rfl)) (pv 3) pe_int (fun _ _ => rfl))) pe_str) (pe_ix (ix_list_K (K := K) (by rfl)) (pv 3) pe_int (fun _ _ => rfl))) pe_str))
    (pss_cons (ps_set (i := 5) sc_l_faces.nd rfl (Or.inl rfl) (pe_lst (pa_cons (pe_cmpR op_eq (pe_callB (call_reprIns (C := R.C) G_rp M.rp.M.at_ M.rp.M.fn M.rp.b (hr.mono (by decide))) (by rfl) T.b_repr (by decide +kernel) (pa_cons (pv 0) pa_nil)) (pe_op op_add_str (pe_op op_add_str (pv 4) (pe_ix (ix_list_K (K := K) (by rfl)) (pv 3) pe_int (fun _ _ => rfl))) pe_str) (nomark _)) (pa_cons (pe_cmpR (op_eqIns (C := R.C) G_eq M.eq.M.at_ M.eq.M.fn M.eq.b (hr.mono (by decide)) M.eqT) (pv 0) (pv 1) (nomark _)) pa_nil))))
    (pss_one (ps_ret (pe_cmpR (op_eqP (K := K) (by rfl) hr.units) (pe_op op_cat (pv 5) (pe_lst (pa_cons (pe_cmpR (op_neIns (C := R.C) G_eq M.ne M.eq.b (hr.mono (by decide))) (pv 0) (pv 1) (nomark _)) (pa_cons (pe_cmpR (op_eqIns (C := R.C) G_eq M.eq.M.at_ M.eq.M.fn M.eq.b (hr.mono (by decide)) M.eqT) (pv 0) (pv 2) (nomark _)) pa_nil)))) (pe_lst (pa_cons pe_bl (pa_cons pe_bl (pa_cons pe_bl (pa_cons pe_bl pa_nil))))) (nomark _))))))), ?_⟩
  obtain ⟨y1, y2, y3, h0, h1, h2, h3, d1, d2, d3⟩ := id hB
  have ht : SqT K H t [.ref p1, .ref p2, .ref p3] := SqT.of h0
  have l1 : y1.length = fs.length := by rw [DpAll.length d1, List.length_map]
  have l2 : y2.length = ts.length := by rw [DpAll.length d2, List.length_map]
  have l3 : y3.length = ks.length := by rw [DpAll.length d3, List.length_map]
  have f2 := ok.f2
  have t2 := ok.t2
  have k2 := ok.k2
  have item : ∀ (i : Nat) (x : V), ([.ref p1, .ref p2, .ref p3] : List V)[i]? = some x → ∃ (p : Addr) (ys : List V), x = .ref p ∧ H p = some (.lst ys) ∧ ys.length < 5 ∧ (szs fs.length ts.length ks.length)[i]? = some (dst ys.length) := fun i x e => by
    match i, e with
    | 0, e => cases e; exact ⟨p1, y1, rfl, h1, by omega, by rw [l1]; rfl⟩
    | 1, e => cases e; exact ⟨p2, y2, rfl, h2, by omega, by rw [l2]; rfl⟩
    | 2, e => cases e; exact ⟨p3, y3, rfl, h3, by omega, by rw [l3]; rfl⟩
    | n + 3, e => cases e
  refine ⟨_, rfl, t, rfl, ⟨_, ht⟩, fun D nD => ?_⟩
  refine lc_it walk_tup (fun i H' => ∃ zs : List Str, Same H H' ∧ H' D = some (.lst (zs.map V.str)) ∧ zs = (szs fs.length ts.length ks.length).take i)
    ⟨[], same_new nD, upd_same, rfl⟩ (fun i H' _ ⟨_, s, _⟩ => Same.tup s ht) ?_ ?_
  · rintro i x H' H'' hi ⟨zs, s1, hD, ez⟩ ⟨rfl, ex⟩
    obtain ⟨p, ys, rfl, hp, l5, en⟩ := item i x ex
    refine ⟨rfl, _, rfl, p, ys, rfl, .inl (SqL.of (s1 _ _ hp)), _, rfl, lg5 _ l5, _, hD, lt_line ?_, zs ++ [dst ys.length], same_mut s1 nD, ?_, ?_⟩
    · rw [List.length_map, ez, List.length_take]
      show min i 3 ≤ _
      omega
    · rw [upd_same, List.map_append]
      rfl
    · rw [ez, List.take_add_one, en]
      rfl
  · rintro H' ⟨zs, s1, hD, ez⟩
    obtain ⟨z1, z2, z3, z4, z5, z6⟩ := g_face fs.length (by omega) ts.length (by omega) ks.length (by omega)
    have ez : zs = szs fs.length ts.length ks.length := ez
    subst ez
    have hS : SqL K H' D ([.str (dst fs.length), .str (dst ts.length), .str (dst ks.length)] : List V) := SqL.of hD
    refine ⟨_, rfl, D, _, (0 : Int), .str (dst fs.length), rfl, rfl, hS, at_nn (by decide) rfl, _, _, rfl, rfl, sz1000 z1, _, _, rfl, rfl, sz1000 z2, _, rfl, D, _, (1 : Int), .str (dst ts.length), rfl, rfl, hS, at_nn (by decide) rfl, _, _, rfl, rfl, sz1000 z3, _, _, rfl, rfl, sz1000 z4, ?_⟩
    obtain ⟨dx, v1, v2, v3, hx0, hx1⟩ := id (hx.mono s1)
    obtain ⟨dy, u1, u2, u3, hy0, hy1⟩ := id (hy.mono s1)
    have rx := (hx.mono s1).at_
    have ry := (hy.mono s1).at_
    have et : (PyData.eqv (.list (fs.map dF)) (.list (fs.map dF)) && (PyData.eqv (.list (ts.map dTie)) (.list (ts.map dTie)) && PyData.eqv (.list (ks.map dKnd)) (.list (ks.map dKnd)))) = true := by
      have e1 : PyData.eqv (.list (fs.map dF)) (.list (fs.map dF)) = true := SeqAt.eqv_refl_plain _ (Dp.plain (Dp.lst (SqL.of h1) d1))
      have e2 : PyData.eqv (.list (ts.map dTie)) (.list (ts.map dTie)) = true := SeqAt.eqv_refl_plain _ (Dp.plain (Dp.lst (SqL.of h2) d2))
      have e3 : PyData.eqv (.list (ks.map dKnd)) (.list (ks.map dKnd)) = true := SeqAt.eqv_refl_plain _ (Dp.plain (Dp.lst (SqL.of h3) d3))
      rw [e1, e2, e3]
      rfl
    refine ⟨_, rfl, x, dx, _, rfl, hx0, x, fs, ts, ks, rfl, rx, ok, ⟨_, rfl⟩, _, rfl, _, rfl, D, _, (2 : Int), .str (dst ks.length), rfl, rfl, hS, at_nn (by decide) rfl, _, _, rfl, rfl, sz1000 z5, _, _, rfl, rfl, sz1000 z6, rfl, ?_⟩
    refine ⟨_, rfl, _, rfl, x, dx, _, rfl, hx0, .inl ⟨y, dy, _, rfl, hy0⟩, x, .ref y, fs, ts, ks, rfl, rx, ok, .inl ⟨y, fs, ts, ks, rfl, ry, ok, ⟨_, rfl⟩, ?_⟩⟩
    rw [et]
    refine ⟨(by show 2 ≤ sizeLine; decide), fun c5 n5 => ?_⟩
    have dec1 : ∀ a : V, decide (a = a) = true := fun a => decide_eq_true rfl
    rw [dec1]
    have s5 := s1.trans (same_new (o := .lst [.bl true, .bl true]) n5)
    refine ⟨_, rfl, _, rfl, _, rfl, x, dx, _, y, dy, _, rfl, (same_new n5) _ _ hx0, rfl, (same_new n5) _ _ hy0, x, .ref y, fs, ts, ks, rfl, rx.mono (same_new n5), ok, .inl ⟨y, fs, ts, ks, rfl, ry.mono (same_new n5), ok, ?_⟩⟩
    rw [et]
    refine ⟨_, rfl, _, rfl, _, rfl, x, dx, _, rfl, (same_new n5) _ _ hx0, .inr ⟨t, _, rfl, Same.tup s5 ht⟩, x, .ref t, fs, ts, ks, rfl, rx.mono (same_new n5), ok, .inr ⟨t, _, rfl, Same.tup s5 ht, ⟨_, rfl⟩, ?_⟩⟩
    refine ⟨(by show 2 ≤ sizeLine; decide), fun c6 n6 => ?_⟩
    have h5 := (same_new (o := .lst [.bl (!true), .bl false]) n6) _ _ (upd_same (H := H') (a := c5) (o := .lst [.bl true, .bl true]))
    refine ⟨c5, c6, _, _, rfl, rfl, h5, upd_same, (by show 4 ≤ sizeLine; decide), fun c7 n7 => ?_⟩
    refine ⟨(by show 4 ≤ sizeLine; decide), fun c8 n8 => ?_⟩
    refine ⟨.list [.bool true, .bool true, .bool false, .bool false], .list [.bool true, .bool true, .bool false, .bool false], .lst (SqL.of ((same_new n8) _ _ upd_same)) (.cons (.bl _) (.cons (.bl _) (.cons (.bl _) (.cons (.bl _) .nil)))), .lst (SqL.of upd_same) (.cons (.bl _) (.cons (.bl _) (.cons (.bl _) (.cons (.bl _) .nil)))), by decide, ?_⟩
    rw [show PyData.eqv (.list [.bool true, .bool true, .bool false, .bool false]) (.list [.bool true, .bool true, .bool false, .bool false]) = true from rfl]
    exact q _ (s5.trans ((same_new n6).trans ((same_new n7).trans (same_new n8))))
end
end Bh

set_option Elab.async false
set_option linter.all false
set_option maxRecDepth 100000
set_option maxHeartbeats 1000000
namespace Bh
open PySem PySem.Spec PyProof.Rows L2 LamX NdefX
/-- H' keeps what H holds, but tables of code objects and the lists at S -/
def Kp (S : List Addr) (H H' : Hp) : Prop := ∀ a o, H a = some o → (∀ ps, o ≠ .tbl ps) → (a ∈ S → ∀ xs, o ≠ .lst xs) → H' a = some o
section
variable {K : PySem.W.Frag} {S S' : List Addr} {H H1 H' : Hp} {b l p pI C x a1 a2 a3 t p1 p2 p3 : Addr} {fs : List Fld} {ts : List Tie} {ks : List Knd} {q : Str}
theorem Same.kp (e : Same H H') : Kp S H H' := fun a o h _ _ => e _ _ h
theorem Kp.trans (e : Kp S H H1) (f : Kp S H1 H') : Kp S H H' := fun a o h n m => f a o (e a o h n m) n m
theorem Kp.mono (h : ∀ a ∈ S, a ∈ S') (e : Kp S H H') : Kp S' H H' := fun a o k n m => e a o k n fun z => m (h a z)
theorem kp_tb (e : Same (noTb H) H') : Kp S H H' := fun a o h n _ => e _ _ (noTb_at h n)
theorem kp_upd {xs : List V} {o : HO} (h : H p = some (.lst xs)) (m : p ∈ S) : Kp S H (upd H p o) := fun a u k _ n => by
  rw [upd_ne (fun z => by rw [z, h] at k; exact n (z ▸ m) _ (Option.some.inj k).symm)]
  exact k
theorem kp_hid {xs : List V} (h : H p = some (.lst xs)) (m : p ∈ S) : Kp S H (hid p H) := fun a u k _ n => by
  rw [hid_ne (fun z => by rw [z, h] at k; exact n (z ▸ m) _ (Option.some.inj k).symm)]
  exact k
theorem Kp.lst {xs : List V} (e : Kp S H H') (h : H p = some (.lst xs)) (n : p ∉ S) : H' p = some (.lst xs) := e _ _ h (fun _ z => nomatch z) fun m => absurd m n
theorem Kp.tup {xs : List V} (e : Kp S H H') (h : H p = some (.tup xs)) : H' p = some (.tup xs) := e _ _ h (fun _ z => nomatch z) fun _ _ z => nomatch z
theorem Kp.ins {dx : Addr} {gs : List (Str × V)} (e : Kp S H H') (h : H p = some (.ins C dx gs)) : H' p = some (.ins C dx gs) := e _ _ h (fun _ z => nomatch z) fun _ _ z => nomatch z
theorem Kp.imm (e : Kp S H H') : Imm (noTb H) H' := fun a u h n => e _ _ (noTb_le _ _ h) (noTb_not h) fun _ => n
theorem SqL.nTb {a : Addr} {xs : List V} (h : SqL K H a xs) : SqL K (noTb H) a xs :=
  h.imp (fun h => h.imp (fun h => noTb_at h (fun _ z => nomatch z)) fun ⟨o, h⟩ => ⟨o, noTb_at h (fun _ z => nomatch z)⟩) id
theorem SqT.nTb {a : Addr} {xs : List V} (h : SqT K H a xs) : SqT K (noTb H) a xs :=
  h.imp (fun h => h.imp (fun h => noTb_at h (fun _ z => nomatch z)) fun ⟨o, h⟩ => ⟨o, noTb_at h (fun _ z => nomatch z)⟩) id
end
mutual
theorem Dp.nTb {K : PySem.W.Frag} {H : Hp} : ∀ {v : V} {d : PyData}, Dp K H v d → Dp K (noTb H) v d
  | _, _, .non => .non
  | _, _, .bl b => .bl b
  | _, _, .int i => .int i
  | _, _, .str x => .str x
  | _, _, .lst h all => .lst (SqL.nTb h) (DpAll.nTb all)
  | _, _, .tup h all => .tup (SqT.nTb h) (DpAll.nTb all)
theorem DpAll.nTb {K : PySem.W.Frag} {H : Hp} : ∀ {vs : List V} {ds : List PyData}, DpAll K H vs ds → DpAll K (noTb H) vs ds
  | _, _, .nil => .nil
  | _, _, .cons h t => .cons (Dp.nTb h) (DpAll.nTb t)
end
section
variable {K : PySem.W.Frag} {S S' : List Addr} {H H1 H' : Hp} {b l p pI C x a1 a2 a3 t p1 p2 p3 : Addr} {fs : List Fld} {ts : List Tie} {ks : List Knd} {q : Str}
theorem Kp.dps {α : Type} {f : α → PyData} (e : Kp S H H') (n : ∀ x, noL (f x) = true) {ys : List V} {xs : List α} (h : DpAll K H ys (xs.map f)) : DpAll K H' ys (xs.map f) := DpAll.imm e.imm (noLs_map n xs) (DpAll.nTb h)
theorem noL_dF (f : Fld) : noL (dF f) = true := by
  show (true && (noLs (f.2.map PyData.str) && true)) = true
  rw [noLs_map fun _ => rfl]
  rfl
theorem RbA.kp (h : RbA K H C x a1 a2 a3 fs ts ks) (e : Kp S H H') (n1 : a1 ∉ S) (n2 : a2 ∉ S) (n3 : a3 ∉ S) : RbA K H' C x a1 a2 a3 fs ts ks := by
  obtain ⟨dx, y1, y2, y3, h0, h1, h2, h3, d1, d2, d3⟩ := h
  exact ⟨dx, y1, y2, y3, e.ins h0, e.lst h1 n1, e.lst h2 n2, e.lst h3 n3, e.dps noL_dF d1, e.dps noL_dTie d2, e.dps noL_dKnd d3⟩
theorem BkAt.kp (h : BkAt K H t p1 p2 p3 fs ts ks) (e : Kp S H H') (n1 : p1 ∉ S) (n2 : p2 ∉ S) (n3 : p3 ∉ S) : BkAt K H' t p1 p2 p3 fs ts ks := by
  obtain ⟨y1, y2, y3, h0, h1, h2, h3, d1, d2, d3⟩ := h
  exact ⟨y1, y2, y3, e.tup h0, e.lst h1 n1, e.lst h2 n2, e.lst h3 n3, e.dps noL_dF d1, e.dps noL_dTie d2, e.dps noL_dKnd d3⟩
theorem BagAt.kp (h : BagAt b l H) (e : Kp S H H') (nb : b ∉ S) (nl : l ∉ S) : BagAt b l H' := by
  obtain ⟨ns, i, c, s, h1, h2, r⟩ := h
  exact ⟨ns, i, c, s, e.lst h1 nb, e.lst h2 nl, r⟩
theorem BagAt.ne (h : BagAt b l H) : b ≠ l := fun z => by
  obtain ⟨ns, i, c, s, h1, h2, r⟩ := h
  rw [z, h2] at h1
  cases ns with
  | nil => cases h1
  | cons n ns => cases h1
theorem tab_hidL {xs : List V} (t : TabS H pI q) (h : H p = some (.lst xs)) : TabS (hid p H) pI q := by
  obtain ⟨ps, h1, h2, h3⟩ := t
  refine ⟨ps, ?_, h2, fun pos cv hc => ?_⟩
  · rw [hid_ne (fun z => by rw [z, h] at h1; cases h1)]
    exact h1
  · obtain ⟨c, e1, e2⟩ := h3 pos cv hc
    refine ⟨c, e1, ?_⟩
    rw [hid_ne (fun z => by rw [z, h] at e2; unfold CodeO at e2; cases e2)]
    exact e2
theorem tab_updL {xs : List V} {o : HO} (t : TabS H pI q) (h : H p = some (.lst xs)) : TabS (upd H p o) pI q := by
  obtain ⟨ps, h1, h2, h3⟩ := t
  refine ⟨ps, ?_, h2, fun pos cv hc => ?_⟩
  · rw [upd_ne (fun z => by rw [z, h] at h1; cases h1)]
    exact h1
  · obtain ⟨c, e1, e2⟩ := h3 pos cv hc
    refine ⟨c, e1, ?_⟩
    rw [upd_ne (fun z => by rw [z, h] at e2; unfold CodeO at e2; cases e2)]
    exact e2
/-- all that is known but the bag -/
def noBag (b l : Addr) (H : Hp) : Hp := hid b (hid l H)
theorem BagAt.wd (h : BagAt b l H) : Wd b l (noBag b l H) H := by
  refine ⟨if_pos rfl, ?_, hid_le.trans hid_le, h⟩
  unfold noBag
  rw [hid_comm]
  exact if_pos rfl
theorem BagAt.kpB (h : BagAt b l H) : Kp [b, l] H (noBag b l H) := by
  have ne := h.ne
  obtain ⟨ns, i, c, s, h1, h2, r⟩ := h
  exact (kp_hid h2 (by simp)).trans (kp_hid (p := b) (by rw [hid_ne ne]; exact h1) (by simp))
theorem tab_noBag (t : TabS H pI q) (h : BagAt b l H) : TabS (noBag b l H) pI q := by
  have ne := h.ne
  obtain ⟨ns, i, c, s, h1, h2, r⟩ := h
  exact tab_hidL (tab_hidL t h2) (by rw [hid_ne ne]; exact h1)
/-- after a draw -/
theorem draw_kp {G' : Hp} (h : BagAt b l H) (s : Same (Bh.noBag b l H) G') (w : Wd b l G' H') : Kp [b, l] H H' := h.kpB.trans (Same.kp (Same.trans s w.sm))
theorem draw_tab {G' : Hp} (t : TabS H pI q) (h : BagAt b l H) (s : Same (Bh.noBag b l H) G') (w : Wd b l G' H') : TabS H' pI q := (tab_noBag t h).ext (Same.trans s w.sm)
end
end Bh

set_option Elab.async false
set_option linter.all false
set_option maxRecDepth 100000
set_option maxHeartbeats 1000000
namespace Bh
open PySem PySem.Spec PyProof.Rows L2 LamX NdefX
/-! ### how large what is told is -/
theorem sh_map {α : Type} {f : α → PyData} {n : Nat} {l : List α} (hl : l.length ≤ 100000) (h : ∀ x ∈ l, Sh n (f x)) : Sh (n + 1) (.tuple (l.map f)) := .tup (by rw [List.length_map]; exact hl) fun d hd => by
  obtain ⟨x, hx, rfl⟩ := List.mem_map.mp hd
  exact h x hx
theorem sh_mapL {α : Type} {f : α → PyData} {n : Nat} {l : List α} (hl : l.length ≤ 100000) (h : ∀ x ∈ l, Sh n (f x)) : Sh (n + 1) (.list (l.map f)) := .lst (by rw [List.length_map]; exact hl) fun d hd => by
  obtain ⟨x, hx, rfl⟩ := List.mem_map.mp hd
  exact h x hx
theorem sh_two {n : Nat} {a b : PyData} (h1 : Sh n a) (h2 : Sh n b) : Sh (n + 1) (.tuple [a, b]) := .tup (by show 2 ≤ 100000; decide) fun d hd => by
  simp only [List.mem_cons, List.not_mem_nil, or_false] at hd
  rcases hd with rfl | rfl
  · exact h1
  · exact h2
theorem shn_dF (n : Nat) {f : Fld} (h : f.2.length ≤ 6) : Sh (n + 2) (dF f) := sh_two .str (sh_map (by omega) fun _ _ => .str)
theorem shn_dT (n : Nat) (t : Tst) : Sh (n + 1) (dT t) := .tup (by show 3 ≤ 100000; decide) fun d h => by
  simp only [List.mem_cons, List.not_mem_nil, or_false] at h
  rcases h with rfl | rfl | rfl <;> exact .str
theorem shn_dS (n : Nat) (s : Stp) : Sh (n + 1) (dS s) := sh_two .str .str
theorem shn_dC (n : Nat) {fs : List Fld} {c : Cas} (h : OkCas fs c) : Sh (n + 3) (dC c) := by
  refine sh_two (sh_map (by have := h.nt; omega) fun t _ => shn_dT n t) ?_
  cases e : c.2 with
  | none => exact .non
  | some ss => exact sh_map (by have := h.ns ss e; omega) fun s _ => shn_dS n s
theorem shn_dP (n : Nat) {fs : List Fld} {p : List Cas} (h : OkPrg fs p) : Sh (n + 4) (dP p) := sh_map (by have := h.hi; omega) fun c hc => shn_dC n (h.all c hc)
theorem shn_dTie (n : Nat) {fs : List Fld} {t : Tie} (h : OkPrg fs t.2) : Sh (n + 5) (dTie t) := sh_two .str (shn_dP n h)
theorem shn_dV (n : Nat) {v : List Str} (h : v.length ≤ 100000) : Sh (n + 1) (dV v) := sh_map h fun _ _ => .str
theorem shn_dKnd (n : Nat) {fs : List Fld} {k : Knd} (f3 : fs.length ≤ 3) (h : OkKnd fs k) : Sh (n + 5) (dKnd k) := by
  refine .tup (by show 4 ≤ 100000; decide) fun d hd => ?_
  simp only [List.mem_cons, List.not_mem_nil, or_false] at hd
  rcases hd with rfl | rfl | rfl | rfl
  · exact .str
  · exact sh_map (by have := h.ks.hi; omega) fun q _ => (sh_two .str .str : Sh (n + 3) (dKey q))
  · cases e : k.taking with
    | none => exact .non
    | some p => exact shn_dP n (h.tk p e)
  · cases e : k.birth with
    | none => exact .non
    | some v => exact shn_dV (n + 3) (by have := (h.bt v e).1; omega)
theorem shn_names (n : Nat) {α : Type} {f : α → Str} {l : List α} (h : l.length ≤ 100000) : Sh (n + 1) (.list (l.map fun x => PyData.str (f x))) := sh_mapL h fun _ _ => .str
section
variable {fs : List Fld} {ts : List Tie} {ks : List Knd}
theorem OkBook.six (ok : OkBook fs ts ks) : ∀ f ∈ fs, f.2.length ≤ 6 := fun f hf => by
  obtain ⟨i, hi⟩ := List.mem_iff_getElem?.mp hf
  exact (ok.fok i f hi).hi
theorem sh_Fs (ok : OkBook fs ts ks) : Sh 8 (.list (fs.map dF)) := sh_mapL (by have := ok.f2; omega) fun f hf => shn_dF 5 (ok.six f hf)
theorem sh_Ts (ok : OkBook fs ts ks) : Sh 8 (.list (ts.map dTie)) := sh_mapL (by have := ok.t2; omega) fun t ht => shn_dTie 2 (ok.tok t ht).2
theorem sh_Ks (ok : OkBook fs ts ks) : Sh 8 (.list (ks.map dKnd)) := sh_mapL (by have := ok.k2; omega) fun k hk => shn_dKnd 2 ok.f2 (ok.kok k hk)
theorem sh_Vs (ok : OkBook fs ts ks) : Sh 8 (.list ((vals fs).map dV)) := sh_mapL (by have := ok.fv fs.length; rw [List.take_length] at this; omega) fun v hv => shn_dV 6 (by have := (vals_ok v hv).1; have := ok.f2; omega)
/-- what the first answers are -/
def dTold (fs : List Fld) (ts : List Tie) (ks : List Knd) : PyData := .list [.list (fs.map dF), .list (ts.map dTie), .list (ks.map dKnd), .list (ts.map fun c => .str c.1), .list (ks.map fun c => .str c.name), .list ((vals fs).map dV)]
def dTold2 (fs : List Fld) (ts : List Tie) (ks : List Knd) : PyData := .list [.list (fs.map dF), .list (ts.map dTie), .list (ks.map dKnd), .list ((vals fs).map dV)]
theorem sh_told (ok : OkBook fs ts ks) : Sh 9 (dTold fs ts ks) := .lst (by show 6 ≤ 100000; decide) fun d hd => by
  simp only [List.mem_cons, List.not_mem_nil, or_false] at hd
  rcases hd with rfl | rfl | rfl | rfl | rfl | rfl
  · exact sh_Fs ok
  · exact sh_Ts ok
  · exact sh_Ks ok
  · exact shn_names 7 (f := fun c : Tie => c.1) (by have := ok.t2; omega)
  · exact shn_names 7 (f := Knd.name) (by have := ok.k2; omega)
  · exact sh_Vs ok
theorem sh_told2 (ok : OkBook fs ts ks) : Sh 9 (dTold2 fs ts ks) := .lst (by show 4 ≤ 100000; decide) fun d hd => by
  simp only [List.mem_cons, List.not_mem_nil, or_false] at hd
  rcases hd with rfl | rfl | rfl | rfl
  · exact sh_Fs ok
  · exact sh_Ts ok
  · exact sh_Ks ok
  · exact sh_Vs ok
end
theorem eqv_three (a b c a' b' c' : PyData) : PyData.eqv (.list [a, b, c]) (.list [a', b', c']) = (PyData.eqv a a' && (PyData.eqv b b' && PyData.eqv c c')) := by
  simp [PyData.eqv, PyData.eqvAll]
theorem eqv_len : ∀ {a b : List PyData}, PyData.eqvAll a b = true → a.length = b.length
  | [], [], _ => rfl
  | _ :: a, _ :: b, h => by
    rw [PyData.eqvAll, Bool.and_eq_true] at h
    exact congrArg Nat.succ (eqv_len h.2)
  | [], _ :: _, h => by rw [PyData.eqvAll] at h; cases h
  | _ :: _, [], h => by rw [PyData.eqvAll] at h; cases h
theorem z8_nm : IsNm "zzzzzzzz" := ⟨by decide +kernel, by decide +kernel, by decide +kernel⟩
/-- a tie more -/
theorem okbook_tie {fs : List Fld} {ts : List Tie} {ks : List Knd} {t : Tie} (ok : OkBook fs ts ks) (t3 : ts.length ≤ 3) (nz : t.1 ∉ ts.map (·.1)) (h : IsNm t.1 ∧ OkPrg fs t.2) : OkBook fs (ts ++ [t]) ks := by
  refine ⟨ok.f1, ok.f2, ok.fok, ok.fb, ok.fv, ?_, ?_, ?_, fun u hu => ?_, ok.k1, ok.k2, ok.knd, ok.kok⟩
  · rw [List.length_append]; show 1 ≤ ts.length + 1; omega
  · rw [List.length_append]; show ts.length + 1 ≤ 4; omega
  · rw [List.map_append]
    refine List.nodup_append.mpr ⟨ok.tnd, by simp, fun x hx y hy e => ?_⟩
    rw [List.map_singleton, List.mem_singleton] at hy
    rw [e, hy] at hx
    exact nz hx
  · rcases List.mem_append.mp hu with h' | h'
    · exact ok.tok u h'
    · rw [List.mem_singleton.mp h']
      exact h
/-- the first kind with another birth -/
theorem okbook_kind {fs : List Fld} {ts : List Tie} {k : Knd} {r : List Knd} {o : Option (List Str)} (ok : OkBook fs ts (k :: r)) (h : ∀ v, o = some v → FitV fs v) : OkBook fs ts ({ k with birth := o } :: r) := by
  refine ⟨ok.f1, ok.f2, ok.fok, ok.fb, ok.fv, ok.t1, ok.t2, ok.tnd, ok.tok, ok.k1, ok.k2, ok.knd, fun u hu => ?_⟩
  rcases List.mem_cons.mp hu with e | h'
  · have z := ok.kok k (List.mem_cons_self ..)
    rw [e]
    exact ⟨z.nm, z.ks, z.tk, h⟩
  · exact ok.kok u (List.mem_cons_of_mem _ h')
theorem eqv_birth {k : Knd} {r : List Knd} {o : Option (List Str)} (h : k.birth.isSome ≠ o.isSome) : PyData.eqv (.list ((k :: r).map dKnd)) (.list (({ k with birth := o } :: r : List Knd).map dKnd)) = false := by
  have z : PyData.eqv (dKnd k) (dKnd { k with birth := o }) = false := by
    unfold dKnd
    cases e : k.birth with
    | none =>
      cases o with
      | none => rw [e] at h; exact absurd rfl h
      | some v => simp [PyData.eqv, PyData.eqvAll, dH, dV]
    | some u =>
      cases o with
      | none => simp [PyData.eqv, PyData.eqvAll, dH, dV]
      | some v => rw [e] at h; exact absurd rfl h
  show PyData.eqv (.list (dKnd k :: r.map dKnd)) (.list (dKnd { k with birth := o } :: r.map dKnd)) = false
  rw [PyData.eqv, PyData.eqvAll, z]
  rfl
theorem cutV_tail (x : V) (xs : List V) : cutV (x :: xs) (some 1) none = xs := by
  unfold cutV
  rw [HT.sIx_none, show HT.sIx (x :: xs).length 0 (some 1) = min 1 (x :: xs).length from HT.sIx_nat _ _ 1, List.length_cons, Nat.min_eq_left (by omega)]
  show List.take (xs.length + 1 - 1) xs = xs
  exact List.take_of_length_le (by omega)
theorem vals_head {fs : List Fld} {ts : List Tie} {ks : List Knd} (ok : OkBook fs ts ks) : ∃ v, (vals fs)[0]? = some v := by
  cases fs with
  | nil => exact absurd ok.f1 (by decide)
  | cons f r =>
    obtain ⟨v, h, _⟩ := vals_zero (f := f) (r := r) fun g hg z => by
      obtain ⟨i, hi⟩ := List.mem_iff_getElem?.mp hg
      have := (ok.fok i g hi).lo
      rw [z] at this
      cases this
    exact ⟨v, h⟩
/-- names of items -/
theorem names_at {K : PySem.W.Frag} {H : Hp} {xs : List V} {ns : List Str} (h : Paired (HdAt K H) xs ns) {i : Nat} {x : V} (e : xs[i]? = some x) : ∃ (t : Addr) (r : List V) (n : Str), x = .ref t ∧ SqT K H t (.str n :: r) ∧ ns[i]? = some n := by
  induction h generalizing i with
  | nil => cases e
  | cons h _ ih =>
    cases i with
    | zero =>
      cases e
      obtain ⟨t, r, h1, h2⟩ := h
      exact ⟨t, r, _, h1, h2, rfl⟩
    | succ i => exact ih e
theorem paired_len {α β : Type} {R : α → β → Prop} {xs : List α} {ys : List β} (h : Paired R xs ys) : xs.length = ys.length := by
  induction h with
  | nil => rfl
  | cons _ _ ih => exact congrArg Nat.succ ih
end Bh

set_option Elab.async false
set_option linter.all false
set_option maxRecDepth 100000
set_option maxHeartbeats 1000000
namespace Bh
open PySem PySem.Spec PyProof.Rows L2
section
variable {P : Program} {w : World} {K : PySem.W.Frag} {mg : Str → Option Value} {base : Heap}
theorem like_step (T : Top K mg) (n : Nat) (G_l_like : FnOk P w K mg base CX0 n T.a_l_like T.fd_l_like ["_law_found", "_law_due"] (spLk K n)) : FnOk P w K mg base CX0 (n + 1) T.a_l_like T.fd_l_like ["_law_found", "_law_due"] (spLk K (n + 1)) := by
  refine T.d_l_like.F.ok sc_l_like (fun vs H Q E h => ?_) (fun cdv A outer s H vs Q E hr h => ?_)
  · obtain ⟨x, y, d, rfl, _⟩ := h
    rfl
  obtain ⟨x, y, d, rfl, hx, hy, hs, q⟩ := h
  refine ⟨_, (pss_cons (ps_if (pt_cmpR op_isN (pv 1) pe_non (nomark _)) (pss_one (ps_ret (pe_cmpR op_isN (pv 0) pe_non (nomark _)))) pss_nil)
    (pss_cons (ps_if (pt_val (pe_callB (call_isi_K (K := K) (by rfl)) (by rfl) T.b_isinstance (by decide +kernel) (pa_cons (pv 1) (pa_cons (pe_tyN "dict" (by rfl) T.b_dict (by decide +kernel)) pa_nil)))) (pss_cons ps_never
      (pss_one ps_never)) pss_nil)
    (pss_cons (ps_if (pt_val (pe_callB (call_isiT_K (K := K) (by rfl)) (by rfl) T.b_isinstance (by decide +kernel) (pa_cons (pv 1) (pa_cons (pe_tup (pa_cons (pe_tyN "list" (by rfl) T.b_list (by decide +kernel)) (pa_cons (pe_tyN "tuple" (by rfl) T.b_tuple (by decide +kernel)) pa_nil))) pa_nil)))) (pss_cons (ps_if (PW.pt (pw_or (pt_cmpR op_ne (pe_callB (call_isi_K (K := K) (by rfl)) (by rfl) T.b_isinstance (by decide +kernel) (pa_cons (pv 0) (pa_cons (pe_tyN "list" (by rfl) T.b_list (by decide +kernel)) pa_nil))) (pe_callB (call_isi_K (K := K) (by rfl)) (by rfl) T.b_isinstance (by decide +kernel) (pa_cons (pv 1) (pa_cons (pe_tyN "list" (by rfl) T.b_list (by decide +kernel)) pa_nil))) (nomark _)) (pw_or1 (pt_cmpR op_ne (pe_callB (call_isi_K (K := K) (by rfl)) (by rfl) T.b_isinstance (by decide +kernel) (pa_cons (pv 0) (pa_cons (pe_tyN "tuple" (by rfl) T.b_tuple (by decide +kernel)) pa_nil))) (pe_callB (call_isi_K (K := K) (by rfl)) (by rfl) T.b_isinstance (by decide +kernel) (pa_cons (pv 1) (pa_cons (pe_tyN "tuple" (by rfl) T.b_tuple (by decide +kernel)) pa_nil))) (nomark _))))) (pss_one (ps_ret pe_bl)) pss_nil)
      (pss_one (ps_ret (pe_and (pe_cmpR op_eq (pe_callB (call_len_seq_K (K := K) (by rfl)) (by rfl) T.b_len PySem.boot_len (pa_cons (pv 0) pa_nil)) (pe_callB (call_len_seq_K (K := K) (by rfl)) (by rfl) T.b_len PySem.boot_len (pa_cons (pv 1) pa_nil)) (nomark _)) (pe_one (pe_callB (cr_all_K (K := K) (by rfl) rfl) (by rfl) T.b_all (by decide +kernel) (pa_cons (pe_lc (own := [("_law_one", 3), ("_law_other", 4)]) rfl sc_l_like.nd (pi_zipA_K (K := K) (by rfl) (by rfl) T.b_zip (pa_cons (pv 0) (pa_cons (pv 1) pa_nil))) (blkOk_by (own := [("_law_one", 3), ("_law_other", 4)]) (N := ["_law_found", "_law_due", "_law_key", "_law_one", "_law_other"]) (sc := defScope s_l_like) (by decide +kernel)) (fun _ _ _ _ _ => by exact (pg_tup_K (K := K) (by rfl) (n := 2) (by rfl) (pgs_cons (pg_name (i := 3) sc_l_like.nd rfl (Or.inl rfl)) (pgs_cons (pg_name (i := 4) sc_l_like.nd rfl (Or.inl rfl)) pgs_nil)))) (fun _ _ _ _ _ => by exact pts_nil) (fun _ _ _ _ _ => by exact (pe_call G_l_like hr (by rfl) T.d_l_like.g T.d_l_like.kp T.d_l_like.b .nil pass0 (pa_cons (pv 3) (pa_cons (pv 4) pa_nil))))) pa_nil))))))) pss_nil)
    (pss_cons (ps_if (PW.pt (pw_or (pt_cmpR op_ne (pe_callB (call_isi_K (K := K) (by rfl)) (by rfl) T.b_isinstance (by decide +kernel) (pa_cons (pv 0) (pa_cons (pe_tyN "bool" (by rfl) T.b_bool (by decide +kernel)) pa_nil))) (pe_callB (call_isi_K (K := K) (by rfl)) (by rfl) T.b_isinstance (by decide +kernel) (pa_cons (pv 1) (pa_cons (pe_tyN "bool" (by rfl) T.b_bool (by decide +kernel)) pa_nil))) (nomark _)) (pw_or1 (pt_cmpR op_ne (pe_callB (call_isi_K (K := K) (by rfl)) (by rfl) T.b_isinstance (by decide +kernel) (pa_cons (pv 0) (pa_cons (pe_tyN "int" (by rfl) T.b_int (by decide +kernel)) pa_nil))) (pe_callB (call_isi_K (K := K) (by rfl)) (by rfl) T.b_isinstance (by decide +kernel) (pa_cons (pv 1) (pa_cons (pe_tyN "int" (by rfl) T.b_int (by decide +kernel)) pa_nil))) (nomark _))))) (pss_one (ps_ret pe_bl)) pss_nil)
    (pss_one (ps_ret (pe_and (pe_cmpR op_eq (pe_callB (call_isi_K (K := K) (by rfl)) (by rfl) T.b_isinstance (by decide +kernel) (pa_cons (pv 0) (pa_cons (pe_tyN "str" (by rfl) T.b_str (by decide +kernel)) pa_nil))) (pe_callB (call_isi_K (K := K) (by rfl)) (by rfl) T.b_isinstance (by decide +kernel) (pa_cons (pv 1) (pa_cons (pe_tyN "str" (by rfl) T.b_str (by decide +kernel)) pa_nil))) (nomark _)) (pe_one (pe_cmpR op_eq (pv 0) (pv 1) (nomark _)))))))))), ?_⟩
  cases hx with
  | non =>
    cases hy
    refine ⟨_, rfl, rfl, _, rfl, iteY rfl ⟨_, rfl, rfl, ?_⟩⟩
    exact q _ (Same.refl _)
  | bl b =>
    cases hy
    refine ⟨_, rfl, rfl, _, rfl, iteN (by intro z; cases z) ?_⟩
    refine ⟨_, rfl, _, _, _, _, false, rfl, .ty _, .base (.bl b), kit_ty (by decide +kernel), _, rfl, iteF ?_⟩
    refine ⟨_, rfl, (by show 2 ≤ sizeLine; decide), fun p np => ⟨_, p, _, _, _, false, rfl, upd_same, .cons (.ty _) (.cons (.ty _) .nil), .base (.bl b), kitAny_cons (kit_ty (b := "list") (r := false) (by decide +kernel)) (fun _ => kitAny_cons (kit_ty (r := false) (by decide +kernel)) (fun _ => kitAny_nil) (fun z => nomatch z)) (fun z => nomatch z), _, rfl, iteF ?_⟩⟩
    refine ⟨_, rfl, _, _, _, _, true, rfl, .ty _, .base (.bl b), kit_ty (by decide +kernel), _, rfl, _, _, _, _, true, rfl, .ty _, .base (.bl b), kit_ty (by decide +kernel), rfl, _, rfl, iteNS rfl ?_⟩
    refine ⟨_, rfl, _, _, _, _, true, rfl, .ty _, .base (.bl b), kit_ty (by decide +kernel), _, rfl, _, _, _, _, true, rfl, .ty _, .base (.bl b), kit_ty (by decide +kernel), rfl, _, rfl, iteNS rfl ?_⟩
    refine ⟨_, rfl, _, _, _, _, false, rfl, .ty _, .base (.bl b), kit_ty (by decide +kernel), _, rfl, _, _, _, _, false, rfl, .ty _, .base (.bl b), kit_ty (by decide +kernel), rfl, _, rfl, iteY rfl ⟨_, rfl, _, rfl, rfl, q_eq (q _ (same_new np))⟩⟩
  | int i =>
    cases hy
    refine ⟨_, rfl, rfl, _, rfl, iteN (by intro z; cases z) ?_⟩
    refine ⟨_, rfl, _, _, _, _, false, rfl, .ty _, .base (.int i), kit_ty (by decide +kernel), _, rfl, iteF ?_⟩
    refine ⟨_, rfl, (by show 2 ≤ sizeLine; decide), fun p np => ⟨_, p, _, _, _, false, rfl, upd_same, .cons (.ty _) (.cons (.ty _) .nil), .base (.int i), kitAny_cons (kit_ty (b := "list") (r := false) (by decide +kernel)) (fun _ => kitAny_cons (kit_ty (r := false) (by decide +kernel)) (fun _ => kitAny_nil) (fun z => nomatch z)) (fun z => nomatch z), _, rfl, iteF ?_⟩⟩
    refine ⟨_, rfl, _, _, _, _, false, rfl, .ty _, .base (.int i), kit_ty (by decide +kernel), _, rfl, _, _, _, _, false, rfl, .ty _, .base (.int i), kit_ty (by decide +kernel), rfl, _, rfl, iteNS rfl ?_⟩
    refine ⟨_, rfl, _, _, _, _, true, rfl, .ty _, .base (.int i), kit_ty (by decide +kernel), _, rfl, _, _, _, _, true, rfl, .ty _, .base (.int i), kit_ty (by decide +kernel), rfl, _, rfl, iteNS rfl ?_⟩
    refine ⟨_, rfl, _, _, _, _, false, rfl, .ty _, .base (.int i), kit_ty (by decide +kernel), _, rfl, _, _, _, _, false, rfl, .ty _, .base (.int i), kit_ty (by decide +kernel), rfl, _, rfl, iteY rfl ⟨_, rfl, _, rfl, rfl, q_eq (q _ (same_new np))⟩⟩
  | str z =>
    cases hy
    refine ⟨_, rfl, rfl, _, rfl, iteN (by intro z; cases z) ?_⟩
    refine ⟨_, rfl, _, _, _, _, false, rfl, .ty _, .base (.str z), kit_ty (by decide +kernel), _, rfl, iteF ?_⟩
    refine ⟨_, rfl, (by show 2 ≤ sizeLine; decide), fun p np => ⟨_, p, _, _, _, false, rfl, upd_same, .cons (.ty _) (.cons (.ty _) .nil), .base (.str z), kitAny_cons (kit_ty (b := "list") (r := false) (by decide +kernel)) (fun _ => kitAny_cons (kit_ty (r := false) (by decide +kernel)) (fun _ => kitAny_nil) (fun z => nomatch z)) (fun z => nomatch z), _, rfl, iteF ?_⟩⟩
    refine ⟨_, rfl, _, _, _, _, false, rfl, .ty _, .base (.str z), kit_ty (by decide +kernel), _, rfl, _, _, _, _, false, rfl, .ty _, .base (.str z), kit_ty (by decide +kernel), rfl, _, rfl, iteNS rfl ?_⟩
    refine ⟨_, rfl, _, _, _, _, false, rfl, .ty _, .base (.str z), kit_ty (by decide +kernel), _, rfl, _, _, _, _, false, rfl, .ty _, .base (.str z), kit_ty (by decide +kernel), rfl, _, rfl, iteNS rfl ?_⟩
    refine ⟨_, rfl, _, _, _, _, true, rfl, .ty _, .base (.str z), kit_ty (by decide +kernel), _, rfl, _, _, _, _, true, rfl, .ty _, .base (.str z), kit_ty (by decide +kernel), rfl, _, rfl, iteY rfl ⟨_, rfl, _, rfl, rfl, q_eq (q _ (same_new np))⟩⟩
  | @lst a xs ds h1 h2 =>
    cases hy with
    | @lst b ys _ k1 k2 =>
    cases hs with
    | @lst m _ hl hall =>
    have lxy : xs.length = ys.length := (DpAll.length h2).trans (DpAll.length k2).symm
    refine ⟨_, rfl, rfl, _, rfl, iteN (by intro z; cases z) ?_⟩
    refine ⟨_, rfl, _, _, _, _, false, rfl, .ty _, tyL k1, kit_ty (by decide +kernel), _, rfl, iteF ?_⟩
    refine ⟨_, rfl, (by show 2 ≤ sizeLine; decide), fun p np => ⟨_, p, _, _, _, true, rfl, upd_same, .cons (.ty _) (.cons (.ty _) .nil), tyL ((same_new np).seq k1), kitAny_cons (kit_ty (b := "list") (r := true) (by decide +kernel)) (fun z => nomatch z) (fun _ => rfl), _, rfl, iteT ?_⟩⟩
    have e1 : Same H (upd H p (.tup [.ty "list", .ty "tuple"])) := same_new np
    have h1' := e1.seq h1
    have k1' := e1.seq k1
    refine ⟨_, rfl, _, _, _, _, true, rfl, .ty _, tyL h1', kit_ty (by decide +kernel), _, rfl, _, _, _, _, true, rfl, .ty _, tyL k1', kit_ty (by decide +kernel), rfl, _, rfl, iteNS rfl ?_⟩
    refine ⟨_, rfl, _, _, _, _, false, rfl, .ty _, tyL h1', kit_ty (by decide +kernel), _, rfl, _, _, _, _, false, rfl, .ty _, tyL k1', kit_ty (by decide +kernel), rfl, _, rfl, iteNS rfl ?_⟩
    refine ⟨_, rfl, a, xs, rfl, .inl h1', _, rfl, b, ys, rfl, .inl k1', rfl, _, rfl, iteY (by rw [lxy]) ?_⟩
    refine ⟨_, rfl, _, rfl, a, b, xs, ys, rfl, .inl ⟨h1', k1', fun D nD => ?_⟩⟩
    refine lc_it (walk_zip (n := xs.length) (by omega)) (fun i H' => Same (upd H p (.tup [.ty "list", .ty "tuple"])) H' ∧ H' D = some (.lst ((List.replicate i true).map V.bl))) ⟨same_new nD, upd_same⟩ (fun i H' _ p => ⟨p.1.seq h1', p.1.seq k1'⟩) ?_ ?_
    · rintro i v H' H'' hi ⟨s1, hD⟩ ⟨Tp, x', y', rfl, nT, rfl, ex, ey⟩
      refine ⟨Tp, [x', y'], rfl, .inl (.inl upd_same), rfl, x', [y'], rfl, y', [], rfl, rfl, rfl, ?_⟩
      obtain ⟨d', hm, hx', hy'⟩ := dpa_at h2 k2 ex ey
      have s2 := e1.trans (s1.trans (same_new (o := .tup [x', y']) nT))
      refine ⟨_, rfl, _, rfl, x', y', d', rfl, Dp.mono s2 hx', Dp.mono s2 hy', hall _ hm, fun H4 s4 => ?_⟩
      have lz : xs.length = ds.length := DpAll.length h2
      refine ⟨_, s4 _ _ ((upd_ne (ne_of_none hD nT)).trans hD), by rw [List.length_map, List.length_replicate]; exact lt_line (by omega), fun b' o e' => ?_, ?_⟩
      · have nb : b' ≠ D := ne_of_none e' nD
        rw [upd_ne nb]
        exact s4 _ _ (same_new nT _ _ (s1 _ _ e'))
      · rw [upd_same, List.replicate_succ', List.map_append]
        rfl
    · rintro H' ⟨s1, hD⟩
      refine ⟨D, List.replicate xs.length true, rfl, SqL.of hD, ?_⟩
      rw [bls_true]
      exact q _ (e1.trans s1)
  | @tup a xs ds h1 h2 =>
    cases hy with
    | @tup b ys _ k1 k2 =>
    cases hs with
    | @tup m _ hl hall =>
    have lxy : xs.length = ys.length := (DpAll.length h2).trans (DpAll.length k2).symm
    refine ⟨_, rfl, rfl, _, rfl, iteN (by intro z; cases z) ?_⟩
    refine ⟨_, rfl, _, _, _, _, false, rfl, .ty _, tyT k1, kit_ty (by decide +kernel), _, rfl, iteF ?_⟩
    refine ⟨_, rfl, (by show 2 ≤ sizeLine; decide), fun p np => ⟨_, p, _, _, _, true, rfl, upd_same, .cons (.ty _) (.cons (.ty _) .nil), tyT (Same.tup (same_new np) k1), kitAny_cons (kit_ty (b := "list") (r := false) (by decide +kernel)) (fun _ => kitAny_cons (kit_ty (r := true) (by decide +kernel)) (fun z => nomatch z) (fun _ => rfl)) (fun z => nomatch z), _, rfl, iteT ?_⟩⟩
    have e1 : Same H (upd H p (.tup [.ty "list", .ty "tuple"])) := same_new np
    have h1' := Same.tup e1 h1
    have k1' := Same.tup e1 k1
    refine ⟨_, rfl, _, _, _, _, false, rfl, .ty _, tyT h1', kit_ty (by decide +kernel), _, rfl, _, _, _, _, false, rfl, .ty _, tyT k1', kit_ty (by decide +kernel), rfl, _, rfl, iteNS rfl ?_⟩
    refine ⟨_, rfl, _, _, _, _, true, rfl, .ty _, tyT h1', kit_ty (by decide +kernel), _, rfl, _, _, _, _, true, rfl, .ty _, tyT k1', kit_ty (by decide +kernel), rfl, _, rfl, iteNS rfl ?_⟩
    refine ⟨_, rfl, a, xs, rfl, .inr h1', _, rfl, b, ys, rfl, .inr k1', rfl, _, rfl, iteY (by rw [lxy]) ?_⟩
    refine ⟨_, rfl, _, rfl, a, b, xs, ys, rfl, .inr ⟨h1', k1', fun D nD => ?_⟩⟩
    refine lc_it (walk_zipT (n := xs.length) (by omega)) (fun i H' => Same (upd H p (.tup [.ty "list", .ty "tuple"])) H' ∧ H' D = some (.lst ((List.replicate i true).map V.bl))) ⟨same_new nD, upd_same⟩ (fun i H' _ p => ⟨Same.tup p.1 h1', Same.tup p.1 k1'⟩) ?_ ?_
    · rintro i v H' H'' hi ⟨s1, hD⟩ ⟨Tp, x', y', rfl, nT, rfl, ex, ey⟩
      refine ⟨Tp, [x', y'], rfl, .inl (.inl upd_same), rfl, x', [y'], rfl, y', [], rfl, rfl, rfl, ?_⟩
      obtain ⟨d', hm, hx', hy'⟩ := dpa_at h2 k2 ex ey
      have s2 := e1.trans (s1.trans (same_new (o := .tup [x', y']) nT))
      refine ⟨_, rfl, _, rfl, x', y', d', rfl, Dp.mono s2 hx', Dp.mono s2 hy', hall _ hm, fun H4 s4 => ?_⟩
      have lz : xs.length = ds.length := DpAll.length h2
      refine ⟨_, s4 _ _ ((upd_ne (ne_of_none hD nT)).trans hD), by rw [List.length_map, List.length_replicate]; exact lt_line (by omega), fun b' o e' => ?_, ?_⟩
      · have nb : b' ≠ D := ne_of_none e' nD
        rw [upd_ne nb]
        exact s4 _ _ (same_new nT _ _ (s1 _ _ e'))
      · rw [upd_same, List.replicate_succ', List.map_append]
        rfl
    · rintro H' ⟨s1, hD⟩
      refine ⟨D, List.replicate xs.length true, rfl, SqL.of hD, ?_⟩
      rw [bls_true]
      exact q _ (e1.trans s1)
theorem ok_like (T : Top K mg) : ∀ n : Nat, FnOk P w K mg base CX0 n T.a_l_like T.fd_l_like ["_law_found", "_law_due"] (spLk K n)
  | 0 => ⟨fun _ _ _ _ h => h.elim, fun _ _ _ _ _ _ _ _ _ _ _ _ _ h => h.elim⟩
  | n + 1 => like_step T n (ok_like T n)
end
end Bh

set_option Elab.async false
set_option linter.all false
set_option maxRecDepth 100000
namespace Bh
open PySem PySem.Spec PyProof.Rows L2
/-! ### l.clear() of a list -/
def rLClear : V → List V → Hp → VK → Prop := fun x vs H Q => ∃ l xs, x = .ref l ∧ vs = [] ∧ H l = some (.lst xs) ∧ Q .non (upd H l (.lst []))
theorem mt_lclear {X : Cx} : MtM X "list.clear" rLClear := by
  intro pins s σ H x vs v us Q I rx rv h
  obtain ⟨l, xs, rfl, rfl, hH, q⟩ := h
  cases rx
  cases rv
  obtain ⟨z, its, n, r, hl, e⟩ := I.lstM hH
  refine call_meets PySem.F.slot_list_clear ⟨_, e, rfl⟩ PySem.F.entry_list_clear (PySem.F.args_list_clear_1 _) (PySem.AutoSeq1.list_clear_list_0 l its.toArray n ?_) ⟨e, ?_⟩
  · rw [List.size_toArray, ← r.length]; exact z
  · exact ⟨.non, _, I.lset (its' := []) hH e (by simp) .nil (Nat.zero_le _), rfl, q⟩
theorem pe_bm0_K {X : Cx} {K : PySem.W.Frag} (hK : X.K = K) {o : Expr} {to : TE} {name : Str} {apos cpos : Pos} {T id : String} {r : V → List V → Hp → VK → Prop}
    (pa : PlainAttrs T) (slot : Slot T name id) (hty : typeOf (.builtin id) = pure (.type "method_descriptor")) (hm : MtR X id r) (ho : PE X o to)
    (hbase : attributeBase o name X.env (eval o X.env) = eval o X.env := by rfl) (hline : (apos.endLine == cpos.line) = true := by rfl) : PE X (.Call (.Attribute o name apos) [] [] cpos) (tBM0 K T r to) := by
  subst hK
  exact pe_bm0 pa slot hty hm ho hbase hline
end Bh

set_option Elab.async false
set_option linter.all false
set_option maxRecDepth 100000
set_option maxHeartbeats 2000000
namespace Bh
open PySem PySem.Spec PyProof.Rows L2 LamX NdefX
section
variable {P : Program} {w : World} {K : PySem.W.Frag} {mg : Str → Option Value} {base : Heap} {cI pI : Addr}
def spLaw5 (K : PySem.W.Frag) (pI : Addr) : Sp := fun vs H Q _ => ∃ (a : Addr) (ns : List Int), vs = [.ref a] ∧ SqL K H a (ns.map V.int) ∧ ns.length ≤ 63 ∧ TabS H pI rbQ ∧ ∀ H', Q (.bl true) H'
theorem ok_law (T : Top K mg) {R : RbC K mg} (M : RbM K mg R cI pI) (TB : TabB base mg cI pI) {f : Addr} {fd : FuncData} (F : Fun K "law" "law" s_law f fd) : FnOk P w K mg base CX0 16 f fd ["_law_script"] (spLaw5 K pI) := by
  have G_Rulebook := ok_rinit (P := P) (w := w) T R TB M.lk M.hcd
  have G_eq := ok_meq (P := P) (w := w) (base := base) T R M.eq.F
  have G_m_fields := ok_mfields (P := P) (w := w) (base := base) T R M.fields.F
  have G_m_ties := ok_mties (P := P) (w := w) (base := base) T R M.ties.F
  have G_m_kinds := ok_mkinds (P := P) (w := w) (base := base) T R M.kinds.F
  have G_m_tie_names := ok_mtie_names (P := P) (w := w) (base := base) T R M.tie_names.F
  have G_m_kind_names := ok_mkind_names (P := P) (w := w) (base := base) T R M.kind_names.F
  have G_m_all_values := ok_mall_values (P := P) (w := w) (base := base) T R M.all_values.F
  have G_l_bag := ok_bag (P := P) (w := w) (base := base) T
  have G_l_book := ok_book5 (P := P) (w := w) (base := base) T
  have G_l_made := ok_made5 (P := P) (w := w) (base := base) T M TB
  have G_l_faces := ok_faces5 (P := P) (w := w) (base := base) T M
  have G_l_values := ok_values5 (P := P) (w := w) (base := base) T
  have G_l_like := ok_like (P := P) (w := w) (base := base) T 10
  refine F.ok sc_law (fun vs H Q E h => ?_) (fun cdv A outer s H vs Q E hr h => ?_)
  · obtain ⟨a, ns, rfl, _⟩ := h
    rfl
  obtain ⟨a, ns, rfl, hS, h63, tb, q⟩ := h
  refine ⟨_, (pss_cons (ps_set (i := 1) sc_law.nd rfl (Or.inl rfl) (pe_call G_l_bag (hr.mono (by decide)) (by rfl) T.d_l_bag.g T.d_l_bag.kp T.d_l_bag.b .nil pass0 (pa_cons (pv 0) pa_nil)))
    (pss_cons (ps_for PassesOwn.never rfl (pi_range1 rfl T.b_range (pa_cons pe_int pa_nil)) (pg_name (i := 2) sc_law.nd rfl (Or.inl rfl))
      (pss_cons (ps_set (i := 3) sc_law.nd rfl (Or.inl rfl) (pe_call G_l_book (hr.mono (by decide)) (by rfl) T.d_l_book.g T.d_l_book.kp T.d_l_book.b .nil pass0 (pa_cons (pv 1) (pa_cons pe_int (pa_cons pe_int pa_nil)))))
      (pss_cons (ps_setLc (i := 4) (own := [("_law_part", 5)]) rfl sc_law.nd rfl rfl (sw_true rfl rfl rfl (by decide +kernel)) (pi_tup_K (K := K) (by rfl) (pv 3)) (blkOk_by (own := [("_law_part", 5)]) (N := ["_law_script", "_law_bag_here", "_law_turn", "_law_m", "_law_handed", "_law_part", "_law_book_here", "_law_twin", "_law_told", "_law_due", "_law_row", "_law_other", "_law_kind", "_law_birth", "_law_flipped"]) (sc := defScope s_law) (by decide +kernel)) (fun _ _ _ _ _ => by exact (pg_name (i := 5) sc_law.nd rfl (Or.inl rfl))) (fun _ _ _ _ _ => by exact pts_nil) (fun _ _ _ _ _ => by exact (pe_callTy (call_list_of_K (K := K) (by rfl)) (by rfl) T.b_list (by decide +kernel) (pa_cons (pv 5) pa_nil))))
      (pss_cons (ps_set (i := 6) sc_law.nd rfl (Or.inl rfl) (pe_makeK M.mkr G_Rulebook (hr.mono (by decide)) (by rfl) R.g (kb_ties_kinds M) pass0 (pa_cons (pe_ix (ix_list_K (K := K) (by rfl)) (pv 4) pe_int (fun _ _ => rfl)) pa_nil) (pk_cons (pe_ix (ix_list_K (K := K) (by rfl)) (pv 4) pe_int (fun _ _ => rfl)) (pk_cons (pe_ix (ix_list_K (K := K) (by rfl)) (pv 4) pe_int (fun _ _ => rfl)) pk_nil))))
      (pss_cons (ps_set (i := 7) sc_law.nd rfl (Or.inl rfl) (pe_makeK0 M.mkr G_Rulebook (hr.mono (by decide)) (by rfl) R.g (kb_kinds_ties_fields M) pass0 (pk_cons (pe_callTy (call_tuple_of_P (K := K) (by rfl)) (by rfl) T.b_tuple (by decide +kernel) (pa_cons (pe_ix (ix_tup_K (K := K) (by rfl)) (pv 3) pe_int (fun _ _ => rfl)) pa_nil)) (pk_cons (pe_callTy (call_tuple_of_P (K := K) (by rfl)) (by rfl) T.b_tuple (by decide +kernel) (pa_cons (pe_ix (ix_tup_K (K := K) (by rfl)) (pv 3) pe_int (fun _ _ => rfl)) pa_nil)) (pk_cons (pe_callTy (call_tuple_of_P (K := K) (by rfl)) (by rfl) T.b_tuple (by decide +kernel) (pa_cons (pe_ix (ix_tup_K (K := K) (by rfl)) (pv 3) pe_int (fun _ _ => rfl)) pa_nil)) pk_nil)))))
      (pss_cons (ps_for PassesOwn.never rfl (pi_list_K (K := K) (by rfl) (pv 4)) (pg_name (i := 5) sc_law.nd rfl (Or.inl rfl))
        (pss_one (ps_expr (pe_bm0_K (K := K) (by rfl) PySem.F.plainAttrs_list PySem.F.slot_list_clear PySem.F.type_list_clear mt_lclear (pv 5)))))
      (pss_cons (ps_set (i := 8) sc_law.nd rfl (Or.inl rfl) (pe_lst (pa_cons (pe_meth0 (pv 6) R.cl M.fields.M G_m_fields (hr.mono (by decide)) M.fields.b .nil pass0) (pa_cons (pe_meth0 (pv 6) R.cl M.ties.M G_m_ties (hr.mono (by decide)) M.ties.b .nil pass0) (pa_cons (pe_meth0 (pv 6) R.cl M.kinds.M G_m_kinds (hr.mono (by decide)) M.kinds.b .nil pass0) pa_nil)))))
      (pss_cons (ps_set (i := 8) sc_law.nd rfl (Or.inl rfl) (pe_op op_cat (pv 8) (pe_lst (pa_cons (pe_meth0 (pv 6) R.cl M.tie_names.M G_m_tie_names (hr.mono (by decide)) M.tie_names.b .nil pass0) (pa_cons (pe_meth0 (pv 6) R.cl M.kind_names.M G_m_kind_names (hr.mono (by decide)) M.kind_names.b .nil pass0) (pa_cons (pe_meth0 (pv 6) R.cl M.all_values.M G_m_all_values (hr.mono (by decide)) M.all_values.b .nil pass0) pa_nil))))))
      (pss_cons (ps_set (i := 9) sc_law.nd rfl (Or.inl rfl) (pe_op op_cat (pe_lst (pa_cons (pe_ix (ix_tup_K (K := K) (by rfl)) (pv 3) pe_int (fun _ _ => rfl)) (pa_cons (pe_ix (ix_tup_K (K := K) (by rfl)) (pv 3) pe_int (fun _ _ => rfl)) (pa_cons (pe_ix (ix_tup_K (K := K) (by rfl)) (pv 3) pe_int (fun _ _ => rfl)) pa_nil)))) (pe_lc (own := [("_law_row", 10)]) rfl sc_law.nd (pi_tup_K (K := K) (by rfl) (pe_slice (sl_tupA_K (K := K) (by rfl)) (pv 3) (po_some pe_int) po_none)) (blkOk_by (own := [("_law_row", 10)]) (N := ["_law_script", "_law_bag_here", "_law_turn", "_law_m", "_law_handed", "_law_part", "_law_book_here", "_law_twin", "_law_told", "_law_due", "_law_row", "_law_other", "_law_kind", "_law_birth", "_law_flipped"]) (sc := defScope s_law) (by decide +kernel)) (fun _ _ _ _ _ => by exact (pg_name (i := 10) sc_law.nd rfl (Or.inl rfl))) (fun _ _ _ _ _ => by exact pts_nil) (fun _ _ _ _ _ => by exact (pe_lc (own := [("_law_part", 5)]) rfl sc_law.nd (pi_list_K (K := K) (by rfl) (pv 10)) (blkOk_by (own := [("_law_part", 5)]) (N := ["_law_script", "_law_bag_here", "_law_turn", "_law_m", "_law_handed", "_law_part", "_law_book_here", "_law_twin", "_law_told", "_law_due", "_law_row", "_law_other", "_law_kind", "_law_birth", "_law_flipped"]) (sc := { kind := ScopeKind.function, names := [(".0", NameKind.local), ("_law_row", NameKind.local)], isGenerator := false, isCoroutine := false }) (by decide +kernel)) (fun _ _ _ _ _ => by exact (pg_name (i := 5) sc_law.nd rfl (Or.inl rfl))) (fun _ _ _ _ _ => by exact pts_nil) (fun _ _ _ _ _ => by exact (pe_ix (ix_tup_K (K := K) (by rfl)) (pv 5) pe_int (fun _ _ => rfl))))))))
      (pss_cons (ps_expr (pe_bm_K (K := K) (by rfl) PySem.F.plainAttrs_list PySem.F.slot_list_append PySem.F.type_list_append mt_append (pv 9) (pa_cons (pe_call G_l_values (hr.mono (by decide)) (by rfl) T.d_l_values.g T.d_l_values.kp T.d_l_values.b .nil pass0 (pa_cons (pe_ix (ix_tup_K (K := K) (by rfl)) (pv 3) pe_int (fun _ _ => rfl)) pa_nil)) pa_nil)))
      (pss_cons (ps_if (pt_not (pt_val (pe_call G_l_like (hr.mono (by decide)) (by rfl) T.d_l_like.g T.d_l_like.kp T.d_l_like.b .nil pass0 (pa_cons (pv 8) (pa_cons (pv 9) pa_nil))))) (pss_one (ps_ret pe_bl)) pss_nil)
      (pss_cons (ps_for PassesOwn.never rfl (pi_list_K (K := K) (by rfl) (pv 8)) (pg_name (i := 10) sc_law.nd rfl (Or.inl rfl))
        (pss_one (ps_expr (pe_bm0_K (K := K) (by rfl) PySem.F.plainAttrs_list PySem.F.slot_list_clear PySem.F.type_list_clear mt_lclear (pv 10)))))
      (pss_cons (ps_set (i := 8) sc_law.nd rfl (Or.inl rfl) (pe_lst (pa_cons (pe_meth0 (pv 6) R.cl M.fields.M G_m_fields (hr.mono (by decide)) M.fields.b .nil pass0) (pa_cons (pe_meth0 (pv 6) R.cl M.ties.M G_m_ties (hr.mono (by decide)) M.ties.b .nil pass0) (pa_cons (pe_meth0 (pv 6) R.cl M.kinds.M G_m_kinds (hr.mono (by decide)) M.kinds.b .nil pass0) pa_nil)))))
      (pss_cons (ps_if (pt_not (pt_val (pe_call G_l_like (hr.mono (by decide)) (by rfl) T.d_l_like.g T.d_l_like.kp T.d_l_like.b .nil pass0 (pa_cons (pe_op op_cat (pv 8) (pe_lst (pa_cons (pe_meth0 (pv 6) R.cl M.all_values.M G_m_all_values (hr.mono (by decide)) M.all_values.b .nil pass0) pa_nil))) (pa_cons (pe_op op_cat (pe_slice (sl_list_K (K := K) (by rfl)) (pv 9) po_none (po_some pe_int)) (pe_lst (pa_cons (pe_ix (ix_list_K (K := K) (by rfl)) (pv 9) pe_int (fun _ _ => rfl)) pa_nil))) pa_nil))))) (pss_one (ps_ret pe_bl)) pss_nil)
      (pss_cons (ps_if (pt_not (pt_val (pe_call G_l_faces (hr.mono (by decide)) (by rfl) T.d_l_faces.g T.d_l_faces.kp T.d_l_faces.b .nil pass0 (pa_cons (pv 6) (pa_cons (pv 7) (pa_cons (pv 3) pa_nil)))))) (pss_one (ps_ret pe_bl)) pss_nil)
      (pss_cons (ps_set (i := 11) sc_law.nd rfl (Or.inl rfl) (pe_call G_l_book (hr.mono (by decide)) (by rfl) T.d_l_book.g T.d_l_book.kp T.d_l_book.b .nil pass0 (pa_cons (pv 1) (pa_cons pe_int (pa_cons pe_int pa_nil)))))
      (pss_cons (ps_if (pt_cmpR op_ne (pe_cmpR (op_eqIns (C := R.C) G_eq M.eq.M.at_ M.eq.M.fn M.eq.b (hr.mono (by decide)) M.eqT) (pe_call G_l_made (hr.mono (by decide)) (by rfl) T.d_l_made.g T.d_l_made.kp T.d_l_made.b .nil pass0 (pa_cons (pv 11) pa_nil)) (pv 6) (nomark _)) (pe_cmpR (op_eqP (K := K) (by rfl) hr.units) (pe_callTy (call_list_of_K (K := K) (by rfl)) (by rfl) T.b_list (by decide +kernel) (pa_cons (pv 11) pa_nil)) (pe_callTy (call_list_of_K (K := K) (by rfl)) (by rfl) T.b_list (by decide +kernel) (pa_cons (pv 3) pa_nil)) (nomark _)) (nomark _)) (pss_one (ps_ret pe_bl)) pss_nil)
      (pss_cons (ps_if (pt_cmpR (op_eqIns (C := R.C) G_eq M.eq.M.at_ M.eq.M.fn M.eq.b (hr.mono (by decide)) M.eqT) (pv 6) (pe_makeK M.mkr G_Rulebook (hr.mono (by decide)) (by rfl) R.g (kb_ties_kinds M) pass0 (pa_cons (pe_ix (ix_tup_K (K := K) (by rfl)) (pv 3) pe_int (fun _ _ => rfl)) pa_nil) (pk_cons (pe_op op_cat (pe_ix (ix_tup_K (K := K) (by rfl)) (pv 3) pe_int (fun _ _ => rfl)) (pe_lst (pa_cons (pe_tup (pa_cons pe_str (pa_cons (pe_ix (ix_tup_K (K := K) (by rfl)) (pe_ix (ix_list_K (K := K) (by rfl)) (pe_ix (ix_tup_K (K := K) (by rfl)) (pv 3) pe_int (fun _ _ => rfl)) pe_int (fun _ _ => rfl)) pe_int (fun _ _ => rfl)) pa_nil))) pa_nil))) (pk_cons (pe_ix (ix_tup_K (K := K) (by rfl)) (pv 3) pe_int (fun _ _ => rfl)) pk_nil))) (nomark _)) (pss_one (ps_ret pe_bl)) pss_nil)
      (pss_cons (ps_set (i := 12) sc_law.nd rfl (Or.inl rfl) (pe_ix (ix_list_K (K := K) (by rfl)) (pe_ix (ix_tup_K (K := K) (by rfl)) (pv 3) pe_int (fun _ _ => rfl)) pe_int (fun _ _ => rfl)))
      (pss_cons (ps_set (i := 13) sc_law.nd rfl (Or.inl rfl) (pe_ifExp (pt_cmpR op_notN (pe_ix (ix_tup_K (K := K) (by rfl)) (pv 12) pe_int (fun _ _ => rfl)) pe_non (nomark _)) pe_non (pe_ix (ix_list_K (K := K) (by rfl)) (pe_ix (ix_list_K (K := K) (by rfl)) (pv 9) pe_int (fun _ _ => rfl)) pe_int (fun _ _ => rfl))))
      (pss_cons (ps_set (i := 14) sc_law.nd rfl (Or.inl rfl) (pe_tup (pa_cons (pe_ix (ix_tup_K (K := K) (by rfl)) (pv 12) pe_int (fun _ _ => rfl)) (pa_cons (pe_ix (ix_tup_K (K := K) (by rfl)) (pv 12) pe_int (fun _ _ => rfl)) (pa_cons (pe_ix (ix_tup_K (K := K) (by rfl)) (pv 12) pe_int (fun _ _ => rfl)) (pa_cons (pv 13) pa_nil))))))
      (pss_one (ps_if (pt_cmpR (op_eqIns (C := R.C) G_eq M.eq.M.at_ M.eq.M.fn M.eq.b (hr.mono (by decide)) M.eqT) (pv 6) (pe_makeK M.mkr G_Rulebook (hr.mono (by decide)) (by rfl) R.g (kb_ties_kinds M) pass0 (pa_cons (pe_ix (ix_tup_K (K := K) (by rfl)) (pv 3) pe_int (fun _ _ => rfl)) pa_nil) (pk_cons (pe_ix (ix_tup_K (K := K) (by rfl)) (pv 3) pe_int (fun _ _ => rfl)) (pk_cons (pe_op op_cat (pe_lst (pa_cons (pv 14) pa_nil)) (pe_slice (sl_list_K (K := K) (by rfl)) (pe_ix (ix_tup_K (K := K) (by rfl)) (pv 3) pe_int (fun _ _ => rfl)) (po_some pe_int) po_none)) pk_nil))) (nomark _)) (pss_one (ps_ret pe_bl)) pss_nil)))))))))))))))))))))))
    (pss_one (ps_ret (pe_cmpR (op_eqP (K := K) (by rfl) hr.units) (pe_lst (pa_cons (ClX.pe_cval (pe_glob (v := .ref R.C) rfl R.g rfl)) (pa_cons (ClX.pe_cval (pe_glob (v := .ref R.C) rfl R.g rfl)) (pa_cons (ClX.pe_cval (pe_glob (v := .ref R.C) rfl R.g rfl)) pa_nil)))) (pe_lst (pa_cons pe_int (pa_cons pe_int (pa_cons pe_int pa_nil)))) (nomark _)))))), ?_⟩
  refine ⟨_, rfl, a, ns, rfl, hS, h63, fun b l H1 nb nl s1 hb => ?_⟩
  have tb1 := tb.ext s1
  refine ⟨_, rfl, by omega, by omega, ?_⟩
  refine for_it walk_range (fun i σ H' => ∃ x2 x3 x4 x5 x6 x7 x8 x9 x10 x11 x12 x13 x14, σ = [some (.ref a), some (.ref b), x2, x3, x4, x5, x6, x7, x8, x9, x10, x11, x12, x13, x14] ∧ BagAt b l H' ∧ TabS H' pI rbQ)
    ⟨none, none, none, none, none, none, none, none, none, none, none, none, none, rfl, hb, tb1⟩ (fun _ _ _ _ _ => True.intro) ?_ ?_
  · clear hS h63 tb tb1 hb s1 nb nl
    rintro i v σ H0 H0' hi ⟨x2, x3, x4, x5, x6, x7, x8, x9, x10, x11, x12, x13, x14, rfl, hb, tb⟩ ⟨rfl, rfl⟩
    refine ⟨_, rfl, b, l, noBag b l H0', rfl, hb.wd, fun G1 H1 t p1 p2 p3 y1 y2 y3 fs ts ks s1 w1 g0 g1 g2 g3 d1 d2 d3 ok t3 nz => ?_⟩
    have tb1 := draw_tab tb hb s1 w1
    have hb1 := w1.bag
    have bk1 : BkAt K H1 t p1 p2 p3 fs ts ks := BkAt.mono w1.sm ⟨y1, y2, y3, g0, g1, g2, g3, d1, d2, d3⟩
    have pb1 : p1 ≠ b ∧ p1 ≠ l := ⟨ne_of_none g1 w1.nb, ne_of_none g1 w1.nl⟩
    have pb2 : p2 ≠ b ∧ p2 ≠ l := ⟨ne_of_none g2 w1.nb, ne_of_none g2 w1.nl⟩
    have pb3 : p3 ≠ b ∧ p3 ≠ l := ⟨ne_of_none g3 w1.nb, ne_of_none g3 w1.nl⟩
    clear s1 g0 g1 g2 g3 d1 d2 d3 w1 tb hb
    obtain ⟨y1, y2, y3, g0, g1, g2, g3, d1, d2, d3⟩ := id bk1
    have ht : SqT K H1 t [.ref p1, .ref p2, .ref p3] := SqT.of g0
    refine ⟨_, rfl, t, rfl, ⟨_, ht⟩, fun D nD => ?_⟩
    refine lc_it walk_tup (fun i H' => ∃ zs : List V, Same H1 H' ∧ H' D = some (.lst zs) ∧ zs.length = i ∧ ∀ (j : Nat) (z : V), zs[j]? = some z → ∃ (c pp : Addr) (ys : List V), z = .ref c ∧ ([.ref p1, .ref p2, .ref p3] : List V)[j]? = some (.ref pp) ∧ H1 pp = some (.lst ys) ∧ H' c = some (.lst ys) ∧ H1 c = none ∧ c ≠ D)
      ⟨[], same_new nD, upd_same, rfl, fun j z e => by simp at e⟩ (fun i H' _ ⟨_, s, _⟩ => Same.tup s ht) ?_ ?_
    · rintro j x H' H'' hj ⟨zs, s2, hD, lz, hz⟩ ⟨rfl, ex⟩
      obtain ⟨pp, ys, rfl, hp⟩ : ∃ (pp : Addr) (ys : List V), x = .ref pp ∧ H1 pp = some (.lst ys) := by
        match j, ex with
        | 0, ex => cases ex; exact ⟨p1, y1, rfl, g1⟩
        | 1, ex => cases ex; exact ⟨p2, y2, rfl, g2⟩
        | 2, ex => cases ex; exact ⟨p3, y3, rfl, g3⟩
        | n + 3, ex => cases ex
      refine ⟨rfl, _, rfl, pp, ys, rfl, .inl (SqL.of (s2 _ _ hp)), fun c nc => ?_⟩
      have sc := same_new (o := .lst ys) nc
      have hDc := sc _ _ hD
      have cD : c ≠ D := (ne_of_none hD nc).symm
      refine ⟨zs, hDc, lt_line (by rw [lz]; have : j < 3 := hj; omega), zs ++ [.ref c], same_mut (s2.trans sc) nD, upd_same, by rw [List.length_append, lz]; rfl, fun k z ez => ?_⟩
      by_cases hk : k < zs.length
      · rw [List.getElem?_append_left hk] at ez
        obtain ⟨c', pp', ys', e1, e2, e3, e4, e5, e6⟩ := hz k z ez
        exact ⟨c', pp', ys', e1, e2, e3, by rw [upd_ne e6]; exact sc _ _ e4, e5, e6⟩
      · rw [List.getElem?_append_right (by omega)] at ez
        have k0 : k = j := by
          have := (List.getElem?_eq_some_iff.mp ez).1
          simp only [List.length_singleton] at this
          omega
        subst k0
        rw [lz, Nat.sub_self] at ez
        cases ez
        exact ⟨c, pp, ys, rfl, ex, hp, by rw [upd_ne cD]; exact upd_same, s2.free nc, cD⟩
    · rintro H2 ⟨zs, s2, hD, lz, hz⟩
      have at3 : ∀ (j : Nat) (pp : Addr) (ys : List V), ([.ref p1, .ref p2, .ref p3] : List V)[j]? = some (.ref pp) → H1 pp = some (.lst ys) → ∃ c, zs[j]? = some (.ref c) ∧ H2 c = some (.lst ys) ∧ H1 c = none ∧ c ≠ D := fun j pp ys e g => by
        have lj : j < zs.length := by
          rw [lz]
          exact (List.getElem?_eq_some_iff.mp e).1
        obtain ⟨c, pp', ys', e1, e2, e3, e4, e5, e6⟩ := hz j zs[j] (List.getElem?_eq_getElem lj)
        rw [e] at e2
        cases e2
        rw [g] at e3
        cases e3
        exact ⟨c, by rw [List.getElem?_eq_getElem lj, e1], e4, e5, e6⟩
      obtain ⟨c1, z1, k1, n1, m1⟩ := at3 0 p1 y1 rfl g1
      obtain ⟨c2, z2, k2, n2, m2⟩ := at3 1 p2 y2 rfl g2
      obtain ⟨c3, z3, k3, n3, m3⟩ := at3 2 p3 y3 rfl g3
      clear at3 hz
      have tb2 := tb1.ext s2
      have hb2 := hb1.same s2
      have bk2 := bk1.mono s2
      have hDL : SqL K H2 D zs := SqL.of hD
      refine ⟨_, rfl, D, _, (0 : Int), .ref c1, rfl, rfl, hDL, at_nn (by decide) z1, _, rfl, D, _, (1 : Int), .ref c2, rfl, rfl, hDL, at_nn (by decide) z2, _, rfl, D, _, (2 : Int), .ref c3, rfl, rfl, hDL, at_nn (by decide) z3, rfl, rfl, fun x dx nx nd ne => ?_⟩
      refine rb_made nx nd ne ⟨c1, y1, rfl, .inl (SqL.of k1), DpAll.mono s2 d1⟩ ⟨c2, y2, rfl, .inl (SqL.of k2), DpAll.mono s2 d2⟩ ⟨c3, y3, rfl, .inl (SqL.of k3), DpAll.mono s2 d3⟩ ok tb2 fun H3 a1 a2 a3 s3 na1 na2 na3 ra tb3 => ?_
      have kp3 : Kp [] H2 H3 := kp_tb s3
      have nin : ∀ {p : Addr}, p ∉ ([] : List Addr) := fun h => by cases h
      have hb3 := hb2.kp kp3 nin nin
      have bk3 := bk2.kp kp3 nin nin nin
      have hD3 := kp3.lst hD nin
      have k13 := kp3.lst k1 nin
      have k23 := kp3.lst k2 nin
      have k33 := kp3.lst k3 nin
      have far : ∀ {a' p' : Addr} {xs : List V}, noTb H2 a' = none → H2 p' = some (.lst xs) → a' ≠ p' := fun n h z => by
        rw [z, noTb_at h (fun _ q => nomatch q)] at n
        cases n
      obtain ⟨bns, b1', b2', b3', hbb, hbl, _⟩ := id hb2
      have aS : ∀ {a' : Addr}, noTb H2 a' = none → a' ∉ [b, l, D, c1, c2, c3] := fun n => by
        simp only [List.mem_cons, List.not_mem_nil, or_false, not_or]
        exact ⟨far n hbb, far n hbl, far n hD, far n k1, far n k2, far n k3⟩
      have aS1 := aS na1
      have aS2 := aS na2
      have aS3 := aS na3
      have pS : ∀ {p' : Addr} {ys : List V}, p' ≠ b ∧ p' ≠ l → H1 p' = some (.lst ys) → p' ∉ [b, l, D, c1, c2, c3] := fun e h => by
        simp only [List.mem_cons, List.not_mem_nil, or_false, not_or]
        exact ⟨e.1, e.2, ne_of_none h nD, ne_of_none h n1, ne_of_none h n2, ne_of_none h n3⟩
      have pS1 := pS pb1 g1
      have pS2 := pS pb2 g2
      have pS3 := pS pb3 g3
      have cS : ∀ {c' : Addr}, H1 c' = none → c' ≠ b ∧ c' ≠ l := fun {c'} n => by
        refine ⟨fun z => ?_, fun z => ?_⟩
        · obtain ⟨o, e⟩ := hb1.b_some
          rw [← z, n] at e
          cases e
        · obtain ⟨o, e⟩ := hb1.l_some
          rw [← z, n] at e
          cases e
      have cS1 := cS n1
      have cS2 := cS n2
      have cS3 := cS n3
      have cSD := cS nD
      clear s2 bk1 hb1 tb1 d1 d2 d3 g0 g1 g2 g3 ht s3 kp3 hb2 bk2 hD k1 k2 k3 tb2 far aS pS hbb hbl hDL nx nd ne na1 na2 na3 cS pb1 pb2 pb3
      obtain ⟨y1, y2, y3, g0, g1, g2, g3, d1, d2, d3⟩ := id bk3
      have ht : SqT K H3 t [.ref p1, .ref p2, .ref p3] := SqT.of g0
      refine ⟨_, rfl, t, _, (2 : Int), .ref p3, rfl, rfl, ht, at_nn (by decide) rfl, p3, y3, rfl, .inl ⟨SqL.of g3, fun q3 o3 nq3 dq3 => ?_⟩⟩
      have e3 := same_new (o := .frz o3 (.tup y3)) nq3
      refine ⟨_, rfl, t, _, (1 : Int), .ref p2, rfl, rfl, Same.tup e3 ht, at_nn (by decide) rfl, p2, y2, rfl, .inl ⟨SqL.of (e3 _ _ g2), fun q2 o2 nq2 dq2 => ?_⟩⟩
      have e2 := e3.trans (same_new (o := .frz o2 (.tup y2)) nq2)
      refine ⟨_, rfl, t, _, (0 : Int), .ref p1, rfl, rfl, Same.tup e2 ht, at_nn (by decide) rfl, p1, y1, rfl, .inl ⟨SqL.of (e2 _ _ g1), fun q1 o1 nq1 dq1 => ⟨rfl, rfl, fun y dy ny nd ne => ?_⟩⟩⟩
      have e1 := e2.trans (same_new (o := .frz o1 (.tup y1)) nq1)
      refine rb_made ny nd ne ⟨q1, y1, rfl, .inr (SqP.new dq1).sqT, DpAll.mono e1 d1⟩ ⟨q2, y2, rfl, .inr (Same.tup (same_new nq1) (SqP.new dq2).sqT), DpAll.mono e1 d2⟩ ⟨q3, y3, rfl, .inr (Same.tup ((same_new nq2).trans (same_new nq1)) (SqP.new dq3).sqT), DpAll.mono e1 d3⟩ ok (tb3.ext e1) fun H4 b1 b2 b3 s4 nb1 nb2 nb3 rb4 tb4 => ?_
      have kp4 : Kp [] H3 H4 := (Same.kp e1).trans (kp_tb s4)
      have ra4 := ra.kp kp4 nin nin nin
      have hb4 := hb3.kp kp4 nin nin
      have bk4 := bk3.kp kp4 nin nin nin
      have hD4 := kp4.lst hD3 nin
      have k14 := kp4.lst k13 nin
      have k24 := kp4.lst k23 nin
      have k34 := kp4.lst k33 nin
      have far : ∀ {a' p' : Addr} {xs : List V}, noTb _ a' = none → H3 p' = some (.lst xs) → a' ≠ p' := fun n h z => by
        rw [z, noTb_at (e1 _ _ h) (fun _ q => nomatch q)] at n
        cases n
      obtain ⟨bns, b1', b2', b3', hbb, hbl, _⟩ := id hb3
      have bS : ∀ {a' : Addr}, noTb _ a' = none → a' ∉ [b, l, D, c1, c2, c3] := fun n => by
        simp only [List.mem_cons, List.not_mem_nil, or_false, not_or]
        exact ⟨far n hbb, far n hbl, far n hD3, far n k13, far n k23, far n k33⟩
      have bS1 := bS nb1
      have bS2 := bS nb2
      have bS3 := bS nb3
      clear e1 e2 e3 s4 nb1 nb2 nb3 far bS hbb hbl kp4 hb3 bk3 tb3 hD3 k13 k23 k33 ra d1 d2 d3 g0 g1 g2 g3 ht ny nd ne nq1 nq2 nq3 dq1 dq2 dq3
      have bnc : b ∉ [c1, c2, c3] := fun h => by
        simp only [List.mem_cons, List.not_mem_nil, or_false] at h
        rcases h with h | h | h
        · exact cS1.1 h.symm
        · exact cS2.1 h.symm
        · exact cS3.1 h.symm
      have lnc : l ∉ [c1, c2, c3] := fun h => by
        simp only [List.mem_cons, List.not_mem_nil, or_false] at h
        rcases h with h | h | h
        · exact cS1.2 h.symm
        · exact cS2.2 h.symm
        · exact cS3.2 h.symm
      have Dnc : D ∉ [c1, c2, c3] := fun h => by
        simp only [List.mem_cons, List.not_mem_nil, or_false] at h
        rcases h with h | h | h
        · exact m1 h.symm
        · exact m2 h.symm
        · exact m3 h.symm
      have sub6 : ∀ {a' : Addr}, a' ∉ [b, l, D, c1, c2, c3] → a' ∉ [c1, c2, c3] := fun n h => n (List.mem_cons_of_mem _ (List.mem_cons_of_mem _ (List.mem_cons_of_mem _ h)))
      have zs3 : ∀ (j : Nat) (v : V), zs[j]? = some v → ∃ c, v = .ref c ∧ c ∈ [c1, c2, c3] := fun j v e => by
        match j, e with
        | 0, e => rw [z1] at e; cases e; exact ⟨c1, rfl, by simp⟩
        | 1, e => rw [z2] at e; cases e; exact ⟨c2, rfl, by simp⟩
        | 2, e => rw [z3] at e; cases e; exact ⟨c3, rfl, by simp⟩
        | n + 3, e =>
          have := (List.getElem?_eq_some_iff.mp e).1
          rw [lz] at this
          exact absurd (show n + 3 < 3 from this) (by omega)
      refine ⟨_, rfl, D, rfl, ⟨_, SqL.of hD4⟩, for_it walk_list (fun j σ H' => ∃ v5, σ = [some (.ref a), some (.ref b), some (.int (0 + (i : Int))), some (.ref t), some (.ref D), v5, some (.ref x), some (.ref y), x8, x9, x10, x11, x12, x13, x14] ∧ Kp [c1, c2, c3] H4 H' ∧ TabS H' pI rbQ ∧ (∀ c ∈ [c1, c2, c3], ∃ ys, H' c = some (.lst ys)))
        ⟨x5, rfl, fun _ _ h _ _ => h, tb4, fun c hc => ?_⟩ (fun j σ H' _ ⟨_, _, e, _⟩ => SqL.of (e.lst hD4 Dnc)) ?_ ?_⟩
      · simp only [List.mem_cons, List.not_mem_nil, or_false] at hc
        rcases hc with rfl | rfl | rfl
        · exact ⟨_, k14⟩
        · exact ⟨_, k24⟩
        · exact ⟨_, k34⟩
      · rintro j v σ H' H'' hj ⟨v5, rfl, e, tb', hc⟩ ⟨rfl, ev⟩
        obtain ⟨c, rfl, hm⟩ := zs3 j v ev
        obtain ⟨ys, hys⟩ := hc c hm
        refine ⟨_, rfl, .inl ⟨rfl, _, SqL.of hys⟩, c, ys, rfl, rfl, hys, ?_⟩
        refine ⟨_, rfl, e.trans (kp_upd hys hm), tab_updL tb' hys, fun c' hc' => ?_⟩
        by_cases z : c' = c
        · exact ⟨[], by rw [z]; exact upd_same⟩
        · obtain ⟨ys', h'⟩ := hc c' hc'
          exact ⟨ys', by rw [upd_ne z]; exact h'⟩
      rintro σ H5 ⟨v5, rfl, kp5, tb5, _⟩
      have hb5 := hb4.kp kp5 bnc lnc
      have ra5 := ra4.kp kp5 (sub6 aS1) (sub6 aS2) (sub6 aS3)
      have rb5 := rb4.kp kp5 (sub6 bS1) (sub6 bS2) (sub6 bS3)
      have bk5 := bk4.kp kp5 (sub6 pS1) (sub6 pS2) (sub6 pS3)
      clear kp5 hb4 ra4 rb4 bk4 tb4 k14 k24 k34 z1 z2 z3 zs3 hD4 cS1 cS2 cS3 cSD lz bnc lnc Dnc sub6 m1 m2 m3 n1 n2 n3 nD
      have aB : ∀ {a' : Addr}, a' ∉ [b, l, D, c1, c2, c3] → a' ∉ [b, l] := fun n h => by
        simp only [List.mem_cons, List.not_mem_nil, or_false] at h
        rcases h with rfl | rfl <;> exact n (by simp)
      have aB1 := aB aS1
      have aB2 := aB aS2
      have aB3 := aB aS3
      have bB1 := aB bS1
      have bB2 := aB bS2
      have bB3 := aB bS3
      have pB1 := aB pS1
      have pB2 := aB pS2
      have pB3 := aB pS3
      clear aB aS1 aS2 aS3 bS1 bS2 bS3 pS1 pS2 pS3
      obtain ⟨dx, w1, w2, w3, hx0, ha1, ha2, ha3, _⟩ := id ra5
      obtain ⟨dy, _, _, _, hy0, hq1, hq2, hq3, _⟩ := id rb5
      obtain ⟨y1, y2, y3, g0, g1, g2, g3, d1, d2, d3⟩ := id bk5
      refine ⟨_, rfl, x, dx, rbF a1 a2 a3, rfl, hx0, rfl, x, fs, ts, ks, rfl, ra5.at_, ok, fun f1 H6 u1 nf1 s6 hf1 df1 => ?_⟩
      refine ⟨_, rfl, x, dx, rbF a1 a2 a3, rfl, s6 _ _ hx0, rfl, x, fs, ts, ks, rfl, (ra5.mono s6).at_, ok, fun f2 H7 u2 nf2 s7 hf2 df2 => ?_⟩
      have s57 := s6.trans s7
      refine ⟨_, rfl, x, dx, rbF a1 a2 a3, rfl, s57 _ _ hx0, rfl, x, fs, ts, ks, rfl, (ra5.mono s57).at_, ok, fun f3 H8 u3 nf3 s8 hf3 df3 => ?_⟩
      have s58 := s57.trans s8
      refine ⟨(by show 3 ≤ sizeLine; decide), fun T1 nT1 => ?_⟩
      have s9 := same_new (o := .lst [.ref f1, .ref f2, .ref f3]) nT1
      have s59 := s58.trans s9
      refine ⟨_, rfl, _, rfl, x, dx, rbF a1 a2 a3, rfl, s59 _ _ hx0, rfl, x, fs, ts, ks, rfl, (ra5.mono s59).at_, ok, fun f4 H10 u4 nf4 s10 hf4 df4 => ?_⟩
      have s5a := s59.trans s10
      refine ⟨_, rfl, x, dx, rbF a1 a2 a3, rfl, s5a _ _ hx0, rfl, x, fs, ts, ks, rfl, (ra5.mono s5a).at_, ok, fun f5 H11 u5 nf5 s11 hf5 df5 => ?_⟩
      have s5b := s5a.trans s11
      refine ⟨_, rfl, x, dx, rbF a1 a2 a3, rfl, s5b _ _ hx0, rfl, x, fs, ts, ks, rfl, (ra5.mono s5b).at_, ok, fun f6 H12 u6 nf6 s12 hf6 df6 => ?_⟩
      have s5c := s5b.trans s12
      refine ⟨(by show 3 ≤ sizeLine; decide), fun T2 nT2 => ?_⟩
      have s13 := same_new (o := .lst [.ref f4, .ref f5, .ref f6]) nT2
      refine ⟨T1, T2, _, _, rfl, rfl, (s10.trans (s11.trans (s12.trans s13))) _ _ upd_same, upd_same, (by show 6 ≤ sizeLine; decide), fun T3 nT3 => ?_⟩
      have s14 := same_new (o := .lst ([.ref f1, .ref f2, .ref f3] ++ [.ref f4, .ref f5, .ref f6])) nT3
      have s5d := s5c.trans (s13.trans s14)
      have F6 := (s13.trans s14) _ _ hf6
      have F5 := (s12.trans (s13.trans s14)) _ _ hf5
      have F4 := (s11.trans (s12.trans (s13.trans s14))) _ _ hf4
      have s9d := s10.trans (s11.trans (s12.trans (s13.trans s14)))
      have F3 := (s9.trans s9d) _ _ hf3
      have F2 := (s8.trans (s9.trans s9d)) _ _ hf2
      have F1 := (s7.trans (s8.trans (s9.trans s9d))) _ _ hf1
      have D6 := DpAll.mono (s13.trans s14) df6
      have D5 := DpAll.mono (s12.trans (s13.trans s14)) df5
      have D4 := DpAll.mono (s11.trans (s12.trans (s13.trans s14))) df4
      have D3 := DpAll.mono (s9.trans s9d) df3
      have D2 := DpAll.mono (s8.trans (s9.trans s9d)) df2
      have D1 := DpAll.mono (s7.trans (s8.trans (s9.trans s9d))) df1
      have old : ∀ {a' : Addr} {o : HO}, H5 a' = some o → a' ∉ [f1, f2, f3, f4, f5, f6] := fun h => by
        simp only [List.mem_cons, List.not_mem_nil, or_false, not_or]
        exact ⟨ne_of_none h nf1, ne_of_none (s6 _ _ h) nf2, ne_of_none (s57 _ _ h) nf3, ne_of_none (s59 _ _ h) nf4, ne_of_none (s5a _ _ h) nf5, ne_of_none (s5b _ _ h) nf6⟩
      have hT3 : (upd (upd H12 T2 (HO.lst [V.ref f4, V.ref f5, V.ref f6])) T3 (HO.lst ([V.ref f1, V.ref f2, V.ref f3] ++ [V.ref f4, V.ref f5, V.ref f6]))) T3 = some (.lst [.ref f1, .ref f2, .ref f3, .ref f4, .ref f5, .ref f6]) := upd_same
      have T3f : T3 ∉ [f1, f2, f3, f4, f5, f6] := by
        simp only [List.mem_cons, List.not_mem_nil, or_false, not_or]
        exact ⟨(ne_of_none ((s7.trans (s8.trans (s9.trans (s10.trans (s11.trans (s12.trans s13)))))) _ _ hf1) nT3).symm, (ne_of_none ((s8.trans (s9.trans (s10.trans (s11.trans (s12.trans s13))))) _ _ hf2) nT3).symm, (ne_of_none ((s9.trans (s10.trans (s11.trans (s12.trans s13)))) _ _ hf3) nT3).symm,
          (ne_of_none ((s11.trans (s12.trans s13)) _ _ hf4) nT3).symm, (ne_of_none ((s12.trans s13) _ _ hf5) nT3).symm, (ne_of_none (s13 _ _ hf6) nT3).symm⟩
      generalize upd (upd H12 T2 (HO.lst [V.ref f4, V.ref f5, V.ref f6])) T3 (HO.lst ([V.ref f1, V.ref f2, V.ref f3] ++ [V.ref f4, V.ref f5, V.ref f6])) = H13 at s5d F1 F2 F3 F4 F5 F6 D1 D2 D3 D4 D5 D6 hT3 ⊢
      clear s14 s13 s12 s11 s10 s9 s8 s7 s6 s57 s58 s59 s5a s5b s5c s9d nT1 nT2 nT3 nf1 nf2 nf3 nf4 nf5 nf6 hf1 hf2 hf3 hf4 hf5 hf6 df1 df2 df3 df4 df5 df6
      have told : Dp K H13 (.ref T3) (dTold fs ts ks) := .lst (SqL.of hT3) (.cons (.lst (SqL.of F1) D1) (.cons (.lst (SqL.of F2) D2) (.cons (.lst (SqL.of F3) D3) (.cons (.lst (SqL.of F4) D4) (.cons (.lst (SqL.of F5) D5) (.cons (.lst (SqL.of F6) D6) .nil))))))
      have bk13 := bk5.mono s5d
      have ht := SqT.of (K := K) (s5d _ _ g0)
      refine ⟨_, rfl, t, _, (0 : Int), .ref p1, rfl, rfl, ht, at_nn (by decide) rfl, _, rfl, t, _, (1 : Int), .ref p2, rfl, rfl, ht, at_nn (by decide) rfl, _, rfl, t, _, (2 : Int), .ref p3, rfl, rfl, ht, at_nn (by decide) rfl, (by show 3 ≤ sizeLine; decide), fun E1 nE1 => ?_⟩
      have r1 := same_new (o := .lst [.ref p1, .ref p2, .ref p3]) nE1
      refine ⟨_, rfl, _, rfl, t, _, rfl, Same.tup r1 ht, fun h => absurd h.1 (show ¬ ((1 : Nat) = 0) by decide), fun _ o no => ⟨o, rfl, ⟨_, SqT.of upd_same⟩, fun E2 nE2 => ?_⟩⟩
      have r2 := r1.trans (same_new (o := .tup (cutV [.ref p1, .ref p2, .ref p3] (some 1) none)) no)
      have ho : SqT K (upd (upd H13 E1 (HO.lst [V.ref p1, V.ref p2, V.ref p3])) o (HO.tup (cutV [V.ref p1, V.ref p2, V.ref p3] (some 1) none))) o [.ref p2, .ref p3] := SqT.of upd_same
      have hE1 : (upd (upd H13 E1 (HO.lst [V.ref p1, V.ref p2, V.ref p3])) o (HO.tup (cutV [V.ref p1, V.ref p2, V.ref p3] (some 1) none))) E1 = some (.lst [.ref p1, .ref p2, .ref p3]) := (upd_ne (ne_of_none upd_same no)).trans upd_same
      generalize upd (upd H13 E1 (HO.lst [V.ref p1, V.ref p2, V.ref p3])) o (HO.tup (cutV [V.ref p1, V.ref p2, V.ref p3] (some 1) none)) = H14 at r2 ho hE1 nE2 ⊢
      have s5e := s5d.trans r2
      have row : ∀ (j : Nat) (v : V), ([.ref p2, .ref p3] : List V)[j]? = some v → ∃ (pp : Addr) (ys : List V) (ws : List Str), v = .ref pp ∧ H14 pp = some (.lst ys) ∧ Paired (HdAt K H14) ys ws ∧ ([ts.map (fun c : Tie => c.1), ks.map Knd.name] : List (List Str))[j]? = some ws ∧ ws.length ≤ 4 := fun j v e => by
        match j, e with
        | 0, e =>
          cases e
          have z := hds_of (DpAll.mono s5e d2) (fun d hd => by
            obtain ⟨c, _, rfl⟩ := List.mem_map.mp hd
            exact named_dTie c)
          rw [List.map_map] at z
          exact ⟨p2, y2, _, rfl, s5e _ _ g2, z, rfl, by rw [List.length_map]; exact ok.t2⟩
        | 1, e =>
          cases e
          have z := hds_of (DpAll.mono s5e d3) (fun d hd => by
            obtain ⟨c, _, rfl⟩ := List.mem_map.mp hd
            exact named_dKnd c)
          rw [List.map_map] at z
          exact ⟨p3, y3, _, rfl, s5e _ _ g3, z, rfl, by rw [List.length_map]; have := ok.k2; omega⟩
        | n + 2, e => cases e
      refine lc_it (walk_tup (xs := [.ref p2, .ref p3])) (fun j H' => ∃ zs : List V, Same H14 H' ∧ H' E2 = some (.lst zs) ∧ zs.length = j ∧ ∀ (k : Nat) (z : V), zs[k]? = some z → ∃ (c : Addr) (ws : List Str), z = .ref c ∧ ([ts.map (fun c : Tie => c.1), ks.map Knd.name] : List (List Str))[k]? = some ws ∧ H' c = some (.lst (ws.map V.str)) ∧ H14 c = none ∧ c ≠ E2)
        ⟨[], same_new nE2, upd_same, rfl, fun k z e => by simp at e⟩ (fun j H' _ ⟨_, s, _⟩ => Same.tup s ho) ?_ ?_
      · rintro j v H' H'' hj ⟨zs, s2, hE, lz, hz⟩ ⟨rfl, ev⟩
        obtain ⟨pp, ys, ws, rfl, hp, hw, ew, l4⟩ := row j v ev
        have lw := paired_len hw
        refine ⟨rfl, _, rfl, pp, rfl, ⟨_, SqL.of (s2 _ _ hp)⟩, fun E3 nE3 => ?_⟩
        refine lc_it walk_list (fun m H4 => Same H'' H4 ∧ H4 E3 = some (.lst ((ws.take m).map V.str))) ⟨same_new nE3, upd_same⟩ (fun m H4 _ ⟨e, _⟩ => SqL.of (e _ _ (s2 _ _ hp))) ?_ ?_
        · rintro m u H4 H5' hm ⟨s4, h4⟩ ⟨rfl, eu⟩
          obtain ⟨t', r', n', rfl, q1, q2⟩ := names_at hw eu
          have lm : m < ws.length := by omega
          refine ⟨rfl, _, rfl, t', _, (0 : Int), .str n', rfl, rfl, Same.tup (s2.trans s4) q1, at_nn (by decide) rfl, _, h4, lt_line (by rw [List.length_map, List.length_take]; omega), same_mut s4 nE3, ?_⟩
          rw [upd_same, List.take_add_one, q2, List.map_append]
          rfl
        · rintro H4 ⟨s4, h4⟩
          rw [lw, List.take_length] at h4
          have cE : E3 ≠ E2 := (ne_of_none hE nE3).symm
          refine ⟨zs, s4 _ _ hE, lt_line (by rw [lz]; have : j < 2 := hj; omega), zs ++ [.ref E3], same_mut (s2.trans s4) nE2, upd_same, by rw [List.length_append, lz]; rfl, fun k z ez => ?_⟩
          by_cases hk : k < zs.length
          · rw [List.getElem?_append_left hk] at ez
            obtain ⟨c', ws', e1, e2, e3, e4, e5⟩ := hz k z ez
            exact ⟨c', ws', e1, e2, by rw [upd_ne e5]; exact s4 _ _ e3, e4, e5⟩
          · rw [List.getElem?_append_right (by omega)] at ez
            have k0 : k = j := by
              have := (List.getElem?_eq_some_iff.mp ez).1
              simp only [List.length_singleton] at this
              omega
            subst k0
            rw [lz, Nat.sub_self] at ez
            cases ez
            exact ⟨E3, ws, rfl, ew, by rw [upd_ne cE]; exact h4, s2.free nE3, cE⟩
      · rintro H15 ⟨zs, s2, hE, lz, hz⟩
        obtain ⟨N1, N2, ez, hN1, hN2, nN1, nN2⟩ : ∃ (N1 N2 : Addr), zs = [.ref N1, .ref N2] ∧ H15 N1 = some (.lst ((ts.map fun c : Tie => c.1).map V.str)) ∧ H15 N2 = some (.lst ((ks.map Knd.name).map V.str)) ∧ H14 N1 = none ∧ H14 N2 = none := by
          match zs, lz, hz with
          | [u1', u2'], _, hz =>
            obtain ⟨N1, w1', e1, e2, e3, e4, _⟩ := hz 0 u1' rfl
            obtain ⟨N2, w2', e1', e2', e3', e4', _⟩ := hz 1 u2' rfl
            cases e2
            cases e2'
            exact ⟨N1, N2, by rw [e1, e1'], e3, e3', e4, e4'⟩
        subst ez
        clear hz lz row ho
        refine ⟨E1, E2, _, _, rfl, rfl, s2 _ _ hE1, hE, (by show 5 ≤ sizeLine; decide), fun E4 nE4 => ?_⟩
        have s5f := s5e.trans s2
        have r4 := same_new (o := .lst ([.ref p1, .ref p2, .ref p3] ++ [.ref N1, .ref N2])) nE4
        refine ⟨_, rfl, .inl ⟨rfl, _, SqL.of upd_same⟩, _, rfl, t, _, (0 : Int), .ref p1, rfl, rfl, SqT.of (r4 _ _ (s5f _ _ g0)), at_nn (by decide) rfl, p1, y1, fs, rfl, SqL.of (r4 _ _ (s5f _ _ g1)), DpAll.mono (s5f.trans r4) d1, ok.f2, ok.six, fun H17 Vl vy s17 nV hV dVl => ?_⟩
        have hE4 := s17 _ _ (upd_same (H := H15) (a := E4) (o := .lst ([.ref p1, .ref p2, .ref p3] ++ [.ref N1, .ref N2])))
        refine ⟨E4, _, _, rfl, rfl, hE4, (by show 5 < sizeLine; decide), ?_⟩
        have VE : Vl ≠ E4 := (ne_of_none upd_same nV).symm
        have s18 : Same H15 (upd H17 E4 (.lst (([.ref p1, .ref p2, .ref p3] ++ [.ref N1, .ref N2]) ++ [.ref Vl]))) := same_mut (r4.trans s17) nE4
        have hV8 : (upd H17 E4 (.lst (([.ref p1, .ref p2, .ref p3] ++ [.ref N1, .ref N2]) ++ [.ref Vl]))) Vl = some (.lst vy) := (upd_ne VE).trans hV
        have dV8 : DpAll K (upd H17 E4 (.lst (([.ref p1, .ref p2, .ref p3] ++ [.ref N1, .ref N2]) ++ [.ref Vl]))) vy ((vals fs).map dV) := DpAll.imm (imm_upd hE4) (noLs_map noL_dV _) dVl
        have hE8 : (upd H17 E4 (.lst (([.ref p1, .ref p2, .ref p3] ++ [.ref N1, .ref N2]) ++ [.ref Vl]))) E4 = some (.lst [.ref p1, .ref p2, .ref p3, .ref N1, .ref N2, .ref Vl]) := upd_same
        have nV15 : H15 Vl = none := r4.free nV
        generalize upd H17 E4 (.lst (([.ref p1, .ref p2, .ref p3] ++ [.ref N1, .ref N2]) ++ [.ref Vl])) = H18 at s18 hV8 dV8 hE8 ⊢
        have nf : ∀ {a' : Addr}, H13 a' = none → a' ∉ [f1, f2, f3, f4, f5, f6] := fun n => by
          simp only [List.mem_cons, List.not_mem_nil, or_false, not_or]
          exact ⟨(ne_of_none F1 n).symm, (ne_of_none F2 n).symm, (ne_of_none F3 n).symm, (ne_of_none F4 n).symm, (ne_of_none F5 n).symm, (ne_of_none F6 n).symm⟩
        have fN1 := nf (r2.free nN1)
        have fN2 := nf (r2.free nN2)
        have fV := nf ((r2.trans s2).free nV15)
        have fE4 := nf ((r2.trans s2).free nE4)
        have s13 := r2.trans (s2.trans s18)
        have s5g := s5f.trans s18
        have nmD : ∀ {α : Type} (f : α → Str) (l : List α), DpAll K H18 ((l.map f).map V.str) (l.map fun c => PyData.str (f c)) := fun f l => by
          have z := strs_dp (K := K) (H := H18) (l.map f)
          rw [List.map_map] at z ⊢
          rw [List.map_map] at z
          exact z
        have due : Dp K H18 (.ref E4) (dTold fs ts ks) := .lst (SqL.of hE8) (.cons (.lst (SqL.of (s5g _ _ g1)) (DpAll.mono s5g d1)) (.cons (.lst (SqL.of (s5g _ _ g2)) (DpAll.mono s5g d2)) (.cons (.lst (SqL.of (s5g _ _ g3)) (DpAll.mono s5g d3))
          (.cons (.lst (SqL.of (s18 _ _ hN1)) (nmD _ ts)) (.cons (.lst (SqL.of (s18 _ _ hN2)) (nmD _ ks)) (.cons (.lst (SqL.of hV8) dV8) .nil))))))
        refine ⟨_, rfl, _, rfl, .ref T3, .ref E4, dTold fs ts ks, rfl, Dp.mono s13 told, due, sh_told ok, fun H19 s19 => ?_⟩
        refine ⟨_, rfl, iteB (fun z => by simp at z) (fun _ => ?_)⟩
        have s5h := s5g.trans s19
        have ra19 := ra5.mono s5h
        have rb19 := rb5.mono s5h
        have bk19 := bk5.mono s5h
        have hb19 := hb5.same s5h
        have tb19 := tb5.ext s5h
        have hT19 := (s13.trans s19) _ _ hT3
        have hE19 := s19 _ _ hE8
        have hV19 := s19 _ _ hV8
        have dV19 := DpAll.mono s19 dV8
        have tl : ∀ c ∈ [f1, f2, f3, f4, f5, f6], ∃ ys, H19 c = some (.lst ys) := fun c hc => by
          simp only [List.mem_cons, List.not_mem_nil, or_false] at hc
          rcases hc with rfl | rfl | rfl | rfl | rfl | rfl
          · exact ⟨_, (s13.trans s19) _ _ F1⟩
          · exact ⟨_, (s13.trans s19) _ _ F2⟩
          · exact ⟨_, (s13.trans s19) _ _ F3⟩
          · exact ⟨_, (s13.trans s19) _ _ F4⟩
          · exact ⟨_, (s13.trans s19) _ _ F5⟩
          · exact ⟨_, (s13.trans s19) _ _ F6⟩
        obtain ⟨ob, eb⟩ := hb5.b_some
        obtain ⟨ol, el⟩ := hb5.l_some
        have eB4 : E4 ∉ [b, l] := by
          simp only [List.mem_cons, List.not_mem_nil, or_false, not_or]
          exact ⟨(ne_of_none (s5f _ _ eb) nE4).symm, (ne_of_none (s5f _ _ el) nE4).symm⟩
        have vB : Vl ∉ [b, l] := by
          simp only [List.mem_cons, List.not_mem_nil, or_false, not_or]
          exact ⟨(ne_of_none (s5f _ _ eb) nV15).symm, (ne_of_none (s5f _ _ el) nV15).symm⟩
        have xb := old eb
        have xl := old el
        have oa1 := old ha1
        have oa2 := old ha2
        have oa3 := old ha3
        have ob1 := old hq1
        have ob2 := old hq2
        have ob3 := old hq3
        have op1 := old g1
        have op2 := old g2
        have op3 := old g3
        clear due told nmD s5g s5h s13 s19 s18 dV8 hV8 hE8 F1 F2 F3 F4 F5 F6 D1 D2 D3 D4 D5 D6 hT3 s5d s5e s5f r1 r2 r4 s2 s17 hE1 hE hN1 hN2 nN1 nN2 nV15 nV hV dVl hE4 nE1 nE2 nE4 no VE nf bk13 ht fN1 fN2 ra5 rb5 bk5 hb5 tb5 hx0 hy0 ha1 ha2 ha3 hq1 hq2 hq3 g0 g1 g2 g3 d1 d2 d3 old eb el
        refine ⟨_, rfl, T3, rfl, ⟨_, SqL.of hT19⟩, for_it walk_list (fun j σ H' => ∃ v10, σ = [some (.ref a), some (.ref b), some (.int (0 + (i : Int))), some (.ref t), some (.ref D), v5, some (.ref x), some (.ref y), some (.ref T3), some (.ref E4), v10, x11, x12, x13, x14] ∧ Kp [f1, f2, f3, f4, f5, f6] H19 H' ∧ TabS H' pI rbQ ∧ (∀ c ∈ [f1, f2, f3, f4, f5, f6], ∃ ys, H' c = some (.lst ys)))
          ⟨x10, rfl, fun _ _ h _ _ => h, tb19, tl⟩ (fun j σ H' _ ⟨_, _, e, _⟩ => SqL.of (e.lst hT19 T3f)) ?_ ?_⟩
        · rintro j v σ H' H'' hj ⟨v10, rfl, e, tb', hc⟩ ⟨rfl, ev⟩
          obtain ⟨c, rfl, hm⟩ : ∃ c, v = .ref c ∧ c ∈ [f1, f2, f3, f4, f5, f6] := by
            have z := List.mem_of_getElem? ev
            simp only [List.mem_cons, List.not_mem_nil, or_false] at z
            rcases z with rfl | rfl | rfl | rfl | rfl | rfl <;> exact ⟨_, rfl, by simp⟩
          obtain ⟨ys, hys⟩ := hc c hm
          refine ⟨_, rfl, .inl ⟨rfl, _, SqL.of hys⟩, c, ys, rfl, rfl, hys, ?_⟩
          refine ⟨_, rfl, e.trans (kp_upd hys hm), tab_updL tb' hys, fun c' hc' => ?_⟩
          by_cases z : c' = c
          · exact ⟨[], by rw [z]; exact upd_same⟩
          · obtain ⟨ys', h'⟩ := hc c' hc'
            exact ⟨ys', by rw [upd_ne z]; exact h'⟩
        rintro σ H20 ⟨v10, rfl, kp20, tb20, _⟩
        have ra20 := ra19.kp kp20 oa1 oa2 oa3
        have rb20 := rb19.kp kp20 ob1 ob2 ob3
        have bk20 := bk19.kp kp20 op1 op2 op3
        have hb20 := hb19.kp kp20 xb xl
        have hE20 := kp20.lst hE19 fE4
        have hV20 := kp20.lst hV19 fV
        have dV20 := kp20.dps noL_dV dV19
        clear kp20 ra19 rb19 bk19 hb19 tb19 hE19 hV19 dV19 hT19 tl oa1 oa2 oa3 ob1 ob2 ob3 op1 op2 op3 xb xl T3f fE4 fV
        obtain ⟨dx2, _, _, _, hx0, _⟩ := id ra20
        obtain ⟨y1, y2, y3, g0, g1, g2, g3, d1, d2, d3⟩ := id bk20
        refine ⟨_, rfl, x, dx2, rbF a1 a2 a3, rfl, hx0, rfl, x, fs, ts, ks, rfl, ra20.at_, ok, fun f1 H21 u1 nf1 s1 hf1 df1 => ?_⟩
        refine ⟨_, rfl, x, dx2, rbF a1 a2 a3, rfl, s1 _ _ hx0, rfl, x, fs, ts, ks, rfl, (ra20.mono s1).at_, ok, fun f2 H22 u2 nf2 s2 hf2 df2 => ?_⟩
        have s02 := s1.trans s2
        refine ⟨_, rfl, x, dx2, rbF a1 a2 a3, rfl, s02 _ _ hx0, rfl, x, fs, ts, ks, rfl, (ra20.mono s02).at_, ok, fun f3 H23 u3 nf3 s3 hf3 df3 => ?_⟩
        have s03 := s02.trans s3
        refine ⟨(by show 3 ≤ sizeLine; decide), fun T4 nT4 => ?_⟩
        have s4 := same_new (o := .lst [.ref f1, .ref f2, .ref f3]) nT4
        have s04 := s03.trans s4
        refine ⟨_, rfl, _, rfl, x, dx2, rbF a1 a2 a3, rfl, s04 _ _ hx0, rfl, x, fs, ts, ks, rfl, (ra20.mono s04).at_, ok, fun f6 H25 u6 nf6 s5 hf6 df6 => ?_⟩
        refine ⟨(by show 1 ≤ sizeLine; decide), fun T5 nT5 => ?_⟩
        have s6 := same_new (o := .lst [.ref f6]) nT5
        refine ⟨T4, T5, _, _, rfl, rfl, (s5.trans s6) _ _ upd_same, upd_same, (by show 4 ≤ sizeLine; decide), fun T6 nT6 => ?_⟩
        have s7 := same_new (o := .lst ([.ref f1, .ref f2, .ref f3] ++ [.ref f6])) nT6
        have s47 := s5.trans (s6.trans s7)
        have s07 := s04.trans s47
        refine ⟨_, rfl, _, rfl, E4, _, rfl, SqL.of (s07 _ _ hE20), fun U0 nU0 => ?_⟩
        have s8 := same_new (o := .lst (cutV [.ref p1, .ref p2, .ref p3, .ref N1, .ref N2, .ref Vl] none (some 3))) nU0
        refine ⟨_, rfl, E4, _, (5 : Int), .ref Vl, rfl, rfl, SqL.of ((s07.trans s8) _ _ hE20), at_nn (by decide) rfl, (by show 1 ≤ sizeLine; decide), fun U1 nU1 => ?_⟩
        have s9 := same_new (o := .lst [.ref Vl]) nU1
        refine ⟨U0, U1, _, _, rfl, rfl, s9 _ _ upd_same, upd_same, (by show 4 ≤ sizeLine; decide), fun U2 nU2 => ?_⟩
        have s10 := same_new (o := .lst (cutV [.ref p1, .ref p2, .ref p3, .ref N1, .ref N2, .ref Vl] none (some 3) ++ [.ref Vl])) nU2
        have s7a := s8.trans (s9.trans s10)
        have s4a := s47.trans s7a
        have s0a := s04.trans s4a
        have s3a := s4.trans s4a
        have s2a := s3.trans s3a
        have s1a := s2.trans s2a
        refine ⟨.ref T6, .ref U2, dTold2 fs ts ks, rfl, ?_, ?_, sh_told2 ok, fun H31 s11 => ⟨_, rfl, iteB (fun z => by simp at z) (fun _ => ?_)⟩⟩
        · exact .lst (SqL.of (s7a _ _ upd_same)) (.cons (.lst (SqL.of (s1a _ _ hf1)) (DpAll.mono s1a df1)) (.cons (.lst (SqL.of (s2a _ _ hf2)) (DpAll.mono s2a df2)) (.cons (.lst (SqL.of (s3a _ _ hf3)) (DpAll.mono s3a df3)) (.cons (.lst (SqL.of ((s6.trans (s7.trans s7a)) _ _ hf6)) (DpAll.mono (s6.trans (s7.trans s7a)) df6)) .nil))))
        · exact .lst (SqL.of upd_same) (.cons (.lst (SqL.of (s0a _ _ g1)) (DpAll.mono s0a d1)) (.cons (.lst (SqL.of (s0a _ _ g2)) (DpAll.mono s0a d2)) (.cons (.lst (SqL.of (s0a _ _ g3)) (DpAll.mono s0a d3)) (.cons (.lst (SqL.of (s0a _ _ hV20)) (DpAll.mono s0a dV20)) .nil))))
        have s0b := s0a.trans s11
        refine ⟨_, rfl, _, rfl, _, rfl, x, y, t, p1, p2, p3, a1, a2, a3, b1, b2, b3, fs, ts, ks, rfl, ra20.mono s0b, rb20.mono s0b, bk20.mono s0b, ok, fun H32 s12 => ⟨_, rfl, iteB (fun z => by simp at z) (fun _ => ?_)⟩⟩
        have s0c := s0b.trans s12
        have ra32 := ra20.mono s0c
        have bk32 := bk20.mono s0c
        have hb32 := hb20.same s0c
        have tb32 := tb20.ext s0c
        have hE32 := s0c _ _ hE20
        have hV32 := s0c _ _ hV20
        have dV32 := DpAll.mono s0c dV20
        clear s1 s2 s3 s4 s5 s6 s7 s8 s9 s10 s11 s12 s02 s03 s04 s07 s47 s7a s4a s0a s3a s2a s1a s0b s0c nT4 nT5 nT6 nU0 nU1 nU2 nf1 nf2 nf3 nf6 hf1 hf2 hf3 hf6 df1 df2 df3 df6 ra20 rb20 bk20 hb20 tb20 hE20 hV20 dV20 hx0 g0 g1 g2 g3 d1 d2 d3
        refine ⟨_, rfl, b, l, noBag b l H32, rfl, hb32.wd, fun G1 H33 t' o1 o2 o3 y1' y2' y3' fs' ts' ks' s1 w1 g0 g1 g2 g3 d1 d2 d3 ok' t3' nz' => ?_⟩
        have kp33 := draw_kp hb32 s1 w1
        have tb33 := draw_tab tb32 hb32 s1 w1
        have hb33 := w1.bag
        have bo33 : BkAt K H33 t' o1 o2 o3 fs' ts' ks' := BkAt.mono w1.sm ⟨y1', y2', y3', g0, g1, g2, g3, d1, d2, d3⟩
        have ra33 := ra32.kp kp33 aB1 aB2 aB3
        have bk33 := bk32.kp kp33 pB1 pB2 pB3
        have hE33 := kp33.lst hE32 eB4
        have hV33 := kp33.lst hV32 vB
        have dV33 := kp33.dps noL_dV dV32
        clear kp33 s1 w1 g0 g1 g2 g3 d1 d2 d3 ra32 bk32 hb32 tb32 hE32 hV32 dV32
        obtain ⟨dx3, _, _, _, hx0, _⟩ := id ra33
        refine ⟨_, rfl, t', o1, o2, o3, fs', ts', ks', rfl, bo33, ok', tb33, fun H34 z e1 e2 e3 s4 nz9 _ _ _ rz tb34 => ?_⟩
        have kp34 : Kp [] H33 H34 := kp_tb s4
        have nin : ∀ {p : Addr}, p ∉ ([] : List Addr) := fun h => by cases h
        have ra34 := ra33.kp kp34 nin nin nin
        have bk34 := bk33.kp kp34 nin nin nin
        have bo34 := bo33.kp kp34 nin nin nin
        have hb34 := hb33.kp kp34 nin nin
        have hE34 := kp34.lst hE33 nin
        have hV34 := kp34.lst hV33 nin
        have dV34 := kp34.dps noL_dV dV33
        have hx4 := kp34.ins hx0
        clear kp34 ra33 bk33 bo33 hb33 hE33 hV33 dV33 tb33 s4 hx0 nz9
        obtain ⟨dz, _, _, _, hz0, _⟩ := id rz
        obtain ⟨v1, v2, v3, q0, q1, q2, q3, l1, l2, l3⟩ := id bo34
        obtain ⟨y1, y2, y3, g0, g1, g2, g3, d1, d2, d3⟩ := id bk34
        refine ⟨_, rfl, z, dz, _, rfl, hz0, .inl ⟨x, dx3, _, rfl, hx4⟩, z, .ref x, fs', ts', ks', rfl, rz.at_, ok', .inl ⟨x, fs, ts, ks, rfl, ra34.at_, ok, ⟨_, rfl⟩, ?_⟩⟩
        refine ⟨_, rfl, t', _, rfl, .inr (SqT.of q0), fun L1 nL1 => ?_⟩
        have s1 := same_new (o := .lst [.ref o1, .ref o2, .ref o3]) nL1
        refine ⟨_, rfl, t, _, rfl, .inr (SqT.of (s1 _ _ g0)), fun L2 nL2 => ?_⟩
        have s2 := same_new (o := .lst [.ref p1, .ref p2, .ref p3]) nL2
        have s12 := s1.trans s2
        refine ⟨.list [.list (fs'.map dF), .list (ts'.map dTie), .list (ks'.map dKnd)], .list [.list (fs.map dF), .list (ts.map dTie), .list (ks.map dKnd)],
          .lst (SqL.of (s2 _ _ upd_same)) (.cons (.lst (SqL.of (s12 _ _ q1)) (DpAll.mono s12 l1)) (.cons (.lst (SqL.of (s12 _ _ q2)) (DpAll.mono s12 l2)) (.cons (.lst (SqL.of (s12 _ _ q3)) (DpAll.mono s12 l3)) .nil))),
          .lst (SqL.of upd_same) (.cons (.lst (SqL.of (s12 _ _ g1)) (DpAll.mono s12 d1)) (.cons (.lst (SqL.of (s12 _ _ g2)) (DpAll.mono s12 d2)) (.cons (.lst (SqL.of (s12 _ _ g3)) (DpAll.mono s12 d3)) .nil))), ?_, ?_⟩
        · refine Nat.le_trans (Nat.min_le_right _ _) (Nat.le_trans (Sh.depth (n := 9) (.lst (by show 3 ≤ 100000; decide) fun d hd => ?_)) (by decide))
          simp only [List.mem_cons, List.not_mem_nil, or_false] at hd
          rcases hd with rfl | rfl | rfl
          · exact sh_Fs ok
          · exact sh_Ts ok
          · exact sh_Ks ok
        rw [eqv_three]
        refine ⟨rfl, _, rfl, iteB (fun w => by simp at w) (fun _ => ?_)⟩
        have ra36 := ra34.mono s12
        have bk36 := bk34.mono s12
        have hb36 := hb34.same s12
        have tb36 := tb34.ext s12
        have hE36 := s12 _ _ hE34
        have hV36 := s12 _ _ hV34
        have dV36 := DpAll.mono s12 dV34
        have hx6 := s12 _ _ hx4
        generalize upd (upd H34 L1 (HO.lst [V.ref o1, V.ref o2, V.ref o3])) L2 (HO.lst [V.ref p1, V.ref p2, V.ref p3]) = H36 at ra36 bk36 hb36 tb36 hE36 hV36 dV36 hx6 ⊢
        clear s1 s2 s12 ra34 bk34 bo34 hb34 tb34 hE34 hV34 dV34 rz hz0 q0 q1 q2 q3 l1 l2 l3 g0 g1 g2 g3 d1 d2 d3 nL1 nL2 hx4 ok' t3' nz'
        obtain ⟨y1, y2, y3, g0, g1, g2, g3, d1, d2, d3⟩ := id bk36
        have ht := SqT.of (K := K) g0
        obtain ⟨t0, tr, et⟩ : ∃ t0 tr, ts = t0 :: tr := by
          cases ts with
          | nil => exact absurd ok.t1 (by decide)
          | cons t0 tr => exact ⟨t0, tr, rfl⟩
        subst et
        obtain ⟨tv, vr, ey2, hw1, hw2⟩ : ∃ tv vr, y2 = tv :: vr ∧ Dp K H36 tv (dTie t0) ∧ DpAll K H36 vr (tr.map dTie) := by
          cases d2 with
          | cons h h' => exact ⟨_, _, rfl, h, h'⟩
        subst ey2
        obtain ⟨ta, pv, rfl, ha, hpv⟩ : ∃ (ta : Addr) (pv : V), tv = .ref ta ∧ SqT K H36 ta [.str t0.1, pv] ∧ Dp K H36 pv (dP t0.2) := by
          cases hw1 with
          | tup hq hs =>
            cases hs with
            | cons h1 h2 =>
              cases h1
              cases h2 with
              | cons h3 h4 =>
                cases h4
                exact ⟨_, _, rfl, hq, h3⟩
        refine ⟨_, rfl, _, rfl, t, _, (0 : Int), .ref p1, rfl, rfl, ht, at_nn (by decide) rfl, _, rfl, t, _, (1 : Int), .ref p2, rfl, rfl, ht, at_nn (by decide) rfl, _, rfl, t, _, (1 : Int), .ref p2, rfl, rfl, ht, at_nn (by decide) rfl, p2, _, (0 : Int), .ref ta, rfl, rfl, SqL.of g2, at_nn (by decide) rfl, ta, _, (1 : Int), pv, rfl, rfl, ha, at_nn (by decide) rfl, (by show 2 ≤ sizeLine; decide), fun q0 nq0 => ?_⟩
        have s1 := same_new (o := .tup [.str "zzzzzzzz", pv]) nq0
        refine ⟨(by show 1 ≤ sizeLine; decide), fun q1 nq1 => ?_⟩
        have s2 := s1.trans (same_new (o := .lst [.ref q0]) nq1)
        refine ⟨p2, q1, _, _, rfl, rfl, s2 _ _ g2, upd_same, ?_, fun q2 nq2 => ?_⟩
        · have z := DpAll.length hw2
          rw [List.length_map] at z
          refine le_line ?_
          have := ok.t2
          simp only [List.length_cons, List.length_nil] at this ⊢
          omega
        have s3 := s2.trans (same_new (o := .lst (.ref ta :: vr ++ [.ref q0])) nq2)
        refine ⟨_, rfl, t, _, (2 : Int), .ref p3, rfl, rfl, Same.tup s3 ht, at_nn (by decide) rfl, rfl, rfl, fun z dz nz' nd ne => ?_⟩
        have im3 := DpAll.mono s3 d2
        have dq0 : Dp K (upd (upd (upd H36 q0 (.tup [.str "zzzzzzzz", pv])) q1 (.lst [.ref q0])) q2 (.lst (.ref ta :: vr ++ [.ref q0]))) (.ref q0) (dTie ("zzzzzzzz", t0.2)) :=
          .tup (SqT.of (((same_new nq1).trans (same_new nq2)) _ _ upd_same)) (.cons (.str _) (.cons (Dp.mono s3 hpv) .nil))
        have ok2 : OkBook fs ((t0 :: tr) ++ [(("zzzzzzzz", t0.2) : Tie)]) ks := okbook_tie ok t3 (fun h => by
          obtain ⟨u, hu, eu⟩ := List.mem_map.mp h
          exact nz u hu eu) ⟨z8_nm, (ok.tok t0 (List.mem_cons_self ..)).2⟩
        have dts : DpAll K (upd (upd (upd H36 q0 (.tup [.str "zzzzzzzz", pv])) q1 (.lst [.ref q0])) q2 (.lst (.ref ta :: vr ++ [.ref q0]))) (.ref ta :: vr ++ [.ref q0]) (((t0 :: tr) ++ [(("zzzzzzzz", t0.2) : Tie)]).map dTie) := by
          rw [List.map_append]
          exact DpAll.append im3 (.cons dq0 .nil)
        refine rb_made (fs := fs) (ts := (t0 :: tr) ++ [(("zzzzzzzz", t0.2) : Tie)]) (ks := ks) nz' nd ne ⟨p1, y1, rfl, .inl (SqL.of (s3 _ _ g1)), DpAll.mono s3 d1⟩ ⟨q2, _, rfl, .inl (SqL.of upd_same), dts⟩ ⟨p3, y3, rfl, .inl (SqL.of (s3 _ _ g3)), DpAll.mono s3 d3⟩ ok2 (tb36.ext s3) fun H40 c1' c2' c3' s4 _ _ _ rz tb40 => ?_
        have kp40 : Kp [] H36 H40 := (Same.kp s3).trans (kp_tb s4)
        have ra40 := ra36.kp kp40 nin nin nin
        have bk40 := bk36.kp kp40 nin nin nin
        have hb40 := hb36.kp kp40 nin nin
        have hE40 := kp40.lst hE36 nin
        have hV40 := kp40.lst hV36 nin
        have dV40 := kp40.dps noL_dV dV36
        have hx40 := kp40.ins hx6
        obtain ⟨dz', _, _, _, hz0, _⟩ := id rz
        clear kp40 s4 s3 s2 s1 im3 dq0 dts ra36 bk36 hb36 tb36 hE36 hV36 dV36 hx6 g0 g1 g2 g3 d1 d2 d3 ht hw1 hw2 ha hpv nq0 nq1 nq2 nz' nd ne
        refine ⟨x, dx3, _, rfl, hx40, .inl ⟨z, dz', _, rfl, hz0⟩, x, .ref z, fs, t0 :: tr, ks, rfl, ra40.at_, ok, .inl ⟨z, fs, (t0 :: tr) ++ [(("zzzzzzzz", t0.2) : Tie)], ks, rfl, rz.at_, ok2, ⟨_, rfl⟩, _, rfl, iteB (fun w => ?_) (fun _ => ?_)⟩⟩
        · rw [Bool.and_eq_true, Bool.and_eq_true] at w
          have w2 := w.2.1
          rw [PyData.eqv] at w2
          have w3 := eqv_len w2
          rw [List.length_map, List.length_map, List.length_append] at w3
          simp at w3
        clear rz hz0 ok2
        obtain ⟨y1, y2, y3, g0, g1, g2, g3, d1, d2, d3⟩ := id bk40
        have ht := SqT.of (K := K) g0
        obtain ⟨k0, kr, ek⟩ : ∃ k0 kr, ks = k0 :: kr := by
          cases ks with
          | nil => exact absurd ok.k1 (by decide)
          | cons k0 kr => exact ⟨k0, kr, rfl⟩
        subst ek
        obtain ⟨tv, vr2, ey3, hw1, hw2⟩ : ∃ tv vr2, y3 = tv :: vr2 ∧ Dp K H40 tv (dKnd k0) ∧ DpAll K H40 vr2 (kr.map dKnd) := by
          cases d3 with
          | cons h h' => exact ⟨_, _, rfl, h, h'⟩
        subst ey3
        obtain ⟨kk, vk, vt, vb, rfl, ha, hk, hvt, hvb⟩ : ∃ (kk : Addr) (vk vt vb : V), tv = .ref kk ∧ SqT K H40 kk [.str k0.name, vk, vt, vb] ∧ Dp K H40 vk (.tuple (k0.keys.map dKey)) ∧ Dp K H40 vt (dOP k0.taking) ∧ Dp K H40 vb (dH k0.birth) := by
          cases hw1 with
          | tup hq hs =>
            cases hs with
            | cons h1 h2 =>
              cases h1
              cases h2 with
              | cons h3 h4 =>
                cases h4 with
                | cons h5 h6 =>
                  cases h6 with
                  | cons h7 h8 =>
                    cases h8
                    exact ⟨_, _, _, _, rfl, hq, h3, h5, h7⟩
        obtain ⟨vv, ev⟩ := vals_head ok
        have lvy : vy.length = (vals fs).length := by rw [DpAll.length dV40, List.length_map]
        obtain ⟨v0, ev2⟩ : ∃ v0, vy[0]? = some v0 := by
          have l0 := (List.getElem?_eq_some_iff.mp ev).1
          exact ⟨vy[0], List.getElem?_eq_getElem (by omega)⟩
        obtain ⟨dd, ed, dv0⟩ := DpAll.get dV40 ev2
        rw [List.getElem?_map, ev] at ed
        cases ed
        refine ⟨_, rfl, t, _, (2 : Int), .ref p3, rfl, rfl, ht, at_nn (by decide) rfl, p3, _, (0 : Int), .ref kk, rfl, rfl, SqL.of g3, at_nn (by decide) rfl, ?_⟩
        refine ⟨_, rfl, kk, _, (3 : Int), vb, rfl, rfl, ha, at_nn (by decide) rfl, rfl, _, rfl, ?_⟩
        refine meet3 (fun v H' => H' = H40 ∧ ∃ o : Option (List Str), Dp K H40 v (dH o) ∧ k0.birth.isSome ≠ o.isSome ∧ ∀ u, o = some u → FitV fs u) (fun k' hk' => ?_) fun vbn Hq ⟨eHq, ob, dbn, nbs, fb⟩ => ?_
        · cases eb : k0.birth with
          | none =>
            rw [eb] at hvb
            cases hvb
            exact ⟨_, rfl, E4, _, (5 : Int), .ref Vl, rfl, rfl, SqL.of hE40, at_nn (by decide) rfl, Vl, vy, (0 : Int), _, rfl, rfl, SqL.of hV40, at_nn (by decide) ev2, hk' _ _ ⟨rfl, some vv, dv0, (by rw [eb]; intro q9; cases q9), fun u eu => by cases eu; exact vals_ok _ (List.mem_of_getElem? ev)⟩⟩
          | some w0 =>
            rw [eb] at hvb
            cases hvb
            exact hk' _ _ ⟨rfl, none, .non, (by rw [eb]; intro q9; cases q9), fun u eu => by cases eu⟩
        subst eHq
        refine ⟨_, rfl, kk, _, (0 : Int), .str k0.name, rfl, rfl, ha, at_nn (by decide) rfl, _, rfl, kk, _, (1 : Int), vk, rfl, rfl, ha, at_nn (by decide) rfl, _, rfl, kk, _, (2 : Int), vt, rfl, rfl, ha, at_nn (by decide) rfl, _, rfl, (by show 4 ≤ sizeLine; decide), fun fl nfl => ?_⟩
        have s1 := same_new (o := .tup [.str k0.name, vk, vt, vbn]) nfl
        refine ⟨_, rfl, _, rfl, t, _, (0 : Int), .ref p1, rfl, rfl, Same.tup s1 ht, at_nn (by decide) rfl, _, rfl, t, _, (1 : Int), .ref p2, rfl, rfl, Same.tup s1 ht, at_nn (by decide) rfl, _, rfl, (by show 1 ≤ sizeLine; decide), fun w1 nw1 => ?_⟩
        have s2 := s1.trans (same_new (o := .lst [.ref fl]) nw1)
        refine ⟨_, rfl, t, _, (2 : Int), .ref p3, rfl, rfl, Same.tup s2 ht, at_nn (by decide) rfl, _, rfl, p3, _, rfl, SqL.of (s2 _ _ g3), fun w2 nw2 => ?_⟩
        rw [cutV_tail]
        have s3 := s2.trans (same_new (o := .lst vr2) nw2)
        have lvr : vr2.length ≤ 3 := by
          have z := DpAll.length hw2
          rw [List.length_map] at z
          have := ok.k2
          rw [List.length_cons] at this
          omega
        refine ⟨w1, w2, _, _, rfl, rfl, (same_new nw2) _ _ upd_same, upd_same, le_line (by rw [List.length_singleton]; omega), fun w3 nw3 => ⟨rfl, rfl, fun z dz nz9 nd ne => ?_⟩⟩
        have s4 := s3.trans (same_new (o := .lst ([.ref fl] ++ vr2)) nw3)
        have dfl : Dp K _ (.ref fl) (dKnd { k0 with birth := ob }) := .tup (SqT.of (((same_new nw1).trans ((same_new nw2).trans (same_new nw3))) _ _ (upd_same (H := Hq) (a := fl) (o := .tup [.str k0.name, vk, vt, vbn])))) (.cons (.str _) (.cons (Dp.mono s4 hk) (.cons (Dp.mono s4 hvt) (.cons (Dp.mono s4 dbn) .nil))))
        have ok3 : OkBook fs (t0 :: tr) ({ k0 with birth := ob } :: kr) := okbook_kind ok fb
        refine rb_made (fs := fs) (ts := t0 :: tr) (ks := { k0 with birth := ob } :: kr) nz9 nd ne ⟨p1, y1, rfl, .inl (SqL.of (s4 _ _ g1)), DpAll.mono s4 d1⟩ ⟨p2, y2, rfl, .inl (SqL.of (s4 _ _ g2)), DpAll.mono s4 d2⟩ ⟨w3, _, rfl, .inl (SqL.of upd_same), .cons dfl (DpAll.mono s4 hw2)⟩ ok3 (tb40.ext s4) fun H50 e1 e2 e3 s5 _ _ _ rz tb50 => ?_
        have kp50 : Kp [] Hq H50 := (Same.kp s4).trans (kp_tb s5)
        have ra50 := ra40.kp kp50 nin nin nin
        have hb50 := hb40.kp kp50 nin nin
        have hx50 := kp50.ins hx40
        obtain ⟨dz9, _, _, _, hz9, _⟩ := id rz
        refine ⟨x, dx3, _, rfl, hx50, .inl ⟨z, dz9, _, rfl, hz9⟩, x, .ref z, fs, t0 :: tr, k0 :: kr, rfl, ra50.at_, ok, .inl ⟨z, fs, t0 :: tr, { k0 with birth := ob } :: kr, rfl, rz.at_, ok3, ⟨_, rfl⟩, _, rfl, iteB (fun w => ?_) (fun _ => ?_)⟩⟩
        · rw [Bool.and_eq_true, Bool.and_eq_true] at w
          rw [eqv_birth nbs] at w
          exact absurd w.2.2 (by decide)
        exact ⟨_, _, _, _, _, _, _, _, _, _, _, _, _, rfl, hb50, tb50⟩
  · rintro σ H' ⟨x2, x3, x4, x5, x6, x7, x8, x9, x10, x11, x12, x13, x14, rfl, hb, tb⟩
    refine ⟨R.C, M.mc, .int 24, _, rfl, M.cr, M.v1, R.C, M.mc, .int 4, _, rfl, M.cr, M.v2, R.C, M.mc, .int 3, _, rfl, M.cr, M.v3, (by show 3 ≤ sizeLine; decide), fun c nc => ⟨(by show 3 ≤ sizeLine; decide), fun c2 nc2 => ?_⟩⟩
    refine ⟨.list [.int 24, .int 4, .int 3], .list [.int 24, .int 4, .int 3], .lst (SqL.of ((same_new nc2) _ _ upd_same)) (.cons (.int _) (.cons (.int _) (.cons (.int _) .nil))), .lst (SqL.of upd_same) (.cons (.int _) (.cons (.int _) (.cons (.int _) .nil))), by decide, ?_⟩
    exact q _
end
end Bh

set_option Elab.async false
set_option linter.all false
set_option maxRecDepth 100000
namespace Bh
open PySem PySem.Spec PyProof.Rows L2
/-! ### a caught exception, known in the heap: what reads it may stand in another def -/
def exz (a : Addr) (cls : Value) (d : Option Addr) : HO := .ext fun h => ∃ (o : Obj) (vs : Array Value), h.get? a = some o ∧ Zc cls d o ∧ o.data = .fields vs
theorem exz_ok {P : Program} {w : World} {H : Hp} {h : Heap} {a : Addr} {cls : Value} {d : Option Addr} {o : Obj} {vs : Array Value} (e : h.get? a = some o) (z : Zc cls d o) (f : o.data = .fields vs) : ObjOk P w H h a (exz a cls d) :=
  ⟨⟨o, vs, e, z, f⟩, ⟨o, e⟩, fun _ _ y k => by
    obtain ⟨p, us, q, r⟩ := y
    exact ⟨p, us, k p q, r⟩⟩
theorem exz_at {P : Program} {w : World} {H : Hp} {h : Heap} {a : Addr} {cls : Value} {d : Option Addr} (ok : HOk P w H h) (e : H a = some (exz a cls d)) : ∃ (o : Obj) (vs : Array Value), h.get? a = some o ∧ Zc cls d o ∧ o.data = .fields vs := by
  have z : ObjOk P w H h a (.ext fun g => ∃ (o : Obj) (vs : Array Value), g.get? a = some o ∧ Zc cls d o ∧ o.data = .fields vs) := ok a _ e
  exact z.1
/-- e.n, e a caught exception that is known -/
def tXz (K : PySem.W.Frag) (n : Str) (te : TE) : TE := fun σ H Q => te σ H fun x H1 => ∃ (a C dd : Addr) (fs : List (Str × V)) (v : V), x = .ref a ∧ H1 a = some (exz a (.ref C) (some dd)) ∧ XfC K C ∧ PySem.W.findIn K (.ref C) n = some none ∧ H1 dd = some (.xd fs) ∧ fs.lookup n = some v ∧ Q v H1
theorem pe_xz {X : Cx} {e : Expr} {te : TE} {pos : Pos} {n : Str} (he : PE X e te) (hb : attributeBase e n X.env (eval e X.env) = eval e X.env := by rfl) : PE X (.Attribute e n pos) (tXz X.K n te) := by
  refine ⟨fun pins s σ H Q I h => attr_of hb (thn (he.run pins s σ H _ I h) fun u s1 hu => ?_)⟩
  obtain ⟨x, H1, J, rx, a, C, dd, fs, v, rfl, ea, xf, no, ed, lk, q⟩ := hu
  cases rx
  obtain ⟨o, vs, g, z, f⟩ := exz_at J.hok ea
  have kd : ObjOk X.prog X.w H1 s1.heap dd (.xd fs) := J.hok dd _ ed
  obtain ⟨m, ns, rel⟩ := kd
  obtain ⟨od, god, lo⟩ := lookIn_ns ns
  obtain ⟨y, hy, ry⟩ := RelO.some_of (v := v) (o := m n) (by rw [← lk]; exact rel n)
  have at_ : PySem.W.InstAt s1.heap a o C (some od) := by
    refine ⟨g, z.1, ?_, ?_⟩
    · unfold PySem.W.notCls
      rw [f] <;> rfl
    · rw [z.2]
      exact god
  have found : PySem.W.findObj X.K C (some od) n = some (.value y) := PySem.W.findObj_own xf.hdC no rfl (by rw [lo, hy])
  exact HandSPX.exc_get J.kIn at_ xf.ga xf.gg xf.exC found (handed_of ry) ⟨v, H1, J.tok _, ry, q⟩
/-! ### try: body, except (A, B) as n: suite, where all that the body raises is of one of both -/
section
variable {X : Cx} {pins : List (Addr × Obj)} {σ : L2.St} {H : Hp} {s0 s1 : Shared} {B : Heap} {a : Addr} {cls : Value} {d : Option Addr}
theorem hok_more {P : Program} {w : World} {h : Heap} {u : HO} (k : HOk P w H h) (na : H a = none) (new : ObjOk P w (upd H a u) h a u) : HOk P w (upd H a u) h := by
  intro b v q
  by_cases e : b = a
  · subst e
    rw [upd_same] at q
    cases q
    exact new
  · rw [upd_ne e] at q
    refine (k b v q).stay (fun _ _ _ r => r) (fun c r => ?_) (fun c xs r => ?_)
    · rw [upd_ne (ne_of_none r na)]
      exact r
    · rw [upd_ne (ne_of_none r na)]
      exact r
theorem Inv.seen (I : Inv X pins σ H s0) (nb : ∀ b o, s0.heap.get? b = some o → b ∉ frs X.stack → B.get? b = some o) (st : B.StaysIn s1.heap) (up : s0.heap.UpToSlots s1.heap) (os : s1.os = s0.os) (ag : AllBare s1.gens)
    (ha : s0.heap.get? a = none) (na : H a = none) {o : Obj} {vs : Array Value} (ga : s1.heap.get? a = some o) (z : Zc cls d o) (f : o.data = .fields vs) : Inv X pins σ (upd H a (exz a cls d)) s1 := by
  have fr : ∀ b ∈ frs X.stack, ∀ u, s0.heap.get? b = some u → ∃ sl, s1.heap.get? b = some { u with slots := sl } := by
    intro b hb u gu
    obtain ⟨_, u', gu', hd⟩ := I.stack.mem hb
    rw [gu] at gu'
    cases gu'
    exact up b u gu hd
  have ne : ∀ {b : Addr} {u : Obj}, s0.heap.get? b = some u → b ≠ a := by
    intro b u gu q
    rw [q, ha] at gu
    cases gu
  have old := Inv.landed (s' := s1) I nb st up os ag
  refine I.call' (ch := []) os ⟨?_, ?_, ?_, ?_, ?_, ?_, ?_⟩ (hok_more old.hok na (exz_ok ga z f)) ag (fun _ y => nomatch y)
  · exact fun b u gu _ hb _ => st b u (nb b u gu hb)
  · exact fun b u gu _ hb _ => fr b hb u gu
  · intro b u gu n _
    rw [upd_ne (ne gu)]
    exact n
  · intro b u gu _
    by_cases hb : b ∈ frs X.stack
    · obtain ⟨sl, q⟩ := fr b hb u gu
      exact ⟨_, q⟩
    · exact ⟨u, st b u (nb b u gu hb)⟩
  · intro b xs q
    rw [upd_ne (ne_of_none q na)]
    exact q
  · intro b u xs q
    rw [upd_ne (ne_of_none q na)]
    exact q
  · intro b ps q
    refine ⟨#[], ?_⟩
    rw [upd_ne (ne_of_none q na), q]
    simp
end
end Bh
namespace Bh
open PySem PySem.Spec PyProof.Rows L2
section
variable {X : Cx} {pins : List (Addr × Obj)} {σ : L2.St} {H : Hp} {s : Shared}
theorem Inv.inSuite (I : Inv X pins σ H s) (a : Addr) : Inv (X.suite a (X.pn ++ pins)) [] σ H s := by
  refine ⟨I.ok.suite _ _, I.os, I.bare, I.base, I.loc, I.cell, I.free, I.freeC, fun p hp => ?_, I.hok, I.len⟩
  rw [List.append_nil] at hp
  exact I.pin p hp
theorem Inv.offSuite {a : Addr} {more : List (Addr × Obj)} (I : Inv (X.suite a (X.pn ++ pins)) more σ H s) (ok : X.Ok) : Inv X pins σ H s :=
  ⟨ok, I.os, I.bare, I.base, I.loc, I.cell, I.free, I.freeC, fun p hp => I.pin p (List.mem_append_left _ hp), I.hok, I.len⟩
end
theorem flying_more {B h h' : Heap} {l : List Env} {a : Addr} {Z : Obj → Prop} (k : ∀ b o, h.get? b = some o → h'.get? b = some o) (f : HandSPX.FlyingZ B l a Z h) : HandSPX.FlyingZ B l a Z h' := by
  obtain ⟨f1, f2, f3, oe, vs, T, oT, ts, e1, e2, e3, e4, e5, e6, e7, e8, e9⟩ := f
  exact ⟨fun b o q => k b o (f1 b o q), f2, f3.of_keeps (fun b o q _ => ⟨o, k b o q, rfl⟩), oe, vs, T, oT, ts, k _ _ e1, e2, e3, e4, e5, e6, k _ _ e7, e8, e9⟩
/-- what the clause wishes of an exception of the body -/
def wTwo (K : PySem.W.Frag) (C1 C2 : Value) (i n : Nat) (ts : TS) (D : Ends) : WX := fun cls d σ H => PySem.W.exmAny K cls [C1, C2] = some true ∧ ∀ a, H a = none → σ.length = n →
  ts { nx := fun σ' H' => D.nx (σ'.set i none) H', rt := D.rt, bk := fun σ' H' => D.bk (σ'.set i none) H', ct := fun σ' H' => D.ct (σ'.set i none) H' } (σ.set i (some (.ref a))) (upd H a (exz a cls d))
section
variable {X : Cx} {x1 x2 n : Str} {C1 C2 : Addr} {i : Nat} {body suite : List Stmt} {b₀ : Stmt} {p1 p2 tpos pos pos' : Pos} {tb : WX → TS} {ts : TS} {kk : Nat}
theorem ps_try_two (hs : X.stack = X.env :: X.outer) (hf : X.env.frame = some X.env.locals) (hN : X.N.Nodup) (hi : X.N[i]? = some n) (hln : X.env.kindOf n = some .local)
    (g1 : Gl X x1) (m1 : X.mg x1 = some (.ref C1)) (g2 : Gl X x2) (m2 : X.mg x2 = some (.ref C2)) (d1 : (x1 == ("__debug__" : Str)) = false) (d2 : (x2 == ("__debug__" : Str)) = false)
    (hb : ∀ (W : WX) (pn : List (Addr × Obj)) (xe : Value → Shared → Prop), Takes (X.tr pn xe) W → PassesOwn (model X.prog X.w) X.A X.env xe → PSs (X.tr pn xe) body (tb W))
    (hsu : ∀ (a : Addr) (pn : List (Addr × Obj)), PSs (X.suite a pn) (b₀ :: suite) ts)
    (two : starEach [.Name x1 p1, .Name x2 p2] X.env = [(false, eval (.Name x1 p1) X.env), (false, eval (.Name x2 p2) X.env)] := by rfl) :
    PS X (.Try body [.ExceptHandler (some (.Tuple [.Name x1 p1, .Name x2 p2] kk tpos)) (some n) (b₀ :: suite) pos'] [] [] pos) (fun D σ H => tb (wTwo X.K (.ref C1) (.ref C2) i X.N.length ts D) D σ H) := by
  refine ⟨fun pins s σ H D I h => wpAny_Try_except ?_⟩
  have ok := I.ok
  have tops : X.A.frames = some (X.env :: X.outer) := ok.frames.trans (congrArg some hs)
  refine wpAny_mono ((hb (wTwo X.K (.ref C1) (.ref C2) i X.N.length ts D) (X.pn ++ pins) _ (fun u s1 air => ?caught) PassesOwn.looking).run [] s σ H D (I.toTry _) h) (fun f s1 e => ?ends) (fun _ _ e => e)
  case ends =>
    match f, e with
    | .next, ⟨σ1, H1, J, q⟩ => exact wpAny_execs_nil ⟨σ1, H1, J.ofTry ok, q⟩
    | .brk, ⟨σ1, H1, J, q⟩ => exact ⟨σ1, H1, J.ofTry ok, q⟩
    | .cont, ⟨σ1, H1, J, q⟩ => exact ⟨σ1, H1, J.ofTry ok, q⟩
    | .ret u, ⟨v, σ1, H1, J, r, q⟩ => exact ⟨v, σ1, H1, J.ofTry ok, r, q⟩
  case caught =>
    obtain ⟨a, B, s0, pins0, σ0, H0, cls, d, rfl, J0, nb, up, sky, na, os, ag, hm, go⟩ := air
    have J : Inv X pins σ0 H0 s0 := J0.ofTry ok
    rw [show (X.tr (X.pn ++ pins) _).stack = X.env :: X.outer from hs] at sky
    refine Sky.land Zc.steady tops hf sky fun h3 fl3 up3 => ?_
    obtain ⟨o3, v3, e3, z3, f3⟩ := fl3.there
    have noframe : a ∉ frs X.stack := by
      rw [hs]
      intro hm'
      obtain ⟨_, o', e', hd⟩ := fl3.2.2.1.mem hm'
      rw [e3] at e'
      cases e'
      exact hd _ f3
    have a0 : s0.heap.get? a = none := by
      cases q : s0.heap.get? a with
      | none => rfl
      | some o =>
        have z := nb a o q noframe
        rw [fl3.2.1] at z
        cases z
    have J3 := Inv.seen (s1 := { s1 with heap := h3 }) J nb fl3.1 (up.trans up3) os ag a0 na e3 z3 f3
    have S3 := Inv.inSuite J3 a
    refine wpAny_handleBy_cons (codeAny_handlers_test (wpAny_Tuple_spliced ?_)) (fun q => by cases q)
    rw [two]
    show wpAny _ _ (spliced [(false, eval (.Name x1 p1) X.env), (false, eval (.Name x2 p2) X.env)]) _ _ _
    refine Calls.spliced_cons (ld_glob S3 g1 m1 ?_ d1)
    refine Calls.spliced_cons (ld_glob S3 g2 m2 ?_ d2)
    refine Calls.spliced_nil ⟨(by show 2 ≤ sizeLine; decide), ?_⟩
    have more : ∀ b o, h3.get? b = some o → (h3.push { cls := .type "tuple", data := .seq [Value.ref C1, Value.ref C2].toArray }).get? b = some o := fun b o q => Heap.get?_push_of_some _ q
    have at_ : (h3.push { cls := .type "tuple", data := .seq [Value.ref C1, Value.ref C2].toArray }).get? h3.objs.size = some { cls := .type "tuple", data := .seq [Value.ref C1, Value.ref C2].toArray } := Heap.get?_push_size _ rfl
    have own : PySem.W.Looks (model X.prog X.w) (h3.push { cls := .type "tuple", data := .seq [Value.ref C1, Value.ref C2].toArray }) (typeOf (.ref a)) cls := fun A Q E s k q => wpAny_typeOf_ref (k _ _ (more _ _ e3)) (by rw [z3.1]; exact q)
    have hit := PySem.W.exm_tup2 (M := model X.prog X.w) (J3.kIn.keeps more) own at_ hm
    refine hit.here ?_
    refine codeAny_handlers_suite_as ?_
    have fl4 := flying_more more fl3
    refine HandSPX.lands_againZ fl4 fun h5 fl5 up5 => ?_
    obtain ⟨o5, v5, e5, z5, f5⟩ := fl5.there
    have J5 := Inv.seen (s1 := { s1 with heap := h5 }) J nb fl5.1 ((up.trans up3).trans ((Heap.UpToSlots.of_keeps more).trans up5)) os ag a0 na e5 z5 f5
    refine store_ok (X := X.suite a (X.pn ++ pins)) (v := .ref a) (Inv.inSuite J5 a) hN hi (.inl hln) rfl (fun s6 S6 => ?_) (.inr hln)
    refine wpAny_mono ((hsu a (X.pn ++ pins)).run [] s6 _ _ _ S6 (go a na J.len)) (fun f s7 e => ?_) (fun _ _ y => False.elim y)
    have leave : ∀ {σ7 : L2.St} {H7 : Hp} {R : Shared → Prop}, Inv (X.suite a (X.pn ++ pins)) [] σ7 H7 s7 → (∀ s8, Inv X pins (σ7.set i none) H7 s8 → R s8) →
        wpAny (model X.prog X.w) X.A (do bindName X.env n .none; unbindBehindTheSuite X.env n pos') (fun _ s8 => R s8) X.xe s7 := fun S7 r => gone_ok (Inv.offSuite S7 ok) hN hi hln r
    match f, e with
    | .next, ⟨σ7, H7, S7, q⟩ => exact leave S7 fun s8 J8 => ⟨_, _, J8, q⟩
    | .brk, ⟨σ7, H7, S7, q⟩ => exact leave S7 fun s8 J8 => ⟨_, _, J8, q⟩
    | .cont, ⟨σ7, H7, S7, q⟩ => exact leave S7 fun s8 J8 => ⟨_, _, J8, q⟩
    | .ret u, ⟨v, σ7, H7, S7, r, q⟩ => exact leave S7 fun s8 J8 => ⟨_, _, _, J8, r, q⟩
end
end Bh

set_option Elab.async false
set_option linter.all false
set_option maxRecDepth 100000
namespace Bh
open PySem PySem.Spec PyProof.Rows L2
/-! ### a def that runs while an exception is handled, and raises nothing -/
structure FnU (P : Program) (w : World) (K : PySem.W.Frag) (mg : Str → Option Value) (base : Heap) (k : Nat) (f : Addr) (fd : FuncData) (ps : List Str) (sp : Sp) : Prop where
  len : ∀ vs H Q E, sp vs H Q E → vs.length = ps.length
  run : ∀ (A : Around) (outer : List Env) (s : Shared) (H : Hp) (args : Args) (us : List Value) (vs : List V) (Q : VK) (E : XK), L2H.RoomH k A → Env0 P w K mg base A outer s H → BindsTo s fd args (ps.zip us) → Vals vs us → sp vs H Q E →
    codeAny (model P w) A (.call (.ref f) args) (CR CX0 outer P w H s Q E) s
def cxU (P : Program) (w : World) (K : PySem.W.Frag) (mg : Str → Option Value) (base : Heap) (N : List Str) (qual : Str) (scope : Scope) (f : Addr) (cd : Value) (A : Around) (outer : List Env) (s : Shared) (H : Hp) (E : XK) : Cx :=
  { cxOf CX0 P w K mg base N qual scope f cd A outer s H E with calm := false }
theorem start_u {P : Program} {w : World} {K : PySem.W.Frag} {mg : Str → Option Value} {base : Heap} {N ps : List Str} {qual : Str} {scope : Scope} {f : Addr} {cd : Value} {A : Around} {outer : List Env} {s s1 : Shared} {H : Hp} {E : XK} {us : List Value} {vs : List V}
    (S : FnScope N ps scope) (e0 : Env0 P w K mg base A outer s H) (hl : vs.length = ps.length) (r : Vals vs us)
    (x : InCallC s s.heap.objs.size (bindL (envOfC qual scope s.heap.objs.size f cd).kindOf (ps.zip us) fun _ => none) (cellsFrom (s.heap.objs.size + 1) scope.names []) (bindC (envOfC qual scope s.heap.objs.size f cd).kindOf (ps.zip us) fun _ => none) s1) :
    Inv (cxU P w K mg base N qual scope f cd A outer s H E) [] (L2.start N vs) H s1 := by
  have e1 : Env0 P w K mg base { A with handled := none } outer s H := ⟨e0.frames, e0.mod, e0.bs, e0.bsz, e0.funs, e0.frf, e0.hok, e0.bare⟩
  have I : Inv (cxOf CX0 P w K mg base N qual scope f cd { A with handled := none } outer s H E) [] (L2.start N vs) H s1 := inv_start S rfl e1 hl r x
  obtain ⟨o1, o2, o3, o4, o5, o6, o7, o8, _, _, o11, o12, o13, o14, o15, o16, o17, o18⟩ := I.ok
  exact ⟨⟨o1, o2, o3, o4, o5, o6, o7, o8, (fun z => Bool.noConfusion (show false = true from z)), Around.frames_deeper e0.frames, o11, o12, o13, o14, o15, o16, o17, o18⟩, I.os, I.bare, I.base, I.loc, I.cell, I.free, I.freeC, I.pin, I.hok, I.len⟩
theorem fun_u {P : Program} {w : World} {K : PySem.W.Frag} {mg : Str → Option Value} {base : Heap} {k : Nat} {f : Addr} {fd : FuncData} {x qual : Str} {st : Stmt} {N ps : List Str} {sp : Sp} (F : Fun K x qual st f fd) (S : FnScope N ps (defScope st))
    (len : ∀ vs H Q E, sp vs H Q E → vs.length = ps.length)
    (body : ∀ (cdv : Value) (A : Around) (outer : List Env) (s : Shared) (H : Hp) (vs : List V) (Q : VK) (E : XK), sp vs H Q E →
      ∃ t, PSs (cxU P w K mg base N qual (defScope st) f cdv A outer s H E) (defBody st) t ∧ t { nx := fun _ H' => Q .non H', rt := Q } (L2.start N vs) H) : FnU P w K mg base (k + 1) f fd ps sp := by
  obtain ⟨oc, od, kV, doc, pm, an, cdv, ct, osl, rfl, lk, hcd⟩ := F.ex
  refine ⟨len, fun A outer s H args us vs Q E hr e0 hb r h => ?_⟩
  have l1 := len _ _ _ _ h
  have X0 : K.In s.heap := e0.mod.kin.keeps fun b o e => (e0.bs b o e).1
  have nl : s.heap.NoLimit := e0.mod.nolimit.keeps fun b o e => (e0.bs b o e).1
  have kinds : ∀ y ∈ ps.zip us, (defScope st).names.lookup y.1 = some .local ∨ ((defScope st).names.lookup y.1 = some .cell ∧ ((cellsFrom (s.heap.objs.size + 1) (defScope st).names []).lookup y.1).isSome = true) := by
    rintro ⟨n, v⟩ hy
    exact (S.par n (List.of_mem_zip hy).1).imp id fun q => ⟨q, PySem.W.cellsFrom_some _ _ _ (.inl q)⟩
  refine codeAny_call_function hr.depth (X0 _ _ lk) rfl S.co S.gen rfl (PySem.W.codeRec_of X0 hcd) (hb _ _ _ _ (wpAny_newFunctionEnv_cells S.kind kinds fun env he s1 x => ?_))
  subst he
  obtain ⟨t, ht, hq⟩ := body cdv A outer s H vs Q E h
  refine ⟨nl.keeps x.toInCall.keep, codeAny_func (wpAny_mono (ht.run [] s1 (L2.start N vs) H _ (start_u S e0 l1 r x) hq) (fun fl s2 e => ?_) fun _ _ e => e)⟩
  match fl, e with
  | .next, ⟨σ2, H2, J, q⟩ => exact ⟨.non, H2, J.os, J.bare, J.base, J.hok, rfl, q⟩
  | .brk, ⟨_, _, _, q⟩ => exact q.elim
  | .cont, ⟨_, _, _, q⟩ => exact q.elim
  | .ret u, ⟨v, σ2, H2, J, rv, q⟩ => exact ⟨v, H2, J.os, J.bare, J.base, J.hok, rv, q⟩
theorem pe_callU {X : Cx} {k : Nat} {f : Addr} {fd : FuncData} {ps : List Str} {sp : Sp} {x : Str} {q pos : Pos} {e : Expr} {es : List Expr} {t : TA} (F : FnU X.prog X.w X.K X.mg X.base k f fd ps sp) (hr : L2H.RoomH k X.A) (hg : Gl X x) (hm : X.mg x = some (.ref f)) (hk : PySem.W.keepIn X.K (.ref f) = true) (hb : Binds X.K fd ps [])
    (ha : PA X (e :: es) t) (hdb : (x == ("__debug__" : Str)) = false := by decide) (hs : starEach (e :: es) X.env = (false, eval e X.env) :: starEach es X.env := by rfl) (hp : (backTo pos (starEach es X.env)).any (·.1) = false := by rfl) :
    PE X (.Call (.Name x q) (e :: es) [] pos) (fun σ H Q => t σ H fun vs H1 => sp vs H1 Q fun _ _ _ => False) := by
  refine ⟨fun pins s σ H Q I h => wpAny_Call_Name_kw (ld_glob I hg hm ?_ hdb)⟩
  refine PySem.W.callWith_K (h₀ := X.base) I.ok.mod.kin hk (thn (ha.run pos pins s σ H _ I h) fun us s1 hu => ?_) hs hp
  obtain ⟨vs, H1, J, rv, y⟩ := hu
  refine ⟨J.kIn, ?_⟩
  have n : us.length = ps.length := rv.length.symm.trans (F.len _ _ _ _ y)
  have bnd := hb s1 us J.kIn (by rw [List.append_nil]; exact n)
  rw [List.append_nil] at bnd
  refine wpAny_call (codeAny_mono (F.run X.A X.stack s1 H1 ⟨us, []⟩ us vs Q _ hr J.env0 bnd rv y) fun res s2 z => ?_)
  match res, z with
  | .error _, z => exact z.elim
  | .ok (.ret u), z => exact J.after z
  | .ok .next, z => exact z.elim
  | .ok .brk, z => exact z.elim
  | .ok .cont, z => exact z.elim
end Bh
namespace Bh
open PySem PySem.Spec PyProof.Rows L2
/-! ### the end of a law that makes a lambda: its table of code objects is told by the top -/
theorem walkT {l : PySem.W.OpenLaw} {n k : Nat} {q : Program} {loose : List Str} {XP : (Str → Option Value) → Heap → Prop} {YP : World → Heap → Prop} {d : DefRec} {CX : World → CXT} {x : Str}
    (hn : l.most = some n) (hn2 : n ≤ sizeLine) (hdf : d.params.defaults = []) (hr : Room k callerA)
    (F : ∀ (w : World) (mg mb : Str → Option Value) (fa : Addr) (h : Heap), (∀ (K : PySem.W.Frag), K.In h → ∀ (dd : DefRec) (y : Str) (c P : Addr), (recsOf q).find? (fun e => e.name == y) = some dd → PySem.W.tabIn K y = some (c, P) → PySem.W.CodeHd h c P ∧ h.get? P = some (PySem.W.tabObj #[])) → h.Ns mainGlobals mg → YP w h → mg d.name = some (.ref fa) → ∃ K : PySem.W.Frag, K.In h ∧ LamX.LawAtS l w K (CX w) k n x mg fa h)
    (hCX : ∀ (w : World) (H : Hp) (s : Shared) (e : Value) (s' : Shared), CX w [] H s (fun _ _ _ => False) e s' → False) :
    PySem.W.WalkO q loose XP YP l.row.toRowW d [] (fun f vs => PySem.call f vs) := by
  refine Att.attach_callB hn hdf fun w s0 s1 mg mb fa o pm cd doc a vs ns G Y _ _ _ hmg hobj hi hlen hbits hg => ?_
  obtain ⟨K, KX, fd, cs, sp, t1, t2, t3, bnd, hsp, ok⟩ := F w mg mb fa _ (fun K KX dd y c P h1 h2 => PySem.W.tab_of G.T KX h1 h2) G.T.g Y hmg
  refine LamX.law_callTs KX G.T.g G.T.b G.T.builtins G.T.nolimit hg t1 t2 t3 G.T.bmain hobj hi (Nat.le_trans hlen hn2) hr ok bnd ?_ ?_
  · exact fun H hH hS => hsp H a ns hlen hbits hH hS
  · exact fun H e s' => hCX w H s1 e s'
end Bh

set_option Elab.async false
set_option linter.all false
set_option maxRecDepth 100000
set_option maxHeartbeats 2000000
namespace Bh
open PySem PySem.Spec PyProof.Rows L2 LamX NdefX
/-- the table of code objects that a code object names -/
def tabOfC (K : PySem.W.Frag) (c : Addr) : Option Addr := match K.lookup c with
  | some ⟨_, _, .fields vs, _⟩ => (match (vs[11]? : Option Value) with
    | some (.ref P) => some P
    | _ => none)
  | _ => none
def mkTop {K : PySem.W.Frag} {h : Heap} {mg : Str → Option Value} (X : K.In h) (G : h.Ns mainGlobals mg)
    {f0 : Addr} {od0 an0 : Option Addr} {sl0 : Array (Option Value)} {oc0 kV0 dc0 pm0 cd0 ct0 : Value}
    {f1 : Addr} {od1 an1 : Option Addr} {sl1 : Array (Option Value)} {oc1 kV1 dc1 pm1 cd1 ct1 : Value}
    {f2 : Addr} {od2 an2 : Option Addr} {sl2 : Array (Option Value)} {oc2 kV2 dc2 pm2 cd2 ct2 : Value}
    {f3 : Addr} {od3 an3 : Option Addr} {sl3 : Array (Option Value)} {oc3 kV3 dc3 pm3 cd3 ct3 : Value}
    {f4 : Addr} {od4 an4 : Option Addr} {sl4 : Array (Option Value)} {oc4 kV4 dc4 pm4 cd4 ct4 : Value}
    {f5 : Addr} {od5 an5 : Option Addr} {sl5 : Array (Option Value)} {oc5 kV5 dc5 pm5 cd5 ct5 : Value}
    {f6 : Addr} {od6 an6 : Option Addr} {sl6 : Array (Option Value)} {oc6 kV6 dc6 pm6 cd6 ct6 : Value}
    {f7 : Addr} {od7 an7 : Option Addr} {sl7 : Array (Option Value)} {oc7 kV7 dc7 pm7 cd7 ct7 : Value}
    {f8 : Addr} {od8 an8 : Option Addr} {sl8 : Array (Option Value)} {oc8 kV8 dc8 pm8 cd8 ct8 : Value}
    {f9 : Addr} {od9 an9 : Option Addr} {sl9 : Array (Option Value)} {oc9 kV9 dc9 pm9 cd9 ct9 : Value}
    {f10 : Addr} {od10 an10 : Option Addr} {sl10 : Array (Option Value)} {oc10 kV10 dc10 pm10 cd10 ct10 : Value}
    {f11 : Addr} {od11 an11 : Option Addr} {sl11 : Array (Option Value)} {oc11 kV11 dc11 pm11 cd11 ct11 : Value}
    {f12 : Addr} {od12 an12 : Option Addr} {sl12 : Array (Option Value)} {oc12 kV12 dc12 pm12 cd12 ct12 : Value}
    {f13 : Addr} {od13 an13 : Option Addr} {sl13 : Array (Option Value)} {oc13 kV13 dc13 pm13 cd13 ct13 : Value}
    {f14 : Addr} {od14 an14 : Option Addr} {sl14 : Array (Option Value)} {oc14 kV14 dc14 pm14 cd14 ct14 : Value}
    {f15 : Addr} {od15 an15 : Option Addr} {sl15 : Array (Option Value)} {oc15 kV15 dc15 pm15 cd15 ct15 : Value}
    {f16 : Addr} {od16 an16 : Option Addr} {sl16 : Array (Option Value)} {oc16 kV16 dc16 pm16 cd16 ct16 : Value}
    {f17 : Addr} {od17 an17 : Option Addr} {sl17 : Array (Option Value)} {oc17 kV17 dc17 pm17 cd17 ct17 : Value}
    {f18 : Addr} {od18 an18 : Option Addr} {sl18 : Array (Option Value)} {oc18 kV18 dc18 pm18 cd18 ct18 : Value}
    {f19 : Addr} {od19 an19 : Option Addr} {sl19 : Array (Option Value)} {oc19 kV19 dc19 pm19 cd19 ct19 : Value}
    {f20 : Addr} {od20 an20 : Option Addr} {sl20 : Array (Option Value)} {oc20 kV20 dc20 pm20 cd20 ct20 : Value}
    {f21 : Addr} {od21 an21 : Option Addr} {sl21 : Array (Option Value)} {oc21 kV21 dc21 pm21 cd21 ct21 : Value}
    {f22 : Addr} {od22 an22 : Option Addr} {sl22 : Array (Option Value)} {oc22 kV22 dc22 pm22 cd22 ct22 : Value}
    {f23 : Addr} {od23 an23 : Option Addr} {sl23 : Array (Option Value)} {oc23 kV23 dc23 pm23 cd23 ct23 : Value}
    {f24 : Addr} {od24 an24 : Option Addr} {sl24 : Array (Option Value)} {oc24 kV24 dc24 pm24 cd24 ct24 : Value}
    {f25 : Addr} {od25 an25 : Option Addr} {sl25 : Array (Option Value)} {oc25 kV25 dc25 pm25 cd25 ct25 : Value}
    {f26 : Addr} {od26 an26 : Option Addr} {sl26 : Array (Option Value)} {oc26 kV26 dc26 pm26 cd26 ct26 : Value}
    {f27 : Addr} {od27 an27 : Option Addr} {sl27 : Array (Option Value)} {oc27 kV27 dc27 pm27 cd27 ct27 : Value}
    {f28 : Addr} {od28 an28 : Option Addr} {sl28 : Array (Option Value)} {oc28 kV28 dc28 pm28 cd28 ct28 : Value}
    {f29 : Addr} {od29 an29 : Option Addr} {sl29 : Array (Option Value)} {oc29 kV29 dc29 pm29 cd29 ct29 : Value}
    {f30 : Addr} {od30 an30 : Option Addr} {sl30 : Array (Option Value)} {oc30 kV30 dc30 pm30 cd30 ct30 : Value}
    {f31 : Addr} {od31 an31 : Option Addr} {sl31 : Array (Option Value)} {oc31 kV31 dc31 pm31 cd31 ct31 : Value}
    {f32 : Addr} {od32 an32 : Option Addr} {sl32 : Array (Option Value)} {oc32 kV32 dc32 pm32 cd32 ct32 : Value}
    {f33 : Addr} {od33 an33 : Option Addr} {sl33 : Array (Option Value)} {oc33 kV33 dc33 pm33 cd33 ct33 : Value}
    {f34 : Addr} {od34 an34 : Option Addr} {sl34 : Array (Option Value)} {oc34 kV34 dc34 pm34 cd34 ct34 : Value}
    {f35 : Addr} {od35 an35 : Option Addr} {sl35 : Array (Option Value)} {oc35 kV35 dc35 pm35 cd35 ct35 : Value}
    {f36 : Addr} {od36 an36 : Option Addr} {sl36 : Array (Option Value)} {oc36 kV36 dc36 pm36 cd36 ct36 : Value}
    {f37 : Addr} {od37 an37 : Option Addr} {sl37 : Array (Option Value)} {oc37 kV37 dc37 pm37 cd37 ct37 : Value}
    {f38 : Addr} {od38 an38 : Option Addr} {sl38 : Array (Option Value)} {oc38 kV38 dc38 pm38 cd38 ct38 : Value}
    {t_LETTERS : Tok}
    {t_LETTERS_AND_DIGITS : Tok}
    {t_LONGEST : Tok}
    {A_SIGNS : Addr} {n_SIGNS : Nat} {sl_SIGNS : Array (Option Value)} {od_SIGNS : Option Addr} {t_SIGNS0 : Tok} {t_SIGNS1 : Tok} {t_SIGNS2 : Tok} {t_SIGNS3 : Tok}
    {t_NEXT : Tok}
    {t_MOST_ITEMS : Tok}
    {t_LEAST_OPTIONS : Tok}
    {t_MOST_OPTIONS : Tok}
    {t_MOST_FIELDS : Tok}
    {t_MOST_VALUES : Tok}
    {t_MOST_CASES : Tok}
    {t_MOST_TIES : Tok}
    {t_MOST_KINDS : Tok}
    {A_DIRECTIONS : Addr} {n_DIRECTIONS : Nat} {sl_DIRECTIONS : Array (Option Value)} {od_DIRECTIONS : Option Addr} {t_DIRECTIONS0 : Tok} {t_DIRECTIONS1 : Tok}
    (a0 : PySem.W.nsIn K mainGlobals "is_name" = some (some (.ref f0)))
    (l0 : K.lookup f0 = some ⟨oc0, od0, .func (PySem.W.fnOf "is_name" "is_name" (defArgs s_is_name) (defBody s_is_name) (defScope s_is_name) .none kV0 dc0 pm0 an0 cd0 ct0), sl0⟩)
    (c0 : PySem.W.codeIn K cd0 "is_name" = true)
    (k0 : PySem.W.keepIn K (.ref f0) = true)
    (a1 : PySem.W.nsIn K mainGlobals "is_option" = some (some (.ref f1)))
    (l1 : K.lookup f1 = some ⟨oc1, od1, .func (PySem.W.fnOf "is_option" "is_option" (defArgs s_is_option) (defBody s_is_option) (defScope s_is_option) .none kV1 dc1 pm1 an1 cd1 ct1), sl1⟩)
    (c1 : PySem.W.codeIn K cd1 "is_option" = true)
    (k1 : PySem.W.keepIn K (.ref f1) = true)
    (a2 : PySem.W.nsIn K mainGlobals "_is_word" = some (some (.ref f2)))
    (l2 : K.lookup f2 = some ⟨oc2, od2, .func (PySem.W.fnOf "_is_word" "_is_word" (defArgs s_is_word) (defBody s_is_word) (defScope s_is_word) .none kV2 dc2 pm2 an2 cd2 ct2), sl2⟩)
    (c2 : PySem.W.codeIn K cd2 "_is_word" = true)
    (k2 : PySem.W.keepIn K (.ref f2) = true)
    (a3 : PySem.W.nsIn K mainGlobals "field_fits" = some (some (.ref f3)))
    (l3 : K.lookup f3 = some ⟨oc3, od3, .func (PySem.W.fnOf "field_fits" "field_fits" (defArgs s_field_fits) (defBody s_field_fits) (defScope s_field_fits) .none kV3 dc3 pm3 an3 cd3 ct3), sl3⟩)
    (c3 : PySem.W.codeIn K cd3 "field_fits" = true)
    (k3 : PySem.W.keepIn K (.ref f3) = true)
    (a4 : PySem.W.nsIn K mainGlobals "tie_fits" = some (some (.ref f4)))
    (l4 : K.lookup f4 = some ⟨oc4, od4, .func (PySem.W.fnOf "tie_fits" "tie_fits" (defArgs s_tie_fits) (defBody s_tie_fits) (defScope s_tie_fits) .none kV4 dc4 pm4 an4 cd4 ct4), sl4⟩)
    (c4 : PySem.W.codeIn K cd4 "tie_fits" = true)
    (k4 : PySem.W.keepIn K (.ref f4) = true)
    (a5 : PySem.W.nsIn K mainGlobals "kind_fits" = some (some (.ref f5)))
    (l5 : K.lookup f5 = some ⟨oc5, od5, .func (PySem.W.fnOf "kind_fits" "kind_fits" (defArgs s_kind_fits) (defBody s_kind_fits) (defScope s_kind_fits) .none kV5 dc5 pm5 an5 cd5 ct5), sl5⟩)
    (c5 : PySem.W.codeIn K cd5 "kind_fits" = true)
    (k5 : PySem.W.keepIn K (.ref f5) = true)
    (a6 : PySem.W.nsIn K mainGlobals "name_fits" = some (some (.ref f6)))
    (l6 : K.lookup f6 = some ⟨oc6, od6, .func (PySem.W.fnOf "name_fits" "name_fits" (defArgs s_name_fits) (defBody s_name_fits) (defScope s_name_fits) .none kV6 dc6 pm6 an6 cd6 ct6), sl6⟩)
    (c6 : PySem.W.codeIn K cd6 "name_fits" = true)
    (k6 : PySem.W.keepIn K (.ref f6) = true)
    (a7 : PySem.W.nsIn K mainGlobals "names_of" = some (some (.ref f7)))
    (l7 : K.lookup f7 = some ⟨oc7, od7, .func (PySem.W.fnOf "names_of" "names_of" (defArgs s_names_of) (defBody s_names_of) (defScope s_names_of) .none kV7 dc7 pm7 an7 cd7 ct7), sl7⟩)
    (c7 : PySem.W.codeIn K cd7 "names_of" = true)
    (k7 : PySem.W.keepIn K (.ref f7) = true)
    (a8 : PySem.W.nsIn K mainGlobals "is_program" = some (some (.ref f8)))
    (l8 : K.lookup f8 = some ⟨oc8, od8, .func (PySem.W.fnOf "is_program" "is_program" (defArgs s_is_program) (defBody s_is_program) (defScope s_is_program) .none kV8 dc8 pm8 an8 cd8 ct8), sl8⟩)
    (c8 : PySem.W.codeIn K cd8 "is_program" = true)
    (k8 : PySem.W.keepIn K (.ref f8) = true)
    (a9 : PySem.W.nsIn K mainGlobals "is_case" = some (some (.ref f9)))
    (l9 : K.lookup f9 = some ⟨oc9, od9, .func (PySem.W.fnOf "is_case" "is_case" (defArgs s_is_case) (defBody s_is_case) (defScope s_is_case) .none kV9 dc9 pm9 an9 cd9 ct9), sl9⟩)
    (c9 : PySem.W.codeIn K cd9 "is_case" = true)
    (k9 : PySem.W.keepIn K (.ref f9) = true)
    (a10 : PySem.W.nsIn K mainGlobals "is_holding" = some (some (.ref f10)))
    (l10 : K.lookup f10 = some ⟨oc10, od10, .func (PySem.W.fnOf "is_holding" "is_holding" (defArgs s_is_holding) (defBody s_is_holding) (defScope s_is_holding) .none kV10 dc10 pm10 an10 cd10 ct10), sl10⟩)
    (c10 : PySem.W.codeIn K cd10 "is_holding" = true)
    (k10 : PySem.W.keepIn K (.ref f10) = true)
    (a11 : PySem.W.nsIn K mainGlobals "is_value" = some (some (.ref f11)))
    (l11 : K.lookup f11 = some ⟨oc11, od11, .func (PySem.W.fnOf "is_value" "is_value" (defArgs s_is_value) (defBody s_is_value) (defScope s_is_value) .none kV11 dc11 pm11 an11 cd11 ct11), sl11⟩)
    (c11 : PySem.W.codeIn K cd11 "is_value" = true)
    (k11 : PySem.W.keepIn K (.ref f11) = true)
    (a12 : PySem.W.nsIn K mainGlobals "values_of" = some (some (.ref f12)))
    (l12 : K.lookup f12 = some ⟨oc12, od12, .func (PySem.W.fnOf "values_of" "values_of" (defArgs s_values_of) (defBody s_values_of) (defScope s_values_of) .none kV12 dc12 pm12 an12 cd12 ct12), sl12⟩)
    (c12 : PySem.W.codeIn K cd12 "values_of" = true)
    (k12 : PySem.W.keepIn K (.ref f12) = true)
    (a13 : PySem.W.nsIn K mainGlobals "_is_tuple" = some (some (.ref f13)))
    (l13 : K.lookup f13 = some ⟨oc13, od13, .func (PySem.W.fnOf "_is_tuple" "_is_tuple" (defArgs s_is_tuple) (defBody s_is_tuple) (defScope s_is_tuple) .none kV13 dc13 pm13 an13 cd13 ct13), sl13⟩)
    (c13 : PySem.W.codeIn K cd13 "_is_tuple" = true)
    (k13 : PySem.W.keepIn K (.ref f13) = true)
    (a14 : PySem.W.nsIn K mainGlobals "_are_options" = some (some (.ref f14)))
    (l14 : K.lookup f14 = some ⟨oc14, od14, .func (PySem.W.fnOf "_are_options" "_are_options" (defArgs s_are_options) (defBody s_are_options) (defScope s_are_options) .none kV14 dc14 pm14 an14 cd14 ct14), sl14⟩)
    (c14 : PySem.W.codeIn K cd14 "_are_options" = true)
    (k14 : PySem.W.keepIn K (.ref f14) = true)
    (a15 : PySem.W.nsIn K mainGlobals "_are_keys" = some (some (.ref f15)))
    (l15 : K.lookup f15 = some ⟨oc15, od15, .func (PySem.W.fnOf "_are_keys" "_are_keys" (defArgs s_are_keys) (defBody s_are_keys) (defScope s_are_keys) .none kV15 dc15 pm15 an15 cd15 ct15), sl15⟩)
    (c15 : PySem.W.codeIn K cd15 "_are_keys" = true)
    (k15 : PySem.W.keepIn K (.ref f15) = true)
    (a16 : PySem.W.nsIn K mainGlobals "_is_key" = some (some (.ref f16)))
    (l16 : K.lookup f16 = some ⟨oc16, od16, .func (PySem.W.fnOf "_is_key" "_is_key" (defArgs s_is_key) (defBody s_is_key) (defScope s_is_key) .none kV16 dc16 pm16 an16 cd16 ct16), sl16⟩)
    (c16 : PySem.W.codeIn K cd16 "_is_key" = true)
    (k16 : PySem.W.keepIn K (.ref f16) = true)
    (a17 : PySem.W.nsIn K mainGlobals "_is_test" = some (some (.ref f17)))
    (l17 : K.lookup f17 = some ⟨oc17, od17, .func (PySem.W.fnOf "_is_test" "_is_test" (defArgs s_is_test) (defBody s_is_test) (defScope s_is_test) .none kV17 dc17 pm17 an17 cd17 ct17), sl17⟩)
    (c17 : PySem.W.codeIn K cd17 "_is_test" = true)
    (k17 : PySem.W.keepIn K (.ref f17) = true)
    (a18 : PySem.W.nsIn K mainGlobals "_is_step" = some (some (.ref f18)))
    (l18 : K.lookup f18 = some ⟨oc18, od18, .func (PySem.W.fnOf "_is_step" "_is_step" (defArgs s_is_step) (defBody s_is_step) (defScope s_is_step) .none kV18 dc18 pm18 an18 cd18 ct18), sl18⟩)
    (c18 : PySem.W.codeIn K cd18 "_is_step" = true)
    (k18 : PySem.W.keepIn K (.ref f18) = true)
    (a19 : PySem.W.nsIn K mainGlobals "_options_of" = some (some (.ref f19)))
    (l19 : K.lookup f19 = some ⟨oc19, od19, .func (PySem.W.fnOf "_options_of" "_options_of" (defArgs s_options_of) (defBody s_options_of) (defScope s_options_of) .none kV19 dc19 pm19 an19 cd19 ct19), sl19⟩)
    (c19 : PySem.W.codeIn K cd19 "_options_of" = true)
    (k19 : PySem.W.keepIn K (.ref f19) = true)
    (a20 : PySem.W.nsIn K mainGlobals "_first_wrong" = some (some (.ref f20)))
    (l20 : K.lookup f20 = some ⟨oc20, od20, .func (PySem.W.fnOf "_first_wrong" "_first_wrong" (defArgs s_first_wrong) (defBody s_first_wrong) (defScope s_first_wrong) .none kV20 dc20 pm20 an20 cd20 ct20), sl20⟩)
    (c20 : PySem.W.codeIn K cd20 "_first_wrong" = true)
    (k20 : PySem.W.keepIn K (.ref f20) = true)
    (a21 : PySem.W.nsIn K mainGlobals "_law_bag" = some (some (.ref f21)))
    (l21 : K.lookup f21 = some ⟨oc21, od21, .func (PySem.W.fnOf "_law_bag" "_law_bag" (defArgs s_l_bag) (defBody s_l_bag) (defScope s_l_bag) .none kV21 dc21 pm21 an21 cd21 ct21), sl21⟩)
    (c21 : PySem.W.codeIn K cd21 "_law_bag" = true)
    (k21 : PySem.W.keepIn K (.ref f21) = true)
    (a22 : PySem.W.nsIn K mainGlobals "_law_draw" = some (some (.ref f22)))
    (l22 : K.lookup f22 = some ⟨oc22, od22, .func (PySem.W.fnOf "_law_draw" "_law_draw" (defArgs s_l_draw) (defBody s_l_draw) (defScope s_l_draw) .none kV22 dc22 pm22 an22 cd22 ct22), sl22⟩)
    (c22 : PySem.W.codeIn K cd22 "_law_draw" = true)
    (k22 : PySem.W.keepIn K (.ref f22) = true)
    (a23 : PySem.W.nsIn K mainGlobals "_law_any" = some (some (.ref f23)))
    (l23 : K.lookup f23 = some ⟨oc23, od23, .func (PySem.W.fnOf "_law_any" "_law_any" (defArgs s_l_any) (defBody s_l_any) (defScope s_l_any) .none kV23 dc23 pm23 an23 cd23 ct23), sl23⟩)
    (c23 : PySem.W.codeIn K cd23 "_law_any" = true)
    (k23 : PySem.W.keepIn K (.ref f23) = true)
    (a24 : PySem.W.nsIn K mainGlobals "_law_mixed" = some (some (.ref f24)))
    (l24 : K.lookup f24 = some ⟨oc24, od24, .func (PySem.W.fnOf "_law_mixed" "_law_mixed" (defArgs s_l_mixed) (defBody s_l_mixed) (defScope s_l_mixed) .none kV24 dc24 pm24 an24 cd24 ct24), sl24⟩)
    (c24 : PySem.W.codeIn K cd24 "_law_mixed" = true)
    (k24 : PySem.W.keepIn K (.ref f24) = true)
    (a25 : PySem.W.nsIn K mainGlobals "_law_like" = some (some (.ref f25)))
    (l25 : K.lookup f25 = some ⟨oc25, od25, .func (PySem.W.fnOf "_law_like" "_law_like" (defArgs s_l_like) (defBody s_l_like) (defScope s_l_like) .none kV25 dc25 pm25 an25 cd25 ct25), sl25⟩)
    (c25 : PySem.W.codeIn K cd25 "_law_like" = true)
    (k25 : PySem.W.keepIn K (.ref f25) = true)
    (a26 : PySem.W.nsIn K mainGlobals "_law_words" = some (some (.ref f26)))
    (l26 : K.lookup f26 = some ⟨oc26, od26, .func (PySem.W.fnOf "_law_words" "_law_words" (defArgs s_l_words) (defBody s_l_words) (defScope s_l_words) .none kV26 dc26 pm26 an26 cd26 ct26), sl26⟩)
    (c26 : PySem.W.codeIn K cd26 "_law_words" = true)
    (k26 : PySem.W.keepIn K (.ref f26) = true)
    (a27 : PySem.W.nsIn K mainGlobals "_law_options" = some (some (.ref f27)))
    (l27 : K.lookup f27 = some ⟨oc27, od27, .func (PySem.W.fnOf "_law_options" "_law_options" (defArgs s_l_options) (defBody s_l_options) (defScope s_l_options) .none kV27 dc27 pm27 an27 cd27 ct27), sl27⟩)
    (c27 : PySem.W.codeIn K cd27 "_law_options" = true)
    (k27 : PySem.W.keepIn K (.ref f27) = true)
    (a28 : PySem.W.nsIn K mainGlobals "_law_fields" = some (some (.ref f28)))
    (l28 : K.lookup f28 = some ⟨oc28, od28, .func (PySem.W.fnOf "_law_fields" "_law_fields" (defArgs s_l_fields) (defBody s_l_fields) (defScope s_l_fields) .none kV28 dc28 pm28 an28 cd28 ct28), sl28⟩)
    (c28 : PySem.W.codeIn K cd28 "_law_fields" = true)
    (k28 : PySem.W.keepIn K (.ref f28) = true)
    (a29 : PySem.W.nsIn K mainGlobals "_law_case" = some (some (.ref f29)))
    (l29 : K.lookup f29 = some ⟨oc29, od29, .func (PySem.W.fnOf "_law_case" "_law_case" (defArgs s_l_case) (defBody s_l_case) (defScope s_l_case) .none kV29 dc29 pm29 an29 cd29 ct29), sl29⟩)
    (c29 : PySem.W.codeIn K cd29 "_law_case" = true)
    (k29 : PySem.W.keepIn K (.ref f29) = true)
    (a30 : PySem.W.nsIn K mainGlobals "_law_program" = some (some (.ref f30)))
    (l30 : K.lookup f30 = some ⟨oc30, od30, .func (PySem.W.fnOf "_law_program" "_law_program" (defArgs s_l_program) (defBody s_l_program) (defScope s_l_program) .none kV30 dc30 pm30 an30 cd30 ct30), sl30⟩)
    (c30 : PySem.W.codeIn K cd30 "_law_program" = true)
    (k30 : PySem.W.keepIn K (.ref f30) = true)
    (a31 : PySem.W.nsIn K mainGlobals "_law_value" = some (some (.ref f31)))
    (l31 : K.lookup f31 = some ⟨oc31, od31, .func (PySem.W.fnOf "_law_value" "_law_value" (defArgs s_l_value) (defBody s_l_value) (defScope s_l_value) .none kV31 dc31 pm31 an31 cd31 ct31), sl31⟩)
    (c31 : PySem.W.codeIn K cd31 "_law_value" = true)
    (k31 : PySem.W.keepIn K (.ref f31) = true)
    (a32 : PySem.W.nsIn K mainGlobals "_law_keys" = some (some (.ref f32)))
    (l32 : K.lookup f32 = some ⟨oc32, od32, .func (PySem.W.fnOf "_law_keys" "_law_keys" (defArgs s_l_keys) (defBody s_l_keys) (defScope s_l_keys) .none kV32 dc32 pm32 an32 cd32 ct32), sl32⟩)
    (c32 : PySem.W.codeIn K cd32 "_law_keys" = true)
    (k32 : PySem.W.keepIn K (.ref f32) = true)
    (a33 : PySem.W.nsIn K mainGlobals "_law_kinds" = some (some (.ref f33)))
    (l33 : K.lookup f33 = some ⟨oc33, od33, .func (PySem.W.fnOf "_law_kinds" "_law_kinds" (defArgs s_l_kinds) (defBody s_l_kinds) (defScope s_l_kinds) .none kV33 dc33 pm33 an33 cd33 ct33), sl33⟩)
    (c33 : PySem.W.codeIn K cd33 "_law_kinds" = true)
    (k33 : PySem.W.keepIn K (.ref f33) = true)
    (a34 : PySem.W.nsIn K mainGlobals "_law_book" = some (some (.ref f34)))
    (l34 : K.lookup f34 = some ⟨oc34, od34, .func (PySem.W.fnOf "_law_book" "_law_book" (defArgs s_l_book) (defBody s_l_book) (defScope s_l_book) .none kV34 dc34 pm34 an34 cd34 ct34), sl34⟩)
    (c34 : PySem.W.codeIn K cd34 "_law_book" = true)
    (k34 : PySem.W.keepIn K (.ref f34) = true)
    (a35 : PySem.W.nsIn K mainGlobals "_law_made" = some (some (.ref f35)))
    (l35 : K.lookup f35 = some ⟨oc35, od35, .func (PySem.W.fnOf "_law_made" "_law_made" (defArgs s_l_made) (defBody s_l_made) (defScope s_l_made) .none kV35 dc35 pm35 an35 cd35 ct35), sl35⟩)
    (c35 : PySem.W.codeIn K cd35 "_law_made" = true)
    (k35 : PySem.W.keepIn K (.ref f35) = true)
    (a36 : PySem.W.nsIn K mainGlobals "_law_values" = some (some (.ref f36)))
    (l36 : K.lookup f36 = some ⟨oc36, od36, .func (PySem.W.fnOf "_law_values" "_law_values" (defArgs s_l_values) (defBody s_l_values) (defScope s_l_values) .none kV36 dc36 pm36 an36 cd36 ct36), sl36⟩)
    (c36 : PySem.W.codeIn K cd36 "_law_values" = true)
    (k36 : PySem.W.keepIn K (.ref f36) = true)
    (a37 : PySem.W.nsIn K mainGlobals "_law_faces" = some (some (.ref f37)))
    (l37 : K.lookup f37 = some ⟨oc37, od37, .func (PySem.W.fnOf "_law_faces" "_law_faces" (defArgs s_l_faces) (defBody s_l_faces) (defScope s_l_faces) .none kV37 dc37 pm37 an37 cd37 ct37), sl37⟩)
    (c37 : PySem.W.codeIn K cd37 "_law_faces" = true)
    (k37 : PySem.W.keepIn K (.ref f37) = true)
    (a38 : PySem.W.nsIn K mainGlobals "law" = some (some (.ref f38)))
    (l38 : K.lookup f38 = some ⟨oc38, od38, .func (PySem.W.fnOf "law" "law" (defArgs s_law) (defBody s_law) (defScope s_law) .none kV38 dc38 pm38 an38 cd38 ct38), sl38⟩)
    (c38 : PySem.W.codeIn K cd38 "law" = true)
    (k38 : PySem.W.keepIn K (.ref f38) = true)
    (z_all : PySem.W.nsIn K mainGlobals "all" = some none)
    (z_dict : PySem.W.nsIn K mainGlobals "dict" = some none)
    (z_isinstance : PySem.W.nsIn K mainGlobals "isinstance" = some none)
    (z_len : PySem.W.nsIn K mainGlobals "len" = some none)
    (z_list : PySem.W.nsIn K mainGlobals "list" = some none)
    (z_max : PySem.W.nsIn K mainGlobals "max" = some none)
    (z_min : PySem.W.nsIn K mainGlobals "min" = some none)
    (z_range : PySem.W.nsIn K mainGlobals "range" = some none)
    (z_sorted : PySem.W.nsIn K mainGlobals "sorted" = some none)
    (z_tuple : PySem.W.nsIn K mainGlobals "tuple" = some none)
    (z_int : PySem.W.nsIn K mainGlobals "int" = some none)
    (z_zip : PySem.W.nsIn K mainGlobals "zip" = some none)
    (z_bool : PySem.W.nsIn K mainGlobals "bool" = some none)
    (z_str : PySem.W.nsIn K mainGlobals "str" = some none)
    (z_set : PySem.W.nsIn K mainGlobals "set" = some none)
    (z_enumerate : PySem.W.nsIn K mainGlobals "enumerate" = some none)
    (z_repr : PySem.W.nsIn K mainGlobals "repr" = some none)
    (v_LETTERS : PySem.W.nsIn K mainGlobals "LETTERS" = some (some (Value.str "abcdefghijklmnopqrstuvwxyz" t_LETTERS)))
    (v_LETTERS_AND_DIGITS : PySem.W.nsIn K mainGlobals "LETTERS_AND_DIGITS" = some (some (Value.str "abcdefghijklmnopqrstuvwxyz0123456789" t_LETTERS_AND_DIGITS)))
    (v_LONGEST : PySem.W.nsIn K mainGlobals "LONGEST" = some (some (Value.int 8 t_LONGEST)))
    (v_SIGNS : PySem.W.nsIn K mainGlobals "SIGNS" = some (some (.ref A_SIGNS)))
    (w_SIGNS : K.lookup A_SIGNS = some ⟨.type "tuple", od_SIGNS, .seq #[Value.str "=" t_SIGNS0, Value.str "!" t_SIGNS1, Value.str "<" t_SIGNS2, Value.str ">" t_SIGNS3] n_SIGNS, sl_SIGNS⟩)
    (v_NEXT : PySem.W.nsIn K mainGlobals "NEXT" = some (some (Value.str "+" t_NEXT)))
    (v_MOST_ITEMS : PySem.W.nsIn K mainGlobals "MOST_ITEMS" = some (some (Value.int 6 t_MOST_ITEMS)))
    (v_LEAST_OPTIONS : PySem.W.nsIn K mainGlobals "LEAST_OPTIONS" = some (some (Value.int 2 t_LEAST_OPTIONS)))
    (v_MOST_OPTIONS : PySem.W.nsIn K mainGlobals "MOST_OPTIONS" = some (some (Value.int 6 t_MOST_OPTIONS)))
    (v_MOST_FIELDS : PySem.W.nsIn K mainGlobals "MOST_FIELDS" = some (some (Value.int 3 t_MOST_FIELDS)))
    (v_MOST_VALUES : PySem.W.nsIn K mainGlobals "MOST_VALUES" = some (some (Value.int 24 t_MOST_VALUES)))
    (v_MOST_CASES : PySem.W.nsIn K mainGlobals "MOST_CASES" = some (some (Value.int 8 t_MOST_CASES)))
    (v_MOST_TIES : PySem.W.nsIn K mainGlobals "MOST_TIES" = some (some (Value.int 4 t_MOST_TIES)))
    (v_MOST_KINDS : PySem.W.nsIn K mainGlobals "MOST_KINDS" = some (some (Value.int 3 t_MOST_KINDS)))
    (v_DIRECTIONS : PySem.W.nsIn K mainGlobals "DIRECTIONS" = some (some (.ref A_DIRECTIONS)))
    (w_DIRECTIONS : K.lookup A_DIRECTIONS = some ⟨.type "tuple", od_DIRECTIONS, .seq #[Value.str "+" t_DIRECTIONS0, Value.str "-" t_DIRECTIONS1] n_DIRECTIONS, sl_DIRECTIONS⟩) : Top K mg :=
  {
    a_is_name := f0, fd_is_name := _, d_is_name := ⟨fun_mk (st := s_is_name) l0 c0 k0, PySem.W.mg_of X G a0, (fun_mk (st := s_is_name) l0 c0 k0).binds (ps := ["value"]) fun _ _ _ _ _ _ us hl => match us, hl with | [_], _ => rfl⟩,
    a_is_option := f1, fd_is_option := _, d_is_option := ⟨fun_mk (st := s_is_option) l1 c1 k1, PySem.W.mg_of X G a1, (fun_mk (st := s_is_option) l1 c1 k1).binds (ps := ["value"]) fun _ _ _ _ _ _ us hl => match us, hl with | [_], _ => rfl⟩,
    a_is_word := f2, fd_is_word := _, d_is_word := ⟨fun_mk (st := s_is_word) l2 c2 k2, PySem.W.mg_of X G a2, (fun_mk (st := s_is_word) l2 c2 k2).binds (ps := ["value", "characters"]) fun _ _ _ _ _ _ us hl => match us, hl with | [_, _], _ => rfl⟩,
    a_field_fits := f3, fd_field_fits := _, d_field_fits := ⟨fun_mk (st := s_field_fits) l3 c3 k3, PySem.W.mg_of X G a3, (fun_mk (st := s_field_fits) l3 c3 k3).binds (ps := ["before", "field"]) fun _ _ _ _ _ _ us hl => match us, hl with | [_, _], _ => rfl⟩,
    a_tie_fits := f4, fd_tie_fits := _, d_tie_fits := ⟨fun_mk (st := s_tie_fits) l4 c4 k4, PySem.W.mg_of X G a4, (fun_mk (st := s_tie_fits) l4 c4 k4).binds (ps := ["fields", "before", "tie"]) fun _ _ _ _ _ _ us hl => match us, hl with | [_, _, _], _ => rfl⟩,
    a_kind_fits := f5, fd_kind_fits := _, d_kind_fits := ⟨fun_mk (st := s_kind_fits) l5 c5 k5, PySem.W.mg_of X G a5, (fun_mk (st := s_kind_fits) l5 c5 k5).binds (ps := ["fields", "before", "kind"]) fun _ _ _ _ _ _ us hl => match us, hl with | [_, _, _], _ => rfl⟩,
    a_name_fits := f6, fd_name_fits := _, d_name_fits := ⟨fun_mk (st := s_name_fits) l6 c6 k6, PySem.W.mg_of X G a6, (fun_mk (st := s_name_fits) l6 c6 k6).binds (ps := ["before", "name", "most"]) fun _ _ _ _ _ _ us hl => match us, hl with | [_, _, _], _ => rfl⟩,
    a_names_of := f7, fd_names_of := _, d_names_of := ⟨fun_mk (st := s_names_of) l7 c7 k7, PySem.W.mg_of X G a7, (fun_mk (st := s_names_of) l7 c7 k7).binds (ps := ["items"]) fun _ _ _ _ _ _ us hl => match us, hl with | [_], _ => rfl⟩,
    a_is_program := f8, fd_is_program := _, d_is_program := ⟨fun_mk (st := s_is_program) l8 c8 k8, PySem.W.mg_of X G a8, (fun_mk (st := s_is_program) l8 c8 k8).binds (ps := ["fields", "value"]) fun _ _ _ _ _ _ us hl => match us, hl with | [_, _], _ => rfl⟩,
    a_is_case := f9, fd_is_case := _, d_is_case := ⟨fun_mk (st := s_is_case) l9 c9 k9, PySem.W.mg_of X G a9, (fun_mk (st := s_is_case) l9 c9 k9).binds (ps := ["fields", "value"]) fun _ _ _ _ _ _ us hl => match us, hl with | [_, _], _ => rfl⟩,
    a_is_holding := f10, fd_is_holding := _, d_is_holding := ⟨fun_mk (st := s_is_holding) l10 c10 k10, PySem.W.mg_of X G a10, (fun_mk (st := s_is_holding) l10 c10 k10).binds (ps := ["fields", "value"]) fun _ _ _ _ _ _ us hl => match us, hl with | [_, _], _ => rfl⟩,
    a_is_value := f11, fd_is_value := _, d_is_value := ⟨fun_mk (st := s_is_value) l11 c11 k11, PySem.W.mg_of X G a11, (fun_mk (st := s_is_value) l11 c11 k11).binds (ps := ["fields", "value"]) fun _ _ _ _ _ _ us hl => match us, hl with | [_, _], _ => rfl⟩,
    a_values_of := f12, fd_values_of := _, d_values_of := ⟨fun_mk (st := s_values_of) l12 c12 k12, PySem.W.mg_of X G a12, (fun_mk (st := s_values_of) l12 c12 k12).binds (ps := ["fields"]) fun _ _ _ _ _ _ us hl => match us, hl with | [_], _ => rfl⟩,
    a_is_tuple := f13, fd_is_tuple := _, d_is_tuple := ⟨fun_mk (st := s_is_tuple) l13 c13 k13, PySem.W.mg_of X G a13, (fun_mk (st := s_is_tuple) l13 c13 k13).binds (ps := ["value", "least", "most"]) fun _ _ _ _ _ _ us hl => match us, hl with | [_, _, _], _ => rfl⟩,
    a_are_options := f14, fd_are_options := _, d_are_options := ⟨fun_mk (st := s_are_options) l14 c14 k14, PySem.W.mg_of X G a14, (fun_mk (st := s_are_options) l14 c14 k14).binds (ps := ["value"]) fun _ _ _ _ _ _ us hl => match us, hl with | [_], _ => rfl⟩,
    a_are_keys := f15, fd_are_keys := _, d_are_keys := ⟨fun_mk (st := s_are_keys) l15 c15 k15, PySem.W.mg_of X G a15, (fun_mk (st := s_are_keys) l15 c15 k15).binds (ps := ["fields", "value"]) fun _ _ _ _ _ _ us hl => match us, hl with | [_, _], _ => rfl⟩,
    a_is_key := f16, fd_is_key := _, d_is_key := ⟨fun_mk (st := s_is_key) l16 c16 k16, PySem.W.mg_of X G a16, (fun_mk (st := s_is_key) l16 c16 k16).binds (ps := ["fields", "value"]) fun _ _ _ _ _ _ us hl => match us, hl with | [_, _], _ => rfl⟩,
    a_is_test := f17, fd_is_test := _, d_is_test := ⟨fun_mk (st := s_is_test) l17 c17 k17, PySem.W.mg_of X G a17, (fun_mk (st := s_is_test) l17 c17 k17).binds (ps := ["fields", "value"]) fun _ _ _ _ _ _ us hl => match us, hl with | [_, _], _ => rfl⟩,
    a_is_step := f18, fd_is_step := _, d_is_step := ⟨fun_mk (st := s_is_step) l18 c18 k18, PySem.W.mg_of X G a18, (fun_mk (st := s_is_step) l18 c18 k18).binds (ps := ["fields", "value"]) fun _ _ _ _ _ _ us hl => match us, hl with | [_, _], _ => rfl⟩,
    a_options_of := f19, fd_options_of := _, d_options_of := ⟨fun_mk (st := s_options_of) l19 c19 k19, PySem.W.mg_of X G a19, (fun_mk (st := s_options_of) l19 c19 k19).binds (ps := ["fields", "name"]) fun _ _ _ _ _ _ us hl => match us, hl with | [_, _], _ => rfl⟩,
    a_first_wrong := f20, fd_first_wrong := _, d_first_wrong := ⟨fun_mk (st := s_first_wrong) l20 c20 k20, PySem.W.mg_of X G a20, (fun_mk (st := s_first_wrong) l20 c20 k20).binds (ps := ["items", "fits"]) fun _ _ _ _ _ _ us hl => match us, hl with | [_, _], _ => rfl⟩,
    a_l_bag := f21, fd_l_bag := _, d_l_bag := ⟨fun_mk (st := s_l_bag) l21 c21 k21, PySem.W.mg_of X G a21, (fun_mk (st := s_l_bag) l21 c21 k21).binds (ps := ["_law_script"]) fun _ _ _ _ _ _ us hl => match us, hl with | [_], _ => rfl⟩,
    a_l_draw := f22, fd_l_draw := _, d_l_draw := ⟨fun_mk (st := s_l_draw) l22 c22 k22, PySem.W.mg_of X G a22, (fun_mk (st := s_l_draw) l22 c22 k22).binds (ps := ["_law_bag_here", "_law_many"]) fun _ _ _ _ _ _ us hl => match us, hl with | [_, _], _ => rfl⟩,
    a_l_any := f23, fd_l_any := _, d_l_any := ⟨fun_mk (st := s_l_any) l23 c23 k23, PySem.W.mg_of X G a23, (fun_mk (st := s_l_any) l23 c23 k23).binds (ps := ["_law_bag_here", "_law_row"]) fun _ _ _ _ _ _ us hl => match us, hl with | [_, _], _ => rfl⟩,
    a_l_mixed := f24, fd_l_mixed := _, d_l_mixed := ⟨fun_mk (st := s_l_mixed) l24 c24 k24, PySem.W.mg_of X G a24, (fun_mk (st := s_l_mixed) l24 c24 k24).binds (ps := ["_law_bag_here", "_law_row"]) fun _ _ _ _ _ _ us hl => match us, hl with | [_, _], _ => rfl⟩,
    a_l_like := f25, fd_l_like := _, d_l_like := ⟨fun_mk (st := s_l_like) l25 c25 k25, PySem.W.mg_of X G a25, (fun_mk (st := s_l_like) l25 c25 k25).binds (ps := ["_law_found", "_law_due"]) fun _ _ _ _ _ _ us hl => match us, hl with | [_, _], _ => rfl⟩,
    a_l_words := f26, fd_l_words := _, d_l_words := ⟨fun_mk (st := s_l_words) l26 c26 k26, PySem.W.mg_of X G a26, (fun_mk (st := s_l_words) l26 c26 k26).binds (ps := ["_law_bag_here", "_law_many"]) fun _ _ _ _ _ _ us hl => match us, hl with | [_, _], _ => rfl⟩,
    a_l_options := f27, fd_l_options := _, d_l_options := ⟨fun_mk (st := s_l_options) l27 c27 k27, PySem.W.mg_of X G a27, (fun_mk (st := s_l_options) l27 c27 k27).binds (ps := ["_law_bag_here", "_law_many"]) fun _ _ _ _ _ _ us hl => match us, hl with | [_, _], _ => rfl⟩,
    a_l_fields := f28, fd_l_fields := _, d_l_fields := ⟨fun_mk (st := s_l_fields) l28 c28 k28, PySem.W.mg_of X G a28, (fun_mk (st := s_l_fields) l28 c28 k28).binds (ps := ["_law_bag_here", "_law_room"]) fun _ _ _ _ _ _ us hl => match us, hl with | [_, _], _ => rfl⟩,
    a_l_case := f29, fd_l_case := _, d_l_case := ⟨fun_mk (st := s_l_case) l29 c29 k29, PySem.W.mg_of X G a29, (fun_mk (st := s_l_case) l29 c29 k29).binds (ps := ["_law_bag_here", "_law_fields_z"]) fun _ _ _ _ _ _ us hl => match us, hl with | [_, _], _ => rfl⟩,
    a_l_program := f30, fd_l_program := _, d_l_program := ⟨fun_mk (st := s_l_program) l30 c30 k30, PySem.W.mg_of X G a30, (fun_mk (st := s_l_program) l30 c30 k30).binds (ps := ["_law_bag_here", "_law_fields_z", "_law_most"]) fun _ _ _ _ _ _ us hl => match us, hl with | [_, _, _], _ => rfl⟩,
    a_l_value := f31, fd_l_value := _, d_l_value := ⟨fun_mk (st := s_l_value) l31 c31 k31, PySem.W.mg_of X G a31, (fun_mk (st := s_l_value) l31 c31 k31).binds (ps := ["_law_bag_here", "_law_fields_z"]) fun _ _ _ _ _ _ us hl => match us, hl with | [_, _], _ => rfl⟩,
    a_l_keys := f32, fd_l_keys := _, d_l_keys := ⟨fun_mk (st := s_l_keys) l32 c32 k32, PySem.W.mg_of X G a32, (fun_mk (st := s_l_keys) l32 c32 k32).binds (ps := ["_law_bag_here", "_law_fields_z"]) fun _ _ _ _ _ _ us hl => match us, hl with | [_, _], _ => rfl⟩,
    a_l_kinds := f33, fd_l_kinds := _, d_l_kinds := ⟨fun_mk (st := s_l_kinds) l33 c33 k33, PySem.W.mg_of X G a33, (fun_mk (st := s_l_kinds) l33 c33 k33).binds (ps := ["_law_bag_here", "_law_fields_z", "_law_most"]) fun _ _ _ _ _ _ us hl => match us, hl with | [_, _, _], _ => rfl⟩,
    a_l_book := f34, fd_l_book := _, d_l_book := ⟨fun_mk (st := s_l_book) l34 c34 k34, PySem.W.mg_of X G a34, (fun_mk (st := s_l_book) l34 c34 k34).binds (ps := ["_law_bag_here", "_law_room", "_law_most"]) fun _ _ _ _ _ _ us hl => match us, hl with | [_, _, _], _ => rfl⟩,
    a_l_made := f35, fd_l_made := _, d_l_made := ⟨fun_mk (st := s_l_made) l35 c35 k35, PySem.W.mg_of X G a35, (fun_mk (st := s_l_made) l35 c35 k35).binds (ps := ["_law_m"]) fun _ _ _ _ _ _ us hl => match us, hl with | [_], _ => rfl⟩,
    a_l_values := f36, fd_l_values := _, d_l_values := ⟨fun_mk (st := s_l_values) l36 c36 k36, PySem.W.mg_of X G a36, (fun_mk (st := s_l_values) l36 c36 k36).binds (ps := ["_law_fields_z"]) fun _ _ _ _ _ _ us hl => match us, hl with | [_], _ => rfl⟩,
    a_l_faces := f37, fd_l_faces := _, d_l_faces := ⟨fun_mk (st := s_l_faces) l37 c37 k37, PySem.W.mg_of X G a37, (fun_mk (st := s_l_faces) l37 c37 k37).binds (ps := ["_law_book_here", "_law_twin", "_law_m"]) fun _ _ _ _ _ _ us hl => match us, hl with | [_, _, _], _ => rfl⟩,
    b_all := PySem.W.mg_none_of X G z_all,
    b_dict := PySem.W.mg_none_of X G z_dict,
    b_isinstance := PySem.W.mg_none_of X G z_isinstance,
    b_len := PySem.W.mg_none_of X G z_len,
    b_list := PySem.W.mg_none_of X G z_list,
    b_max := PySem.W.mg_none_of X G z_max,
    b_min := PySem.W.mg_none_of X G z_min,
    b_range := PySem.W.mg_none_of X G z_range,
    b_sorted := PySem.W.mg_none_of X G z_sorted,
    b_tuple := PySem.W.mg_none_of X G z_tuple,
    b_int := PySem.W.mg_none_of X G z_int,
    b_zip := PySem.W.mg_none_of X G z_zip,
    b_bool := PySem.W.mg_none_of X G z_bool,
    b_str := PySem.W.mg_none_of X G z_str,
    b_set := PySem.W.mg_none_of X G z_set,
    b_enumerate := PySem.W.mg_none_of X G z_enumerate,
    b_repr := PySem.W.mg_none_of X G z_repr,
    g_LETTERS := ⟨_, PySem.W.mg_of X G v_LETTERS⟩,
    g_LETTERS_AND_DIGITS := ⟨_, PySem.W.mg_of X G v_LETTERS_AND_DIGITS⟩,
    g_LONGEST := ⟨_, PySem.W.mg_of X G v_LONGEST⟩,
    a_SIGNS := A_SIGNS, g_SIGNS := PySem.W.mg_of X G v_SIGNS, k_SIGNS := fun H => .inr ⟨_, _, _, w_SIGNS, rfl, rfl, by show 4 ≤ sizeLine; decide, (.cons ⟨_, rfl⟩ (.cons ⟨_, rfl⟩ (.cons ⟨_, rfl⟩ (.cons ⟨_, rfl⟩ .nil))))⟩,
    g_NEXT := ⟨_, PySem.W.mg_of X G v_NEXT⟩,
    g_MOST_ITEMS := ⟨_, PySem.W.mg_of X G v_MOST_ITEMS⟩,
    g_LEAST_OPTIONS := ⟨_, PySem.W.mg_of X G v_LEAST_OPTIONS⟩,
    g_MOST_OPTIONS := ⟨_, PySem.W.mg_of X G v_MOST_OPTIONS⟩,
    g_MOST_FIELDS := ⟨_, PySem.W.mg_of X G v_MOST_FIELDS⟩,
    g_MOST_VALUES := ⟨_, PySem.W.mg_of X G v_MOST_VALUES⟩,
    g_MOST_CASES := ⟨_, PySem.W.mg_of X G v_MOST_CASES⟩,
    g_MOST_TIES := ⟨_, PySem.W.mg_of X G v_MOST_TIES⟩,
    g_MOST_KINDS := ⟨_, PySem.W.mg_of X G v_MOST_KINDS⟩,
    a_DIRECTIONS := A_DIRECTIONS, g_DIRECTIONS := PySem.W.mg_of X G v_DIRECTIONS, k_DIRECTIONS := fun H => .inr ⟨_, _, _, w_DIRECTIONS, rfl, rfl, by show 2 ≤ sizeLine; decide, (.cons ⟨_, rfl⟩ (.cons ⟨_, rfl⟩ .nil))⟩ }
theorem all_mk {l : PySem.W.OpenLaw} {w : World} {K : PySem.W.Frag} {h : Heap} {mg : Str → Option Value} {fa : Addr} (X : K.In h) (G : h.Ns mainGlobals mg) (hfa : mg "law" = some (.ref fa))
    {f0 : Addr} {od0 an0 : Option Addr} {sl0 : Array (Option Value)} {oc0 kV0 dc0 pm0 cd0 ct0 : Value}
    {f1 : Addr} {od1 an1 : Option Addr} {sl1 : Array (Option Value)} {oc1 kV1 dc1 pm1 cd1 ct1 : Value}
    {f2 : Addr} {od2 an2 : Option Addr} {sl2 : Array (Option Value)} {oc2 kV2 dc2 pm2 cd2 ct2 : Value}
    {f3 : Addr} {od3 an3 : Option Addr} {sl3 : Array (Option Value)} {oc3 kV3 dc3 pm3 cd3 ct3 : Value}
    {f4 : Addr} {od4 an4 : Option Addr} {sl4 : Array (Option Value)} {oc4 kV4 dc4 pm4 cd4 ct4 : Value}
    {f5 : Addr} {od5 an5 : Option Addr} {sl5 : Array (Option Value)} {oc5 kV5 dc5 pm5 cd5 ct5 : Value}
    {f6 : Addr} {od6 an6 : Option Addr} {sl6 : Array (Option Value)} {oc6 kV6 dc6 pm6 cd6 ct6 : Value}
    {f7 : Addr} {od7 an7 : Option Addr} {sl7 : Array (Option Value)} {oc7 kV7 dc7 pm7 cd7 ct7 : Value}
    {f8 : Addr} {od8 an8 : Option Addr} {sl8 : Array (Option Value)} {oc8 kV8 dc8 pm8 cd8 ct8 : Value}
    {f9 : Addr} {od9 an9 : Option Addr} {sl9 : Array (Option Value)} {oc9 kV9 dc9 pm9 cd9 ct9 : Value}
    {f10 : Addr} {od10 an10 : Option Addr} {sl10 : Array (Option Value)} {oc10 kV10 dc10 pm10 cd10 ct10 : Value}
    {f11 : Addr} {od11 an11 : Option Addr} {sl11 : Array (Option Value)} {oc11 kV11 dc11 pm11 cd11 ct11 : Value}
    {f12 : Addr} {od12 an12 : Option Addr} {sl12 : Array (Option Value)} {oc12 kV12 dc12 pm12 cd12 ct12 : Value}
    {f13 : Addr} {od13 an13 : Option Addr} {sl13 : Array (Option Value)} {oc13 kV13 dc13 pm13 cd13 ct13 : Value}
    {f14 : Addr} {od14 an14 : Option Addr} {sl14 : Array (Option Value)} {oc14 kV14 dc14 pm14 cd14 ct14 : Value}
    {f15 : Addr} {od15 an15 : Option Addr} {sl15 : Array (Option Value)} {oc15 kV15 dc15 pm15 cd15 ct15 : Value}
    {f16 : Addr} {od16 an16 : Option Addr} {sl16 : Array (Option Value)} {oc16 kV16 dc16 pm16 cd16 ct16 : Value}
    {f17 : Addr} {od17 an17 : Option Addr} {sl17 : Array (Option Value)} {oc17 kV17 dc17 pm17 cd17 ct17 : Value}
    {f18 : Addr} {od18 an18 : Option Addr} {sl18 : Array (Option Value)} {oc18 kV18 dc18 pm18 cd18 ct18 : Value}
    {f19 : Addr} {od19 an19 : Option Addr} {sl19 : Array (Option Value)} {oc19 kV19 dc19 pm19 cd19 ct19 : Value}
    {f20 : Addr} {od20 an20 : Option Addr} {sl20 : Array (Option Value)} {oc20 kV20 dc20 pm20 cd20 ct20 : Value}
    {f21 : Addr} {od21 an21 : Option Addr} {sl21 : Array (Option Value)} {oc21 kV21 dc21 pm21 cd21 ct21 : Value}
    {f22 : Addr} {od22 an22 : Option Addr} {sl22 : Array (Option Value)} {oc22 kV22 dc22 pm22 cd22 ct22 : Value}
    {f23 : Addr} {od23 an23 : Option Addr} {sl23 : Array (Option Value)} {oc23 kV23 dc23 pm23 cd23 ct23 : Value}
    {f24 : Addr} {od24 an24 : Option Addr} {sl24 : Array (Option Value)} {oc24 kV24 dc24 pm24 cd24 ct24 : Value}
    {f25 : Addr} {od25 an25 : Option Addr} {sl25 : Array (Option Value)} {oc25 kV25 dc25 pm25 cd25 ct25 : Value}
    {f26 : Addr} {od26 an26 : Option Addr} {sl26 : Array (Option Value)} {oc26 kV26 dc26 pm26 cd26 ct26 : Value}
    {f27 : Addr} {od27 an27 : Option Addr} {sl27 : Array (Option Value)} {oc27 kV27 dc27 pm27 cd27 ct27 : Value}
    {f28 : Addr} {od28 an28 : Option Addr} {sl28 : Array (Option Value)} {oc28 kV28 dc28 pm28 cd28 ct28 : Value}
    {f29 : Addr} {od29 an29 : Option Addr} {sl29 : Array (Option Value)} {oc29 kV29 dc29 pm29 cd29 ct29 : Value}
    {f30 : Addr} {od30 an30 : Option Addr} {sl30 : Array (Option Value)} {oc30 kV30 dc30 pm30 cd30 ct30 : Value}
    {f31 : Addr} {od31 an31 : Option Addr} {sl31 : Array (Option Value)} {oc31 kV31 dc31 pm31 cd31 ct31 : Value}
    {f32 : Addr} {od32 an32 : Option Addr} {sl32 : Array (Option Value)} {oc32 kV32 dc32 pm32 cd32 ct32 : Value}
    {f33 : Addr} {od33 an33 : Option Addr} {sl33 : Array (Option Value)} {oc33 kV33 dc33 pm33 cd33 ct33 : Value}
    {f34 : Addr} {od34 an34 : Option Addr} {sl34 : Array (Option Value)} {oc34 kV34 dc34 pm34 cd34 ct34 : Value}
    {f35 : Addr} {od35 an35 : Option Addr} {sl35 : Array (Option Value)} {oc35 kV35 dc35 pm35 cd35 ct35 : Value}
    {f36 : Addr} {od36 an36 : Option Addr} {sl36 : Array (Option Value)} {oc36 kV36 dc36 pm36 cd36 ct36 : Value}
    {f37 : Addr} {od37 an37 : Option Addr} {sl37 : Array (Option Value)} {oc37 kV37 dc37 pm37 cd37 ct37 : Value}
    {f38 : Addr} {od38 an38 : Option Addr} {sl38 : Array (Option Value)} {oc38 kV38 dc38 pm38 cd38 ct38 : Value}
    {t_LETTERS : Tok}
    {t_LETTERS_AND_DIGITS : Tok}
    {t_LONGEST : Tok}
    {A_SIGNS : Addr} {n_SIGNS : Nat} {sl_SIGNS : Array (Option Value)} {od_SIGNS : Option Addr} {t_SIGNS0 : Tok} {t_SIGNS1 : Tok} {t_SIGNS2 : Tok} {t_SIGNS3 : Tok}
    {t_NEXT : Tok}
    {t_MOST_ITEMS : Tok}
    {t_LEAST_OPTIONS : Tok}
    {t_MOST_OPTIONS : Tok}
    {t_MOST_FIELDS : Tok}
    {t_MOST_VALUES : Tok}
    {t_MOST_CASES : Tok}
    {t_MOST_TIES : Tok}
    {t_MOST_KINDS : Tok}
    {A_DIRECTIONS : Addr} {n_DIRECTIONS : Nat} {sl_DIRECTIONS : Array (Option Value)} {od_DIRECTIONS : Option Addr} {t_DIRECTIONS0 : Tok} {t_DIRECTIONS1 : Tok}
    {xC NI cI pI : Addr} {nmI qI : Str} {nwI : String} {bsI : List Value} {hdI abI : Bool} {snI : List Str} {suI : List Value} {coI : Option Bool} {ddI : Option Addr} {m0 m1 m2 m3 m5 : Option Value} 
    {f_ini : Addr} {od_ini an_ini : Option Addr} {sl_ini : Array (Option Value)} {oc_ini kV_ini dc_ini pm_ini ct_ini : Value}
    {f_fields : Addr} {od_fields an_fields : Option Addr} {sl_fields : Array (Option Value)} {oc_fields kV_fields dc_fields pm_fields cd_fields ct_fields : Value}
    {f_ties : Addr} {od_ties an_ties : Option Addr} {sl_ties : Array (Option Value)} {oc_ties kV_ties dc_ties pm_ties cd_ties ct_ties : Value}
    {f_kinds : Addr} {od_kinds an_kinds : Option Addr} {sl_kinds : Array (Option Value)} {oc_kinds kV_kinds dc_kinds pm_kinds cd_kinds ct_kinds : Value}
    {f_tie_names : Addr} {od_tie_names an_tie_names : Option Addr} {sl_tie_names : Array (Option Value)} {oc_tie_names kV_tie_names dc_tie_names pm_tie_names cd_tie_names ct_tie_names : Value}
    {f_kind_names : Addr} {od_kind_names an_kind_names : Option Addr} {sl_kind_names : Array (Option Value)} {oc_kind_names kV_kind_names dc_kind_names pm_kind_names cd_kind_names ct_kind_names : Value}
    {f_all_values : Addr} {od_all_values an_all_values : Option Addr} {sl_all_values : Array (Option Value)} {oc_all_values kV_all_values dc_all_values pm_all_values cd_all_values ct_all_values : Value}
    {f_eq : Addr} {od_eq an_eq : Option Addr} {sl_eq : Array (Option Value)} {kV_eq dc_eq pm_eq cd_eq ct_eq : Value}
    {f_rp : Addr} {od_rp an_rp : Option Addr} {sl_rp : Array (Option Value)} {oc_rp kV_rp dc_rp pm_rp cd_rp ct_rp : Value}
    {tv0 : Tok}
    {tv1 : Tok}
    {tv2 : Tok}
    (a0 : PySem.W.nsIn K mainGlobals "is_name" = some (some (.ref f0)))
    (l0 : K.lookup f0 = some ⟨oc0, od0, .func (PySem.W.fnOf "is_name" "is_name" (defArgs s_is_name) (defBody s_is_name) (defScope s_is_name) .none kV0 dc0 pm0 an0 cd0 ct0), sl0⟩)
    (c0 : PySem.W.codeIn K cd0 "is_name" = true)
    (k0 : PySem.W.keepIn K (.ref f0) = true)
    (a1 : PySem.W.nsIn K mainGlobals "is_option" = some (some (.ref f1)))
    (l1 : K.lookup f1 = some ⟨oc1, od1, .func (PySem.W.fnOf "is_option" "is_option" (defArgs s_is_option) (defBody s_is_option) (defScope s_is_option) .none kV1 dc1 pm1 an1 cd1 ct1), sl1⟩)
    (c1 : PySem.W.codeIn K cd1 "is_option" = true)
    (k1 : PySem.W.keepIn K (.ref f1) = true)
    (a2 : PySem.W.nsIn K mainGlobals "_is_word" = some (some (.ref f2)))
    (l2 : K.lookup f2 = some ⟨oc2, od2, .func (PySem.W.fnOf "_is_word" "_is_word" (defArgs s_is_word) (defBody s_is_word) (defScope s_is_word) .none kV2 dc2 pm2 an2 cd2 ct2), sl2⟩)
    (c2 : PySem.W.codeIn K cd2 "_is_word" = true)
    (k2 : PySem.W.keepIn K (.ref f2) = true)
    (a3 : PySem.W.nsIn K mainGlobals "field_fits" = some (some (.ref f3)))
    (l3 : K.lookup f3 = some ⟨oc3, od3, .func (PySem.W.fnOf "field_fits" "field_fits" (defArgs s_field_fits) (defBody s_field_fits) (defScope s_field_fits) .none kV3 dc3 pm3 an3 cd3 ct3), sl3⟩)
    (c3 : PySem.W.codeIn K cd3 "field_fits" = true)
    (k3 : PySem.W.keepIn K (.ref f3) = true)
    (a4 : PySem.W.nsIn K mainGlobals "tie_fits" = some (some (.ref f4)))
    (l4 : K.lookup f4 = some ⟨oc4, od4, .func (PySem.W.fnOf "tie_fits" "tie_fits" (defArgs s_tie_fits) (defBody s_tie_fits) (defScope s_tie_fits) .none kV4 dc4 pm4 an4 cd4 ct4), sl4⟩)
    (c4 : PySem.W.codeIn K cd4 "tie_fits" = true)
    (k4 : PySem.W.keepIn K (.ref f4) = true)
    (a5 : PySem.W.nsIn K mainGlobals "kind_fits" = some (some (.ref f5)))
    (l5 : K.lookup f5 = some ⟨oc5, od5, .func (PySem.W.fnOf "kind_fits" "kind_fits" (defArgs s_kind_fits) (defBody s_kind_fits) (defScope s_kind_fits) .none kV5 dc5 pm5 an5 cd5 ct5), sl5⟩)
    (c5 : PySem.W.codeIn K cd5 "kind_fits" = true)
    (k5 : PySem.W.keepIn K (.ref f5) = true)
    (a6 : PySem.W.nsIn K mainGlobals "name_fits" = some (some (.ref f6)))
    (l6 : K.lookup f6 = some ⟨oc6, od6, .func (PySem.W.fnOf "name_fits" "name_fits" (defArgs s_name_fits) (defBody s_name_fits) (defScope s_name_fits) .none kV6 dc6 pm6 an6 cd6 ct6), sl6⟩)
    (c6 : PySem.W.codeIn K cd6 "name_fits" = true)
    (k6 : PySem.W.keepIn K (.ref f6) = true)
    (a7 : PySem.W.nsIn K mainGlobals "names_of" = some (some (.ref f7)))
    (l7 : K.lookup f7 = some ⟨oc7, od7, .func (PySem.W.fnOf "names_of" "names_of" (defArgs s_names_of) (defBody s_names_of) (defScope s_names_of) .none kV7 dc7 pm7 an7 cd7 ct7), sl7⟩)
    (c7 : PySem.W.codeIn K cd7 "names_of" = true)
    (k7 : PySem.W.keepIn K (.ref f7) = true)
    (a8 : PySem.W.nsIn K mainGlobals "is_program" = some (some (.ref f8)))
    (l8 : K.lookup f8 = some ⟨oc8, od8, .func (PySem.W.fnOf "is_program" "is_program" (defArgs s_is_program) (defBody s_is_program) (defScope s_is_program) .none kV8 dc8 pm8 an8 cd8 ct8), sl8⟩)
    (c8 : PySem.W.codeIn K cd8 "is_program" = true)
    (k8 : PySem.W.keepIn K (.ref f8) = true)
    (a9 : PySem.W.nsIn K mainGlobals "is_case" = some (some (.ref f9)))
    (l9 : K.lookup f9 = some ⟨oc9, od9, .func (PySem.W.fnOf "is_case" "is_case" (defArgs s_is_case) (defBody s_is_case) (defScope s_is_case) .none kV9 dc9 pm9 an9 cd9 ct9), sl9⟩)
    (c9 : PySem.W.codeIn K cd9 "is_case" = true)
    (k9 : PySem.W.keepIn K (.ref f9) = true)
    (a10 : PySem.W.nsIn K mainGlobals "is_holding" = some (some (.ref f10)))
    (l10 : K.lookup f10 = some ⟨oc10, od10, .func (PySem.W.fnOf "is_holding" "is_holding" (defArgs s_is_holding) (defBody s_is_holding) (defScope s_is_holding) .none kV10 dc10 pm10 an10 cd10 ct10), sl10⟩)
    (c10 : PySem.W.codeIn K cd10 "is_holding" = true)
    (k10 : PySem.W.keepIn K (.ref f10) = true)
    (a11 : PySem.W.nsIn K mainGlobals "is_value" = some (some (.ref f11)))
    (l11 : K.lookup f11 = some ⟨oc11, od11, .func (PySem.W.fnOf "is_value" "is_value" (defArgs s_is_value) (defBody s_is_value) (defScope s_is_value) .none kV11 dc11 pm11 an11 cd11 ct11), sl11⟩)
    (c11 : PySem.W.codeIn K cd11 "is_value" = true)
    (k11 : PySem.W.keepIn K (.ref f11) = true)
    (a12 : PySem.W.nsIn K mainGlobals "values_of" = some (some (.ref f12)))
    (l12 : K.lookup f12 = some ⟨oc12, od12, .func (PySem.W.fnOf "values_of" "values_of" (defArgs s_values_of) (defBody s_values_of) (defScope s_values_of) .none kV12 dc12 pm12 an12 cd12 ct12), sl12⟩)
    (c12 : PySem.W.codeIn K cd12 "values_of" = true)
    (k12 : PySem.W.keepIn K (.ref f12) = true)
    (a13 : PySem.W.nsIn K mainGlobals "_is_tuple" = some (some (.ref f13)))
    (l13 : K.lookup f13 = some ⟨oc13, od13, .func (PySem.W.fnOf "_is_tuple" "_is_tuple" (defArgs s_is_tuple) (defBody s_is_tuple) (defScope s_is_tuple) .none kV13 dc13 pm13 an13 cd13 ct13), sl13⟩)
    (c13 : PySem.W.codeIn K cd13 "_is_tuple" = true)
    (k13 : PySem.W.keepIn K (.ref f13) = true)
    (a14 : PySem.W.nsIn K mainGlobals "_are_options" = some (some (.ref f14)))
    (l14 : K.lookup f14 = some ⟨oc14, od14, .func (PySem.W.fnOf "_are_options" "_are_options" (defArgs s_are_options) (defBody s_are_options) (defScope s_are_options) .none kV14 dc14 pm14 an14 cd14 ct14), sl14⟩)
    (c14 : PySem.W.codeIn K cd14 "_are_options" = true)
    (k14 : PySem.W.keepIn K (.ref f14) = true)
    (a15 : PySem.W.nsIn K mainGlobals "_are_keys" = some (some (.ref f15)))
    (l15 : K.lookup f15 = some ⟨oc15, od15, .func (PySem.W.fnOf "_are_keys" "_are_keys" (defArgs s_are_keys) (defBody s_are_keys) (defScope s_are_keys) .none kV15 dc15 pm15 an15 cd15 ct15), sl15⟩)
    (c15 : PySem.W.codeIn K cd15 "_are_keys" = true)
    (k15 : PySem.W.keepIn K (.ref f15) = true)
    (a16 : PySem.W.nsIn K mainGlobals "_is_key" = some (some (.ref f16)))
    (l16 : K.lookup f16 = some ⟨oc16, od16, .func (PySem.W.fnOf "_is_key" "_is_key" (defArgs s_is_key) (defBody s_is_key) (defScope s_is_key) .none kV16 dc16 pm16 an16 cd16 ct16), sl16⟩)
    (c16 : PySem.W.codeIn K cd16 "_is_key" = true)
    (k16 : PySem.W.keepIn K (.ref f16) = true)
    (a17 : PySem.W.nsIn K mainGlobals "_is_test" = some (some (.ref f17)))
    (l17 : K.lookup f17 = some ⟨oc17, od17, .func (PySem.W.fnOf "_is_test" "_is_test" (defArgs s_is_test) (defBody s_is_test) (defScope s_is_test) .none kV17 dc17 pm17 an17 cd17 ct17), sl17⟩)
    (c17 : PySem.W.codeIn K cd17 "_is_test" = true)
    (k17 : PySem.W.keepIn K (.ref f17) = true)
    (a18 : PySem.W.nsIn K mainGlobals "_is_step" = some (some (.ref f18)))
    (l18 : K.lookup f18 = some ⟨oc18, od18, .func (PySem.W.fnOf "_is_step" "_is_step" (defArgs s_is_step) (defBody s_is_step) (defScope s_is_step) .none kV18 dc18 pm18 an18 cd18 ct18), sl18⟩)
    (c18 : PySem.W.codeIn K cd18 "_is_step" = true)
    (k18 : PySem.W.keepIn K (.ref f18) = true)
    (a19 : PySem.W.nsIn K mainGlobals "_options_of" = some (some (.ref f19)))
    (l19 : K.lookup f19 = some ⟨oc19, od19, .func (PySem.W.fnOf "_options_of" "_options_of" (defArgs s_options_of) (defBody s_options_of) (defScope s_options_of) .none kV19 dc19 pm19 an19 cd19 ct19), sl19⟩)
    (c19 : PySem.W.codeIn K cd19 "_options_of" = true)
    (k19 : PySem.W.keepIn K (.ref f19) = true)
    (a20 : PySem.W.nsIn K mainGlobals "_first_wrong" = some (some (.ref f20)))
    (l20 : K.lookup f20 = some ⟨oc20, od20, .func (PySem.W.fnOf "_first_wrong" "_first_wrong" (defArgs s_first_wrong) (defBody s_first_wrong) (defScope s_first_wrong) .none kV20 dc20 pm20 an20 cd20 ct20), sl20⟩)
    (c20 : PySem.W.codeIn K cd20 "_first_wrong" = true)
    (k20 : PySem.W.keepIn K (.ref f20) = true)
    (a21 : PySem.W.nsIn K mainGlobals "_law_bag" = some (some (.ref f21)))
    (l21 : K.lookup f21 = some ⟨oc21, od21, .func (PySem.W.fnOf "_law_bag" "_law_bag" (defArgs s_l_bag) (defBody s_l_bag) (defScope s_l_bag) .none kV21 dc21 pm21 an21 cd21 ct21), sl21⟩)
    (c21 : PySem.W.codeIn K cd21 "_law_bag" = true)
    (k21 : PySem.W.keepIn K (.ref f21) = true)
    (a22 : PySem.W.nsIn K mainGlobals "_law_draw" = some (some (.ref f22)))
    (l22 : K.lookup f22 = some ⟨oc22, od22, .func (PySem.W.fnOf "_law_draw" "_law_draw" (defArgs s_l_draw) (defBody s_l_draw) (defScope s_l_draw) .none kV22 dc22 pm22 an22 cd22 ct22), sl22⟩)
    (c22 : PySem.W.codeIn K cd22 "_law_draw" = true)
    (k22 : PySem.W.keepIn K (.ref f22) = true)
    (a23 : PySem.W.nsIn K mainGlobals "_law_any" = some (some (.ref f23)))
    (l23 : K.lookup f23 = some ⟨oc23, od23, .func (PySem.W.fnOf "_law_any" "_law_any" (defArgs s_l_any) (defBody s_l_any) (defScope s_l_any) .none kV23 dc23 pm23 an23 cd23 ct23), sl23⟩)
    (c23 : PySem.W.codeIn K cd23 "_law_any" = true)
    (k23 : PySem.W.keepIn K (.ref f23) = true)
    (a24 : PySem.W.nsIn K mainGlobals "_law_mixed" = some (some (.ref f24)))
    (l24 : K.lookup f24 = some ⟨oc24, od24, .func (PySem.W.fnOf "_law_mixed" "_law_mixed" (defArgs s_l_mixed) (defBody s_l_mixed) (defScope s_l_mixed) .none kV24 dc24 pm24 an24 cd24 ct24), sl24⟩)
    (c24 : PySem.W.codeIn K cd24 "_law_mixed" = true)
    (k24 : PySem.W.keepIn K (.ref f24) = true)
    (a25 : PySem.W.nsIn K mainGlobals "_law_like" = some (some (.ref f25)))
    (l25 : K.lookup f25 = some ⟨oc25, od25, .func (PySem.W.fnOf "_law_like" "_law_like" (defArgs s_l_like) (defBody s_l_like) (defScope s_l_like) .none kV25 dc25 pm25 an25 cd25 ct25), sl25⟩)
    (c25 : PySem.W.codeIn K cd25 "_law_like" = true)
    (k25 : PySem.W.keepIn K (.ref f25) = true)
    (a26 : PySem.W.nsIn K mainGlobals "_law_words" = some (some (.ref f26)))
    (l26 : K.lookup f26 = some ⟨oc26, od26, .func (PySem.W.fnOf "_law_words" "_law_words" (defArgs s_l_words) (defBody s_l_words) (defScope s_l_words) .none kV26 dc26 pm26 an26 cd26 ct26), sl26⟩)
    (c26 : PySem.W.codeIn K cd26 "_law_words" = true)
    (k26 : PySem.W.keepIn K (.ref f26) = true)
    (a27 : PySem.W.nsIn K mainGlobals "_law_options" = some (some (.ref f27)))
    (l27 : K.lookup f27 = some ⟨oc27, od27, .func (PySem.W.fnOf "_law_options" "_law_options" (defArgs s_l_options) (defBody s_l_options) (defScope s_l_options) .none kV27 dc27 pm27 an27 cd27 ct27), sl27⟩)
    (c27 : PySem.W.codeIn K cd27 "_law_options" = true)
    (k27 : PySem.W.keepIn K (.ref f27) = true)
    (a28 : PySem.W.nsIn K mainGlobals "_law_fields" = some (some (.ref f28)))
    (l28 : K.lookup f28 = some ⟨oc28, od28, .func (PySem.W.fnOf "_law_fields" "_law_fields" (defArgs s_l_fields) (defBody s_l_fields) (defScope s_l_fields) .none kV28 dc28 pm28 an28 cd28 ct28), sl28⟩)
    (c28 : PySem.W.codeIn K cd28 "_law_fields" = true)
    (k28 : PySem.W.keepIn K (.ref f28) = true)
    (a29 : PySem.W.nsIn K mainGlobals "_law_case" = some (some (.ref f29)))
    (l29 : K.lookup f29 = some ⟨oc29, od29, .func (PySem.W.fnOf "_law_case" "_law_case" (defArgs s_l_case) (defBody s_l_case) (defScope s_l_case) .none kV29 dc29 pm29 an29 cd29 ct29), sl29⟩)
    (c29 : PySem.W.codeIn K cd29 "_law_case" = true)
    (k29 : PySem.W.keepIn K (.ref f29) = true)
    (a30 : PySem.W.nsIn K mainGlobals "_law_program" = some (some (.ref f30)))
    (l30 : K.lookup f30 = some ⟨oc30, od30, .func (PySem.W.fnOf "_law_program" "_law_program" (defArgs s_l_program) (defBody s_l_program) (defScope s_l_program) .none kV30 dc30 pm30 an30 cd30 ct30), sl30⟩)
    (c30 : PySem.W.codeIn K cd30 "_law_program" = true)
    (k30 : PySem.W.keepIn K (.ref f30) = true)
    (a31 : PySem.W.nsIn K mainGlobals "_law_value" = some (some (.ref f31)))
    (l31 : K.lookup f31 = some ⟨oc31, od31, .func (PySem.W.fnOf "_law_value" "_law_value" (defArgs s_l_value) (defBody s_l_value) (defScope s_l_value) .none kV31 dc31 pm31 an31 cd31 ct31), sl31⟩)
    (c31 : PySem.W.codeIn K cd31 "_law_value" = true)
    (k31 : PySem.W.keepIn K (.ref f31) = true)
    (a32 : PySem.W.nsIn K mainGlobals "_law_keys" = some (some (.ref f32)))
    (l32 : K.lookup f32 = some ⟨oc32, od32, .func (PySem.W.fnOf "_law_keys" "_law_keys" (defArgs s_l_keys) (defBody s_l_keys) (defScope s_l_keys) .none kV32 dc32 pm32 an32 cd32 ct32), sl32⟩)
    (c32 : PySem.W.codeIn K cd32 "_law_keys" = true)
    (k32 : PySem.W.keepIn K (.ref f32) = true)
    (a33 : PySem.W.nsIn K mainGlobals "_law_kinds" = some (some (.ref f33)))
    (l33 : K.lookup f33 = some ⟨oc33, od33, .func (PySem.W.fnOf "_law_kinds" "_law_kinds" (defArgs s_l_kinds) (defBody s_l_kinds) (defScope s_l_kinds) .none kV33 dc33 pm33 an33 cd33 ct33), sl33⟩)
    (c33 : PySem.W.codeIn K cd33 "_law_kinds" = true)
    (k33 : PySem.W.keepIn K (.ref f33) = true)
    (a34 : PySem.W.nsIn K mainGlobals "_law_book" = some (some (.ref f34)))
    (l34 : K.lookup f34 = some ⟨oc34, od34, .func (PySem.W.fnOf "_law_book" "_law_book" (defArgs s_l_book) (defBody s_l_book) (defScope s_l_book) .none kV34 dc34 pm34 an34 cd34 ct34), sl34⟩)
    (c34 : PySem.W.codeIn K cd34 "_law_book" = true)
    (k34 : PySem.W.keepIn K (.ref f34) = true)
    (a35 : PySem.W.nsIn K mainGlobals "_law_made" = some (some (.ref f35)))
    (l35 : K.lookup f35 = some ⟨oc35, od35, .func (PySem.W.fnOf "_law_made" "_law_made" (defArgs s_l_made) (defBody s_l_made) (defScope s_l_made) .none kV35 dc35 pm35 an35 cd35 ct35), sl35⟩)
    (c35 : PySem.W.codeIn K cd35 "_law_made" = true)
    (k35 : PySem.W.keepIn K (.ref f35) = true)
    (a36 : PySem.W.nsIn K mainGlobals "_law_values" = some (some (.ref f36)))
    (l36 : K.lookup f36 = some ⟨oc36, od36, .func (PySem.W.fnOf "_law_values" "_law_values" (defArgs s_l_values) (defBody s_l_values) (defScope s_l_values) .none kV36 dc36 pm36 an36 cd36 ct36), sl36⟩)
    (c36 : PySem.W.codeIn K cd36 "_law_values" = true)
    (k36 : PySem.W.keepIn K (.ref f36) = true)
    (a37 : PySem.W.nsIn K mainGlobals "_law_faces" = some (some (.ref f37)))
    (l37 : K.lookup f37 = some ⟨oc37, od37, .func (PySem.W.fnOf "_law_faces" "_law_faces" (defArgs s_l_faces) (defBody s_l_faces) (defScope s_l_faces) .none kV37 dc37 pm37 an37 cd37 ct37), sl37⟩)
    (c37 : PySem.W.codeIn K cd37 "_law_faces" = true)
    (k37 : PySem.W.keepIn K (.ref f37) = true)
    (a38 : PySem.W.nsIn K mainGlobals "law" = some (some (.ref f38)))
    (l38 : K.lookup f38 = some ⟨oc38, od38, .func (PySem.W.fnOf "law" "law" (defArgs s_law) (defBody s_law) (defScope s_law) .none kV38 dc38 pm38 an38 cd38 ct38), sl38⟩)
    (c38 : PySem.W.codeIn K cd38 "law" = true)
    (k38 : PySem.W.keepIn K (.ref f38) = true)
    (z_all : PySem.W.nsIn K mainGlobals "all" = some none)
    (z_dict : PySem.W.nsIn K mainGlobals "dict" = some none)
    (z_isinstance : PySem.W.nsIn K mainGlobals "isinstance" = some none)
    (z_len : PySem.W.nsIn K mainGlobals "len" = some none)
    (z_list : PySem.W.nsIn K mainGlobals "list" = some none)
    (z_max : PySem.W.nsIn K mainGlobals "max" = some none)
    (z_min : PySem.W.nsIn K mainGlobals "min" = some none)
    (z_range : PySem.W.nsIn K mainGlobals "range" = some none)
    (z_sorted : PySem.W.nsIn K mainGlobals "sorted" = some none)
    (z_tuple : PySem.W.nsIn K mainGlobals "tuple" = some none)
    (z_int : PySem.W.nsIn K mainGlobals "int" = some none)
    (z_zip : PySem.W.nsIn K mainGlobals "zip" = some none)
    (z_bool : PySem.W.nsIn K mainGlobals "bool" = some none)
    (z_str : PySem.W.nsIn K mainGlobals "str" = some none)
    (z_set : PySem.W.nsIn K mainGlobals "set" = some none)
    (z_enumerate : PySem.W.nsIn K mainGlobals "enumerate" = some none)
    (z_repr : PySem.W.nsIn K mainGlobals "repr" = some none)
    (v_LETTERS : PySem.W.nsIn K mainGlobals "LETTERS" = some (some (Value.str "abcdefghijklmnopqrstuvwxyz" t_LETTERS)))
    (v_LETTERS_AND_DIGITS : PySem.W.nsIn K mainGlobals "LETTERS_AND_DIGITS" = some (some (Value.str "abcdefghijklmnopqrstuvwxyz0123456789" t_LETTERS_AND_DIGITS)))
    (v_LONGEST : PySem.W.nsIn K mainGlobals "LONGEST" = some (some (Value.int 8 t_LONGEST)))
    (v_SIGNS : PySem.W.nsIn K mainGlobals "SIGNS" = some (some (.ref A_SIGNS)))
    (w_SIGNS : K.lookup A_SIGNS = some ⟨.type "tuple", od_SIGNS, .seq #[Value.str "=" t_SIGNS0, Value.str "!" t_SIGNS1, Value.str "<" t_SIGNS2, Value.str ">" t_SIGNS3] n_SIGNS, sl_SIGNS⟩)
    (v_NEXT : PySem.W.nsIn K mainGlobals "NEXT" = some (some (Value.str "+" t_NEXT)))
    (v_MOST_ITEMS : PySem.W.nsIn K mainGlobals "MOST_ITEMS" = some (some (Value.int 6 t_MOST_ITEMS)))
    (v_LEAST_OPTIONS : PySem.W.nsIn K mainGlobals "LEAST_OPTIONS" = some (some (Value.int 2 t_LEAST_OPTIONS)))
    (v_MOST_OPTIONS : PySem.W.nsIn K mainGlobals "MOST_OPTIONS" = some (some (Value.int 6 t_MOST_OPTIONS)))
    (v_MOST_FIELDS : PySem.W.nsIn K mainGlobals "MOST_FIELDS" = some (some (Value.int 3 t_MOST_FIELDS)))
    (v_MOST_VALUES : PySem.W.nsIn K mainGlobals "MOST_VALUES" = some (some (Value.int 24 t_MOST_VALUES)))
    (v_MOST_CASES : PySem.W.nsIn K mainGlobals "MOST_CASES" = some (some (Value.int 8 t_MOST_CASES)))
    (v_MOST_TIES : PySem.W.nsIn K mainGlobals "MOST_TIES" = some (some (Value.int 4 t_MOST_TIES)))
    (v_MOST_KINDS : PySem.W.nsIn K mainGlobals "MOST_KINDS" = some (some (Value.int 3 t_MOST_KINDS)))
    (v_DIRECTIONS : PySem.W.nsIn K mainGlobals "DIRECTIONS" = some (some (.ref A_DIRECTIONS)))
    (w_DIRECTIONS : K.lookup A_DIRECTIONS = some ⟨.type "tuple", od_DIRECTIONS, .seq #[Value.str "+" t_DIRECTIONS0, Value.str "-" t_DIRECTIONS1] n_DIRECTIONS, sl_DIRECTIONS⟩)
    (yC : PySem.W.nsIn K mainGlobals "Rulebook" = some (some (.ref xC)))
    (yL : K.lookup xC = some (excClassObj nmI qI xC NI bsI [.type "object"] hdI snI suI abI coI ddI m0 m1 m2 m3 m5 nwI))
    (yPg : PySem.W.plainGet K xC Str.empty = true)
    (yHd : PySem.W.hasDictIn K xC = true)
    (yPo : PySem.W.plainOver K xC = true)
    (ySa : PySem.W.findIn K (.ref xC) "__setattr__" = some (some (.builtin "object.__setattr__")))
    (yN1 : PySem.W.findIn K (.ref xC) "_fields" = some none)
    (yN2 : PySem.W.findIn K (.ref xC) "_ties" = some none)
    (yN3 : PySem.W.findIn K (.ref xC) "_kinds" = some none)
    (yHa : PySem.W.findIn K (.ref xC) "__class__" = some (some (.builtin "object.__class__")))
    (yHn : PySem.W.specialIn K (.builtin "object.__class__") "__get__" = some (some (.builtin "getset_descriptor.__get__")))
    (yHt : PySem.W.takesIn K (.builtin "object.__class__") = some true)
    (yHm : PySem.W.mroIn K xC (.type "object") = some true)
    (yK1 : PySem.W.kitOne K (.ref xC) (.ref xC) = some true)
    (yK2 : PySem.W.kitOne K (.type "tuple") (.ref xC) = some false)
    (yMk : PySem.W.makesIn K xC = true)
    (yKp : PySem.W.keepIn K (.ref xC) = true)
    (yE : PySem.W.subIn K (.type "tuple") (.ref xC) = some false)
    (A_ini : PySem.W.findIn K (.ref xC) "__init__" = some (some (.ref f_ini)))
    (L_ini : K.lookup f_ini = some ⟨oc_ini, od_ini, .func (PySem.W.fnOf "__init__" "Rulebook.__init__" (defArgs s_Rulebook__init) (defBody s_Rulebook__init) (defScope s_Rulebook__init) .none kV_ini dc_ini pm_ini an_ini (.ref cI) ct_ini), sl_ini⟩)
    (C_ini : PySem.W.codeIn K (.ref cI) "Rulebook.__init__" = true)
    (N_ini : PySem.W.isFn K (.ref f_ini) = true)
    (A_fields : PySem.W.findIn K (.ref xC) "fields" = some (some (.ref f_fields)))
    (L_fields : K.lookup f_fields = some ⟨oc_fields, od_fields, .func (PySem.W.fnOf "fields" "Rulebook.fields" (defArgs s_Rulebook_fields) (defBody s_Rulebook_fields) (defScope s_Rulebook_fields) .none kV_fields dc_fields pm_fields an_fields cd_fields ct_fields), sl_fields⟩)
    (C_fields : PySem.W.codeIn K cd_fields "Rulebook.fields" = true)
    (N_fields : PySem.W.isFn K (.ref f_fields) = true)
    (K_fields : PySem.W.keepIn K (.ref f_fields) = true)
    (A_ties : PySem.W.findIn K (.ref xC) "ties" = some (some (.ref f_ties)))
    (L_ties : K.lookup f_ties = some ⟨oc_ties, od_ties, .func (PySem.W.fnOf "ties" "Rulebook.ties" (defArgs s_Rulebook_ties) (defBody s_Rulebook_ties) (defScope s_Rulebook_ties) .none kV_ties dc_ties pm_ties an_ties cd_ties ct_ties), sl_ties⟩)
    (C_ties : PySem.W.codeIn K cd_ties "Rulebook.ties" = true)
    (N_ties : PySem.W.isFn K (.ref f_ties) = true)
    (K_ties : PySem.W.keepIn K (.ref f_ties) = true)
    (A_kinds : PySem.W.findIn K (.ref xC) "kinds" = some (some (.ref f_kinds)))
    (L_kinds : K.lookup f_kinds = some ⟨oc_kinds, od_kinds, .func (PySem.W.fnOf "kinds" "Rulebook.kinds" (defArgs s_Rulebook_kinds) (defBody s_Rulebook_kinds) (defScope s_Rulebook_kinds) .none kV_kinds dc_kinds pm_kinds an_kinds cd_kinds ct_kinds), sl_kinds⟩)
    (C_kinds : PySem.W.codeIn K cd_kinds "Rulebook.kinds" = true)
    (N_kinds : PySem.W.isFn K (.ref f_kinds) = true)
    (K_kinds : PySem.W.keepIn K (.ref f_kinds) = true)
    (A_tie_names : PySem.W.findIn K (.ref xC) "tie_names" = some (some (.ref f_tie_names)))
    (L_tie_names : K.lookup f_tie_names = some ⟨oc_tie_names, od_tie_names, .func (PySem.W.fnOf "tie_names" "Rulebook.tie_names" (defArgs s_Rulebook_tie_names) (defBody s_Rulebook_tie_names) (defScope s_Rulebook_tie_names) .none kV_tie_names dc_tie_names pm_tie_names an_tie_names cd_tie_names ct_tie_names), sl_tie_names⟩)
    (C_tie_names : PySem.W.codeIn K cd_tie_names "Rulebook.tie_names" = true)
    (N_tie_names : PySem.W.isFn K (.ref f_tie_names) = true)
    (K_tie_names : PySem.W.keepIn K (.ref f_tie_names) = true)
    (A_kind_names : PySem.W.findIn K (.ref xC) "kind_names" = some (some (.ref f_kind_names)))
    (L_kind_names : K.lookup f_kind_names = some ⟨oc_kind_names, od_kind_names, .func (PySem.W.fnOf "kind_names" "Rulebook.kind_names" (defArgs s_Rulebook_kind_names) (defBody s_Rulebook_kind_names) (defScope s_Rulebook_kind_names) .none kV_kind_names dc_kind_names pm_kind_names an_kind_names cd_kind_names ct_kind_names), sl_kind_names⟩)
    (C_kind_names : PySem.W.codeIn K cd_kind_names "Rulebook.kind_names" = true)
    (N_kind_names : PySem.W.isFn K (.ref f_kind_names) = true)
    (K_kind_names : PySem.W.keepIn K (.ref f_kind_names) = true)
    (A_all_values : PySem.W.findIn K (.ref xC) "all_values" = some (some (.ref f_all_values)))
    (L_all_values : K.lookup f_all_values = some ⟨oc_all_values, od_all_values, .func (PySem.W.fnOf "all_values" "Rulebook.all_values" (defArgs s_Rulebook_all_values) (defBody s_Rulebook_all_values) (defScope s_Rulebook_all_values) .none kV_all_values dc_all_values pm_all_values an_all_values cd_all_values ct_all_values), sl_all_values⟩)
    (C_all_values : PySem.W.codeIn K cd_all_values "Rulebook.all_values" = true)
    (N_all_values : PySem.W.isFn K (.ref f_all_values) = true)
    (K_all_values : PySem.W.keepIn K (.ref f_all_values) = true)
    (A_eq : PySem.W.findIn K (.ref xC) "__eq__" = some (some (.ref f_eq)))
    (L_eq : K.lookup f_eq = some ⟨(.type "function"), od_eq, .func (PySem.W.fnOf "__eq__" "Rulebook.__eq__" (defArgs s_Rulebook__eq) (defBody s_Rulebook__eq) (defScope s_Rulebook__eq) .none kV_eq dc_eq pm_eq an_eq cd_eq ct_eq), sl_eq⟩)
    (C_eq : PySem.W.codeIn K cd_eq "Rulebook.__eq__" = true)
    (N_eq : PySem.W.isFn K (.ref f_eq) = true)
    (K_eq : PySem.W.keepIn K (.ref f_eq) = true)
    (A_rp : PySem.W.findIn K (.ref xC) "__repr__" = some (some (.ref f_rp)))
    (L_rp : K.lookup f_rp = some ⟨oc_rp, od_rp, .func (PySem.W.fnOf "__repr__" "Rulebook.__repr__" (defArgs s_Rulebook__repr) (defBody s_Rulebook__repr) (defScope s_Rulebook__repr) .none kV_rp dc_rp pm_rp an_rp cd_rp ct_rp), sl_rp⟩)
    (C_rp : PySem.W.codeIn K cd_rp "Rulebook.__repr__" = true)
    (N_rp : PySem.W.isFn K (.ref f_rp) = true)
    (K_rp : PySem.W.keepIn K (.ref f_rp) = true)
    (yNs : nsB K NI f_eq = true)
    (yRd : PySem.W.readsIn K xC (.type "type") = true)
    (yGa : PySem.W.specialIn K (.ref xC) "__getattribute__" = some (some (.builtin "type.__getattribute__")))
    (yV0 : PySem.W.findCls K (.ref xC) (.type "type") "MAX_VALUES" = some (.val (.int 24 tv0)))
    (yV1 : PySem.W.findCls K (.ref xC) (.type "type") "MAX_TIES" = some (.val (.int 4 tv1)))
    (yV2 : PySem.W.findCls K (.ref xC) (.type "type") "MAX_KINDS" = some (.val (.int 3 tv2)))
    (uT : tabOfC K cI = some pI) (uH : PySem.W.codeHdIn K cI pI = true) (uN : K.lookup pI = none) (uE : h.get? pI = some (PySem.W.tabObj #[])) :
    LamX.LawAtS l w K CX0 16 63 "_law_script" mg fa h := by
  have e := hfa.symm.trans (PySem.W.mg_of X G a38)
  cases e
  have T : Top K mg := mkTop X G a0 l0 c0 k0 a1 l1 c1 k1 a2 l2 c2 k2 a3 l3 c3 k3 a4 l4 c4 k4 a5 l5 c5 k5 a6 l6 c6 k6 a7 l7 c7 k7 a8 l8 c8 k8 a9 l9 c9 k9 a10 l10 c10 k10 a11 l11 c11 k11 a12 l12 c12 k12 a13 l13 c13 k13 a14 l14 c14 k14 a15 l15 c15 k15 a16 l16 c16 k16 a17 l17 c17 k17 a18 l18 c18 k18 a19 l19 c19 k19 a20 l20 c20 k20 a21 l21 c21 k21 a22 l22 c22 k22 a23 l23 c23 k23 a24 l24 c24 k24 a25 l25 c25 k25 a26 l26 c26 k26 a27 l27 c27 k27 a28 l28 c28 k28 a29 l29 c29 k29 a30 l30 c30 k30 a31 l31 c31 k31 a32 l32 c32 k32 a33 l33 c33 k33 a34 l34 c34 k34 a35 l35 c35 k35 a36 l36 c36 k36 a37 l37 c37 k37 a38 l38 c38 k38 z_all z_dict z_isinstance z_len z_list z_max z_min z_range z_sorted z_tuple z_int z_zip z_bool z_str z_set z_enumerate z_repr v_LETTERS v_LETTERS_AND_DIGITS v_LONGEST v_SIGNS w_SIGNS v_NEXT v_MOST_ITEMS v_LEAST_OPTIONS v_MOST_OPTIONS v_MOST_FIELDS v_MOST_VALUES v_MOST_CASES v_MOST_TIES v_MOST_KINDS v_DIRECTIONS w_DIRECTIONS
  let R : RbC K mg := { C := xC, g := PySem.W.mg_of X G yC, cl := ⟨yPg, yHd, yPo, ySa⟩, n1 := yN1, n2 := yN2, n3 := yN3, ha := yHa, hn := yHn, ht := yHt, hm := yHm, k1 := yK1, k2 := yK2 }
  have M : RbM K mg R cI pI := {
    fI := f_ini, od := od_ini, an := an_ini, oc := oc_ini, kV := kV_ini, doc := dc_ini, pm := pm_ini, ct := ct_ini, osl := sl_ini, lk := L_ini, hcd := C_ini, mkr := ⟨yMk, A_ini, N_ini, yKp⟩,
    fields := ⟨f_fields, _, (fun_mk (st := s_Rulebook_fields) L_fields C_fields K_fields), ⟨A_fields, N_fields, K_fields⟩, (fun_mk (st := s_Rulebook_fields) L_fields C_fields K_fields).binds (ps := ["self"]) fun _ _ _ _ _ _ us hl => match us, hl with | [_], _ => rfl⟩,
    ties := ⟨f_ties, _, (fun_mk (st := s_Rulebook_ties) L_ties C_ties K_ties), ⟨A_ties, N_ties, K_ties⟩, (fun_mk (st := s_Rulebook_ties) L_ties C_ties K_ties).binds (ps := ["self"]) fun _ _ _ _ _ _ us hl => match us, hl with | [_], _ => rfl⟩,
    kinds := ⟨f_kinds, _, (fun_mk (st := s_Rulebook_kinds) L_kinds C_kinds K_kinds), ⟨A_kinds, N_kinds, K_kinds⟩, (fun_mk (st := s_Rulebook_kinds) L_kinds C_kinds K_kinds).binds (ps := ["self"]) fun _ _ _ _ _ _ us hl => match us, hl with | [_], _ => rfl⟩,
    tie_names := ⟨f_tie_names, _, (fun_mk (st := s_Rulebook_tie_names) L_tie_names C_tie_names K_tie_names), ⟨A_tie_names, N_tie_names, K_tie_names⟩, (fun_mk (st := s_Rulebook_tie_names) L_tie_names C_tie_names K_tie_names).binds (ps := ["self"]) fun _ _ _ _ _ _ us hl => match us, hl with | [_], _ => rfl⟩,
    kind_names := ⟨f_kind_names, _, (fun_mk (st := s_Rulebook_kind_names) L_kind_names C_kind_names K_kind_names), ⟨A_kind_names, N_kind_names, K_kind_names⟩, (fun_mk (st := s_Rulebook_kind_names) L_kind_names C_kind_names K_kind_names).binds (ps := ["self"]) fun _ _ _ _ _ _ us hl => match us, hl with | [_], _ => rfl⟩,
    all_values := ⟨f_all_values, _, (fun_mk (st := s_Rulebook_all_values) L_all_values C_all_values K_all_values), ⟨A_all_values, N_all_values, K_all_values⟩, (fun_mk (st := s_Rulebook_all_values) L_all_values C_all_values K_all_values).binds (ps := ["self"]) fun _ _ _ _ _ _ us hl => match us, hl with | [_], _ => rfl⟩,
    eq := ⟨f_eq, _, (fun_mk (st := s_Rulebook__eq) L_eq C_eq K_eq), ⟨A_eq, N_eq, K_eq⟩, (fun_mk (st := s_Rulebook__eq) L_eq C_eq K_eq).binds (ps := ["self", "other"]) fun _ _ _ _ _ _ us hl => match us, hl with | [_, _], _ => rfl⟩,
    rp := ⟨f_rp, _, (fun_mk (st := s_Rulebook__repr) L_rp C_rp K_rp), ⟨A_rp, N_rp, K_rp⟩, (fun_mk (st := s_Rulebook__repr) L_rp C_rp K_rp).binds (ps := ["self"]) fun _ _ _ _ _ _ us hl => match us, hl with | [_], _ => rfl⟩,
    eqT := yE, ne := ⟨⟨_, _, _, _, _, _, _, _, _, _, _, _, _, _, _, _, yL, yNs⟩, _, L_eq, rfl⟩, mc := _, cr := ⟨yRd, yGa⟩, u1 := _, u2 := _, u3 := _, v1 := ⟨yV0, ⟨_, rfl⟩⟩, v2 := ⟨yV1, ⟨_, rfl⟩⟩, v3 := ⟨yV2, ⟨_, rfl⟩⟩ }
  refine ⟨_, [(cI, pI)], spLaw5 K pI, fun p hp => ?_, fun p hp => ?_, fun p hp => ?_, fun s u => .of_eq rfl, fun H a ns hl _ hH hS => ⟨a, ns, rfl, hS, hl, TabS.nil (hH _ (List.mem_singleton.mpr rfl)), fun _ => rfl⟩, fun base _ _ hTB => ok_law T M (hTB _ (List.mem_singleton.mpr rfl)) (fun_mk (st := s_law) l38 c38 k38)⟩
  · rw [List.mem_singleton.mp hp]
    exact uE
  · rw [List.mem_singleton.mp hp]
    exact uN
  · rw [List.mem_singleton.mp hp]
    exact PySem.W.codeHd_of_K X uH
end Bh
open PySem PySem.W PyProof.Rows in
set_option maxRecDepth 100000 in
set_option maxHeartbeats 0 in
theorem PySem.Challenge.cw_bestheard_k05_rulebooks_made_holds : PySem.Challenge.rw_bestheard_k05_rulebooks_made.Holds := by
  w_on; o_law; k_head; (case hw => w_witness2)
  k_fill
  refine Bh.walkT (l := PySem.Challenge.rw_bestheard_k05_rulebooks_made) (n := 63) (k := 16) (CX := fun _ => L2.CX0) (x := "_law_script") rfl (by decide) rfl ⟨rfl, by decide, by decide⟩ ?F (fun _ _ _ _ _ z => z)
  case F =>
    intro w mg mb fa h tab G Y hmg
    refine ⟨_, PySem.W.km_in_of Y, ?_⟩
    refine' Bh.all_mk (PySem.W.km_in_of Y) G hmg ?a0 ?l0 ?c0 ?k0 ?a1 ?l1 ?c1 ?k1 ?a2 ?l2 ?c2 ?k2 ?a3 ?l3 ?c3 ?k3 ?a4 ?l4 ?c4 ?k4 ?a5 ?l5 ?c5 ?k5 ?a6 ?l6 ?c6 ?k6 ?a7 ?l7 ?c7 ?k7 ?a8 ?l8 ?c8 ?k8 ?a9 ?l9 ?c9 ?k9 ?a10 ?l10 ?c10 ?k10 ?a11 ?l11 ?c11 ?k11 ?a12 ?l12 ?c12 ?k12 ?a13 ?l13 ?c13 ?k13 ?a14 ?l14 ?c14 ?k14 ?a15 ?l15 ?c15 ?k15 ?a16 ?l16 ?c16 ?k16 ?a17 ?l17 ?c17 ?k17 ?a18 ?l18 ?c18 ?k18 ?a19 ?l19 ?c19 ?k19 ?a20 ?l20 ?c20 ?k20 ?a21 ?l21 ?c21 ?k21 ?a22 ?l22 ?c22 ?k22 ?a23 ?l23 ?c23 ?k23 ?a24 ?l24 ?c24 ?k24 ?a25 ?l25 ?c25 ?k25 ?a26 ?l26 ?c26 ?k26 ?a27 ?l27 ?c27 ?k27 ?a28 ?l28 ?c28 ?k28 ?a29 ?l29 ?c29 ?k29 ?a30 ?l30 ?c30 ?k30 ?a31 ?l31 ?c31 ?k31 ?a32 ?l32 ?c32 ?k32 ?a33 ?l33 ?c33 ?k33 ?a34 ?l34 ?c34 ?k34 ?a35 ?l35 ?c35 ?k35 ?a36 ?l36 ?c36 ?k36 ?a37 ?l37 ?c37 ?k37 ?a38 ?l38 ?c38 ?k38 ?z_all ?z_dict ?z_isinstance ?z_len ?z_list ?z_max ?z_min ?z_range ?z_sorted ?z_tuple ?z_int ?z_zip ?z_bool ?z_str ?z_set ?z_enumerate ?z_repr ?v_LETTERS ?v_LETTERS_AND_DIGITS ?v_LONGEST ?v_SIGNS ?w_SIGNS ?v_NEXT ?v_MOST_ITEMS ?v_LEAST_OPTIONS ?v_MOST_OPTIONS ?v_MOST_FIELDS ?v_MOST_VALUES ?v_MOST_CASES ?v_MOST_TIES ?v_MOST_KINDS ?v_DIRECTIONS ?w_DIRECTIONS ?yC ?yL ?yPg ?yHd ?yPo ?ySa ?yN1 ?yN2 ?yN3 ?yHa ?yHn ?yHt ?yHm ?yK1 ?yK2 ?yMk ?yKp ?yE ?A_ini ?L_ini ?C_ini ?N_ini ?A_fields ?L_fields ?C_fields ?N_fields ?K_fields ?A_ties ?L_ties ?C_ties ?N_ties ?K_ties ?A_kinds ?L_kinds ?C_kinds ?N_kinds ?K_kinds ?A_tie_names ?L_tie_names ?C_tie_names ?N_tie_names ?K_tie_names ?A_kind_names ?L_kind_names ?C_kind_names ?N_kind_names ?K_kind_names ?A_all_values ?L_all_values ?C_all_values ?N_all_values ?K_all_values ?A_eq ?L_eq ?C_eq ?N_eq ?K_eq ?A_rp ?L_rp ?C_rp ?N_rp ?K_rp ?yNs ?yRd ?yGa ?yV0 ?yV1 ?yV2 ?uT ?uH ?uN ?uE
    (case a0 => k_is)
    (case l0 => k_is)
    (case c0 => k_is)
    (case k0 => k_is)
    (case a1 => k_is)
    (case l1 => k_is)
    (case c1 => k_is)
    (case k1 => k_is)
    (case a2 => k_is)
    (case l2 => k_is)
    (case c2 => k_is)
    (case k2 => k_is)
    (case a3 => k_is)
    (case l3 => k_is)
    (case c3 => k_is)
    (case k3 => k_is)
    (case a4 => k_is)
    (case l4 => k_is)
    (case c4 => k_is)
    (case k4 => k_is)
    (case a5 => k_is)
    (case l5 => k_is)
    (case c5 => k_is)
    (case k5 => k_is)
    (case a6 => k_is)
    (case l6 => k_is)
    (case c6 => k_is)
    (case k6 => k_is)
    (case a7 => k_is)
    (case l7 => k_is)
    (case c7 => k_is)
    (case k7 => k_is)
    (case a8 => k_is)
    (case l8 => k_is)
    (case c8 => k_is)
    (case k8 => k_is)
    (case a9 => k_is)
    (case l9 => k_is)
    (case c9 => k_is)
    (case k9 => k_is)
    (case a10 => k_is)
    (case l10 => k_is)
    (case c10 => k_is)
    (case k10 => k_is)
    (case a11 => k_is)
    (case l11 => k_is)
    (case c11 => k_is)
    (case k11 => k_is)
    (case a12 => k_is)
    (case l12 => k_is)
    (case c12 => k_is)
    (case k12 => k_is)
    (case a13 => k_is)
    (case l13 => k_is)
    (case c13 => k_is)
    (case k13 => k_is)
    (case a14 => k_is)
    (case l14 => k_is)
    (case c14 => k_is)
    (case k14 => k_is)
    (case a15 => k_is)
    (case l15 => k_is)
    (case c15 => k_is)
    (case k15 => k_is)
    (case a16 => k_is)
    (case l16 => k_is)
    (case c16 => k_is)
    (case k16 => k_is)
    (case a17 => k_is)
    (case l17 => k_is)
    (case c17 => k_is)
    (case k17 => k_is)
    (case a18 => k_is)
    (case l18 => k_is)
    (case c18 => k_is)
    (case k18 => k_is)
    (case a19 => k_is)
    (case l19 => k_is)
    (case c19 => k_is)
    (case k19 => k_is)
    (case a20 => k_is)
    (case l20 => k_is)
    (case c20 => k_is)
    (case k20 => k_is)
    (case a21 => k_is)
    (case l21 => k_is)
    (case c21 => k_is)
    (case k21 => k_is)
    (case a22 => k_is)
    (case l22 => k_is)
    (case c22 => k_is)
    (case k22 => k_is)
    (case a23 => k_is)
    (case l23 => k_is)
    (case c23 => k_is)
    (case k23 => k_is)
    (case a24 => k_is)
    (case l24 => k_is)
    (case c24 => k_is)
    (case k24 => k_is)
    (case a25 => k_is)
    (case l25 => k_is)
    (case c25 => k_is)
    (case k25 => k_is)
    (case a26 => k_is)
    (case l26 => k_is)
    (case c26 => k_is)
    (case k26 => k_is)
    (case a27 => k_is)
    (case l27 => k_is)
    (case c27 => k_is)
    (case k27 => k_is)
    (case a28 => k_is)
    (case l28 => k_is)
    (case c28 => k_is)
    (case k28 => k_is)
    (case a29 => k_is)
    (case l29 => k_is)
    (case c29 => k_is)
    (case k29 => k_is)
    (case a30 => k_is)
    (case l30 => k_is)
    (case c30 => k_is)
    (case k30 => k_is)
    (case a31 => k_is)
    (case l31 => k_is)
    (case c31 => k_is)
    (case k31 => k_is)
    (case a32 => k_is)
    (case l32 => k_is)
    (case c32 => k_is)
    (case k32 => k_is)
    (case a33 => k_is)
    (case l33 => k_is)
    (case c33 => k_is)
    (case k33 => k_is)
    (case a34 => k_is)
    (case l34 => k_is)
    (case c34 => k_is)
    (case k34 => k_is)
    (case a35 => k_is)
    (case l35 => k_is)
    (case c35 => k_is)
    (case k35 => k_is)
    (case a36 => k_is)
    (case l36 => k_is)
    (case c36 => k_is)
    (case k36 => k_is)
    (case a37 => k_is)
    (case l37 => k_is)
    (case c37 => k_is)
    (case k37 => k_is)
    (case a38 => k_is)
    (case l38 => k_is)
    (case c38 => k_is)
    (case k38 => k_is)
    (case z_all => k_is)
    (case z_dict => k_is)
    (case z_isinstance => k_is)
    (case z_len => k_is)
    (case z_list => k_is)
    (case z_max => k_is)
    (case z_min => k_is)
    (case z_range => k_is)
    (case z_sorted => k_is)
    (case z_tuple => k_is)
    (case z_int => k_is)
    (case z_zip => k_is)
    (case z_bool => k_is)
    (case z_str => k_is)
    (case z_set => k_is)
    (case z_enumerate => k_is)
    (case z_repr => k_is)
    (case v_LETTERS => k_is)
    (case v_LETTERS_AND_DIGITS => k_is)
    (case v_LONGEST => k_is)
    (case v_SIGNS => k_is)
    (case w_SIGNS => k_is)
    (case v_NEXT => k_is)
    (case v_MOST_ITEMS => k_is)
    (case v_LEAST_OPTIONS => k_is)
    (case v_MOST_OPTIONS => k_is)
    (case v_MOST_FIELDS => k_is)
    (case v_MOST_VALUES => k_is)
    (case v_MOST_CASES => k_is)
    (case v_MOST_TIES => k_is)
    (case v_MOST_KINDS => k_is)
    (case v_DIRECTIONS => k_is)
    (case w_DIRECTIONS => k_is)
    (case yC => k_is)
    (case yL => k_is)
    (case yPg => first | k_is | kernel_rfl | rfl | decide +kernel)
    (case yHd => first | k_is | kernel_rfl | rfl | decide +kernel)
    (case yPo => first | k_is | kernel_rfl | rfl | decide +kernel)
    (case ySa => k_is)
    (case yN1 => k_is)
    (case yN2 => k_is)
    (case yN3 => k_is)
    (case yHa => k_is)
    (case yHn => first | k_is | kernel_rfl | rfl | decide +kernel)
    (case yHt => first | k_is | kernel_rfl | rfl | decide +kernel)
    (case yHm => first | k_is | kernel_rfl | rfl | decide +kernel)
    (case yK1 => first | k_is | kernel_rfl | rfl | decide +kernel)
    (case yK2 => first | k_is | kernel_rfl | rfl | decide +kernel)
    (case yMk => first | k_is | kernel_rfl | rfl | decide +kernel)
    (case yKp => first | k_is | kernel_rfl | rfl | decide +kernel)
    (case yE => first | k_is | kernel_rfl | rfl | decide +kernel)
    (case A_ini => k_is)
    (case L_ini => k_is)
    (case C_ini => k_is)
    (case N_ini => k_is)
    (case A_fields => k_is)
    (case L_fields => k_is)
    (case C_fields => k_is)
    (case N_fields => k_is)
    (case K_fields => k_is)
    (case A_ties => k_is)
    (case L_ties => k_is)
    (case C_ties => k_is)
    (case N_ties => k_is)
    (case K_ties => k_is)
    (case A_kinds => k_is)
    (case L_kinds => k_is)
    (case C_kinds => k_is)
    (case N_kinds => k_is)
    (case K_kinds => k_is)
    (case A_tie_names => k_is)
    (case L_tie_names => k_is)
    (case C_tie_names => k_is)
    (case N_tie_names => k_is)
    (case K_tie_names => k_is)
    (case A_kind_names => k_is)
    (case L_kind_names => k_is)
    (case C_kind_names => k_is)
    (case N_kind_names => k_is)
    (case K_kind_names => k_is)
    (case A_all_values => k_is)
    (case L_all_values => k_is)
    (case C_all_values => k_is)
    (case N_all_values => k_is)
    (case K_all_values => k_is)
    (case A_eq => k_is)
    (case L_eq => k_is)
    (case C_eq => k_is)
    (case N_eq => k_is)
    (case K_eq => k_is)
    (case A_rp => k_is)
    (case L_rp => k_is)
    (case C_rp => k_is)
    (case N_rp => k_is)
    (case K_rp => k_is)
    (case yNs => first | kernel_rfl | rfl | decide +kernel)
    (case yRd => first | k_is | kernel_rfl | rfl | decide +kernel)
    (case yGa => first | k_is | kernel_rfl | rfl | decide +kernel)
    (case yV0 => k_is)
    (case yV1 => k_is)
    (case yV2 => k_is)
    (case uT => with_unfolding_all rfl)
    (case uH => first | kernel_rfl | rfl)
    (case uN => first | k_is | kernel_rfl | rfl)
    (case uE => exact PySem.W.km_tabs_of Y _ (by k_mem))
