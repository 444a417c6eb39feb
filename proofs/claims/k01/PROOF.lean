import PyProof.Rows.All
import Wide.All
import OpenK.AllK
import Wide.FinOn
import HandS.ForMost
import HandS.Walk
import HandS.IsInst
import HandS.Deep
import HandS.Defaults
import HandS.Evl
import HandS.Steps
import HandS.More
import HandS.Zip
import HandS.Strs
import HandS.TupAny
import HandS.TupMul
import HandS.StrMore
import HandS.Style
import KE.DataEq
import HandS.ExcField
import HandS.ExcInit
import HandS.ExcIs
import KE.KTryMore
import KE.KExcIs
import KE.KExcInit
import HandS.HotCalls
import HandS.Lambda
import HandS.EndTab
import PySem.Challenge.RW_bestheard_k01_errors_by_themselves
import HandS.MakeKwOnly
set_option Elab.async false
set_option linter.all false
set_option maxRecDepth 100000
namespace Bh
open PySem PySem.Spec PyProof.Rows L2
/-! ### what the laws of this set have in common: constants, defs of the top, the drawing bag -/
section
variable {X : Cx} {x z : Str} {i : Int} {a : Addr} {pos : Pos}
theorem pe_gS (hg : Gl X x) (hm : ∃ t, X.mg x = some (.str z t)) (hd : (x == ("__debug__" : Str)) = false := by decide) : PE X (.Name x pos) (tC (.str z)) := by
  obtain ⟨t, hm⟩ := hm
  exact pe_glob hg hm ⟨t, rfl⟩ hd
theorem pe_gI (hg : Gl X x) (hm : ∃ t, X.mg x = some (.int i t)) (hd : (x == ("__debug__" : Str)) = false := by decide) : PE X (.Name x pos) (tC (.int i)) := by
  obtain ⟨t, hm⟩ := hm
  exact pe_glob hg hm ⟨t, rfl⟩ hd
theorem pe_gR (hg : Gl X x) (hm : X.mg x = some (.ref a)) (hd : (x == ("__debug__" : Str)) = false := by decide) : PE X (.Name x pos) (tC (.ref a)) :=
  pe_glob hg hm rfl hd
end
theorem pe_tyN {X : Cx} {x : Str} {pos : Pos} (n : String) (hg : Gl X x) (hm : X.mg x = none) (hv : bootBuiltins x = some (.type n)) (hnn : x ≠ "__name__" := by decide) (hdb : (x == ("__debug__" : Str)) = false := by decide) : PE X (.Name x pos) (tC (.ty n)) := pe_bltn hg hm hv rfl hnn hdb
/-- a def of the top: where it stands, what its name holds, how it binds -/
structure Df (K : PySem.W.Frag) (mg : Str → Option Value) (x : Str) (st : Stmt) (ps : List Str) (f : Addr) (fd : FuncData) : Prop where
  F : Fun K x x st f fd
  g : mg x = some (.ref f)
  b : Binds K fd ps []
theorem Df.kp {K : PySem.W.Frag} {mg : Str → Option Value} {x : Str} {st : Stmt} {ps : List Str} {f : Addr} {fd : FuncData} (d : Df K mg x st ps f fd) : PySem.W.keepIn K (.ref f) = true := d.F.kp
theorem same_new {H : Hp} {p : Addr} {o : HO} (h : H p = none) : Same H (upd H p o) := fun b u e => by
  rw [upd_ne (ne_of_none e h)]
  exact e
theorem Same.tup {K : PySem.W.Frag} {H H' : Hp} {a : Addr} {xs : List V} (e : Same H H') (h : SqT K H a xs) : SqT K H' a xs := by
  rcases h with (h | ⟨o, h⟩) | h
  · exact .inl (.inl (e _ _ h))
  · exact .inl (.inr ⟨o, e _ _ h⟩)
  · exact .inr h
/-- the bag of a law: the script's ints at l, how many are taken, what is left of a great one, the seed -/
def BagAt (b l : Addr) (H : Hp) : Prop := ∃ (ns : List Int) (i c s : Int), H b = some (.lst [.ref l, .int i, .int c, .int s]) ∧ H l = some (.lst (ns.map V.int)) ∧ ns.length ≤ 63 ∧ 0 ≤ i ∧ i ≤ (ns.length : Int) ∧ 0 ≤ c ∧ 0 ≤ s ∧ s < 2147483647
/-- G: all that is known apart from the bag at b, l -/
structure Wd (b l : Addr) (G H : Hp) : Prop where
  nb : G b = none
  nl : G l = none
  sm : Same G H
  bag : BagAt b l H
section
variable {b l p q : Addr} {G G' H H' : Hp} {o o' : HO}
theorem BagAt.b_some (h : BagAt b l H) : ∃ o, H b = some o := by
  obtain ⟨_, _, _, _, h, _⟩ := h
  exact ⟨_, h⟩
theorem BagAt.l_some (h : BagAt b l H) : ∃ o, H l = some o := by
  obtain ⟨_, _, _, _, _, h, _⟩ := h
  exact ⟨_, h⟩
theorem BagAt.same (h : BagAt b l H) (e : Same H H') : BagAt b l H' := by
  obtain ⟨ns, i, c, s, h1, h2, r⟩ := h
  exact ⟨ns, i, c, s, e _ _ h1, e _ _ h2, r⟩
theorem Wd.b_ne (w : Wd b l G H) (hp : H p = none) : p ≠ b := fun z => by
  obtain ⟨o, e⟩ := w.bag.b_some
  rw [← z, hp] at e
  cases e
theorem Wd.l_ne (w : Wd b l G H) (hp : H p = none) : p ≠ l := fun z => by
  obtain ⟨o, e⟩ := w.bag.l_some
  rw [← z, hp] at e
  cases e
theorem Wd.same (w : Wd b l G H) (e : Same H H') : Wd b l G H' := ⟨w.nb, w.nl, w.sm.trans e, w.bag.same e⟩
/-- a new object -/
theorem Wd.new (w : Wd b l G H) (hp : H p = none) : Wd b l (upd G p o) (upd H p o) := by
  refine ⟨?_, ?_, fun a u e => ?_, w.bag.same (same_new hp)⟩
  · rw [upd_ne (w.b_ne hp).symm]
    exact w.nb
  · rw [upd_ne (w.l_ne hp).symm]
    exact w.nl
  · by_cases h : a = p
    · rw [h, upd_same] at e ⊢
      exact e
    · rw [upd_ne h] at e ⊢
      exact w.sm _ _ e
theorem Wd.free (w : Wd b l G H) (hp : H p = none) : G p = none := w.sm.free hp
theorem Wd.sameG (w : Wd b l G H) (hp : H p = none) : Same G (upd G p o) := same_new (w.free hp)
/-- an object that is known changes -/
theorem Wd.mut (w : Wd b l G H) (hq : G q = some o) : Wd b l (upd G q o') (upd H q o') := by
  have nb : q ≠ b := fun z => by
    rw [z, w.nb] at hq
    cases hq
  have nl : q ≠ l := fun z => by
    rw [z, w.nl] at hq
    cases hq
  obtain ⟨ns, i, c, s, h1, h2, r⟩ := w.bag
  refine ⟨?_, ?_, fun a u e => ?_, ns, i, c, s, ?_, ?_, r⟩
  · rw [upd_ne nb.symm]
    exact w.nb
  · rw [upd_ne nl.symm]
    exact w.nl
  · by_cases h : a = q
    · rw [h, upd_same] at e ⊢
      exact e
    · rw [upd_ne h] at e ⊢
      exact w.sm _ _ e
  · rw [upd_ne nb.symm]
    exact h1
  · rw [upd_ne nl.symm]
    exact h2
/-- what a def leaves that knows nothing of the bag: G' has more, new things -/
theorem Wd.grow (w : Wd b l G H) (e : Same H H') (g : Same G' H') (n : ∀ a o, G' a = some o → G a = none → H a = none) : Wd b l G' H' := by
  have key : ∀ a, G a = none → (∃ o, H a = some o) → G' a = none := fun a ha ⟨o, ho⟩ => by
    cases q : G' a with
    | none => rfl
    | some u =>
      have z := n a u q ha
      rw [ho] at z
      cases z
  exact ⟨key _ w.nb w.bag.b_some, key _ w.nl w.bag.l_some, g, w.bag.same e⟩
/-- the bag alone changes -/
theorem Wd.bagged (w : Wd b l G H) (h : BagAt b l (upd H b o)) : Wd b l G (upd H b o) := by
  refine ⟨w.nb, w.nl, fun a u e => ?_, h⟩
  rw [upd_ne (ne_of_none e w.nb)]
  exact w.sm _ _ e
end
theorem p31 : (0 : Int) < 2147483647 := by decide
theorem p8117 : (0 : Int) < 8117 := by decide
/-! ### the promises of the bag's defs -/
def spBag (K : PySem.W.Frag) : Sp := fun vs H Q _ => ∃ (a : Addr) (ns : List Int), vs = [.ref a] ∧ SqL K H a (ns.map V.int) ∧ ns.length ≤ 63 ∧ ∀ (b l : Addr) (H' : Hp), H b = none → H l = none → Same H H' → BagAt b l H' → Q (.ref b) H'
def spDraw : Sp := fun vs H Q _ => ∃ (b l : Addr) (G : Hp) (n : Int), vs = [.ref b, .int n] ∧ 0 < n ∧ n < 1073741824 ∧ Wd b l G H ∧ ∀ (r : Int) (H' : Hp), 0 ≤ r → r < n → Wd b l G H' → Q (.int r) H'
/-- the same, by what any def that draws may lean on -/
theorem wd_start {b l : Addr} {H H' : Hp} (hb : H b = none) (hl : H l = none) (e : Same H H') (h : BagAt b l H') : Wd b l H H' := ⟨hb, hl, e, h⟩
theorem get_map {ns : List Int} {i : Nat} {v : V} (h : (ns.map V.int)[i]? = some v) : ∃ z, ns[i]? = some z ∧ v = .int z := by
  rw [List.getElem?_map] at h
  cases e : ns[i]? with
  | none =>
    rw [e] at h
    cases h
  | some z =>
    rw [e] at h
    exact ⟨z, rfl, (Option.some.inj h).symm⟩
theorem at_nn {α : Type} {xs : List α} {i : Int} {v : α} (h0 : 0 ≤ i) (h : xs[i.toNat]? = some v) : atI xs i = some v := by
  have e : i = ((i.toNat : Nat) : Int) := by omega
  rw [e]
  exact atI_nat h
theorem at_lt {α : Type} {xs : List α} {i : Int} (h0 : 0 ≤ i) (h1 : i < (xs.length : Int)) : ∃ v, atI xs i = some v ∧ v ∈ xs := by
  have h : i.toNat < xs.length := by omega
  exact ⟨xs[i.toNat], at_nn h0 (List.getElem?_eq_getElem h), List.getElem_mem h⟩
end Bh

set_option Elab.async false
set_option linter.all false
set_option maxRecDepth 100000
namespace Bh
open PySem PySem.Spec PyProof.Rows L2
/-! ### one of two rules -/
section
variable {X : Cx}
theorem pe_or {e : Expr} {t u : TE} (h1 : PE X e t) (h2 : PE X e u) : PE X e (fun σ H Q => t σ H Q ∨ u σ H Q) :=
  ⟨fun pins s σ H Q I h => h.elim (h1.run pins s σ H Q I) (h2.run pins s σ H Q I)⟩
theorem pi_or {tg it : Expr} {w v : TI} (h1 : PI X tg it w) (h2 : PI X tg it v) : PI X tg it (fun σ H R => w σ H R ∨ v σ H R) :=
  ⟨fun pins s σ H R I h => h.elim (h1.run pins s σ H R I) (h2.run pins s σ H R I)⟩
/-- a list or a tuple -/
theorem pi_seq {tg l : Expr} {tl : TE} (hl : PE X l tl) : PI X tg l (fun σ H R => iList X.K tl σ H R ∨ iTup X.K tl σ H R) := pi_or (pi_list hl) (pi_tup hl)
/-- f(k = v, ..) -/
theorem pe_callN0 {CX : CXT} {k : Nat} {f : Addr} {fd : FuncData} {ps ks : List Str} {sp : Sp} {E : XK} {x : Str} {p pos : Pos} {kws : List Keyword} {tk : TA} {g : List Value → List Value → List Value} {gV : List V → List V → List V}
    (F : FnOk X.prog X.w X.K X.mg X.base CX k f fd ps sp) (hr : Room k X.A) (hg : Gl X x) (hm : X.mg x = some (.ref f)) (hk : PySem.W.keepIn X.K (.ref f) = true) (hb : KBn X.K fd ps 0 ks g gV) (hx : Passes CX X E)
    (hkw : PK X kws tk) (hall : (backToKw pos (keywordEach kws X.env)).all (·.1.isSome) = true := by rfl) (hks : (backToKw pos (keywordEach kws X.env)).filterMap (·.1) = ks := by rfl)
    (hdb : (x == ("__debug__" : Str)) = false := by decide) (hpl : ((backTo pos (starEach [] X.env)).any (·.1) || (backToKw pos (keywordEach kws X.env)).any (·.1.isNone)) = false := by rfl) :
    PE X (.Call (.Name x p) [] kws pos) (tCallN 0 ks.length sp gV E tNil tk) := by
  refine ⟨fun pins s σ H Q I h => ?_⟩
  refine wpAny_Call_Name_kw (ld_glob I hg hm ?_ hdb)
  refine PySem.W.callWith_KW0 (h₀ := X.base) I.ok.mod.kin hk hall ?_ hpl
  refine thn (hkw.run pos pins s σ H _ I h) fun ws s2 ⟨zs, H2, I2, rz, l1, l2, q2⟩ => ⟨I2.kIn, ?_⟩
  rw [hks]
  exact run_fnN (us := []) (vs := []) F hr hb hx I2 .nil rz rfl l2 q2
end
/-! ### data of any depth -/
section
variable {K : PySem.W.Frag} {H H' : Hp} {v x y : V} {xs ys : List V} {d e : PyData} {ds es : List PyData} {a : Addr}
mutual
theorem Dp.mono (g : Same H H') : ∀ {v : V} {d : PyData}, Dp K H v d → Dp K H' v d
  | _, _, .non => .non
  | _, _, .bl b => .bl b
  | _, _, .int i => .int i
  | _, _, .str x => .str x
  | _, _, .lst h all => .lst (g.seq h) (DpAll.mono g all)
  | _, _, .tup h all => .tup (Same.tup g h) (DpAll.mono g all)
theorem DpAll.mono (g : Same H H') : ∀ {vs : List V} {ds : List PyData}, DpAll K H vs ds → DpAll K H' vs ds
  | _, _, .nil => .nil
  | _, _, .cons h t => .cons (Dp.mono g h) (DpAll.mono g t)
end
theorem DpAll.length : ∀ {xs : List V} {ds : List PyData}, DpAll K H xs ds → xs.length = ds.length
  | _, _, .nil => rfl
  | _, _, .cons _ t => congrArg Nat.succ (DpAll.length t)
theorem DpAll.get : ∀ {xs : List V} {ds : List PyData} {i : Nat} {x : V}, DpAll K H xs ds → xs[i]? = some x → ∃ d, ds[i]? = some d ∧ Dp K H x d
  | _, _, _, _, .nil, e => by simp at e
  | _, _, 0, _, .cons h _, e => by
    simp at e
    subst e
    exact ⟨_, rfl, h⟩
  | _, _, i + 1, x, .cons _ t, e => by
    obtain ⟨d, h1, h2⟩ := DpAll.get (i := i) (x := x) t (by simpa using e)
    exact ⟨d, by simpa using h1, h2⟩
theorem DpAll.getD : ∀ {xs : List V} {ds : List PyData} {i : Nat} {d : PyData}, DpAll K H xs ds → ds[i]? = some d → ∃ x, xs[i]? = some x ∧ Dp K H x d
  | _, _, _, _, .nil, e => by simp at e
  | _, _, 0, _, .cons h _, e => by
    simp at e
    subst e
    exact ⟨_, rfl, h⟩
  | _, _, i + 1, x, .cons _ t, e => by
    obtain ⟨d, h1, h2⟩ := DpAll.getD (i := i) (d := x) t (by simpa using e)
    exact ⟨d, by simpa using h1, h2⟩
theorem DpAll.append : ∀ {xs ys : List V} {ds es : List PyData}, DpAll K H xs ds → DpAll K H ys es → DpAll K H (xs ++ ys) (ds ++ es)
  | _, _, _, _, .nil, k => k
  | _, _, _, _, .cons h t, k => .cons h (DpAll.append t k)
theorem DpAll.take : ∀ {xs : List V} {ds : List PyData} (n : Nat), DpAll K H xs ds → DpAll K H (xs.take n) (ds.take n)
  | _, _, 0, _ => .nil
  | _, _, _ + 1, .nil => .nil
  | _, _, n + 1, .cons h t => .cons h (DpAll.take n t)
theorem DpAll.drop : ∀ {xs : List V} {ds : List PyData} (n : Nat), DpAll K H xs ds → DpAll K H (xs.drop n) (ds.drop n)
  | _, _, 0, h => h
  | _, _, _ + 1, .nil => .nil
  | _, _, n + 1, .cons _ t => DpAll.drop n t
theorem dp_strs : ∀ {xs : List V} {zs : List Str}, DpAll K H xs (zs.map PyData.str) → xs = zs.map V.str
  | _, [], .nil => rfl
  | _, z :: zs, .cons h t => by
    cases h
    rw [dp_strs t]
    rfl
theorem strs_dp : ∀ (zs : List Str), DpAll K H (zs.map V.str) (zs.map PyData.str)
  | [] => .nil
  | z :: zs => .cons (.str z) (strs_dp zs)
theorem dp_str {z : Str} (h : Dp K H v (.str z)) : v = .str z := by
  cases h
  rfl
theorem dp_non (h : Dp K H v .none) : v = .non := by
  cases h
  rfl
theorem dp_tup (h : Dp K H v (.tuple ds)) : ∃ a xs, v = .ref a ∧ SqT K H a xs ∧ DpAll K H xs ds := by
  cases h with
  | tup h1 h2 => exact ⟨_, _, rfl, h1, h2⟩
theorem dp_lst (h : Dp K H v (.list ds)) : ∃ a xs, v = .ref a ∧ SqL K H a xs ∧ DpAll K H xs ds := by
  cases h with
  | lst h1 h2 => exact ⟨_, _, rfl, h1, h2⟩
theorem dpa_cons (h : DpAll K H xs (d :: ds)) : ∃ x r, xs = x :: r ∧ Dp K H x d ∧ DpAll K H r ds := by
  cases h with
  | cons h1 h2 => exact ⟨_, _, rfl, h1, h2⟩
theorem dpa_nil (h : DpAll K H xs []) : xs = [] := by
  cases h
  rfl
/-- a list or a tuple of these -/
def DpS (K : PySem.W.Frag) (H : Hp) (v : V) (ds : List PyData) : Prop := ∃ a xs, v = .ref a ∧ (SqL K H a xs ∨ SqT K H a xs) ∧ DpAll K H xs ds
theorem DpS.mono (g : Same H H') (h : DpS K H v ds) : DpS K H' v ds := by
  obtain ⟨a, xs, e, h1, h2⟩ := h
  exact ⟨a, xs, e, h1.imp g.seq (Same.tup g), DpAll.mono g h2⟩
theorem DpS.ofT (h : Dp K H v (.tuple ds)) : DpS K H v ds := by
  obtain ⟨a, xs, e, h1, h2⟩ := dp_tup h
  exact ⟨a, xs, e, .inr h1, h2⟩
theorem DpS.ofL (h : Dp K H v (.list ds)) : DpS K H v ds := by
  obtain ⟨a, xs, e, h1, h2⟩ := dp_lst h
  exact ⟨a, xs, e, .inl h1, h2⟩
/-- how deep data are -/
inductive Sh : Nat → PyData → Prop
  | non {n : Nat} : Sh n .none
  | bl {n : Nat} {b : Bool} : Sh n (.bool b)
  | int {n : Nat} {i : Int} : Sh n (.int i)
  | str {n : Nat} {z : Str} : Sh n (.str z)
  | lst {n : Nat} {ds : List PyData} (hl : ds.length ≤ 100000) (h : ∀ d ∈ ds, Sh n d) : Sh (n + 1) (.list ds)
  | tup {n : Nat} {ds : List PyData} (hl : ds.length ≤ 100000) (h : ∀ d ∈ ds, Sh n d) : Sh (n + 1) (.tuple ds)
theorem tyL (h : SqL K H a xs) : TyX K H (.ref a) (.type "list") := by
  rcases h with (h | ⟨o, h⟩) | ⟨o, its, n, h1, h2, _⟩
  · exact .base (.lst h)
  · exact .base (.frz h)
  · exact .kList h1 h2
theorem tyT (h : SqT K H a xs) : TyX K H (.ref a) (.type "tuple") := by
  rcases h with (h | ⟨o, h⟩) | ⟨o, its, n, h1, h2, _⟩
  · exact .base (.tup h)
  · exact .fTuple h
  · exact .kTuple h1 h2
/-- the type of data, by its name -/
def tyN : PyData → String
  | .none => "NoneType"
  | .bool _ => "bool"
  | .int _ => "int"
  | .str _ => "str"
  | .list _ => "list"
  | .tuple _ => "tuple"
  | .dict _ => "dict"
theorem tyD (h : Dp K H v d) : TyX K H v (.type (tyN d)) := by
  cases h with
  | non => exact .base .non
  | bl b => exact .base (.bl b)
  | int i => exact .base (.int i)
  | str x => exact .base (.str x)
  | lst h1 h2 => exact tyL h1
  | tup h1 h2 => exact tyT h1
end
/-! ### zip of two tuples, as a walk -/
theorem walk_zipT {K : PySem.W.Frag} {a b : Addr} {xs ys : List V} {n : Nat} (hn : n = min xs.length ys.length) : Walk (RZ.ItzT K a b) n (fun H => SqT K H a xs ∧ SqT K H b ys) (YPair (fun i => xs[i]?) (fun i => ys[i]?)) := by
  subst hn
  refine ⟨fun i _ hi q => ?_, fun _ q => ⟨xs, ys, q.1, q.2, by omega⟩, fun i H v H' _ q y => ?_⟩
  · have h1 : i < xs.length := by omega
    have h2 : i < ys.length := by omega
    exact ⟨xs, ys, xs[i], ys[i], q.1, q.2, by simp [h1], by simp [h2]⟩
  · obtain ⟨T, x, z, h1, h2, h3, h4, h5⟩ := y
    exact ⟨T, x, z, h1, h2, h3, h4 xs q.1, h5 ys q.2⟩
end Bh
namespace Bh
open PySem PySem.Spec PyProof.Rows L2
theorem iteN {p A B : Prop} [Decidable p] (h : ¬ p) (b : B) : if decide p = true then A else B := by
  rw [decide_eq_false h]
  exact iteF b
theorem iteY {p A B : Prop} [Decidable p] (h : p) (a : A) : if decide p = true then A else B := by
  rw [decide_eq_true h]
  exact iteT a
theorem ite3 {p A B : Prop} [Decidable p] (h1 : p → A) (h2 : ¬ p → B) : if decide p = true then A else B := by
  by_cases h : p
  · exact iteY h (h1 h)
  · exact iteN h (h2 h)
/-- the promise of the laws' comparison: both sides are the same data (n: how deep, one more) -/
def spLk (K : PySem.W.Frag) : Nat → Sp
  | 0 => fun _ _ _ _ => False
  | n + 1 => fun vs H Q _ => ∃ (x y : V) (d : PyData), vs = [x, y] ∧ Dp K H x d ∧ Dp K H y d ∧ Sh n d ∧ ∀ H', Same H H' → Q (.bl true) H'
theorem bls_true (n : Nat) : (List.replicate n true).all id = true := by
  induction n with
  | zero => rfl
  | succ n ih => rw [List.replicate_succ, List.all_cons, ih]; rfl
end Bh

set_option Elab.async false
set_option linter.all false
set_option maxRecDepth 100000
namespace Bh
open PySem PySem.Spec PyProof.Rows L2
/-! ### the rules that lean on the written part, told over a named one -/
def rLenS (K : PySem.W.Frag) : List V → Hp → VK → Prop := fun xs H Q => ∃ p ys, xs = [.ref p] ∧ (SqL K H p ys ∨ SqT K H p ys) ∧ Q (.int ys.length) H
def rListOf (K : PySem.W.Frag) : List V → Hp → VK → Prop := fun xs H Q => ∃ p ys, xs = [.ref p] ∧ (SqL K H p ys ∨ SqT K H p ys) ∧ ∀ l, H l = none → Q (.ref l) (upd H l (.lst ys))
def rTupOf (K : PySem.W.Frag) : List V → Hp → VK → Prop := fun xs H Q => ∃ p ys, xs = [.ref p] ∧ ((SqL K H p ys ∧ ∀ l, H l = none → Q (.ref l) (upd H l (.tup ys))) ∨ (SqT K H p ys ∧ Q (.ref p) H))
def rTupIx (K : PySem.W.Frag) : V → List V → Hp → VK → Prop := fun x xs H Q => ∃ p, ∃ ys : List Str, ∃ z j, x = .ref p ∧ xs = [.str z] ∧ SqT K H p (ys.map V.str) ∧ ys[j]? = some z ∧ (∀ m, m < j → ys[m]? ≠ some z) ∧ Q (.int (j : Nat)) H
def rJoin (K : PySem.W.Frag) : V → List V → Hp → VK → Prop := fun x xs H Q => ∃ a p, ∃ ys : List Str, x = .str a ∧ xs = [.ref p] ∧ (SqL K H p (ys.map V.str) ∨ SqT K H p (ys.map V.str)) ∧ (ys.map (·.length)).sum + ys.length * a.length ≤ 16777216 ∧ Q (.str (Txt.join a ys)) H
def iSeq (K : PySem.W.Frag) (tl : TE) : TI := fun σ H R => iList K tl σ H R ∨ iTup K tl σ H R
section
variable {X : Cx} {K : PySem.W.Frag} (hK : X.K = K)
include hK
theorem pg_tup_K {es : List Expr} {k : Nat} {t : TGs} {n : Nat} {pos : Pos} (hc : X.calm = true) (h : PGs X es t) (hn : (assignEach es X.env).length = n := by rfl) (hst : (assignEach es X.env).findIdx? (·.1) = none := by rfl) : PG X (.Tuple es k pos) (gTup K n t) := by
  subst hK
  exact pg_tup hc h hn hst
theorem pi_list_K {tg l : Expr} {tl : TE} (hl : PE X l tl) : PI X tg l (iList K tl) := by subst hK; exact pi_list hl
theorem pi_tup_K {tg l : Expr} {tl : TE} (hl : PE X l tl) : PI X tg l (iTup K tl) := by subst hK; exact pi_tup hl
theorem pi_seq_K {tg l : Expr} {tl : TE} (hl : PE X l tl) : PI X tg l (iSeq K tl) := by subst hK; exact pi_seq hl
theorem pi_zipA_K {e e2 : Expr} {ta : TA} {p pos tpos : Pos} {elts : List Expr} {kk : Nat} (hg : Gl X "zip") (hm : X.mg "zip" = none) (ha : PA X [e, e2] ta)
    (hs : starEach [e, e2] X.env = (false, eval e X.env) :: starEach [e2] X.env := by rfl) (hpl : (backTo pos (starEach [e2] X.env)).any (·.1) = false := by rfl) :
    PI X (.Tuple elts kk tpos) (.Call (.Name "zip" p) [e, e2] [] pos) (RZ.iZipA K ta) := by subst hK; exact RZ.pi_zipA hg hm ha hs hpl
theorem call_len_seq_K : CallR X (.builtin "len") (rLenS K) := by subst hK; exact call_len_seq
theorem call_list_of_K : CallR X (.type "list") (rListOf K) := by subst hK; exact call_list_of
theorem call_tuple_of_K : CallR X (.type "tuple") (rTupOf K) := by subst hK; exact call_tuple_of
theorem ix_list_K : IxR X (rIxL K) := by subst hK; exact ix_list
theorem ix_tup_K : IxR X (rIxT K) := by subst hK; exact ix_tup
theorem ix_seq_K : IxR X (rIx K) := by subst hK; exact ix_seq
theorem sl_list_K : SlR X (rSlL K) := by subst hK; exact sl_list
theorem sl_tupA_K : SlR X (rSlA K) := by subst hK; exact sl_tupA
theorem cr_all_K (hc : X.calm = true) : CallR X (.builtin "all") (rAll K) := by subst hK; exact cr_all hc
theorem cr_any_K (hc : X.calm = true) : CallR X (.builtin "any") (rAny K) := by subst hK; exact cr_any hc
theorem op_in_seq_K : OpR X (compareOp .In) (rIn K false) := by subst hK; exact op_in_seq
theorem op_notIn_seq_K : OpR X (compareOp .NotIn) (rIn K true) := by subst hK; exact op_notIn_seq
theorem op_catA_K : OpR X (binaryOp .Add) (rCatA K) := by subst hK; exact op_catA
theorem op_repT_K : OpR X (binaryOp .Mult) (rRepT K) := by subst hK; exact op_repT
theorem mt_index_K : MtR X "list.index" (rIndex K) := by subst hK; exact mt_index
theorem mt_tup_index_K : MtR X "tuple.index" (rTupIx K) := by subst hK; exact mt_tup_index
theorem mt_join_K : MtR X "str.join" (rJoin K) := by subst hK; exact mt_join
theorem call_isi_K : CallR X (.builtin "isinstance") (rIsi K) := by subst hK; exact call_isi
theorem call_isiT_K : CallR X (.builtin "isinstance") (rIsiT K) := by subst hK; exact call_isiT
theorem op_eqD_K (hu : X.A.units + 64 < cLine) : OpR X (compareOp .Eq) (rEqD K) := by subst hK; exact op_eqD hu
theorem op_neD_K (hu : X.A.units + 64 < cLine) : OpR X (compareOp .NotEq) (rNeD K) := by subst hK; exact op_neD hu
theorem pe_bm_K {o e : Expr} {es : List Expr} {to : TE} {t : TA} {name : Str} {apos cpos : Pos} {T id : String} {r : V → List V → Hp → VK → Prop}
    (pa : PlainAttrs T) (slot : Slot T name id) (hty : typeOf (.builtin id) = pure (.type "method_descriptor")) (hm : MtR X id r) (ho : PE X o to) (ha : PA X (e :: es) t)
    (hbase : attributeBase o name X.env (eval o X.env) = eval o X.env := by rfl)
    (hfew : ((backTo cpos (starEach (e :: es) X.env)).all (fun x => !x.1) && (backToKw cpos (keywordEach [] X.env)).all (fun x => x.1.isSome)
      && decide ((e :: es).length + ([] : List Keyword).length + (if ([] : List Keyword).isEmpty then 0 else 1) < 30)) = true := by rfl)
    (hline : (apos.endLine == cpos.line) = true := by rfl) (hs : starEach (e :: es) X.env = (false, eval e X.env) :: starEach es X.env := by rfl) (hplain : (backTo cpos (starEach es X.env)).any (·.1) = false := by rfl) :
    PE X (.Call (.Attribute o name apos) (e :: es) [] cpos) (tBM K T r to t) := by subst hK; exact pe_bm pa slot hty hm ho ha hbase hfew hline hs hplain
end
section
variable {X : Cx} {K : PySem.W.Frag} {o e : Expr} {to te : TE}
theorem pe_join_K (hK : X.K = K) {apos pos : Pos} (ho : PE X o to) (he : PE X e te) (hs : starEach [e] X.env = [(false, eval e X.env)] := by rfl) (hbase : attributeBase o "join" X.env (eval o X.env) = eval o X.env := by rfl) (hline : (apos.endLine == pos.line) = true := by rfl) :
    PE X (.Call (.Attribute o "join" apos) [e] [] pos) (tM1 (rJoin K) to te) := pe_m1 PySem.F.slot_str_join PySem.F.type_str_join (mt_join_K hK) ho he hs hbase hline
end
end Bh
namespace Bh
open PySem PySem.Spec PyProof.Rows L2
theorem q_eq {x : V} {Q : VK} {H : Hp} (h : Q (.bl true) H) : Q (.bl (decide (x = x))) H := by
  rw [decide_eq_true rfl]
  exact h
theorem dpa_at {K : PySem.W.Frag} {H : Hp} {xs ys : List V} {ds : List PyData} {i : Nat} {x y : V} (hx : DpAll K H xs ds) (hy : DpAll K H ys ds) (ex : xs[i]? = some x) (ey : ys[i]? = some y) : ∃ d ∈ ds, Dp K H x d ∧ Dp K H y d := by
  obtain ⟨d, h1, h2⟩ := DpAll.get hx ex
  obtain ⟨e, h3, h4⟩ := DpAll.get hy ey
  rw [h1] at h3
  cases h3
  exact ⟨d, List.mem_of_getElem? h1, h2, h4⟩
theorem rep_snoc (n : Nat) (v : V) : List.replicate n v ++ [v] = List.replicate (n + 1) v := List.replicate_succ'.symm
theorem lt_line {n : Nat} (h : n ≤ 100000) : n < sizeLine := Nat.lt_of_le_of_lt h (by decide)
theorem le_line {n : Nat} (h : n ≤ 100000) : n ≤ sizeLine := Nat.le_of_lt (lt_line h)
end Bh
namespace Bh
open PySem PySem.Spec PyProof.Rows L2
/-! ### tuples without a dict of their own: their methods -/
def SqP (K : PySem.W.Frag) (H : Hp) (a : Addr) (xs : List V) : Prop := (∃ o : Obj, H a = some (.frz o (.tup xs)) ∧ o.dict = none) ∨
  ∃ (o : Obj) (its : Array Value) (n : Nat), K.lookup a = some o ∧ o.cls = .type "tuple" ∧ o.dict = none ∧ o.data = .seq its n ∧ its.size ≤ sizeLine ∧ Vals xs its.toList
section
variable {K : PySem.W.Frag} {H H' : Hp} {a : Addr} {xs : List V}
theorem SqP.sqT (h : SqP K H a xs) : SqT K H a xs := by
  rcases h with ⟨o, h, _⟩ | ⟨o, its, n, h1, h2, _, h3, h4, h5⟩
  · exact .inl (.inr ⟨o, h⟩)
  · exact .inr ⟨o, its, n, h1, h2, h3, h4, h5⟩
theorem SqP.mono (e : Same H H') (h : SqP K H a xs) : SqP K H' a xs := by
  rcases h with ⟨o, h, h2⟩ | h
  · exact .inl ⟨o, e _ _ h, h2⟩
  · exact .inr h
theorem SqP.new {o : Obj} (h : o.dict = none) : SqP K (upd H a (.frz o (.tup xs))) a xs := .inl ⟨o, upd_same, h⟩
end
def rTupOfP (K : PySem.W.Frag) : List V → Hp → VK → Prop := fun xs H Q => ∃ p ys, xs = [.ref p] ∧ ((SqL K H p ys ∧ ∀ (l : Addr) (o : Obj), H l = none → o.dict = none → Q (.ref l) (upd H l (.frz o (.tup ys)))) ∨ (SqT K H p ys ∧ Q (.ref p) H))
section
variable {X : Cx} {K : PySem.W.Frag}
theorem call_tuple_of_P (hK : X.K = K) : CallR X (.type "tuple") (rTupOfP K) := by
  subst hK
  intro pins s σ H xs us Q I r h
  obtain ⟨p, ys, rfl, h⟩ := h
  obtain ⟨u, rfl, rx⟩ := vals1 r
  cases rx
  rcases h with ⟨hq, q⟩ | ⟨hq, q⟩
  · obtain ⟨its, r', pl, hz⟩ := I.list hq
    have hlen := r'.length
    refine call_tuple_list pl.isList (fun h' kp => ?_) (by simp only [List.size_toArray] <;> omega)
    have I1 : Inv X pins σ H { s with heap := h' } := I.kept (t' := s.toks) kp
    have I2 : Inv X pins σ (upd H h'.objs.size (.frz { cls := .type "tuple", data := .seq its.toArray } (.tup ys))) { s with heap := h'.push { cls := .type "tuple", data := .seq its.toArray } } :=
      I1.laid (t' := s.toks) (fun b o e => Heap.get?_push_of_some _ e) (Nat.le_refl _) (show ObjOk X.prog X.w _ _ _ (.frz { cls := .type "tuple", data := .seq its.toArray } (.tup ys)) from ⟨Heap.get?_push_size _ rfl, hz, its, r', IsTup.new _ _⟩)
    exact ⟨.ref h'.objs.size, _, I2, rfl, q _ _ (I1.hok.fresh (Nat.le_refl _)) rfl⟩
  · obtain ⟨its, r', pl, hz⟩ := I.tuple hq
    exact call_tuple_same pl ⟨.ref p, H, I, rfl, q⟩
def tBMP (K : PySem.W.Frag) (r : V → List V → Hp → VK → Prop) (to : TE) (t : TA) : TE := fun σ H Q => to σ H fun x H1 => (∃ a xs, x = .ref a ∧ SqP K H1 a xs) ∧ t σ H1 fun xs H2 => r x xs H2 Q
theorem pe_bm_P (hK : X.K = K) {o e : Expr} {es : List Expr} {to : TE} {t : TA} {name : Str} {apos cpos : Pos} {id : String} {r : V → List V → Hp → VK → Prop}
    (pa : PlainAttrs "tuple") (slot : Slot "tuple" name id) (hty : typeOf (.builtin id) = pure (.type "method_descriptor")) (hm : MtR X id r) (ho : PE X o to) (ha : PA X (e :: es) t)
    (hbase : attributeBase o name X.env (eval o X.env) = eval o X.env := by rfl)
    (hfew : ((backTo cpos (starEach (e :: es) X.env)).all (fun x => !x.1) && (backToKw cpos (keywordEach [] X.env)).all (fun x => x.1.isSome)
      && decide ((e :: es).length + ([] : List Keyword).length + (if ([] : List Keyword).isEmpty then 0 else 1) < 30)) = true := by rfl)
    (hline : (apos.endLine == cpos.line) = true := by rfl) (hs : starEach (e :: es) X.env = (false, eval e X.env) :: starEach es X.env := by rfl) (hplain : (backTo cpos (starEach es X.env)).any (·.1) = false := by rfl) :
    PE X (.Call (.Attribute o name apos) (e :: es) [] cpos) (tBMP K r to t) := by
  subst hK
  refine ⟨fun pins s σ H Q I h => ?_⟩
  refine wpAny_Call_method_late hbase hfew hline rfl (thn (ho.run pins s σ H _ I h) fun v s1 ⟨x, H1, I1, r1, ty, q1⟩ => ?_)
  have hty2 : s1.TypeIs v "tuple" ∧ ∀ a, v = .ref a → ∃ ob, s1.heap.get? a = some ob ∧ ob.dict = none := by
    obtain ⟨a, xs, rfl, hP⟩ := ty
    cases r1
    obtain ⟨its, _, pl, _⟩ := I1.tuple hP.sqT
    refine ⟨pl.typeIs, fun b e => ?_⟩
    cases e
    rcases hP with ⟨ob, hb, hd⟩ | ⟨ob, its, n, hk, hc, hd, _⟩
    · exact ⟨ob, (I1.hok a _ hb).1, hd⟩
    · exact ⟨ob, I1.kIn a ob hk, hd⟩
  obtain ⟨h1, h2⟩ := hty2
  refine ⟨"tuple", id, pa, slot, hty, h1, h2, ?_⟩
  have hA := ha.run cpos pins s1 σ H1 _ I1 q1
  rw [hs] at hA ⊢
  refine Calls.callWith_builtin (by show (false || (backTo cpos (starEach es X.env)).any (·.1)) = false; rw [hplain] <;> rfl) (Calls.evalArgs_plain ?_)
  exact thn hA fun us s2 ⟨vs, H2, I2, r2, q2⟩ => hm pins s2 σ H2 x vs v us Q I2 r1 r2 q2
end
end Bh
namespace Bh
open PySem PySem.Spec PyProof.Rows L2
/-! ### == and != of data of any texts -/
mutual
theorem Dp.plain {K : PySem.W.Frag} {H : Hp} : ∀ {v : V} {d : PyData}, Dp K H v d → d.plain = true
  | _, _, .non => rfl
  | _, _, .bl _ => rfl
  | _, _, .int _ => rfl
  | _, _, .str _ => rfl
  | _, _, .lst _ all => DpAll.plain all
  | _, _, .tup _ all => DpAll.plain all
theorem DpAll.plain {K : PySem.W.Frag} {H : Hp} : ∀ {vs : List V} {ds : List PyData}, DpAll K H vs ds → PyData.plainAll ds = true
  | _, _, .nil => rfl
  | _, _, .cons h t => by
    show (_ && _) = true
    rw [Dp.plain h, DpAll.plain t]
    rfl
end
def rEqP (K : PySem.W.Frag) : R2 := fun x y H Q => ∃ d e, Dp K H x d ∧ Dp K H y e ∧ min d.depth e.depth ≤ 64 ∧ Q (.bl (PyData.eqv d e)) H
def rNeP (K : PySem.W.Frag) : R2 := fun x y H Q => ∃ d e, Dp K H x d ∧ Dp K H y e ∧ min d.depth e.depth ≤ 64 ∧ Q (.bl (!PyData.eqv d e)) H
section
variable {X : Cx} {K : PySem.W.Frag}
theorem op_eqP (hK : X.K = K) (hu : X.A.units + 64 < cLine) : OpR X (compareOp .Eq) (rEqP K) := by
  subst hK
  intro pins s σ H x y v u Q I rx ry h
  obtain ⟨d, e, hd, he, hz, q⟩ := h
  obtain ⟨as, r1⟩ := Dp.reads I d x v hd rx
  obtain ⟨bs, r2⟩ := Dp.reads I e y u he ry
  exact SeqAt.eq_plain r1 r2 (Dp.plain hd) (Dp.plain he) (by omega) ⟨.bl _, H, I, rfl, q⟩
theorem op_neP (hK : X.K = K) (hu : X.A.units + 64 < cLine) : OpR X (compareOp .NotEq) (rNeP K) := by
  subst hK
  intro pins s σ H x y v u Q I rx ry h
  obtain ⟨d, e, hd, he, hz, q⟩ := h
  obtain ⟨as, r1⟩ := Dp.reads I d x v hd rx
  obtain ⟨bs, r2⟩ := Dp.reads I e y u he ry
  exact SeqAt.ne_plain r1 r2 (Dp.plain hd) (Dp.plain he) (by omega) ⟨.bl _, H, I, rfl, q⟩
end
theorem depth_all {n : Nat} : ∀ {ds : List PyData}, (∀ d ∈ ds, d.depth ≤ n) → PyData.depthAll ds ≤ n
  | [], _ => Nat.zero_le _
  | d :: ds, h => Nat.max_le.mpr ⟨h d (List.mem_cons_self ..), depth_all fun e he => h e (List.mem_cons_of_mem _ he)⟩
theorem Sh.depth {n : Nat} {d : PyData} (h : Sh n d) : d.depth ≤ n := by
  induction h with
  | non => exact Nat.zero_le _
  | bl => exact Nat.zero_le _
  | int => exact Nat.zero_le _
  | str => exact Nat.zero_le _
  | lst _ _ ih => exact Nat.succ_le_succ (depth_all ih)
  | tup _ _ ih => exact Nat.succ_le_succ (depth_all ih)
end Bh
namespace Bh
open PySem PySem.Spec PyProof.Rows L2
theorem seq_mono {K : PySem.W.Frag} {H H' : Hp} {a : Addr} {xs : List V} (e : Same H H') (h : SqL K H a xs ∨ SqT K H a xs) : SqL K H' a xs ∨ SqT K H' a xs := h.imp e.seq (Same.tup e)
/-- a new thing, changed since -/
theorem same_mut {H H' : Hp} {p : Addr} {o : HO} (e : Same H H') (h : H p = none) : Same H (upd H' p o) := fun b u k => by
  rw [upd_ne (ne_of_none k h)]
  exact e _ _ k
theorem Wd.sameH {b l : Addr} {G H : Hp} (w : Wd b l G H) : Same G H := w.sm
end Bh
namespace Bh
open PySem PySem.Spec PyProof.Rows L2
/-! ### a heap without one address -/
def hid (p : Addr) (G : Hp) : Hp := fun a => if a = p then none else G a
section
variable {p q : Addr} {G G' : Hp} {o : HO}
theorem hid_ne (h : q ≠ p) : hid p G q = G q := if_neg h
theorem hid_le : Same (hid p G) G := fun a u e => by
  by_cases h : a = p
  · rw [h] at e
    unfold hid at e
    rw [if_pos rfl] at e
    cases e
  · rw [hid_ne h] at e
    exact e
theorem hid_same (e : Same G G') : Same (hid p G) (hid p G') := fun a u k => by
  by_cases h : a = p
  · rw [h] at k
    unfold hid at k
    rw [if_pos rfl] at k
    cases k
  · rw [hid_ne h] at k ⊢
    exact e _ _ k
theorem hid_upd : hid p (upd G p o) = hid p G := by
  funext a
  by_cases h : a = p
  · unfold hid
    rw [if_pos h, if_pos h]
  · rw [hid_ne h, hid_ne h, upd_ne h]
theorem hid_of (e : Same G G') (h : G p = none) : Same G (hid p G') := fun a u k => by
  rw [hid_ne (ne_of_none k h)]
  exact e _ _ k
theorem hid_comm : hid p (hid q G) = hid q (hid p G) := by
  funext a
  unfold hid
  split <;> split <;> rfl
end
end Bh
namespace Bh
open PySem PySem.Spec PyProof.Rows L2
/-! ### what is no list stays where lists alone change -/
def Imm (H H' : Hp) : Prop := ∀ a u, H a = some u → (∀ xs, u ≠ .lst xs) → H' a = some u
section
variable {H H' H1 : Hp} {a p : Addr} {o : HO} {xs ys : List V} {K : PySem.W.Frag}
theorem Same.imm (e : Same H H') : Imm H H' := fun a u h _ => e a u h
theorem Imm.trans (e : Imm H H1) (f : Imm H1 H') : Imm H H' := fun a u h n => f a u (e a u h n) n
theorem imm_upd (h : H p = some (.lst ys)) : Imm H (upd H p o) := fun a u e n => by
  rw [upd_ne (fun z => by rw [z, h] at e; exact n _ (Option.some.inj e).symm)]
  exact e
theorem Imm.tup (e : Imm H H') (h : SqT K H a xs) : SqT K H' a xs := by
  rcases h with (h | ⟨o, h⟩) | h
  · exact .inl (.inl (e _ _ h (fun _ z => by cases z)))
  · exact .inl (.inr ⟨o, e _ _ h (fun _ z => by cases z)⟩)
  · exact .inr h
theorem Imm.sqp (e : Imm H H') (h : SqP K H a xs) : SqP K H' a xs := by
  rcases h with ⟨o, h, d⟩ | h
  · exact .inl ⟨o, e _ _ h (fun _ z => by cases z), d⟩
  · exact .inr h
end
mutual
def noL : PyData → Bool
  | .none | .bool _ | .int _ | .str _ => true
  | .tuple xs => noLs xs
  | .list _ | .dict _ => false
def noLs : List PyData → Bool
  | [] => true
  | d :: ds => noL d && noLs ds
end
mutual
theorem Dp.imm {K : PySem.W.Frag} {H H' : Hp} (e : Imm H H') : ∀ {v : V} {d : PyData}, noL d = true → Dp K H v d → Dp K H' v d
  | _, _, _, .non => .non
  | _, _, _, .bl b => .bl b
  | _, _, _, .int i => .int i
  | _, _, _, .str x => .str x
  | _, _, n, .lst _ _ => nomatch n
  | _, _, n, .tup h all => .tup (e.tup h) (DpAll.imm e n all)
theorem DpAll.imm {K : PySem.W.Frag} {H H' : Hp} (e : Imm H H') : ∀ {vs : List V} {ds : List PyData}, noLs ds = true → DpAll K H vs ds → DpAll K H' vs ds
  | _, _, _, .nil => .nil
  | _, _, n, .cons h t => .cons (Dp.imm e (Bool.and_eq_true_iff.mp n).1 h) (DpAll.imm e (Bool.and_eq_true_iff.mp n).2 t)
end
theorem noLs_map {α : Type} {f : α → PyData} (h : ∀ x, noL (f x) = true) : ∀ l : List α, noLs (l.map f) = true
  | [] => rfl
  | x :: l => by
    show (noL (f x) && noLs (l.map f)) = true
    rw [h x, noLs_map h l]
    rfl
end Bh

set_option Elab.async false
set_option linter.all false
set_option maxRecDepth 100000
namespace Bh
open PySem PySem.Spec PyProof.Rows L2
/-! ### a caught exception, known in the heap: what reads it may stand in another def -/
def exz (a : Addr) (cls : Value) (d : Option Addr) : HO := .ext fun h => ∃ (o : Obj) (vs : Array Value), h.get? a = some o ∧ Zc cls d o ∧ o.data = .fields vs
theorem exz_ok {P : Program} {w : World} {H : Hp} {h : Heap} {a : Addr} {cls : Value} {d : Option Addr} {o : Obj} {vs : Array Value} (e : h.get? a = some o) (z : Zc cls d o) (f : o.data = .fields vs) : ObjOk P w H h a (exz a cls d) :=
  ⟨⟨o, vs, e, z, f⟩, ⟨o, e⟩, fun _ _ y k => by
    obtain ⟨p, us, q, r⟩ := y
    exact ⟨p, us, k p q, r⟩⟩
theorem exz_at {P : Program} {w : World} {H : Hp} {h : Heap} {a : Addr} {cls : Value} {d : Option Addr} (ok : HOk P w H h) (e : H a = some (exz a cls d)) : ∃ (o : Obj) (vs : Array Value), h.get? a = some o ∧ Zc cls d o ∧ o.data = .fields vs := by
  have z : ObjOk P w H h a (.ext fun g => ∃ (o : Obj) (vs : Array Value), g.get? a = some o ∧ Zc cls d o ∧ o.data = .fields vs) := ok a _ e
  exact z.1
/-- e.n, e a caught exception that is known -/
def tXz (K : PySem.W.Frag) (n : Str) (te : TE) : TE := fun σ H Q => te σ H fun x H1 => ∃ (a C dd : Addr) (fs : List (Str × V)) (v : V), x = .ref a ∧ H1 a = some (exz a (.ref C) (some dd)) ∧ XfC K C ∧ PySem.W.findIn K (.ref C) n = some none ∧ H1 dd = some (.xd fs) ∧ fs.lookup n = some v ∧ Q v H1
theorem pe_xz {X : Cx} {e : Expr} {te : TE} {pos : Pos} {n : Str} (he : PE X e te) (hb : attributeBase e n X.env (eval e X.env) = eval e X.env := by rfl) : PE X (.Attribute e n pos) (tXz X.K n te) := by
  refine ⟨fun pins s σ H Q I h => attr_of hb (thn (he.run pins s σ H _ I h) fun u s1 hu => ?_)⟩
  obtain ⟨x, H1, J, rx, a, C, dd, fs, v, rfl, ea, xf, no, ed, lk, q⟩ := hu
  cases rx
  obtain ⟨o, vs, g, z, f⟩ := exz_at J.hok ea
  have kd : ObjOk X.prog X.w H1 s1.heap dd (.xd fs) := J.hok dd _ ed
  obtain ⟨m, ns, rel⟩ := kd
  obtain ⟨od, god, lo⟩ := lookIn_ns ns
  obtain ⟨y, hy, ry⟩ := RelO.some_of (v := v) (o := m n) (by rw [← lk]; exact rel n)
  have at_ : PySem.W.InstAt s1.heap a o C (some od) := by
    refine ⟨g, z.1, ?_, ?_⟩
    · unfold PySem.W.notCls
      rw [f] <;> rfl
    · rw [z.2]
      exact god
  have found : PySem.W.findObj X.K C (some od) n = some (.value y) := PySem.W.findObj_own xf.hdC no rfl (by rw [lo, hy])
  exact HandSPX.exc_get J.kIn at_ xf.ga xf.gg xf.exC found (handed_of ry) ⟨v, H1, J.tok _, ry, q⟩
/-! ### try: body, except (A, B) as n: suite, where all that the body raises is of one of both -/
section
variable {X : Cx} {pins : List (Addr × Obj)} {σ : L2.St} {H : Hp} {s0 s1 : Shared} {B : Heap} {a : Addr} {cls : Value} {d : Option Addr}
theorem hok_more {P : Program} {w : World} {h : Heap} {u : HO} (k : HOk P w H h) (na : H a = none) (new : ObjOk P w (upd H a u) h a u) : HOk P w (upd H a u) h := by
  intro b v q
  by_cases e : b = a
  · subst e
    rw [upd_same] at q
    cases q
    exact new
  · rw [upd_ne e] at q
    refine (k b v q).stay (fun _ _ _ r => r) (fun c r => ?_) (fun c xs r => ?_)
    · rw [upd_ne (ne_of_none r na)]
      exact r
    · rw [upd_ne (ne_of_none r na)]
      exact r
theorem Inv.seen (I : Inv X pins σ H s0) (nb : ∀ b o, s0.heap.get? b = some o → b ∉ frs X.stack → B.get? b = some o) (st : B.StaysIn s1.heap) (up : s0.heap.UpToSlots s1.heap) (os : s1.os = s0.os) (ag : AllBare s1.gens)
    (ha : s0.heap.get? a = none) (na : H a = none) {o : Obj} {vs : Array Value} (ga : s1.heap.get? a = some o) (z : Zc cls d o) (f : o.data = .fields vs) : Inv X pins σ (upd H a (exz a cls d)) s1 := by
  have fr : ∀ b ∈ frs X.stack, ∀ u, s0.heap.get? b = some u → ∃ sl, s1.heap.get? b = some { u with slots := sl } := by
    intro b hb u gu
    obtain ⟨_, u', gu', hd⟩ := I.stack.mem hb
    rw [gu] at gu'
    cases gu'
    exact up b u gu hd
  have ne : ∀ {b : Addr} {u : Obj}, s0.heap.get? b = some u → b ≠ a := by
    intro b u gu q
    rw [q, ha] at gu
    cases gu
  have old := Inv.landed (s' := s1) I nb st up os ag
  refine I.call' (ch := []) os ⟨?_, ?_, ?_, ?_, ?_, ?_, ?_⟩ (hok_more old.hok na (exz_ok ga z f)) ag (fun _ y => nomatch y)
  · exact fun b u gu _ hb _ => st b u (nb b u gu hb)
  · exact fun b u gu _ hb _ => fr b hb u gu
  · intro b u gu n _
    rw [upd_ne (ne gu)]
    exact n
  · intro b u gu _
    by_cases hb : b ∈ frs X.stack
    · obtain ⟨sl, q⟩ := fr b hb u gu
      exact ⟨_, q⟩
    · exact ⟨u, st b u (nb b u gu hb)⟩
  · intro b xs q
    rw [upd_ne (ne_of_none q na)]
    exact q
  · intro b u xs q
    rw [upd_ne (ne_of_none q na)]
    exact q
  · intro b ps q
    refine ⟨#[], ?_⟩
    rw [upd_ne (ne_of_none q na), q]
    simp
end
end Bh
namespace Bh
open PySem PySem.Spec PyProof.Rows L2
section
variable {X : Cx} {pins : List (Addr × Obj)} {σ : L2.St} {H : Hp} {s : Shared}
theorem Inv.inSuite (I : Inv X pins σ H s) (a : Addr) : Inv (X.suite a (X.pn ++ pins)) [] σ H s := by
  refine ⟨I.ok.suite _ _, I.os, I.bare, I.base, I.loc, I.cell, I.free, I.freeC, fun p hp => ?_, I.hok, I.len⟩
  rw [List.append_nil] at hp
  exact I.pin p hp
theorem Inv.offSuite {a : Addr} {more : List (Addr × Obj)} (I : Inv (X.suite a (X.pn ++ pins)) more σ H s) (ok : X.Ok) : Inv X pins σ H s :=
  ⟨ok, I.os, I.bare, I.base, I.loc, I.cell, I.free, I.freeC, fun p hp => I.pin p (List.mem_append_left _ hp), I.hok, I.len⟩
end
theorem flying_more {B h h' : Heap} {l : List Env} {a : Addr} {Z : Obj → Prop} (k : ∀ b o, h.get? b = some o → h'.get? b = some o) (f : HandSPX.FlyingZ B l a Z h) : HandSPX.FlyingZ B l a Z h' := by
  obtain ⟨f1, f2, f3, oe, vs, T, oT, ts, e1, e2, e3, e4, e5, e6, e7, e8, e9⟩ := f
  exact ⟨fun b o q => k b o (f1 b o q), f2, f3.of_keeps (fun b o q _ => ⟨o, k b o q, rfl⟩), oe, vs, T, oT, ts, k _ _ e1, e2, e3, e4, e5, e6, k _ _ e7, e8, e9⟩
/-- what the clause wishes of an exception of the body -/
def wTwo (K : PySem.W.Frag) (C1 C2 : Value) (i n : Nat) (ts : TS) (D : Ends) : WX := fun cls d σ H => PySem.W.exmAny K cls [C1, C2] = some true ∧ ∀ a, H a = none → σ.length = n →
  ts { nx := fun σ' H' => D.nx (σ'.set i none) H', rt := D.rt, bk := fun σ' H' => D.bk (σ'.set i none) H', ct := fun σ' H' => D.ct (σ'.set i none) H' } (σ.set i (some (.ref a))) (upd H a (exz a cls d))
section
variable {X : Cx} {x1 x2 n : Str} {C1 C2 : Addr} {i : Nat} {body suite : List Stmt} {b₀ : Stmt} {p1 p2 tpos pos pos' : Pos} {tb : WX → TS} {ts : TS} {kk : Nat}
theorem ps_try_two (hs : X.stack = X.env :: X.outer) (hf : X.env.frame = some X.env.locals) (hN : X.N.Nodup) (hi : X.N[i]? = some n) (hln : X.env.kindOf n = some .local)
    (g1 : Gl X x1) (m1 : X.mg x1 = some (.ref C1)) (g2 : Gl X x2) (m2 : X.mg x2 = some (.ref C2)) (d1 : (x1 == ("__debug__" : Str)) = false) (d2 : (x2 == ("__debug__" : Str)) = false)
    (hb : ∀ (W : WX) (pn : List (Addr × Obj)) (xe : Value → Shared → Prop), Takes (X.tr pn xe) W → PassesOwn (model X.prog X.w) X.A X.env xe → PSs (X.tr pn xe) body (tb W))
    (hsu : ∀ (a : Addr) (pn : List (Addr × Obj)), PSs (X.suite a pn) (b₀ :: suite) ts)
    (two : starEach [.Name x1 p1, .Name x2 p2] X.env = [(false, eval (.Name x1 p1) X.env), (false, eval (.Name x2 p2) X.env)] := by rfl) :
    PS X (.Try body [.ExceptHandler (some (.Tuple [.Name x1 p1, .Name x2 p2] kk tpos)) (some n) (b₀ :: suite) pos'] [] [] pos) (fun D σ H => tb (wTwo X.K (.ref C1) (.ref C2) i X.N.length ts D) D σ H) := by
  refine ⟨fun pins s σ H D I h => wpAny_Try_except ?_⟩
  have ok := I.ok
  have tops : X.A.frames = some (X.env :: X.outer) := ok.frames.trans (congrArg some hs)
  refine wpAny_mono ((hb (wTwo X.K (.ref C1) (.ref C2) i X.N.length ts D) (X.pn ++ pins) _ (fun u s1 air => ?caught) PassesOwn.looking).run [] s σ H D (I.toTry _) h) (fun f s1 e => ?ends) (fun _ _ e => e)
  case ends =>
    match f, e with
    | .next, ⟨σ1, H1, J, q⟩ => exact wpAny_execs_nil ⟨σ1, H1, J.ofTry ok, q⟩
    | .brk, ⟨σ1, H1, J, q⟩ => exact ⟨σ1, H1, J.ofTry ok, q⟩
    | .cont, ⟨σ1, H1, J, q⟩ => exact ⟨σ1, H1, J.ofTry ok, q⟩
    | .ret u, ⟨v, σ1, H1, J, r, q⟩ => exact ⟨v, σ1, H1, J.ofTry ok, r, q⟩
  case caught =>
    obtain ⟨a, B, s0, pins0, σ0, H0, cls, d, rfl, J0, nb, up, sky, na, os, ag, hm, go⟩ := air
    have J : Inv X pins σ0 H0 s0 := J0.ofTry ok
    rw [show (X.tr (X.pn ++ pins) _).stack = X.env :: X.outer from hs] at sky
    refine Sky.land Zc.steady tops hf sky fun h3 fl3 up3 => ?_
    obtain ⟨o3, v3, e3, z3, f3⟩ := fl3.there
    have noframe : a ∉ frs X.stack := by
      rw [hs]
      intro hm'
      obtain ⟨_, o', e', hd⟩ := fl3.2.2.1.mem hm'
      rw [e3] at e'
      cases e'
      exact hd _ f3
    have a0 : s0.heap.get? a = none := by
      cases q : s0.heap.get? a with
      | none => rfl
      | some o =>
        have z := nb a o q noframe
        rw [fl3.2.1] at z
        cases z
    have J3 := Inv.seen (s1 := { s1 with heap := h3 }) J nb fl3.1 (up.trans up3) os ag a0 na e3 z3 f3
    have S3 := Inv.inSuite J3 a
    refine wpAny_handleBy_cons (codeAny_handlers_test (wpAny_Tuple_spliced ?_)) (fun q => by cases q)
    rw [two]
    show wpAny _ _ (spliced [(false, eval (.Name x1 p1) X.env), (false, eval (.Name x2 p2) X.env)]) _ _ _
    refine Calls.spliced_cons (ld_glob S3 g1 m1 ?_ d1)
    refine Calls.spliced_cons (ld_glob S3 g2 m2 ?_ d2)
    refine Calls.spliced_nil ⟨(by show 2 ≤ sizeLine; decide), ?_⟩
    have more : ∀ b o, h3.get? b = some o → (h3.push { cls := .type "tuple", data := .seq [Value.ref C1, Value.ref C2].toArray }).get? b = some o := fun b o q => Heap.get?_push_of_some _ q
    have at_ : (h3.push { cls := .type "tuple", data := .seq [Value.ref C1, Value.ref C2].toArray }).get? h3.objs.size = some { cls := .type "tuple", data := .seq [Value.ref C1, Value.ref C2].toArray } := Heap.get?_push_size _ rfl
    have own : PySem.W.Looks (model X.prog X.w) (h3.push { cls := .type "tuple", data := .seq [Value.ref C1, Value.ref C2].toArray }) (typeOf (.ref a)) cls := fun A Q E s k q => wpAny_typeOf_ref (k _ _ (more _ _ e3)) (by rw [z3.1]; exact q)
    have hit := PySem.W.exm_tup2 (M := model X.prog X.w) (J3.kIn.keeps more) own at_ hm
    refine hit.here ?_
    refine codeAny_handlers_suite_as ?_
    have fl4 := flying_more more fl3
    refine HandSPX.lands_againZ fl4 fun h5 fl5 up5 => ?_
    obtain ⟨o5, v5, e5, z5, f5⟩ := fl5.there
    have J5 := Inv.seen (s1 := { s1 with heap := h5 }) J nb fl5.1 ((up.trans up3).trans ((Heap.UpToSlots.of_keeps more).trans up5)) os ag a0 na e5 z5 f5
    refine store_ok (X := X.suite a (X.pn ++ pins)) (v := .ref a) (Inv.inSuite J5 a) hN hi (.inl hln) rfl (fun s6 S6 => ?_) (.inr hln)
    refine wpAny_mono ((hsu a (X.pn ++ pins)).run [] s6 _ _ _ S6 (go a na J.len)) (fun f s7 e => ?_) (fun _ _ y => False.elim y)
    have leave : ∀ {σ7 : L2.St} {H7 : Hp} {R : Shared → Prop}, Inv (X.suite a (X.pn ++ pins)) [] σ7 H7 s7 → (∀ s8, Inv X pins (σ7.set i none) H7 s8 → R s8) →
        wpAny (model X.prog X.w) X.A (do bindName X.env n .none; unbindBehindTheSuite X.env n pos') (fun _ s8 => R s8) X.xe s7 := fun S7 r => gone_ok (Inv.offSuite S7 ok) hN hi hln r
    match f, e with
    | .next, ⟨σ7, H7, S7, q⟩ => exact leave S7 fun s8 J8 => ⟨_, _, J8, q⟩
    | .brk, ⟨σ7, H7, S7, q⟩ => exact leave S7 fun s8 J8 => ⟨_, _, J8, q⟩
    | .cont, ⟨σ7, H7, S7, q⟩ => exact leave S7 fun s8 J8 => ⟨_, _, J8, q⟩
    | .ret u, ⟨v, σ7, H7, S7, r, q⟩ => exact leave S7 fun s8 J8 => ⟨_, _, _, J8, r, q⟩
end
end Bh

set_option Elab.async false
set_option linter.all false
set_option maxRecDepth 100000
namespace Bh
open PySem PySem.Spec PyProof.Rows L2
/-! ### a def that runs while an exception is handled, and raises nothing -/
structure FnU (P : Program) (w : World) (K : PySem.W.Frag) (mg : Str → Option Value) (base : Heap) (k : Nat) (f : Addr) (fd : FuncData) (ps : List Str) (sp : Sp) : Prop where
  len : ∀ vs H Q E, sp vs H Q E → vs.length = ps.length
  run : ∀ (A : Around) (outer : List Env) (s : Shared) (H : Hp) (args : Args) (us : List Value) (vs : List V) (Q : VK) (E : XK), L2H.RoomH k A → Env0 P w K mg base A outer s H → BindsTo s fd args (ps.zip us) → Vals vs us → sp vs H Q E →
    codeAny (model P w) A (.call (.ref f) args) (CR CX0 outer P w H s Q E) s
def cxU (P : Program) (w : World) (K : PySem.W.Frag) (mg : Str → Option Value) (base : Heap) (N : List Str) (qual : Str) (scope : Scope) (f : Addr) (cd : Value) (A : Around) (outer : List Env) (s : Shared) (H : Hp) (E : XK) : Cx :=
  { cxOf CX0 P w K mg base N qual scope f cd A outer s H E with calm := false }
theorem start_u {P : Program} {w : World} {K : PySem.W.Frag} {mg : Str → Option Value} {base : Heap} {N ps : List Str} {qual : Str} {scope : Scope} {f : Addr} {cd : Value} {A : Around} {outer : List Env} {s s1 : Shared} {H : Hp} {E : XK} {us : List Value} {vs : List V}
    (S : FnScope N ps scope) (e0 : Env0 P w K mg base A outer s H) (hl : vs.length = ps.length) (r : Vals vs us)
    (x : InCallC s s.heap.objs.size (bindL (envOfC qual scope s.heap.objs.size f cd).kindOf (ps.zip us) fun _ => none) (cellsFrom (s.heap.objs.size + 1) scope.names []) (bindC (envOfC qual scope s.heap.objs.size f cd).kindOf (ps.zip us) fun _ => none) s1) :
    Inv (cxU P w K mg base N qual scope f cd A outer s H E) [] (L2.start N vs) H s1 := by
  have e1 : Env0 P w K mg base { A with handled := none } outer s H := ⟨e0.frames, e0.mod, e0.bs, e0.bsz, e0.funs, e0.frf, e0.hok, e0.bare⟩
  have I : Inv (cxOf CX0 P w K mg base N qual scope f cd { A with handled := none } outer s H E) [] (L2.start N vs) H s1 := inv_start S rfl e1 hl r x
  obtain ⟨o1, o2, o3, o4, o5, o6, o7, o8, _, _, o11, o12, o13, o14, o15, o16, o17, o18⟩ := I.ok
  exact ⟨⟨o1, o2, o3, o4, o5, o6, o7, o8, (fun z => Bool.noConfusion (show false = true from z)), Around.frames_deeper e0.frames, o11, o12, o13, o14, o15, o16, o17, o18⟩, I.os, I.bare, I.base, I.loc, I.cell, I.free, I.freeC, I.pin, I.hok, I.len⟩
theorem fun_u {P : Program} {w : World} {K : PySem.W.Frag} {mg : Str → Option Value} {base : Heap} {k : Nat} {f : Addr} {fd : FuncData} {x qual : Str} {st : Stmt} {N ps : List Str} {sp : Sp} (F : Fun K x qual st f fd) (S : FnScope N ps (defScope st))
    (len : ∀ vs H Q E, sp vs H Q E → vs.length = ps.length)
    (body : ∀ (cdv : Value) (A : Around) (outer : List Env) (s : Shared) (H : Hp) (vs : List V) (Q : VK) (E : XK), sp vs H Q E →
      ∃ t, PSs (cxU P w K mg base N qual (defScope st) f cdv A outer s H E) (defBody st) t ∧ t { nx := fun _ H' => Q .non H', rt := Q } (L2.start N vs) H) : FnU P w K mg base (k + 1) f fd ps sp := by
  obtain ⟨oc, od, kV, doc, pm, an, cdv, ct, osl, rfl, lk, hcd⟩ := F.ex
  refine ⟨len, fun A outer s H args us vs Q E hr e0 hb r h => ?_⟩
  have l1 := len _ _ _ _ h
  have X0 : K.In s.heap := e0.mod.kin.keeps fun b o e => (e0.bs b o e).1
  have nl : s.heap.NoLimit := e0.mod.nolimit.keeps fun b o e => (e0.bs b o e).1
  have kinds : ∀ y ∈ ps.zip us, (defScope st).names.lookup y.1 = some .local ∨ ((defScope st).names.lookup y.1 = some .cell ∧ ((cellsFrom (s.heap.objs.size + 1) (defScope st).names []).lookup y.1).isSome = true) := by
    rintro ⟨n, v⟩ hy
    exact (S.par n (List.of_mem_zip hy).1).imp id fun q => ⟨q, PySem.W.cellsFrom_some _ _ _ (.inl q)⟩
  refine codeAny_call_function hr.depth (X0 _ _ lk) rfl S.co S.gen rfl (PySem.W.codeRec_of X0 hcd) (hb _ _ _ _ (wpAny_newFunctionEnv_cells S.kind kinds fun env he s1 x => ?_))
  subst he
  obtain ⟨t, ht, hq⟩ := body cdv A outer s H vs Q E h
  refine ⟨nl.keeps x.toInCall.keep, codeAny_func (wpAny_mono (ht.run [] s1 (L2.start N vs) H _ (start_u S e0 l1 r x) hq) (fun fl s2 e => ?_) fun _ _ e => e)⟩
  match fl, e with
  | .next, ⟨σ2, H2, J, q⟩ => exact ⟨.non, H2, J.os, J.bare, J.base, J.hok, rfl, q⟩
  | .brk, ⟨_, _, _, q⟩ => exact q.elim
  | .cont, ⟨_, _, _, q⟩ => exact q.elim
  | .ret u, ⟨v, σ2, H2, J, rv, q⟩ => exact ⟨v, H2, J.os, J.bare, J.base, J.hok, rv, q⟩
theorem pe_callU {X : Cx} {k : Nat} {f : Addr} {fd : FuncData} {ps : List Str} {sp : Sp} {x : Str} {q pos : Pos} {e : Expr} {es : List Expr} {t : TA} (F : FnU X.prog X.w X.K X.mg X.base k f fd ps sp) (hr : L2H.RoomH k X.A) (hg : Gl X x) (hm : X.mg x = some (.ref f)) (hk : PySem.W.keepIn X.K (.ref f) = true) (hb : Binds X.K fd ps [])
    (ha : PA X (e :: es) t) (hdb : (x == ("__debug__" : Str)) = false := by decide) (hs : starEach (e :: es) X.env = (false, eval e X.env) :: starEach es X.env := by rfl) (hp : (backTo pos (starEach es X.env)).any (·.1) = false := by rfl) :
    PE X (.Call (.Name x q) (e :: es) [] pos) (fun σ H Q => t σ H fun vs H1 => sp vs H1 Q fun _ _ _ => False) := by
  refine ⟨fun pins s σ H Q I h => wpAny_Call_Name_kw (ld_glob I hg hm ?_ hdb)⟩
  refine PySem.W.callWith_K (h₀ := X.base) I.ok.mod.kin hk (thn (ha.run pos pins s σ H _ I h) fun us s1 hu => ?_) hs hp
  obtain ⟨vs, H1, J, rv, y⟩ := hu
  refine ⟨J.kIn, ?_⟩
  have n : us.length = ps.length := rv.length.symm.trans (F.len _ _ _ _ y)
  have bnd := hb s1 us J.kIn (by rw [List.append_nil]; exact n)
  rw [List.append_nil] at bnd
  refine wpAny_call (codeAny_mono (F.run X.A X.stack s1 H1 ⟨us, []⟩ us vs Q _ hr J.env0 bnd rv y) fun res s2 z => ?_)
  match res, z with
  | .error _, z => exact z.elim
  | .ok (.ret u), z => exact J.after z
  | .ok .next, z => exact z.elim
  | .ok .brk, z => exact z.elim
  | .ok .cont, z => exact z.elim
end Bh
namespace Bh
open PySem PySem.Spec PyProof.Rows L2
/-! ### the end of a law that makes a lambda: its table of code objects is told by the top -/
theorem walkT {l : PySem.W.OpenLaw} {n k : Nat} {q : Program} {loose : List Str} {XP : (Str → Option Value) → Heap → Prop} {YP : World → Heap → Prop} {d : DefRec} {CX : World → CXT} {x : Str}
    (hn : l.most = some n) (hn2 : n ≤ sizeLine) (hdf : d.params.defaults = []) (hr : Room k callerA)
    (F : ∀ (w : World) (mg mb : Str → Option Value) (fa : Addr) (h : Heap), (∀ (K : PySem.W.Frag), K.In h → ∀ (dd : DefRec) (y : Str) (c P : Addr), (recsOf q).find? (fun e => e.name == y) = some dd → PySem.W.tabIn K y = some (c, P) → PySem.W.CodeHd h c P ∧ h.get? P = some (PySem.W.tabObj #[])) → h.Ns mainGlobals mg → YP w h → mg d.name = some (.ref fa) → ∃ K : PySem.W.Frag, K.In h ∧ LamX.LawAtS l w K (CX w) k n x mg fa h)
    (hCX : ∀ (w : World) (H : Hp) (s : Shared) (e : Value) (s' : Shared), CX w [] H s (fun _ _ _ => False) e s' → False) :
    PySem.W.WalkO q loose XP YP l.row.toRowW d [] (fun f vs => PySem.call f vs) := by
  refine Att.attach_callB hn hdf fun w s0 s1 mg mb fa o pm cd doc a vs ns G Y _ _ _ hmg hobj hi hlen hbits hg => ?_
  obtain ⟨K, KX, fd, cs, sp, t1, t2, t3, bnd, hsp, ok⟩ := F w mg mb fa _ (fun K KX dd y c P h1 h2 => PySem.W.tab_of G.T KX h1 h2) G.T.g Y hmg
  refine LamX.law_callTs KX G.T.g G.T.b G.T.builtins G.T.nolimit hg t1 t2 t3 G.T.bmain hobj hi (Nat.le_trans hlen hn2) hr ok bnd ?_ ?_
  · exact fun H hH hS => hsp H a ns hlen hbits hH hS
  · exact fun H e s' => hCX w H s1 e s'
end Bh

set_option Elab.async false
set_option linter.all false
set_option maxRecDepth 100000
namespace Bh
open PySem PySem.Spec PyProof.Rows L2
/-! ### an own exception class over any built-in one, with an __init__ that is walked as a def -/
structure ExG (K : PySem.W.Frag) (C : Addr) : Prop where
  fam : ∃ (B newId initId : String) (bmB : List Value), ExcBaseFacts B newId initId bmB ∧ StoreFacts B bmB "object.__setattr__" "object" ∧ PySem.W.excOver K C bmB = true ∧
    ∃ nm q N bs bm sn sub ab col dd k0 k1 k2 k3 k5, K.lookup C = some (excClassObj nm q C N bs bm true sn sub ab col dd k0 k1 k2 k3 k5 newId) ∧ ∀ Y : String, bm.contains (.type Y) = bmB.contains (.type Y)
  sa : PySem.W.findIn K (.ref C) "__setattr__" = some (some (.builtin "object.__setattr__"))
  exC : PySem.W.subIn K (.ref C) (.type "BaseException") = some true
  tyC : PySem.W.typeIn K (.ref C) = some (.type "type")
  kC : PySem.W.keepIn K (.ref C) = true
  hdC : PySem.W.hasDictIn K C = true
theorem taker_no {K : PySem.W.Frag} {C : Addr} {n : Str} (h : PySem.W.findIn K (.ref C) n = some none) : PySem.W.takerIn K C n = some none := by
  unfold PySem.W.takerIn
  rw [h]
  rfl
section
variable {X : Cx} {pins : List (Addr × Obj)} {σ : L2.St} {H : Hp} {s : Shared} {a C dx : Addr} {f : Str} {y : V} {u : Value} {fs : List (Str × V)} {Q : Unit → Shared → Prop} {E : Value → Shared → Prop} {A : Around}
theorem setG_new (T : ExG X.K C) (I : Inv X pins σ H s) (e : H a = some (exo a C none)) (no : PySem.W.findIn X.K (.ref C) f = some none) (ry : RelV y u)
    (h : ∀ dx s', H dx = none → dx ≠ a → Inv X pins σ (upd (upd H dx (exd dx [(f, y)])) a (exo a C (some dx))) s' → Q () s') : wpAny (model X.prog X.w) A (setAttr (.ref a) f u) Q E s := by
  obtain ⟨B, newId, initId, bmB, FB, SF, ov, _⟩ := T.fam
  obtain ⟨t1, ga⟩ := exo_at I.hok e
  obtain ⟨hp, g, d, t, os⟩ := s
  have inst : PySem.W.InstAt hp a { cls := .ref C, dict := none, data := .fields #[.ref t1, .none, .none, .none, .bool false, .none] } C none := ⟨ga, rfl, rfl, trivial⟩
  refine PySem.W.set_plain I.kIn inst T.sa (PySem.W.osa_openX (od := none) SF I.kIn inst ov (taker_no no) fun b => ?_)
  obtain ⟨cd, hc, hd⟩ := PySem.W.any_some T.hdC
  refine wpAny_bind (wpAny_pure (wpAny_bind (PySem.W.instanceDict_exc (c2 := .none) ga (PySem.W.looks_clsIn I.kIn hc) hd ?_)))
  have na : a ≠ hp.objs.size := Nat.ne_of_lt (Heap.lt_size ga)
  refine HandSPX.store_in_new ?_ (fun h2 tk2 hn hs => ?_)
  · exact ⟨_, #[], _, (Heap.get?_update_ne _ _ _ _ na.symm).trans (Heap.get?_push_at rfl rfl), rfl, fun e he => absurd he (by simp), fun _ => rfl⟩
  have nx : H hp.objs.size = none := I.hok.fresh (Nat.le_refl _)
  have old : ∀ b o, b ≠ a → hp.get? b = some o → h2.get? b = some o := by
    intro b o hb ho
    refine (hs.2 b (Nat.ne_of_lt (Heap.lt_size ho))).trans ?_
    exact (Heap.get?_update_ne _ _ _ _ hb).trans (Heap.get?_push_of_some _ ho)
  have self2 : h2.get? a = some { cls := .ref C, dict := some hp.objs.size, data := .fields #[.ref t1, .none, .none, .none, .bool false, .none] } := by
    refine (hs.2 a na).trans ?_
    exact Heap.get?_update_self _ (Heap.get?_push_of_some _ ga) rfl
  have n1 : ∀ {b : Addr} {o : Obj}, hp.get? b = some o → b ≠ hp.objs.size := fun g => Nat.ne_of_lt (Heap.lt_size g)
  have n2 : ∀ {b : Addr}, H b = none → b ≠ a := by
    intro b hb z
    rw [z, e] at hb
    cases hb
  refine h hp.objs.size _ nx na.symm (I.un (t' := tk2) (h' := h2) ⟨?_, ?_, ?_, ?_, ?_, ?_, ?_⟩ fun b o q => ?_)
  · exact fun b o g n _ _ => old b o (n2 n) g
  · exact fun b o g n _ _ => ⟨o.slots, old b o (n2 n) g⟩
  · intro b o g n _
    rw [upd_ne (n2 n), upd_ne (n1 g)]
    exact n
  · intro b o g _
    by_cases hb : b = a
    · exact ⟨_, hb ▸ self2⟩
    · exact ⟨o, old b o hb g⟩
  · intro b xs q
    rw [upd_ne (at_ne e q exo_tup), upd_ne (ne_of_none q nx)]
    exact q
  · intro b o v q
    rw [upd_ne (at_ne e q exo_frz), upd_ne (ne_of_none q nx)]
    exact q
  · intro b ps q
    refine ⟨#[], ?_⟩
    rw [upd_ne (at_ne e q exo_tbl), upd_ne (ne_of_none q nx), q]
    simp
  · by_cases hb : b = a
    · subst hb
      rw [upd_same] at q
      cases q
      exact exo_ok self2
    rw [upd_ne hb] at q
    by_cases hd2 : b = hp.objs.size
    · subst hd2
      rw [upd_same] at q
      cases q
      exact exd_ok hn (relO_put (fs := []) ry fun _ => True.intro)
    rw [upd_ne hd2] at q
    have keepO : ∀ {c : Addr}, H c = some (.own b) → c ≠ a := fun k => at_ne e k exo_own
    refine (I.hok b o q).stay (fun c v hc z => old c v ?_ z) (fun c k => ?_) (fun c xs k => ?_)
    · rcases hc with hc | hc
      · rw [hc]
        exact hb
      · exact keepO hc
    · rw [upd_ne (at_ne e k exo_own), upd_ne (ne_of_none k nx)]
      exact k
    · rw [upd_ne (at_ne e k exo_tup), upd_ne (ne_of_none k nx)]
      exact k
theorem setG_old (T : ExG X.K C) (I : Inv X pins σ H s) (e : H a = some (exo a C (some dx))) (ed : H dx = some (exd dx fs)) (hl : fs.length ≤ 900) (no : PySem.W.findIn X.K (.ref C) f = some none) (ry : RelV y u)
    (h : ∀ s', Inv X pins σ (upd H dx (exd dx ((f, y) :: fs))) s' → Q () s') : wpAny (model X.prog X.w) A (setAttr (.ref a) f u) Q E s := by
  obtain ⟨B, newId, initId, bmB, FB, SF, ov, _⟩ := T.fam
  obtain ⟨t1, ga⟩ := exo_at I.hok e
  obtain ⟨m, ns, rel⟩ := exd_at I.hok ed
  have wi := within_of rel
  obtain ⟨hp, g, d, t, os⟩ := s
  obtain ⟨od, _, _, god, _, _⟩ := ns.count wi
  have inst : PySem.W.InstAt hp a { cls := .ref C, dict := some dx, data := .fields #[.ref t1, .none, .none, .none, .bool false, .none] } C (some od) := ⟨ga, rfl, rfl, god⟩
  refine PySem.W.set_plain I.kIn inst T.sa (PySem.W.osa_openX (od := some od) SF I.kIn inst ov (taker_no no) fun b => ?_)
  obtain ⟨cd, hc, hd⟩ := PySem.W.any_some T.hdC
  refine wpAny_bind (wpAny_pure (wpAny_bind (wpAny_bind (wpAny_loadPart ga (wpAny_bind ((PySem.W.looks_clsIn (M := model X.prog X.w) I.kIn hc).at ?_))))))
  rw [hd]
  refine wpAny_pure (a := some dx) ?_
  refine PySem.OEX.store_in_old ns wi (by rw [List.length_map]; omega) (fun h2 tk2 hn hs => ?_)
  have there : ∃ o, h2.get? dx = some o := by
    obtain ⟨o, _, _, k, _⟩ := hn
    exact ⟨o, k⟩
  exact h _ (I.write (t' := tk2) (x := dx) (e := dx) (o := exd dx ((f, y) :: fs)) (by rw [ed]; exact True.intro) (.inl rfl) (fun b o hb k => (hs.2 b hb).trans k) there (exd_ok hn (relO_put ry rel)))
end
end Bh
namespace Bh
open PySem PySem.Spec PyProof.Rows L2
/-- self.f = e, in the __init__ of such a class -/
def tSetG (K : PySem.W.Frag) (f : Str) (to te : TE) : TS := fun D σ H => te σ H fun y H1 => to σ H1 fun x H2 => ∃ a C : Addr, x = .ref a ∧ ExG K C ∧ PySem.W.findIn K (.ref C) f = some none ∧
  ((H2 a = some (exo a C none) ∧ ∀ dx, H2 dx = none → dx ≠ a → D.nx σ (upd (upd H2 dx (exd dx [(f, y)])) a (exo a C (some dx)))) ∨
    ∃ (dx : Addr) (fs : List (Str × V)), H2 a = some (exo a C (some dx)) ∧ H2 dx = some (exd dx fs) ∧ fs.length ≤ 900 ∧ D.nx σ (upd H2 dx (exd dx ((f, y) :: fs))))
theorem ps_setG {X : Cx} {o e : Expr} {to te : TE} {f : Str} {p pos : Pos} (ho : PE X o to) (he : PE X e te) (hs : swapsWith e (some (.Attribute o f p)) pos.line X.env = pure false := by rfl) : PS X (.Assign [.Attribute o f p] e pos) (tSetG X.K f to te) := by
  refine ⟨fun pins s σ H D I h => plainObj_wpAny_Assign_Attribute (thn (he.run pins s σ H _ I h) fun v s1 q => ?_) hs⟩
  obtain ⟨y, H1, I1, r1, q1⟩ := q
  refine thn (ho.run pins s1 σ H1 _ I1 q1) fun u s2 q => ?_
  obtain ⟨x, H2, I2, r2, a, C, rfl, T, no, q2⟩ := q
  cases r2
  rcases q2 with ⟨ea, k⟩ | ⟨dx, fs, ea, ed, hl, k⟩
  · exact setG_new T I2 ea no r1 fun dx s3 n ne J => ⟨σ, _, J, k dx n ne⟩
  · exact setG_old T I2 ea ed hl no r1 fun s3 J => ⟨σ, _, J, k⟩
/-! ### such an exception, made: as a value, and to be raised -/
/-- C(..) with C's own __init__ that keeps sp: known as exo, its dict as exd -/
def tMkG (C : Addr) (sp : Sp) (ta : TA) : TE := fun σ H Q => ta σ H fun vs H1 => vs.length ≤ 1000 ∧ ∀ a, H1 a = none → sp (.ref a :: vs) (upd H1 a (exo a C none)) (fun v H2 => v = .non ∧ Q (.ref a) H2) fun _ _ _ => False
theorem pe_mkG {X : Cx} {x : Str} {C fI : Addr} {k : Nat} {fd : FuncData} {ps : List Str} {sp : Sp} {e : Expr} {es : List Expr} {ta : TA} {p pos : Pos} (T : ExG X.K C) (iC : PySem.W.findIn X.K (.ref C) "__init__" = some (some (.ref fI))) (tI : PySem.W.typeIn X.K (.ref fI) = some (.type "function"))
    (F : FnOk X.prog X.w X.K X.mg X.base CX0 k fI fd ps sp) (hr : Room (k + 1) X.A) (hb : Binds X.K fd ps []) (hg : Gl X x) (hm : X.mg x = some (.ref C)) (ha : PA X (e :: es) ta)
    (hdb : (x == ("__debug__" : Str)) = false := by decide) (hs : starEach (e :: es) X.env = (false, eval e X.env) :: starEach es X.env := by rfl) (hp : (backTo pos (starEach es X.env)).any (·.1) = false := by rfl) :
    PE X (.Call (.Name x p) (e :: es) [] pos) (tMkG C sp ta) := by
  refine ⟨fun pins s σ H Q I h => wpAny_Call_Name_kw (ld_glob I hg hm ?_ hdb)⟩
  obtain ⟨B, newId, initId, bmB, FB, SF, ov, nm, q, N, bs, bm, sn, sub, ab, col, dd, k0, k1, k2, k3, k5, look, same⟩ := T.fam
  refine PySem.W.callWith_K (h₀ := X.base) I.ok.mod.kin T.kC (thn (ha.run pos pins s σ H _ I h) fun us s1 hu => ?_) hs hp
  obtain ⟨vs, H1, J, rv, hz, y⟩ := hu
  refine ⟨J.kIn, ?_⟩
  show wpAny _ _ (call (.ref C) us) _ _ _
  obtain ⟨hh, g, dr, tk, os⟩ := s1
  have n1 : H1 (hh.objs.size + 1) = none := J.hok.fresh (Nat.le_succ _)
  have yy := y (hh.objs.size + 1) n1
  have more : ∀ b o, hh.get? b = some o → ((hh.push (PySem.W.kdv_tup us)).push (PySem.HandSPX.excO C hh.objs.size)).get? b = some o := fun b o z => Heap.get?_push_of_some _ (Heap.get?_push_of_some _ z)
  have at_ : ((hh.push (PySem.W.kdv_tup us)).push (PySem.HandSPX.excO C hh.objs.size)).get? (hh.objs.size + 1) = some (PySem.HandSPX.excO C hh.objs.size) := by heap_get
  have J2 : Inv X pins σ (upd H1 (hh.objs.size + 1) (exo (hh.objs.size + 1) C none)) ⟨(hh.push (PySem.W.kdv_tup us)).push (PySem.HandSPX.excO C hh.objs.size), g, dr, tk, os⟩ := J.laid (t' := tk) more (Nat.le_succ _) (exo_ok at_)
  have rv2 : Vals (V.ref (hh.objs.size + 1) :: vs) (Value.ref (hh.objs.size + 1) :: us) := .cons rfl rv
  have ln : (Value.ref (hh.objs.size + 1) :: us).length = ps.length := rv2.length.symm.trans (F.len _ _ _ _ yy)
  have few : us.length ≤ sizeLine := by
    rw [← Paired.length rv, sizeLine_eq]
    omega
  have bnd := hb _ (Value.ref (hh.objs.size + 1) :: us) J2.kIn (by rw [List.append_nil]; exact ln)
  rw [List.append_nil] at bnd
  have body := F.run _ X.stack _ _ ⟨Value.ref (hh.objs.size + 1) :: us, []⟩ _ _ _ (fun _ _ _ => False) (hr.make C us []) (J2.env0.make C us []) bnd rv2 yy
  refine wpAny_call (PySem.HandSPX.call_own FB same (J.kIn _ _ look) (PySem.W.looks_findIn J.kIn iC) (fun self => PySem.W.bind_fn J.kIn self tI) few (codeAny_mono body fun r s2 z => ?_))
  cases r with
  | error _ => exact z.elim
  | ok fl =>
    cases fl with
    | ret w =>
      obtain ⟨v, H2, o2, b2, un2, ok2, rw2, ev, q2⟩ := z
      subst ev
      exact ⟨rw2, ⟨V.ref (hh.objs.size + 1), H2, J2.call' (ch := []) o2 un2 ok2 b2 (fun _ m => nomatch m), rfl, q2⟩⟩
    | next => exact z.elim
    | brk => exact z.elim
    | cont => exact z.elim
end Bh
namespace Bh
open PySem PySem.Spec PyProof.Rows L2
/-- the same, for raise -/
theorem pmk_mkG {X : Cx} {x : Str} {C fI : Addr} {k : Nat} {fd : FuncData} {ps : List Str} {sp : Sp} {e : Expr} {es : List Expr} {ta : TA} {p pos : Pos} (T : ExG X.K C) (iC : PySem.W.findIn X.K (.ref C) "__init__" = some (some (.ref fI))) (tI : PySem.W.typeIn X.K (.ref fI) = some (.type "function"))
    (F : FnOk X.prog X.w X.K X.mg X.base CX0 k fI fd ps sp) (hr : Room (k + 1) X.A) (hb : Binds X.K fd ps []) (hg : Gl X x) (hm : X.mg x = some (.ref C)) (ha : PA X (e :: es) ta)
    (hdb : (x == ("__debug__" : Str)) = false := by decide) (hs : starEach (e :: es) X.env = (false, eval e X.env) :: starEach es X.env := by rfl) (hp : (backTo pos (starEach es X.env)).any (·.1) = false := by rfl) :
    PMk X (.Call (.Name x p) (e :: es) [] pos) (tMkO C sp [] ta) := by
  intro pins s σ H Q I h
  refine wpAny_Call_Name_kw (ld_glob I hg hm ?_ hdb)
  obtain ⟨B, newId, initId, bmB, FB, SF, ov, nm, q, N, bs, bm, sn, sub, ab, col, dd, k0, k1, k2, k3, k5, look, same⟩ := T.fam
  refine PySem.W.callWith_K (h₀ := X.base) I.ok.mod.kin T.kC (thn (ha.run pos pins s σ H _ I h) fun us s1 hu => ?_) hs hp
  obtain ⟨vs, H1, J, rv, hz, y⟩ := hu
  refine ⟨J.kIn, ?_⟩
  show wpAny _ _ (call (.ref C) us) _ _ _
  obtain ⟨hh, g, dr, tk, os⟩ := s1
  have big : hh.objs.size ≤ hh.objs.size + 1 := Nat.le_succ _
  have yy := y (hh.objs.size + 1) (J.hok.fresh big)
  rw [List.append_nil] at yy
  have more : ∀ b o, hh.get? b = some o → ((hh.push (PySem.W.kdv_tup us)).push (PySem.HandSPX.excO C hh.objs.size)).get? b = some o := fun b o z => Heap.get?_push_of_some _ (Heap.get?_push_of_some _ z)
  have at_ : ((hh.push (PySem.W.kdv_tup us)).push (PySem.HandSPX.excO C hh.objs.size)).get? (hh.objs.size + 1) = some (PySem.HandSPX.excO C hh.objs.size) := by heap_get
  have J2 : Inv X pins σ (upd H1 (hh.objs.size + 1) (exo (hh.objs.size + 1) C none)) ⟨(hh.push (PySem.W.kdv_tup us)).push (PySem.HandSPX.excO C hh.objs.size), g, dr, tk, os⟩ := J.laid (t' := tk) more big (exo_ok at_)
  have rv2 : Vals (V.ref (hh.objs.size + 1) :: vs) (Value.ref (hh.objs.size + 1) :: us) := .cons rfl rv
  have ln : (Value.ref (hh.objs.size + 1) :: us).length = ps.length := rv2.length.symm.trans (F.len _ _ _ _ yy)
  have few : us.length ≤ sizeLine := by
    rw [← Paired.length rv, sizeLine_eq]
    omega
  have bnd := hb _ (Value.ref (hh.objs.size + 1) :: us) J2.kIn (by rw [List.append_nil]; exact ln)
  rw [List.append_nil] at bnd
  have body := F.run _ X.stack _ _ ⟨Value.ref (hh.objs.size + 1) :: us, []⟩ _ _ _ (fun _ _ _ => False) (hr.make C us []) (J2.env0.make C us []) bnd rv2 yy
  refine wpAny_call (PySem.HandSPX.call_own FB same (J.kIn _ _ look) (PySem.W.looks_findIn J.kIn iC) (fun self => PySem.W.bind_fn J.kIn self tI) few (codeAny_mono body fun r s2 z => ?_))
  cases r with
  | error _ => exact z.elim
  | ok fl =>
    cases fl with
    | ret w =>
      obtain ⟨v, H2, o2, b2, un2, ok2, rw2, ev, dx, fs, ea, ed, nd, q2⟩ := z
      subst ev
      obtain ⟨h2, g2, d2, t2, os2⟩ := s2
      exact ⟨rw2, mk_end (raises_own T.exC T.tyC) J big more un2 ok2 o2 b2 ea ed nd q2⟩
    | next => exact z.elim
    | brk => exact z.elim
    | cont => exact z.elim
/-- e.n, e such an exception that was not raised -/
def tXo (K : PySem.W.Frag) (n : Str) (te : TE) : TE := fun σ H Q => te σ H fun x H1 => ∃ (a C dd : Addr) (fs : List (Str × V)) (v : V), x = .ref a ∧ H1 a = some (exo a C (some dd)) ∧ XfC K C ∧ PySem.W.findIn K (.ref C) n = some none ∧ H1 dd = some (exd dd fs) ∧ fs.lookup n = some v ∧ Q v H1
theorem pe_xo {X : Cx} {e : Expr} {te : TE} {pos : Pos} {n : Str} (he : PE X e te) (hb : attributeBase e n X.env (eval e X.env) = eval e X.env := by rfl) : PE X (.Attribute e n pos) (tXo X.K n te) := by
  refine ⟨fun pins s σ H Q I h => attr_of hb (thn (he.run pins s σ H _ I h) fun u s1 hu => ?_)⟩
  obtain ⟨x, H1, J, rx, a, C, dd, fs, v, rfl, ea, xf, no, ed, lk, q⟩ := hu
  cases rx
  obtain ⟨t1, g⟩ := exo_at J.hok ea
  obtain ⟨m, ns, rel⟩ := exd_at J.hok ed
  obtain ⟨od, _, _, god, _, _⟩ := ns.count (within_of rel)
  obtain ⟨od2, god2, lo⟩ := lookIn_ns ns
  obtain ⟨y, hy, ry⟩ := RelO.some_of (v := v) (o := m n) (by rw [← lk]; exact rel n)
  have inst : PySem.W.InstAt s1.heap a { cls := .ref C, dict := some dd, data := .fields #[.ref t1, .none, .none, .none, .bool false, .none] } C (some od2) := ⟨g, rfl, rfl, god2⟩
  exact HandSPX.exc_get J.kIn inst xf.ga xf.gg xf.exC (PySem.W.findObj_own xf.hdC no rfl (by rw [lo, hy])) (handed_of ry) ⟨v, H1, J.tok _, ry, q⟩
end Bh
namespace Bh
open PySem PySem.Spec PyProof.Rows L2
/-- isinstance(e, c), e such an exception that was not raised -/
def rIsO (K : PySem.W.Frag) : List V → Hp → VK → Prop := fun xs H Q => ∃ (a D dd : Addr) (fs : List (Str × V)) (c : V) (cv : Value) (b : Bool), xs = [.ref a, c] ∧ ExcC K D ∧ H a = some (exo a D (some dd)) ∧ H dd = some (exd dd fs) ∧ (∀ u, RelV c u → u = cv) ∧ PySem.W.kitOne K (.ref D) cv = some b ∧ Q (.bl b) H
theorem call_isO {X : Cx} : CallR X (.builtin "isinstance") (rIsO X.K) := by
  intro pins s σ H xs us Q I r h
  obtain ⟨a, D, dd, fs, c, cv, b, rfl, F, ea, ed, hc, e, q⟩ := h
  obtain ⟨u1, u2, rfl, r1, r2⟩ := vals2 r
  cases r1
  obtain rfl := hc _ r2
  obtain ⟨t1, g⟩ := exo_at I.hok ea
  obtain ⟨m, ns, rel⟩ := exd_at I.hok ed
  obtain ⟨od, god, _⟩ := lookIn_ns ns
  have inst : PySem.W.InstAt s.heap a { cls := .ref D, dict := some dd, data := .fields #[.ref t1, .none, .none, .none, .bool false, .none] } D (some od) := ⟨g, rfl, rfl, god⟩
  have hcl : (PySem.W.clsIn X.K D).isSome = true := by
    obtain ⟨cd, k, _⟩ := PySem.W.any_some F.hd
    rw [k]
    rfl
  exact PySem.W.kia_one (PySem.W.kitx_exc hcl F.hg F.hk F.hs F.ha F.hn F.ht F.hm) I.kIn inst e (fun z => nomatch z) fun tk => ⟨.bl b, H, I.kept (t' := tk) fun _ _ z => z, rfl, q⟩
end Bh

set_option Elab.async false
set_option linter.all false
set_option maxRecDepth 100000
set_option maxHeartbeats 1000000
namespace Bh
open PySem PySem.Spec PyProof.Rows L2
def topS (i : Nat) : Stmt := PySem.Challenge.pw_bestheard_k01_errors_by_themselves.main.body.getD i (.Pass ⟨0, 0, 0, 0⟩)
abbrev s_copy_of : Stmt := topS 1
theorem sc_copy_of : FnScope ["value", "item", "key", "worth"] ["value"] (defScope s_copy_of) := ⟨rfl, rfl, rfl, by decide +kernel, rfl, by decide +kernel, by decide +kernel⟩
abbrev s_InvalidField__init : Stmt := inClass (topS 5) 0
theorem sc_InvalidField__init : FnScope ["self", "position"] ["self", "position"] (defScope s_InvalidField__init) := ⟨rfl, rfl, rfl, by decide +kernel, rfl, by decide +kernel, by decide +kernel⟩
abbrev s_InvalidTie__init : Stmt := inClass (topS 6) 0
theorem sc_InvalidTie__init : FnScope ["self", "position"] ["self", "position"] (defScope s_InvalidTie__init) := ⟨rfl, rfl, rfl, by decide +kernel, rfl, by decide +kernel, by decide +kernel⟩
abbrev s_InvalidKind__init : Stmt := inClass (topS 7) 0
theorem sc_InvalidKind__init : FnScope ["self", "position"] ["self", "position"] (defScope s_InvalidKind__init) := ⟨rfl, rfl, rfl, by decide +kernel, rfl, by decide +kernel, by decide +kernel⟩
abbrev s_InvalidHolding__init : Stmt := inClass (topS 8) 0
theorem sc_InvalidHolding__init : FnScope ["self", "given"] ["self", "given"] (defScope s_InvalidHolding__init) := ⟨rfl, rfl, rfl, by decide +kernel, rfl, by decide +kernel, by decide +kernel⟩
abbrev s_InvalidRulebook__init : Stmt := inClass (topS 9) 0
theorem sc_InvalidRulebook__init : FnScope ["self", "line"] ["self", "line"] (defScope s_InvalidRulebook__init) := ⟨rfl, rfl, rfl, by decide +kernel, rfl, by decide +kernel, by decide +kernel⟩
abbrev s_InvalidName__init : Stmt := inClass (topS 10) 0
theorem sc_InvalidName__init : FnScope ["self", "given"] ["self", "given"] (defScope s_InvalidName__init) := ⟨rfl, rfl, rfl, by decide +kernel, rfl, by decide +kernel, by decide +kernel⟩
abbrev s_InvalidNetwork__init : Stmt := inClass (topS 11) 0
theorem sc_InvalidNetwork__init : FnScope ["self", "line"] ["self", "line"] (defScope s_InvalidNetwork__init) := ⟨rfl, rfl, rfl, by decide +kernel, rfl, by decide +kernel, by decide +kernel⟩
abbrev s_InvalidState__init : Stmt := inClass (topS 12) 0
theorem sc_InvalidState__init : FnScope ["self", "cell"] ["self", "cell"] (defScope s_InvalidState__init) := ⟨rfl, rfl, rfl, by decide +kernel, rfl, by decide +kernel, by decide +kernel⟩
abbrev s_InvalidLook__init : Stmt := inClass (topS 13) 0
theorem sc_InvalidLook__init : FnScope ["self", "cell"] ["self", "cell"] (defScope s_InvalidLook__init) := ⟨rfl, rfl, rfl, by decide +kernel, rfl, by decide +kernel, by decide +kernel⟩
abbrev s_InvalidCount__init : Stmt := inClass (topS 14) 0
theorem sc_InvalidCount__init : FnScope ["self", "given"] ["self", "given"] (defScope s_InvalidCount__init) := ⟨rfl, rfl, rfl, by decide +kernel, rfl, by decide +kernel, by decide +kernel⟩
abbrev s_InvalidCommand__init : Stmt := inClass (topS 15) 0
theorem sc_InvalidCommand__init : FnScope ["self", "word"] ["self", "word"] (defScope s_InvalidCommand__init) := ⟨rfl, rfl, rfl, by decide +kernel, rfl, by decide +kernel, by decide +kernel⟩
abbrev s_InvalidLimit__init : Stmt := inClass (topS 16) 0
theorem sc_InvalidLimit__init : FnScope ["self", "given"] ["self", "given"] (defScope s_InvalidLimit__init) := ⟨rfl, rfl, rfl, by decide +kernel, rfl, by decide +kernel, by decide +kernel⟩
abbrev s_InvalidPage__init : Stmt := inClass (topS 17) 0
theorem sc_InvalidPage__init : FnScope ["self", "line"] ["self", "line"] (defScope s_InvalidPage__init) := ⟨rfl, rfl, rfl, by decide +kernel, rfl, by decide +kernel, by decide +kernel⟩
abbrev s_DuplicateCell__init : Stmt := inClass (topS 18) 0
theorem sc_DuplicateCell__init : FnScope ["self", "name"] ["self", "name"] (defScope s_DuplicateCell__init) := ⟨rfl, rfl, rfl, by decide +kernel, rfl, by decide +kernel, by decide +kernel⟩
abbrev s_DuplicateTie__init : Stmt := inClass (topS 19) 0
theorem sc_DuplicateTie__init : FnScope ["self", "tie"] ["self", "tie"] (defScope s_DuplicateTie__init) := ⟨rfl, rfl, rfl, by decide +kernel, rfl, by decide +kernel, by decide +kernel⟩
abbrev s_KindsDiffer__init : Stmt := inClass (topS 20) 0
theorem sc_KindsDiffer__init : FnScope ["self", "name"] ["self", "name"] (defScope s_KindsDiffer__init) := ⟨rfl, rfl, rfl, by decide +kernel, rfl, by decide +kernel, by decide +kernel⟩
abbrev s_BooksDiffer__init : Stmt := inClass (topS 21) 0
theorem sc_BooksDiffer__init : FnScope ["self"] ["self"] (defScope s_BooksDiffer__init) := ⟨rfl, rfl, rfl, by decide +kernel, rfl, by decide +kernel, by decide +kernel⟩
abbrev s_Unsettled__init : Stmt := inClass (topS 22) 0
theorem sc_Unsettled__init : FnScope ["self"] ["self"] (defScope s_Unsettled__init) := ⟨rfl, rfl, rfl, by decide +kernel, rfl, by decide +kernel, by decide +kernel⟩
abbrev s_Full__init : Stmt := inClass (topS 23) 0
theorem sc_Full__init : FnScope ["self", "limit"] ["self", "limit"] (defScope s_Full__init) := ⟨rfl, rfl, rfl, by decide +kernel, rfl, by decide +kernel, by decide +kernel⟩
abbrev s_EmptyHistory__init : Stmt := inClass (topS 24) 0
theorem sc_EmptyHistory__init : FnScope ["self"] ["self"] (defScope s_EmptyHistory__init) := ⟨rfl, rfl, rfl, by decide +kernel, rfl, by decide +kernel, by decide +kernel⟩
abbrev s_UnknownCell__init : Stmt := inClass (topS 25) 0
theorem sc_UnknownCell__init : FnScope ["self", "name"] ["self", "name"] (defScope s_UnknownCell__init) := ⟨rfl, rfl, rfl, by decide +kernel, rfl, by decide +kernel, by decide +kernel⟩
abbrev s_UnknownKind__init : Stmt := inClass (topS 26) 0
theorem sc_UnknownKind__init : FnScope ["self", "name"] ["self", "name"] (defScope s_UnknownKind__init) := ⟨rfl, rfl, rfl, by decide +kernel, rfl, by decide +kernel, by decide +kernel⟩
abbrev s_UnknownTie__init : Stmt := inClass (topS 27) 0
theorem sc_UnknownTie__init : FnScope ["self", "name"] ["self", "name"] (defScope s_UnknownTie__init) := ⟨rfl, rfl, rfl, by decide +kernel, rfl, by decide +kernel, by decide +kernel⟩
abbrev s_UnknownField__init : Stmt := inClass (topS 28) 0
theorem sc_UnknownField__init : FnScope ["self", "name"] ["self", "name"] (defScope s_UnknownField__init) := ⟨rfl, rfl, rfl, by decide +kernel, rfl, by decide +kernel, by decide +kernel⟩
abbrev s_MissingTie__init : Stmt := inClass (topS 29) 0
theorem sc_MissingTie__init : FnScope ["self", "tie"] ["self", "tie"] (defScope s_MissingTie__init) := ⟨rfl, rfl, rfl, by decide +kernel, rfl, by decide +kernel, by decide +kernel⟩
abbrev s_UnknownMoment__init : Stmt := inClass (topS 30) 0
theorem sc_UnknownMoment__init : FnScope ["self", "given"] ["self", "given"] (defScope s_UnknownMoment__init) := ⟨rfl, rfl, rfl, by decide +kernel, rfl, by decide +kernel, by decide +kernel⟩
abbrev s_l_bag : Stmt := topS 32
theorem sc_l_bag : FnScope ["_law_script", "_law_seed", "_law_cell_z"] ["_law_script"] (defScope s_l_bag) := ⟨rfl, rfl, rfl, by decide +kernel, rfl, by decide +kernel, by decide +kernel⟩
abbrev s_l_draw : Stmt := topS 33
theorem sc_l_draw : FnScope ["_law_bag_here", "_law_many", "_law_cell_z", "_law_found", "_law_old"] ["_law_bag_here", "_law_many"] (defScope s_l_draw) := ⟨rfl, rfl, rfl, by decide +kernel, rfl, by decide +kernel, by decide +kernel⟩
abbrev s_l_any : Stmt := topS 34
theorem sc_l_any : FnScope ["_law_bag_here", "_law_row"] ["_law_bag_here", "_law_row"] (defScope s_l_any) := ⟨rfl, rfl, rfl, by decide +kernel, rfl, by decide +kernel, by decide +kernel⟩
abbrev s_l_mixed : Stmt := topS 35
theorem sc_l_mixed : FnScope ["_law_bag_here", "_law_row", "_law_found", "_law_item"] ["_law_bag_here", "_law_row"] (defScope s_l_mixed) := ⟨rfl, rfl, rfl, by decide +kernel, rfl, by decide +kernel, by decide +kernel⟩
abbrev s_l_like : Stmt := topS 36
theorem sc_l_like : FnScope ["_law_found", "_law_due", "_law_key", "_law_one", "_law_other"] ["_law_found", "_law_due"] (defScope s_l_like) := ⟨rfl, rfl, rfl, by decide +kernel, rfl, by decide +kernel, by decide +kernel⟩
abbrev s_l_given : Stmt := topS 37
theorem sc_l_given : FnScope ["_law_e"] ["_law_e"] (defScope s_l_given) := ⟨rfl, rfl, rfl, by decide +kernel, rfl, by decide +kernel, by decide +kernel⟩
abbrev s_l_made_errors : Stmt := topS 38
theorem sc_l_made_errors : FnScope ["_law_given_here", "_law_rows"] ["_law_given_here"] (defScope s_l_made_errors) := ⟨rfl, rfl, rfl, by decide +kernel, rfl, by decide +kernel, by decide +kernel⟩
abbrev s_l_flags : Stmt := topS 39
theorem sc_l_flags : FnScope ["_law_e", "_law_found"] ["_law_e"] (defScope s_l_flags) := ⟨rfl, rfl, rfl, by decide +kernel, rfl, by decide +kernel, by decide +kernel⟩
abbrev s_law : Stmt := topS 40
theorem sc_law : FnScope ["_law_script", "_law_bag_here", "_law_given_here", "_law_rows", "_law_codes", "_law_code", "_law_error", "_law_late", "_law_due", "_law_bare", "_law_told", "_law_one"] ["_law_script"] (defScope s_law) := ⟨rfl, rfl, rfl, by decide +kernel, rfl, by decide +kernel, by decide +kernel⟩
/-- is an error of row i of the class j of the table (26 and 27: BestError and ValueError, 28 and 29: Missing and LookupError)? -/
def dueF (i j : Nat) : Bool := if j < 26 then i == j else if j < 28 then decide (i < 20) else decide (20 ≤ i)
def kitTab (K : PySem.W.Frag) (cs : List Addr) (vs : List Value) : Bool := (List.range 26).all fun i => (List.range 30).all fun j => match cs[i]?, vs[j]? with
  | some c, some v => PySem.W.kitOne K (.ref c) v == some (dueF i j)
  | _, _ => false
structure ExR (K : PySem.W.Frag) (mg : Str → Option Value) (x q : Str) (st : Stmt) (ps at_ : List Str) : Type where
  c : Addr
  f : Addr
  fd : FuncData
  F : Fun K "__init__" q st f fd
  b : Binds K fd ps []
  g : mg x = some (.ref c)
  e : ExG K c
  i : PySem.W.findIn K (.ref c) "__init__" = some (some (.ref f))
  t : PySem.W.typeIn K (.ref f) = some (.type "function")
  n : ∀ y ∈ at_, PySem.W.findIn K (.ref c) y = some none
  x : XfC K c
  k : ExcC K c
structure Top (K : PySem.W.Frag) (mg : Str → Option Value) : Type where
  a_copy_of : Addr
  fd_copy_of : FuncData
  d_copy_of : Df K mg "copy_of" s_copy_of ["value"] a_copy_of fd_copy_of
  a_l_bag : Addr
  fd_l_bag : FuncData
  d_l_bag : Df K mg "_law_bag" s_l_bag ["_law_script"] a_l_bag fd_l_bag
  a_l_draw : Addr
  fd_l_draw : FuncData
  d_l_draw : Df K mg "_law_draw" s_l_draw ["_law_bag_here", "_law_many"] a_l_draw fd_l_draw
  a_l_any : Addr
  fd_l_any : FuncData
  d_l_any : Df K mg "_law_any" s_l_any ["_law_bag_here", "_law_row"] a_l_any fd_l_any
  a_l_mixed : Addr
  fd_l_mixed : FuncData
  d_l_mixed : Df K mg "_law_mixed" s_l_mixed ["_law_bag_here", "_law_row"] a_l_mixed fd_l_mixed
  a_l_like : Addr
  fd_l_like : FuncData
  d_l_like : Df K mg "_law_like" s_l_like ["_law_found", "_law_due"] a_l_like fd_l_like
  a_l_given : Addr
  fd_l_given : FuncData
  d_l_given : Df K mg "_law_given" s_l_given ["_law_e"] a_l_given fd_l_given
  a_l_made_errors : Addr
  fd_l_made_errors : FuncData
  d_l_made_errors : Df K mg "_law_made_errors" s_l_made_errors ["_law_given_here"] a_l_made_errors fd_l_made_errors
  a_l_flags : Addr
  fd_l_flags : FuncData
  d_l_flags : Df K mg "_law_flags" s_l_flags ["_law_e"] a_l_flags fd_l_flags
  b_all : mg "all" = none
  b_dict : mg "dict" = none
  b_isinstance : mg "isinstance" = none
  b_len : mg "len" = none
  b_list : mg "list" = none
  b_max : mg "max" = none
  b_min : mg "min" = none
  b_range : mg "range" = none
  b_sorted : mg "sorted" = none
  b_tuple : mg "tuple" = none
  b_int : mg "int" = none
  b_zip : mg "zip" = none
  b_bool : mg "bool" = none
  b_str : mg "str" = none
  r_InvalidField : ExR K mg "InvalidField" "InvalidField.__init__" s_InvalidField__init ["self", "position"] ["code", "position"]
  r_InvalidTie : ExR K mg "InvalidTie" "InvalidTie.__init__" s_InvalidTie__init ["self", "position"] ["code", "position"]
  r_InvalidKind : ExR K mg "InvalidKind" "InvalidKind.__init__" s_InvalidKind__init ["self", "position"] ["code", "position"]
  r_InvalidHolding : ExR K mg "InvalidHolding" "InvalidHolding.__init__" s_InvalidHolding__init ["self", "given"] ["code", "given"]
  r_InvalidRulebook : ExR K mg "InvalidRulebook" "InvalidRulebook.__init__" s_InvalidRulebook__init ["self", "line"] ["code", "line"]
  r_InvalidName : ExR K mg "InvalidName" "InvalidName.__init__" s_InvalidName__init ["self", "given"] ["code", "given"]
  r_InvalidNetwork : ExR K mg "InvalidNetwork" "InvalidNetwork.__init__" s_InvalidNetwork__init ["self", "line"] ["code", "line"]
  r_InvalidState : ExR K mg "InvalidState" "InvalidState.__init__" s_InvalidState__init ["self", "cell"] ["code", "cell"]
  r_InvalidLook : ExR K mg "InvalidLook" "InvalidLook.__init__" s_InvalidLook__init ["self", "cell"] ["code", "cell"]
  r_InvalidCount : ExR K mg "InvalidCount" "InvalidCount.__init__" s_InvalidCount__init ["self", "given"] ["code", "given"]
  r_InvalidCommand : ExR K mg "InvalidCommand" "InvalidCommand.__init__" s_InvalidCommand__init ["self", "word"] ["code", "word"]
  r_InvalidLimit : ExR K mg "InvalidLimit" "InvalidLimit.__init__" s_InvalidLimit__init ["self", "given"] ["code", "given"]
  r_InvalidPage : ExR K mg "InvalidPage" "InvalidPage.__init__" s_InvalidPage__init ["self", "line"] ["code", "line"]
  r_DuplicateCell : ExR K mg "DuplicateCell" "DuplicateCell.__init__" s_DuplicateCell__init ["self", "name"] ["code", "name"]
  r_DuplicateTie : ExR K mg "DuplicateTie" "DuplicateTie.__init__" s_DuplicateTie__init ["self", "tie"] ["code", "tie"]
  r_KindsDiffer : ExR K mg "KindsDiffer" "KindsDiffer.__init__" s_KindsDiffer__init ["self", "name"] ["code", "name"]
  r_BooksDiffer : ExR K mg "BooksDiffer" "BooksDiffer.__init__" s_BooksDiffer__init ["self"] ["code"]
  r_Unsettled : ExR K mg "Unsettled" "Unsettled.__init__" s_Unsettled__init ["self"] ["code"]
  r_Full : ExR K mg "Full" "Full.__init__" s_Full__init ["self", "limit"] ["code", "limit"]
  r_EmptyHistory : ExR K mg "EmptyHistory" "EmptyHistory.__init__" s_EmptyHistory__init ["self"] ["code"]
  r_UnknownCell : ExR K mg "UnknownCell" "UnknownCell.__init__" s_UnknownCell__init ["self", "name"] ["code", "name"]
  r_UnknownKind : ExR K mg "UnknownKind" "UnknownKind.__init__" s_UnknownKind__init ["self", "name"] ["code", "name"]
  r_UnknownTie : ExR K mg "UnknownTie" "UnknownTie.__init__" s_UnknownTie__init ["self", "name"] ["code", "name"]
  r_UnknownField : ExR K mg "UnknownField" "UnknownField.__init__" s_UnknownField__init ["self", "name"] ["code", "name"]
  r_MissingTie : ExR K mg "MissingTie" "MissingTie.__init__" s_MissingTie__init ["self", "tie"] ["code", "tie"]
  r_UnknownMoment : ExR K mg "UnknownMoment" "UnknownMoment.__init__" s_UnknownMoment__init ["self", "given"] ["code", "given"]
  cBE : Addr
  cMS : Addr
  gBE : mg "BestError" = some (.ref cBE)
  gMS : mg "Missing" = some (.ref cMS)
  z_VE : mg "ValueError" = none
  z_LE : mg "LookupError" = none
  kt : kitTab K [r_InvalidField.c, r_InvalidTie.c, r_InvalidKind.c, r_InvalidHolding.c, r_InvalidRulebook.c, r_InvalidName.c, r_InvalidNetwork.c, r_InvalidState.c, r_InvalidLook.c, r_InvalidCount.c, r_InvalidCommand.c, r_InvalidLimit.c, r_InvalidPage.c, r_DuplicateCell.c, r_DuplicateTie.c, r_KindsDiffer.c, r_BooksDiffer.c, r_Unsettled.c, r_Full.c, r_EmptyHistory.c, r_UnknownCell.c, r_UnknownKind.c, r_UnknownTie.c, r_UnknownField.c, r_MissingTie.c, r_UnknownMoment.c] [.ref r_InvalidField.c, .ref r_InvalidTie.c, .ref r_InvalidKind.c, .ref r_InvalidHolding.c, .ref r_InvalidRulebook.c, .ref r_InvalidName.c, .ref r_InvalidNetwork.c, .ref r_InvalidState.c, .ref r_InvalidLook.c, .ref r_InvalidCount.c, .ref r_InvalidCommand.c, .ref r_InvalidLimit.c, .ref r_InvalidPage.c, .ref r_DuplicateCell.c, .ref r_DuplicateTie.c, .ref r_KindsDiffer.c, .ref r_BooksDiffer.c, .ref r_Unsettled.c, .ref r_Full.c, .ref r_EmptyHistory.c, .ref r_UnknownCell.c, .ref r_UnknownKind.c, .ref r_UnknownTie.c, .ref r_UnknownField.c, .ref r_MissingTie.c, .ref r_UnknownMoment.c, .ref cBE, .type "ValueError", .ref cMS, .type "LookupError"] = true

section
variable {P : Program} {w : World} {K : PySem.W.Frag} {mg : Str → Option Value} {base : Heap}
theorem cut63 (ns : List Int) (h : ns.length ≤ 63) : cutV (ns.map V.int) none (some 63) = ns.map V.int := by
  unfold cutV
  rw [HT.sIx_none, show HT.sIx (ns.map V.int).length (ns.map V.int).length (some 63) = min 63 (ns.map V.int).length from HT.sIx_nat _ _ 63, List.length_map, Nat.min_eq_right h]
  show List.take (ns.length - 0) (List.drop 0 (ns.map V.int)) = _
  rw [List.drop_zero, Nat.sub_zero]
  exact List.take_of_length_le (by rw [List.length_map]; exact Nat.le_refl _)
theorem ok_bag (T : Top K mg) : FnOk P w K mg base CX0 1 T.a_l_bag T.fd_l_bag ["_law_script"] (spBag K) := by
  refine T.d_l_bag.F.ok sc_l_bag (fun vs H Q E h => ?_) (fun cdv A outer s H vs Q E hr h => ?_)
  · obtain ⟨a, ns, rfl, _⟩ := h
    rfl
  obtain ⟨a, ns, rfl, hS, h63, q⟩ := h
  refine ⟨_, (pss_cons (ps_set (i := 1) sc_l_bag.nd rfl (Or.inl rfl) (pe_op op_add pe_int (pe_op op_mul pe_int (pe_callB (call_len_seq_K (K := K) (by rfl)) (by rfl) T.b_len PySem.boot_len (pa_cons (pe_slice (sl_list_K (K := K) (by rfl)) (pv 0) po_none (po_some pe_int)) pa_nil)))))
    (pss_cons (ps_for PassesOwn.never rfl (pi_list_K (K := K) (by rfl) (pe_slice (sl_list_K (K := K) (by rfl)) (pv 0) po_none (po_some pe_int))) (pg_name (i := 2) sc_l_bag.nd rfl (Or.inl rfl))
      (pss_one (ps_set (i := 1) sc_l_bag.nd rfl (Or.inl rfl) (pe_op op_mod (pe_callTy call_int1 (by rfl) T.b_int (by decide +kernel) (pa_cons (pe_op op_add (pe_op op_add (pe_op op_mul (pv 1) pe_int) (pe_op op_mod (pe_callTy call_int1 (by rfl) T.b_int (by decide +kernel) (pa_cons (pv 2) pa_nil)) pe_int)) pe_int) pa_nil)) pe_int))))
    (pss_one (ps_ret (pe_lst (pa_cons (pe_callTy (call_list_of_K (K := K) (by rfl)) (by rfl) T.b_list (by decide +kernel) (pa_cons (pe_slice (sl_list_K (K := K) (by rfl)) (pv 0) po_none (po_some pe_int)) pa_nil)) (pa_cons pe_int (pa_cons pe_int (pa_cons (pv 1) pa_nil))))))))), ?_⟩
  refine ⟨_, rfl, _, rfl, _, _, rfl, hS, fun p1 n1 => ?_⟩
  rw [cut63 ns h63]
  refine ⟨_, _, rfl, .inl (SqL.of upd_same), _, _, rfl, rfl, .inl ⟨by decide, by decide⟩, _, _, rfl, rfl, ?_⟩
  have e1 : Same H (upd H p1 (.lst (ns.map V.int))) := same_new n1
  refine ⟨_, rfl, _, rfl, _, _, rfl, e1.seq hS, fun p2 n2 => ?_⟩
  rw [cut63 ns h63]
  have e2 := e1.trans (same_new (o := .lst (ns.map V.int)) n2)
  refine ⟨p2, rfl, ⟨_, SqL.of upd_same⟩, for_list (K := K) (a := p2) (xs := ns.map V.int) (fun i σ H' => ∃ (z : Int) (v : Option V), σ = [some (.ref a), some (.int z), v] ∧ (0 < i → 0 ≤ z ∧ z < 2147483647) ∧ (z < 100000 ∨ 0 < i) ∧ 0 ≤ z ∧ H' = (upd (upd H p1 (.lst (ns.map V.int))) p2 (.lst (ns.map V.int))))
    ⟨_, none, rfl, fun z => absurd z (Nat.lt_irrefl _), .inl ?_, ?_, rfl⟩ (fun i σ H' _ ⟨_, _, _, _, _, _, e⟩ => by rw [e]; exact SqL.of upd_same) ?_ ?_⟩
  · rw [List.length_map]
    omega
  · rw [List.length_map]
    omega
  · rintro i y σ H' hi ⟨z, v, rfl, z1, z2, z0, rfl⟩
    obtain ⟨u, _, rfl⟩ := get_map hi
    refine ⟨_, rfl, _, _, rfl, rfl, .inr ⟨by decide, by decide⟩, _, rfl, .inl ⟨_, rfl, _, _, rfl, rfl, p31, _, _, rfl, rfl, _, _, rfl, rfl, .inl ⟨_, rfl, _, _, rfl, rfl, p31, ?_⟩⟩⟩
    refine ⟨_, _, rfl, fun _ => ⟨?_, ?_⟩, .inr (Nat.succ_pos i), ?_, rfl⟩ <;> omega
  · rintro σ H' ⟨z, v, rfl, z1, z2, z0, rfl⟩
    refine ⟨_, rfl, _, rfl, _, _, rfl, e2.seq hS, fun p3 n3 => ?_⟩
    rw [cut63 ns h63]
    refine ⟨_, _, rfl, .inl (SqL.of upd_same), fun l nl => ?_⟩
    have e3 := e2.trans (same_new (o := .lst (ns.map V.int)) n3)
    have e4 := e3.trans (same_new (o := .lst (ns.map V.int)) nl)
    refine ⟨_, rfl, (by show 4 ≤ sizeLine; decide), fun b nb => ?_⟩
    have e5 := e4.trans (same_new (o := .lst [.ref l, .int 0, .int 0, .int z]) nb)
    refine q b l _ (e4.free nb) (e3.free nl) e5 ⟨ns, 0, 0, z, upd_same, ?_, h63, by omega, by omega, by omega, z0, by omega⟩
    rw [upd_ne (ne_of_none upd_same nb), upd_same]
theorem ok_draw (T : Top K mg) : FnOk P w K mg base CX0 1 T.a_l_draw T.fd_l_draw ["_law_bag_here", "_law_many"] spDraw := by
  refine T.d_l_draw.F.ok sc_l_draw (fun vs H Q E h => ?_) (fun cdv A outer s H vs Q E hr h => ?_)
  · obtain ⟨b, l, G, n, rfl, _⟩ := h
    rfl
  obtain ⟨b, l, G, n, rfl, n0, n1, wd, q⟩ := h
  refine ⟨_, (Evl.pss_cut (ps_if (PW.pt (pw_and (pt_cmpR op_eq (pe_ix (ix_list_K (K := K) (by rfl)) (pv 0) pe_int (fun _ _ => rfl)) pe_int (nomark _)) (pw_and1 (pt_cmpR op_lt (pe_ix (ix_list_K (K := K) (by rfl)) (pv 0) pe_int (fun _ _ => rfl)) (pe_callB (call_len_seq_K (K := K) (by rfl)) (by rfl) T.b_len PySem.boot_len (pa_cons (pe_ix (ix_list_K (K := K) (by rfl)) (pv 0) pe_int (fun _ _ => rfl)) pa_nil)) (nomark _))))) (pss_cons (ps_set (i := 2) sc_l_draw.nd rfl (Or.inl rfl) (pe_ix (ix_list_K (K := K) (by rfl)) (pe_ix (ix_list_K (K := K) (by rfl)) (pv 0) pe_int (fun _ _ => rfl)) (pe_ix (ix_list_K (K := K) (by rfl)) (pv 0) pe_int (fun _ _ => rfl)) (fun _ _ => rfl)))
      (pss_cons (ps_asg (pe_op op_add (pe_ix (ix_list_K (K := K) (by rfl)) (pv 0) pe_int (fun _ _ => rfl)) pe_int) (pg_sub (pv 0) pe_int set_list))
      (pss_one (ps_if (pt_cmpR op_ge (pv 2) (pe_op op_pow pe_int pe_int) (nomark _)) (pss_one (ps_asg (pv 2) (pg_sub (pv 0) pe_int set_list))) (pss_one (ps_asg (pe_op op_mod (pe_callTy call_int1 (by rfl) T.b_int (by decide +kernel) (pa_cons (pe_op op_add (pe_op op_add (pe_op op_mul (pe_ix (ix_list_K (K := K) (by rfl)) (pv 0) pe_int (fun _ _ => rfl)) pe_int) (pe_op op_mul (pe_op op_mod (pe_callTy call_int1 (by rfl) T.b_int (by decide +kernel) (pa_cons (pv 2) pa_nil)) pe_int) pe_int)) (pe_ix (ix_list_K (K := K) (by rfl)) (pv 0) pe_int (fun _ _ => rfl))) pa_nil)) pe_int) (pg_sub (pv 0) pe_int set_list))))))) pss_nil)
    (pss_cons (ps_if (pt_cmpR op_gt (pe_ix (ix_list_K (K := K) (by rfl)) (pv 0) pe_int (fun _ _ => rfl)) pe_int (nomark _)) (pss_cons (ps_set (i := 3) sc_l_draw.nd rfl (Or.inl rfl) (pe_op op_mod (pe_callTy call_int1 (by rfl) T.b_int (by decide +kernel) (pa_cons (pe_ix (ix_list_K (K := K) (by rfl)) (pv 0) pe_int (fun _ _ => rfl)) pa_nil)) (pv 1)))
      (pss_cons (ps_asg (pe_op op_fdiv (pe_ix (ix_list_K (K := K) (by rfl)) (pv 0) pe_int (fun _ _ => rfl)) (pv 1)) (pg_sub (pv 0) pe_int set_list))
      (pss_one (ps_ret (pv 3))))) pss_nil)
    (pss_cons (ps_set (i := 4) sc_l_draw.nd rfl (Or.inl rfl) (pe_ix (ix_list_K (K := K) (by rfl)) (pv 0) pe_int (fun _ _ => rfl)))
    (pss_cons (ps_asg (pe_op op_mod (pe_callTy call_int1 (by rfl) T.b_int (by decide +kernel) (pa_cons (pe_op op_add (pe_op op_add (pe_op op_mul (pv 4) (pv 4)) (pe_op op_mul (pv 4) pe_int)) pe_int) pa_nil)) pe_int) (pg_sub (pv 0) pe_int set_list))
    (pss_one (ps_ret (pe_op op_mod (pe_callTy call_int1 (by rfl) T.b_int (by decide +kernel) (pa_cons (pe_op op_add (pe_op op_fdiv (pe_ix (ix_list_K (K := K) (by rfl)) (pv 0) pe_int (fun _ _ => rfl)) pe_int) (pe_op op_mul (pe_op op_mod (pe_callTy call_int1 (by rfl) T.b_int (by decide +kernel) (pa_cons (pe_ix (ix_list_K (K := K) (by rfl)) (pv 0) pe_int (fun _ _ => rfl)) pa_nil)) pe_int) pe_int)) pa_nil)) (pv 1)))))))), ?_⟩
  obtain ⟨ns, i, c, s, hb, hl, h63, i0, i1, c0, s0, s1⟩ := id wd.bag
  have lb : l ≠ b := ne_of hl hb (by intro z; cases ns with | nil => cases z | cons x r => cases r with | nil => cases z | cons => cases z)
  have B := SqL.of (K := K) hb
  refine ⟨fun σ' H' => ∃ v, σ' = [some (.ref b), some (.int n), v, none, none] ∧ Wd b l G H', ?_, ?_⟩
  · refine ⟨_, rfl, _, _, _, _, rfl, rfl, B, rfl, rfl, _, rfl, ?_⟩
    refine ite2 (fun _ => ?_) (fun _ => ?_)
    · refine ⟨_, rfl, _, _, _, _, rfl, rfl, B, rfl, _, rfl, _, _, _, _, rfl, rfl, B, rfl, _, _, rfl, .inl (SqL.of hl), _, _, rfl, rfl, _, rfl, ?_⟩
      refine ite2 (fun c1 => ?_) (fun _ => ?_)
      · have c2 := of_decide_eq_true c1
        rw [List.length_map] at c2
        have c3 : i.toNat < ns.length := by omega
        refine ⟨_, rfl, _, _, _, _, rfl, rfl, B, rfl, _, rfl, _, _, _, _, rfl, rfl, B, rfl, _, _, _, .int ns[i.toNat], rfl, rfl, SqL.of hl, at_nn i0 (by rw [List.getElem?_map, List.getElem?_eq_getElem c3]; rfl), ?_⟩
        refine ⟨_, rfl, _, _, _, _, rfl, rfl, B, rfl, _, _, rfl, rfl, _, rfl, _, _, _, 1, rfl, rfl, hb, rfl, ?_⟩
        refine ⟨_, rfl, _, _, rfl, rfl, ⟨by decide, by decide, by decide⟩, _, _, rfl, rfl, _, rfl, ?_⟩
        refine ite2 (fun g1 => ?_) (fun _ => ?_)
        · have g2 := of_decide_eq_true g1
          refine ⟨_, rfl, _, rfl, _, _, _, 2, rfl, rfl, upd_same, rfl, ?_⟩
          refine ⟨_, rfl, ?_⟩
          rw [upd_upd]
          exact wd.bagged ⟨ns, i + 1, _, s, upd_same, by rw [upd_ne lb]; exact hl, h63, by omega, by omega, Int.le_trans (by decide) g2, s0, s1⟩
        · refine ⟨_, rfl, _, _, _, _, rfl, rfl, SqL.of upd_same, rfl, _, _, rfl, rfl, .inr ⟨by decide, by decide⟩, _, rfl, .inl ⟨_, rfl, _, _, rfl, rfl, p31, _, _, rfl, rfl, .inr ⟨by decide, by decide⟩, _, _, rfl, rfl, _, rfl, _, _, _, _, rfl, rfl, SqL.of upd_same, rfl, _, _, rfl, rfl, .inl ⟨_, rfl, _, _, rfl, rfl, p31, ?_⟩⟩⟩
          refine ⟨_, rfl, _, _, _, 3, rfl, rfl, upd_same, rfl, ?_⟩
          refine ⟨_, rfl, ?_⟩
          rw [upd_upd]
          exact wd.bagged ⟨ns, i + 1, c, _, upd_same, by rw [upd_ne lb]; exact hl, h63, by omega, by omega, c0, Int.emod_nonneg _ (by decide), Int.emod_lt_of_pos _ (by decide)⟩
      · exact ⟨_, rfl, wd⟩
    · exact ⟨_, rfl, wd⟩
  · rintro σ' H' ⟨v, rfl, wd⟩
    obtain ⟨ns, i, c, s, hb, hl, h63, i0, i1, c0, s0, s1⟩ := id wd.bag
    have lb : l ≠ b := ne_of hl hb (by intro z; cases ns with | nil => cases z | cons x r => cases r with | nil => cases z | cons => cases z)
    have B := SqL.of (K := K) hb
    refine ⟨_, rfl, _, _, _, _, rfl, rfl, B, rfl, _, _, rfl, rfl, _, rfl, ?_⟩
    refine ite2 (fun g1 => ?_) (fun _ => ?_)
    · refine ⟨_, rfl, _, _, _, _, rfl, rfl, B, rfl, .inl ⟨_, rfl, _, rfl, _, _, rfl, rfl, n0, ?_⟩⟩
      refine ⟨_, rfl, _, _, _, _, rfl, rfl, B, rfl, _, rfl, _, _, rfl, rfl, ⟨n0, n1⟩, _, rfl, _, _, _, 2, rfl, rfl, hb, rfl, ?_⟩
      refine ⟨_, rfl, ?_⟩
      exact q _ _ (Int.emod_nonneg _ (by omega)) (Int.emod_lt_of_pos _ n0) (wd.bagged ⟨ns, i, c / n, s, upd_same, by rw [upd_ne lb]; exact hl, h63, i0, i1, Int.ediv_nonneg c0 (by omega), s0, s1⟩)
    · refine ⟨_, rfl, _, _, _, _, rfl, rfl, B, rfl, ?_⟩
      refine ⟨_, rfl, _, rfl, _, _, rfl, rfl, .inl ⟨by omega, by omega⟩, _, rfl, _, _, rfl, rfl, .inr ⟨by decide, by decide⟩, _, _, rfl, rfl, _, _, rfl, rfl, .inl ⟨_, rfl, _, _, rfl, rfl, p31, ?_⟩⟩
      refine ⟨_, rfl, _, _, _, 3, rfl, rfl, hb, rfl, ?_⟩
      refine ⟨_, rfl, _, _, _, _, rfl, rfl, SqL.of upd_same, rfl, _, _, rfl, rfl, ⟨by decide, by decide⟩, _, rfl, _, _, _, _, rfl, rfl, SqL.of upd_same, rfl, .inl ⟨_, rfl, _, _, rfl, rfl, p8117, _, _, rfl, rfl, .inr ⟨by decide, by decide⟩, _, _, rfl, rfl, .inl ⟨_, rfl, _, rfl, _, _, rfl, rfl, n0, ?_⟩⟩⟩
      exact q _ _ (Int.emod_nonneg _ (by omega)) (Int.emod_lt_of_pos _ n0) (wd.bagged ⟨ns, i, c, _, upd_same, by rw [upd_ne lb]; exact hl, h63, i0, i1, c0, Int.emod_nonneg _ (by decide), Int.emod_lt_of_pos _ (by decide)⟩)
end
end Bh

set_option Elab.async false
set_option linter.all false
set_option maxRecDepth 100000
set_option maxHeartbeats 1000000
namespace Bh
open PySem PySem.Spec PyProof.Rows L2
/-! ### what is new -/
def newOf (H H' : Hp) : Hp := fun a => if H a = none then H' a else none
section
variable {H H1 H2 : Hp} {a p D : Addr} {o : HO} {u : HO}
theorem newOf_le : Same (newOf H H1) H1 := fun a u e => by
  unfold newOf at e
  by_cases h : H a = none
  · rw [if_pos h] at e
    exact e
  · rw [if_neg h] at e
    cases e
theorem newOf_at (h : H a = none) : newOf H H1 a = H1 a := if_pos h
theorem newOf_mono (s : Same H1 H2) : Same (newOf H H1) (newOf H H2) := fun a u e => by
  unfold newOf at e ⊢
  by_cases h : H a = none
  · rw [if_pos h] at e ⊢
    exact s _ _ e
  · rw [if_neg h] at e
    cases e
theorem newOf_trans (s : Same H H1) : Same (newOf H1 H2) (newOf H H2) := fun a u e => by
  unfold newOf at e ⊢
  by_cases h : H1 a = none
  · rw [if_pos h] at e
    rw [if_pos (s.free h)]
    exact e
  · rw [if_neg h] at e
    cases e
/-- new since, and not at D, which was there -/
theorem newOf_hid (s : Same H H1) (hD : H1 D = some u) : Same (newOf H1 H2) (hid D (newOf H (upd H2 D o))) := fun a v e => by
  have n : H1 a = none := by
    cases q : H1 a with
    | none => rfl
    | some w =>
      unfold newOf at e
      rw [if_neg (by rw [q]; exact fun z => nomatch z)] at e
      cases e
  have ne : a ≠ D := fun z => by
    rw [z, hD] at n
    cases n
  rw [newOf_at n] at e
  rw [hid_ne ne, newOf_at (s.free n), upd_ne ne]
  exact e
theorem hid_newOf (s : Same H1 H2) : Same (hid D (newOf H H1)) (hid D (newOf H (upd H2 D o))) := fun a v e => by
  by_cases ne : a = D
  · rw [ne] at e
    unfold hid at e
    rw [if_pos rfl] at e
    cases e
  rw [hid_ne ne] at e ⊢
  have k := newOf_mono (H := H) s _ _ e
  unfold newOf at k ⊢
  by_cases h : H a = none
  · rw [if_pos h] at k ⊢
    rw [upd_ne ne]
    exact k
  · rw [if_neg h] at k
    cases k
end
/-- the promise of copy_of (n: how deep, one more): the same data, all of its lists and tuples new -/
def spCp (K : PySem.W.Frag) : Nat → Sp
  | 0 => fun _ _ _ _ => False
  | n + 1 => fun vs H Q _ => ∃ (v : V) (d : PyData), vs = [v] ∧ Dp K H v d ∧ Sh n d ∧ ∀ H' r, Same H H' → Dp K (newOf H H') r d → Q r H'
section
variable {P : Program} {w : World} {K : PySem.W.Frag} {mg : Str → Option Value} {base : Heap}
theorem copy_step (T : Top K mg) (n : Nat) (G_copy_of : FnOk P w K mg base CX0 n T.a_copy_of T.fd_copy_of ["value"] (spCp K n)) : FnOk P w K mg base CX0 (n + 1) T.a_copy_of T.fd_copy_of ["value"] (spCp K (n + 1)) := by
  refine T.d_copy_of.F.ok sc_copy_of (fun vs H Q E h => ?_) (fun cdv A outer s H vs Q E hr h => ?_)
  · obtain ⟨v, d, rfl, _⟩ := h
    rfl
  obtain ⟨v, d, rfl, hd, hs, q⟩ := h
  refine ⟨_, (pss_cons (ps_if (pt_val (pe_callB (call_isi_K (K := K) (by rfl)) (by rfl) T.b_isinstance (by decide +kernel) (pa_cons (pv 0) (pa_cons (pe_tyN "list" (by rfl) T.b_list (by decide +kernel)) pa_nil)))) (pss_one (ps_ret (pe_lc (own := [("item", 1)]) rfl sc_copy_of.nd (pi_seq_K (K := K) (by rfl) (pv 0)) (blkOk_by (own := [("item", 1)]) (N := ["value", "item", "key", "worth"]) (sc := defScope s_copy_of) (by decide +kernel)) (fun _ _ _ _ _ => by exact (pg_name (i := 1) sc_copy_of.nd rfl (Or.inl rfl))) (fun _ _ _ _ _ => by exact pts_nil) (fun _ _ _ _ _ => by exact (pe_call G_copy_of hr (by rfl) T.d_copy_of.g T.d_copy_of.kp T.d_copy_of.b .nil pass0 (pa_cons (pv 1) pa_nil)))))) pss_nil)
    (pss_cons (ps_if (pt_val (pe_callB (call_isi_K (K := K) (by rfl)) (by rfl) T.b_isinstance (by decide +kernel) (pa_cons (pv 0) (pa_cons (pe_tyN "tuple" (by rfl) T.b_tuple (by decide +kernel)) pa_nil)))) (pss_one (ps_ret (pe_callTy (call_tuple_of_P (K := K) (by rfl)) (by rfl) T.b_tuple (by decide +kernel) (pa_cons (pe_lc (own := [("item", 1)]) rfl sc_copy_of.nd (pi_seq_K (K := K) (by rfl) (pv 0)) (blkOk_by (own := [("item", 1)]) (N := ["value", "item", "key", "worth"]) (sc := defScope s_copy_of) (by decide +kernel)) (fun _ _ _ _ _ => by exact (pg_name (i := 1) sc_copy_of.nd rfl (Or.inl rfl))) (fun _ _ _ _ _ => by exact pts_nil) (fun _ _ _ _ _ => by exact (pe_call G_copy_of hr (by rfl) T.d_copy_of.g T.d_copy_of.kp T.d_copy_of.b .nil pass0 (pa_cons (pv 1) pa_nil)))) pa_nil)))) pss_nil)
    (pss_cons (ps_if (pt_val (pe_callB (call_isi_K (K := K) (by rfl)) (by rfl) T.b_isinstance (by decide +kernel) (pa_cons (pv 0) (pa_cons (pe_tyN "dict" (by rfl) T.b_dict (by decide +kernel)) pa_nil)))) (pss_one ps_never) pss_nil)
    (pss_one (ps_ret (pv 0)))))), ?_⟩
  cases hd with
  | non => exact ⟨_, rfl, _, _, _, _, false, rfl, .ty _, .base .non, kit_ty (by decide +kernel), _, rfl, iteF ⟨_, rfl, _, _, _, _, false, rfl, .ty _, .base .non, kit_ty (by decide +kernel), _, rfl, iteF ⟨_, rfl, _, _, _, _, false, rfl, .ty _, .base .non, kit_ty (by decide +kernel), _, rfl, iteF ⟨_, rfl, q _ _ (Same.refl _) .non⟩⟩⟩⟩
  | bl b => exact ⟨_, rfl, _, _, _, _, false, rfl, .ty _, .base (.bl b), kit_ty (by decide +kernel), _, rfl, iteF ⟨_, rfl, _, _, _, _, false, rfl, .ty _, .base (.bl b), kit_ty (by decide +kernel), _, rfl, iteF ⟨_, rfl, _, _, _, _, false, rfl, .ty _, .base (.bl b), kit_ty (by decide +kernel), _, rfl, iteF ⟨_, rfl, q _ _ (Same.refl _) (.bl b)⟩⟩⟩⟩
  | int i => exact ⟨_, rfl, _, _, _, _, false, rfl, .ty _, .base (.int i), kit_ty (by decide +kernel), _, rfl, iteF ⟨_, rfl, _, _, _, _, false, rfl, .ty _, .base (.int i), kit_ty (by decide +kernel), _, rfl, iteF ⟨_, rfl, _, _, _, _, false, rfl, .ty _, .base (.int i), kit_ty (by decide +kernel), _, rfl, iteF ⟨_, rfl, q _ _ (Same.refl _) (.int i)⟩⟩⟩⟩
  | str z => exact ⟨_, rfl, _, _, _, _, false, rfl, .ty _, .base (.str z), kit_ty (by decide +kernel), _, rfl, iteF ⟨_, rfl, _, _, _, _, false, rfl, .ty _, .base (.str z), kit_ty (by decide +kernel), _, rfl, iteF ⟨_, rfl, _, _, _, _, false, rfl, .ty _, .base (.str z), kit_ty (by decide +kernel), _, rfl, iteF ⟨_, rfl, q _ _ (Same.refl _) (.str z)⟩⟩⟩⟩
  | @lst a xs ds h1 h2 =>
    cases hs with
    | @lst m _ hl hall =>
    have lx := DpAll.length h2
    refine ⟨_, rfl, _, _, _, _, true, rfl, .ty _, tyL h1, kit_ty (by decide +kernel), _, rfl, iteT (.inl ⟨_, rfl, a, rfl, ⟨_, h1⟩, fun D nD => ?_⟩)⟩
    refine lc_it walk_list (fun i H' => ∃ ys, Same H H' ∧ H' D = some (.lst ys) ∧ DpAll K (hid D (newOf H H')) ys (ds.take i)) ⟨[], same_new nD, upd_same, .nil⟩ (fun i H' _ ⟨_, e, _⟩ => e.seq h1) ?_ ?_
    · rintro i y H' H'' hi ⟨ys, s1, hD, hY⟩ ⟨rfl, ey⟩
      obtain ⟨d, e1, e2⟩ := DpAll.get h2 ey
      refine ⟨rfl, _, rfl, y, d, rfl, Dp.mono s1 e2, hall d (List.mem_of_getElem? e1), fun H3 r s3 hr3 => ⟨ys, s3 _ _ hD, ?_, ys ++ [r], same_mut (s1.trans s3) nD, upd_same, ?_⟩⟩
      · rw [DpAll.length hY, List.length_take]
        exact lt_line (by omega)
      · rw [List.take_add_one, e1]
        exact DpAll.append (DpAll.mono (hid_newOf s3) hY) (.cons (Dp.mono (newOf_hid s1 hD) hr3) .nil)
    · rintro H' ⟨ys, s1, hD, hY⟩
      rw [lx, List.take_length] at hY
      exact q _ _ s1 (.lst (SqL.of ((newOf_at nD).trans hD)) (DpAll.mono hid_le hY))
  | @tup a xs ds h1 h2 =>
    cases hs with
    | @tup m _ hl hall =>
    have lx := DpAll.length h2
    refine ⟨_, rfl, _, _, _, _, false, rfl, .ty _, tyT h1, kit_ty (by decide +kernel), _, rfl, iteF ?_⟩
    refine ⟨_, rfl, _, _, _, _, true, rfl, .ty _, tyT h1, kit_ty (by decide +kernel), _, rfl, iteT ?_⟩
    refine .inr ⟨_, rfl, a, rfl, ⟨_, h1⟩, fun D nD => ?_⟩
    refine lc_it walk_tup (fun i H' => ∃ ys, Same H H' ∧ H' D = some (.lst ys) ∧ DpAll K (hid D (newOf H H')) ys (ds.take i)) ⟨[], same_new nD, upd_same, .nil⟩ (fun i H' _ ⟨_, e, _⟩ => Same.tup e h1) ?_ ?_
    · rintro i y H' H'' hi ⟨ys, s1, hD, hY⟩ ⟨rfl, ey⟩
      obtain ⟨d, e1, e2⟩ := DpAll.get h2 ey
      refine ⟨rfl, _, rfl, y, d, rfl, Dp.mono s1 e2, hall d (List.mem_of_getElem? e1), fun H3 r s3 hr3 => ⟨ys, s3 _ _ hD, ?_, ys ++ [r], same_mut (s1.trans s3) nD, upd_same, ?_⟩⟩
      · rw [DpAll.length hY, List.length_take]
        exact lt_line (by omega)
      · rw [List.take_add_one, e1]
        exact DpAll.append (DpAll.mono (hid_newOf s3) hY) (.cons (Dp.mono (newOf_hid s1 hD) hr3) .nil)
    · rintro H' ⟨ys, s1, hD, hY⟩
      rw [lx, List.take_length] at hY
      refine ⟨D, ys, rfl, .inl ⟨SqL.of hD, fun p o np hd => ?_⟩⟩
      have s2 := same_new (o := .frz o (.tup ys)) np
      have hp : newOf H (upd H' p (.frz o (.tup ys))) p = some (.frz o (.tup ys)) := by
        rw [newOf_at (s1.free np)]
        exact upd_same
      exact q _ _ (s1.trans s2) (.tup (.inl (.inr ⟨o, hp⟩)) (DpAll.mono (newOf_mono s2) (DpAll.mono hid_le hY)))
theorem ok_copy (T : Top K mg) : ∀ n : Nat, FnOk P w K mg base CX0 n T.a_copy_of T.fd_copy_of ["value"] (spCp K n)
  | 0 => ⟨fun _ _ _ _ h => h.elim, fun _ _ _ _ _ _ _ _ _ _ _ _ _ h => h.elim⟩
  | n + 1 => copy_step T n (ok_copy T n)
end
end Bh

set_option Elab.async false
set_option linter.all false
set_option maxRecDepth 100000
set_option maxHeartbeats 1000000
namespace Bh
open PySem PySem.Spec PyProof.Rows L2
/-! the __init__ of the 26 classes -/
/-- a's dict holds the code and, under f, a copy of d all of whose lists and tuples are new -/
def spIn (K : PySem.W.Frag) (C : Addr) (nm f : Str) (n : Nat) : Sp := fun vs H Q _ => ∃ (a : Addr) (v : V) (d : PyData), vs = [.ref a, v] ∧ H a = some (exo a C none) ∧ Dp K H v d ∧ Sh n d ∧
  ∀ (dx : Addr) (r : V) (H2 : Hp), H dx = none → H2 a = some (exo a C (some dx)) → H2 dx = some (exd dx [("code", .str nm), (f, r)]) → Same (hid a H) H2 → Dp K (newOf H H2) r d → Q .non H2
/-- the same of a class without an attribute -/
def spIn0 (C : Addr) (nm : Str) : Sp := fun vs H Q _ => ∃ (a : Addr), vs = [.ref a] ∧ H a = some (exo a C none) ∧
  ∀ (dx : Addr) (H2 : Hp), H dx = none → H2 a = some (exo a C (some dx)) → H2 dx = some (exd dx [("code", .str nm)]) → Same (hid a H) H2 → Q .non H2
theorem init_same {H H3 : Hp} {a dx : Addr} {o1 o2 o3 : HO} (s : Same H H3) (nd : H3 dx = none) : Same (hid a H) (upd (upd (upd H3 dx o1) a o2) dx o3) := fun b u e => by
  have ne : b ≠ a := fun z => by
    rw [z] at e
    unfold hid at e
    rw [if_pos rfl] at e
    cases e
  rw [hid_ne ne] at e
  have k := s _ _ e
  have ne2 : b ≠ dx := fun z => by
    rw [z, nd] at k
    cases k
  rw [upd_ne ne2, upd_ne ne, upd_ne ne2]
  exact k
theorem init_new {H H3 : Hp} {a dx : Addr} {o1 o2 o3 w : HO} (ea : H a = some w) (s : Same H H3) (nd : H3 dx = none) : Same (newOf H H3) (newOf H (upd (upd (upd H3 dx o1) a o2) dx o3)) := fun b u e => by
  unfold newOf at e ⊢
  by_cases h : H b = none
  · rw [if_pos h] at e
    rw [if_pos h]
    have ne : b ≠ a := fun z => by
      rw [z, ea] at h
      cases h
    have ne2 : b ≠ dx := fun z => by
      rw [z, nd] at e
      cases e
    rw [upd_ne ne2, upd_ne ne, upd_ne ne2]
    exact e
  · rw [if_neg h] at e
    cases e
section
variable {P : Program} {w : World} {K : PySem.W.Frag} {mg : Str → Option Value} {base : Heap}

theorem in_InvalidField (T : Top K mg) (n : Nat) : FnOk P w K mg base CX0 (n + 2) T.r_InvalidField.f T.r_InvalidField.fd ["self", "position"] (spIn K T.r_InvalidField.c "InvalidField" "position" n) := by
  have G_copy_of := ok_copy (P := P) (w := w) (base := base) T (n + 1)
  refine T.r_InvalidField.F.ok sc_InvalidField__init (fun vs H Q E h => ?_) (fun cdv A outer s H vs Q E hr h => ?_)
  · obtain ⟨a, v, d, rfl, _⟩ := h
    rfl
  obtain ⟨a, v, d, rfl, ea, hd, n, q⟩ := h
  refine ⟨_, (pss_cons (ps_setG (pv 0) (pe_call G_copy_of hr (by rfl) T.d_copy_of.g T.d_copy_of.kp T.d_copy_of.b .nil pass0 (pa_cons (pv 1) pa_nil)))
    (pss_one (ps_setG (pv 0) pe_str))), ?_⟩
  refine ⟨_, rfl, v, d, rfl, hd, n, fun H3 r s3 hr3 => ⟨_, rfl, a, T.r_InvalidField.c, rfl, T.r_InvalidField.e, T.r_InvalidField.n _ (by decide), .inl ⟨s3 _ _ ea, fun dx nd ne => ?_⟩⟩⟩
  refine ⟨_, rfl, a, T.r_InvalidField.c, rfl, T.r_InvalidField.e, T.r_InvalidField.n _ (by decide), .inr ⟨dx, _, upd_same, (upd_ne ne).trans upd_same, (by show 1 ≤ 900; decide), ?_⟩⟩
  refine q dx r _ (s3.free nd) ?_ upd_same (init_same s3 nd) (Dp.mono (init_new ea s3 nd) hr3)
  rw [upd_ne ne.symm]
  exact upd_same

theorem in_InvalidTie (T : Top K mg) (n : Nat) : FnOk P w K mg base CX0 (n + 2) T.r_InvalidTie.f T.r_InvalidTie.fd ["self", "position"] (spIn K T.r_InvalidTie.c "InvalidTie" "position" n) := by
  have G_copy_of := ok_copy (P := P) (w := w) (base := base) T (n + 1)
  refine T.r_InvalidTie.F.ok sc_InvalidTie__init (fun vs H Q E h => ?_) (fun cdv A outer s H vs Q E hr h => ?_)
  · obtain ⟨a, v, d, rfl, _⟩ := h
    rfl
  obtain ⟨a, v, d, rfl, ea, hd, n, q⟩ := h
  refine ⟨_, (pss_cons (ps_setG (pv 0) (pe_call G_copy_of hr (by rfl) T.d_copy_of.g T.d_copy_of.kp T.d_copy_of.b .nil pass0 (pa_cons (pv 1) pa_nil)))
    (pss_one (ps_setG (pv 0) pe_str))), ?_⟩
  refine ⟨_, rfl, v, d, rfl, hd, n, fun H3 r s3 hr3 => ⟨_, rfl, a, T.r_InvalidTie.c, rfl, T.r_InvalidTie.e, T.r_InvalidTie.n _ (by decide), .inl ⟨s3 _ _ ea, fun dx nd ne => ?_⟩⟩⟩
  refine ⟨_, rfl, a, T.r_InvalidTie.c, rfl, T.r_InvalidTie.e, T.r_InvalidTie.n _ (by decide), .inr ⟨dx, _, upd_same, (upd_ne ne).trans upd_same, (by show 1 ≤ 900; decide), ?_⟩⟩
  refine q dx r _ (s3.free nd) ?_ upd_same (init_same s3 nd) (Dp.mono (init_new ea s3 nd) hr3)
  rw [upd_ne ne.symm]
  exact upd_same

theorem in_InvalidKind (T : Top K mg) (n : Nat) : FnOk P w K mg base CX0 (n + 2) T.r_InvalidKind.f T.r_InvalidKind.fd ["self", "position"] (spIn K T.r_InvalidKind.c "InvalidKind" "position" n) := by
  have G_copy_of := ok_copy (P := P) (w := w) (base := base) T (n + 1)
  refine T.r_InvalidKind.F.ok sc_InvalidKind__init (fun vs H Q E h => ?_) (fun cdv A outer s H vs Q E hr h => ?_)
  · obtain ⟨a, v, d, rfl, _⟩ := h
    rfl
  obtain ⟨a, v, d, rfl, ea, hd, n, q⟩ := h
  refine ⟨_, (pss_cons (ps_setG (pv 0) (pe_call G_copy_of hr (by rfl) T.d_copy_of.g T.d_copy_of.kp T.d_copy_of.b .nil pass0 (pa_cons (pv 1) pa_nil)))
    (pss_one (ps_setG (pv 0) pe_str))), ?_⟩
  refine ⟨_, rfl, v, d, rfl, hd, n, fun H3 r s3 hr3 => ⟨_, rfl, a, T.r_InvalidKind.c, rfl, T.r_InvalidKind.e, T.r_InvalidKind.n _ (by decide), .inl ⟨s3 _ _ ea, fun dx nd ne => ?_⟩⟩⟩
  refine ⟨_, rfl, a, T.r_InvalidKind.c, rfl, T.r_InvalidKind.e, T.r_InvalidKind.n _ (by decide), .inr ⟨dx, _, upd_same, (upd_ne ne).trans upd_same, (by show 1 ≤ 900; decide), ?_⟩⟩
  refine q dx r _ (s3.free nd) ?_ upd_same (init_same s3 nd) (Dp.mono (init_new ea s3 nd) hr3)
  rw [upd_ne ne.symm]
  exact upd_same

theorem in_InvalidHolding (T : Top K mg) (n : Nat) : FnOk P w K mg base CX0 (n + 2) T.r_InvalidHolding.f T.r_InvalidHolding.fd ["self", "given"] (spIn K T.r_InvalidHolding.c "InvalidHolding" "given" n) := by
  have G_copy_of := ok_copy (P := P) (w := w) (base := base) T (n + 1)
  refine T.r_InvalidHolding.F.ok sc_InvalidHolding__init (fun vs H Q E h => ?_) (fun cdv A outer s H vs Q E hr h => ?_)
  · obtain ⟨a, v, d, rfl, _⟩ := h
    rfl
  obtain ⟨a, v, d, rfl, ea, hd, n, q⟩ := h
  refine ⟨_, (pss_cons (ps_setG (pv 0) (pe_call G_copy_of hr (by rfl) T.d_copy_of.g T.d_copy_of.kp T.d_copy_of.b .nil pass0 (pa_cons (pv 1) pa_nil)))
    (pss_one (ps_setG (pv 0) pe_str))), ?_⟩
  refine ⟨_, rfl, v, d, rfl, hd, n, fun H3 r s3 hr3 => ⟨_, rfl, a, T.r_InvalidHolding.c, rfl, T.r_InvalidHolding.e, T.r_InvalidHolding.n _ (by decide), .inl ⟨s3 _ _ ea, fun dx nd ne => ?_⟩⟩⟩
  refine ⟨_, rfl, a, T.r_InvalidHolding.c, rfl, T.r_InvalidHolding.e, T.r_InvalidHolding.n _ (by decide), .inr ⟨dx, _, upd_same, (upd_ne ne).trans upd_same, (by show 1 ≤ 900; decide), ?_⟩⟩
  refine q dx r _ (s3.free nd) ?_ upd_same (init_same s3 nd) (Dp.mono (init_new ea s3 nd) hr3)
  rw [upd_ne ne.symm]
  exact upd_same

theorem in_InvalidRulebook (T : Top K mg) (n : Nat) : FnOk P w K mg base CX0 (n + 2) T.r_InvalidRulebook.f T.r_InvalidRulebook.fd ["self", "line"] (spIn K T.r_InvalidRulebook.c "InvalidRulebook" "line" n) := by
  have G_copy_of := ok_copy (P := P) (w := w) (base := base) T (n + 1)
  refine T.r_InvalidRulebook.F.ok sc_InvalidRulebook__init (fun vs H Q E h => ?_) (fun cdv A outer s H vs Q E hr h => ?_)
  · obtain ⟨a, v, d, rfl, _⟩ := h
    rfl
  obtain ⟨a, v, d, rfl, ea, hd, n, q⟩ := h
  refine ⟨_, (pss_cons (ps_setG (pv 0) (pe_call G_copy_of hr (by rfl) T.d_copy_of.g T.d_copy_of.kp T.d_copy_of.b .nil pass0 (pa_cons (pv 1) pa_nil)))
    (pss_one (ps_setG (pv 0) pe_str))), ?_⟩
  refine ⟨_, rfl, v, d, rfl, hd, n, fun H3 r s3 hr3 => ⟨_, rfl, a, T.r_InvalidRulebook.c, rfl, T.r_InvalidRulebook.e, T.r_InvalidRulebook.n _ (by decide), .inl ⟨s3 _ _ ea, fun dx nd ne => ?_⟩⟩⟩
  refine ⟨_, rfl, a, T.r_InvalidRulebook.c, rfl, T.r_InvalidRulebook.e, T.r_InvalidRulebook.n _ (by decide), .inr ⟨dx, _, upd_same, (upd_ne ne).trans upd_same, (by show 1 ≤ 900; decide), ?_⟩⟩
  refine q dx r _ (s3.free nd) ?_ upd_same (init_same s3 nd) (Dp.mono (init_new ea s3 nd) hr3)
  rw [upd_ne ne.symm]
  exact upd_same

theorem in_InvalidName (T : Top K mg) (n : Nat) : FnOk P w K mg base CX0 (n + 2) T.r_InvalidName.f T.r_InvalidName.fd ["self", "given"] (spIn K T.r_InvalidName.c "InvalidName" "given" n) := by
  have G_copy_of := ok_copy (P := P) (w := w) (base := base) T (n + 1)
  refine T.r_InvalidName.F.ok sc_InvalidName__init (fun vs H Q E h => ?_) (fun cdv A outer s H vs Q E hr h => ?_)
  · obtain ⟨a, v, d, rfl, _⟩ := h
    rfl
  obtain ⟨a, v, d, rfl, ea, hd, n, q⟩ := h
  refine ⟨_, (pss_cons (ps_setG (pv 0) (pe_call G_copy_of hr (by rfl) T.d_copy_of.g T.d_copy_of.kp T.d_copy_of.b .nil pass0 (pa_cons (pv 1) pa_nil)))
    (pss_one (ps_setG (pv 0) pe_str))), ?_⟩
  refine ⟨_, rfl, v, d, rfl, hd, n, fun H3 r s3 hr3 => ⟨_, rfl, a, T.r_InvalidName.c, rfl, T.r_InvalidName.e, T.r_InvalidName.n _ (by decide), .inl ⟨s3 _ _ ea, fun dx nd ne => ?_⟩⟩⟩
  refine ⟨_, rfl, a, T.r_InvalidName.c, rfl, T.r_InvalidName.e, T.r_InvalidName.n _ (by decide), .inr ⟨dx, _, upd_same, (upd_ne ne).trans upd_same, (by show 1 ≤ 900; decide), ?_⟩⟩
  refine q dx r _ (s3.free nd) ?_ upd_same (init_same s3 nd) (Dp.mono (init_new ea s3 nd) hr3)
  rw [upd_ne ne.symm]
  exact upd_same

theorem in_InvalidNetwork (T : Top K mg) (n : Nat) : FnOk P w K mg base CX0 (n + 2) T.r_InvalidNetwork.f T.r_InvalidNetwork.fd ["self", "line"] (spIn K T.r_InvalidNetwork.c "InvalidNetwork" "line" n) := by
  have G_copy_of := ok_copy (P := P) (w := w) (base := base) T (n + 1)
  refine T.r_InvalidNetwork.F.ok sc_InvalidNetwork__init (fun vs H Q E h => ?_) (fun cdv A outer s H vs Q E hr h => ?_)
  · obtain ⟨a, v, d, rfl, _⟩ := h
    rfl
  obtain ⟨a, v, d, rfl, ea, hd, n, q⟩ := h
  refine ⟨_, (pss_cons (ps_setG (pv 0) (pe_call G_copy_of hr (by rfl) T.d_copy_of.g T.d_copy_of.kp T.d_copy_of.b .nil pass0 (pa_cons (pv 1) pa_nil)))
    (pss_one (ps_setG (pv 0) pe_str))), ?_⟩
  refine ⟨_, rfl, v, d, rfl, hd, n, fun H3 r s3 hr3 => ⟨_, rfl, a, T.r_InvalidNetwork.c, rfl, T.r_InvalidNetwork.e, T.r_InvalidNetwork.n _ (by decide), .inl ⟨s3 _ _ ea, fun dx nd ne => ?_⟩⟩⟩
  refine ⟨_, rfl, a, T.r_InvalidNetwork.c, rfl, T.r_InvalidNetwork.e, T.r_InvalidNetwork.n _ (by decide), .inr ⟨dx, _, upd_same, (upd_ne ne).trans upd_same, (by show 1 ≤ 900; decide), ?_⟩⟩
  refine q dx r _ (s3.free nd) ?_ upd_same (init_same s3 nd) (Dp.mono (init_new ea s3 nd) hr3)
  rw [upd_ne ne.symm]
  exact upd_same

theorem in_InvalidState (T : Top K mg) (n : Nat) : FnOk P w K mg base CX0 (n + 2) T.r_InvalidState.f T.r_InvalidState.fd ["self", "cell"] (spIn K T.r_InvalidState.c "InvalidState" "cell" n) := by
  have G_copy_of := ok_copy (P := P) (w := w) (base := base) T (n + 1)
  refine T.r_InvalidState.F.ok sc_InvalidState__init (fun vs H Q E h => ?_) (fun cdv A outer s H vs Q E hr h => ?_)
  · obtain ⟨a, v, d, rfl, _⟩ := h
    rfl
  obtain ⟨a, v, d, rfl, ea, hd, n, q⟩ := h
  refine ⟨_, (pss_cons (ps_setG (pv 0) (pe_call G_copy_of hr (by rfl) T.d_copy_of.g T.d_copy_of.kp T.d_copy_of.b .nil pass0 (pa_cons (pv 1) pa_nil)))
    (pss_one (ps_setG (pv 0) pe_str))), ?_⟩
  refine ⟨_, rfl, v, d, rfl, hd, n, fun H3 r s3 hr3 => ⟨_, rfl, a, T.r_InvalidState.c, rfl, T.r_InvalidState.e, T.r_InvalidState.n _ (by decide), .inl ⟨s3 _ _ ea, fun dx nd ne => ?_⟩⟩⟩
  refine ⟨_, rfl, a, T.r_InvalidState.c, rfl, T.r_InvalidState.e, T.r_InvalidState.n _ (by decide), .inr ⟨dx, _, upd_same, (upd_ne ne).trans upd_same, (by show 1 ≤ 900; decide), ?_⟩⟩
  refine q dx r _ (s3.free nd) ?_ upd_same (init_same s3 nd) (Dp.mono (init_new ea s3 nd) hr3)
  rw [upd_ne ne.symm]
  exact upd_same

theorem in_InvalidLook (T : Top K mg) (n : Nat) : FnOk P w K mg base CX0 (n + 2) T.r_InvalidLook.f T.r_InvalidLook.fd ["self", "cell"] (spIn K T.r_InvalidLook.c "InvalidLook" "cell" n) := by
  have G_copy_of := ok_copy (P := P) (w := w) (base := base) T (n + 1)
  refine T.r_InvalidLook.F.ok sc_InvalidLook__init (fun vs H Q E h => ?_) (fun cdv A outer s H vs Q E hr h => ?_)
  · obtain ⟨a, v, d, rfl, _⟩ := h
    rfl
  obtain ⟨a, v, d, rfl, ea, hd, n, q⟩ := h
  refine ⟨_, (pss_cons (ps_setG (pv 0) (pe_call G_copy_of hr (by rfl) T.d_copy_of.g T.d_copy_of.kp T.d_copy_of.b .nil pass0 (pa_cons (pv 1) pa_nil)))
    (pss_one (ps_setG (pv 0) pe_str))), ?_⟩
  refine ⟨_, rfl, v, d, rfl, hd, n, fun H3 r s3 hr3 => ⟨_, rfl, a, T.r_InvalidLook.c, rfl, T.r_InvalidLook.e, T.r_InvalidLook.n _ (by decide), .inl ⟨s3 _ _ ea, fun dx nd ne => ?_⟩⟩⟩
  refine ⟨_, rfl, a, T.r_InvalidLook.c, rfl, T.r_InvalidLook.e, T.r_InvalidLook.n _ (by decide), .inr ⟨dx, _, upd_same, (upd_ne ne).trans upd_same, (by show 1 ≤ 900; decide), ?_⟩⟩
  refine q dx r _ (s3.free nd) ?_ upd_same (init_same s3 nd) (Dp.mono (init_new ea s3 nd) hr3)
  rw [upd_ne ne.symm]
  exact upd_same

theorem in_InvalidCount (T : Top K mg) (n : Nat) : FnOk P w K mg base CX0 (n + 2) T.r_InvalidCount.f T.r_InvalidCount.fd ["self", "given"] (spIn K T.r_InvalidCount.c "InvalidCount" "given" n) := by
  have G_copy_of := ok_copy (P := P) (w := w) (base := base) T (n + 1)
  refine T.r_InvalidCount.F.ok sc_InvalidCount__init (fun vs H Q E h => ?_) (fun cdv A outer s H vs Q E hr h => ?_)
  · obtain ⟨a, v, d, rfl, _⟩ := h
    rfl
  obtain ⟨a, v, d, rfl, ea, hd, n, q⟩ := h
  refine ⟨_, (pss_cons (ps_setG (pv 0) (pe_call G_copy_of hr (by rfl) T.d_copy_of.g T.d_copy_of.kp T.d_copy_of.b .nil pass0 (pa_cons (pv 1) pa_nil)))
    (pss_one (ps_setG (pv 0) pe_str))), ?_⟩
  refine ⟨_, rfl, v, d, rfl, hd, n, fun H3 r s3 hr3 => ⟨_, rfl, a, T.r_InvalidCount.c, rfl, T.r_InvalidCount.e, T.r_InvalidCount.n _ (by decide), .inl ⟨s3 _ _ ea, fun dx nd ne => ?_⟩⟩⟩
  refine ⟨_, rfl, a, T.r_InvalidCount.c, rfl, T.r_InvalidCount.e, T.r_InvalidCount.n _ (by decide), .inr ⟨dx, _, upd_same, (upd_ne ne).trans upd_same, (by show 1 ≤ 900; decide), ?_⟩⟩
  refine q dx r _ (s3.free nd) ?_ upd_same (init_same s3 nd) (Dp.mono (init_new ea s3 nd) hr3)
  rw [upd_ne ne.symm]
  exact upd_same

theorem in_InvalidCommand (T : Top K mg) (n : Nat) : FnOk P w K mg base CX0 (n + 2) T.r_InvalidCommand.f T.r_InvalidCommand.fd ["self", "word"] (spIn K T.r_InvalidCommand.c "InvalidCommand" "word" n) := by
  have G_copy_of := ok_copy (P := P) (w := w) (base := base) T (n + 1)
  refine T.r_InvalidCommand.F.ok sc_InvalidCommand__init (fun vs H Q E h => ?_) (fun cdv A outer s H vs Q E hr h => ?_)
  · obtain ⟨a, v, d, rfl, _⟩ := h
    rfl
  obtain ⟨a, v, d, rfl, ea, hd, n, q⟩ := h
  refine ⟨_, (pss_cons (ps_setG (pv 0) (pe_call G_copy_of hr (by rfl) T.d_copy_of.g T.d_copy_of.kp T.d_copy_of.b .nil pass0 (pa_cons (pv 1) pa_nil)))
    (pss_one (ps_setG (pv 0) pe_str))), ?_⟩
  refine ⟨_, rfl, v, d, rfl, hd, n, fun H3 r s3 hr3 => ⟨_, rfl, a, T.r_InvalidCommand.c, rfl, T.r_InvalidCommand.e, T.r_InvalidCommand.n _ (by decide), .inl ⟨s3 _ _ ea, fun dx nd ne => ?_⟩⟩⟩
  refine ⟨_, rfl, a, T.r_InvalidCommand.c, rfl, T.r_InvalidCommand.e, T.r_InvalidCommand.n _ (by decide), .inr ⟨dx, _, upd_same, (upd_ne ne).trans upd_same, (by show 1 ≤ 900; decide), ?_⟩⟩
  refine q dx r _ (s3.free nd) ?_ upd_same (init_same s3 nd) (Dp.mono (init_new ea s3 nd) hr3)
  rw [upd_ne ne.symm]
  exact upd_same

theorem in_InvalidLimit (T : Top K mg) (n : Nat) : FnOk P w K mg base CX0 (n + 2) T.r_InvalidLimit.f T.r_InvalidLimit.fd ["self", "given"] (spIn K T.r_InvalidLimit.c "InvalidLimit" "given" n) := by
  have G_copy_of := ok_copy (P := P) (w := w) (base := base) T (n + 1)
  refine T.r_InvalidLimit.F.ok sc_InvalidLimit__init (fun vs H Q E h => ?_) (fun cdv A outer s H vs Q E hr h => ?_)
  · obtain ⟨a, v, d, rfl, _⟩ := h
    rfl
  obtain ⟨a, v, d, rfl, ea, hd, n, q⟩ := h
  refine ⟨_, (pss_cons (ps_setG (pv 0) (pe_call G_copy_of hr (by rfl) T.d_copy_of.g T.d_copy_of.kp T.d_copy_of.b .nil pass0 (pa_cons (pv 1) pa_nil)))
    (pss_one (ps_setG (pv 0) pe_str))), ?_⟩
  refine ⟨_, rfl, v, d, rfl, hd, n, fun H3 r s3 hr3 => ⟨_, rfl, a, T.r_InvalidLimit.c, rfl, T.r_InvalidLimit.e, T.r_InvalidLimit.n _ (by decide), .inl ⟨s3 _ _ ea, fun dx nd ne => ?_⟩⟩⟩
  refine ⟨_, rfl, a, T.r_InvalidLimit.c, rfl, T.r_InvalidLimit.e, T.r_InvalidLimit.n _ (by decide), .inr ⟨dx, _, upd_same, (upd_ne ne).trans upd_same, (by show 1 ≤ 900; decide), ?_⟩⟩
  refine q dx r _ (s3.free nd) ?_ upd_same (init_same s3 nd) (Dp.mono (init_new ea s3 nd) hr3)
  rw [upd_ne ne.symm]
  exact upd_same

theorem in_InvalidPage (T : Top K mg) (n : Nat) : FnOk P w K mg base CX0 (n + 2) T.r_InvalidPage.f T.r_InvalidPage.fd ["self", "line"] (spIn K T.r_InvalidPage.c "InvalidPage" "line" n) := by
  have G_copy_of := ok_copy (P := P) (w := w) (base := base) T (n + 1)
  refine T.r_InvalidPage.F.ok sc_InvalidPage__init (fun vs H Q E h => ?_) (fun cdv A outer s H vs Q E hr h => ?_)
  · obtain ⟨a, v, d, rfl, _⟩ := h
    rfl
  obtain ⟨a, v, d, rfl, ea, hd, n, q⟩ := h
  refine ⟨_, (pss_cons (ps_setG (pv 0) (pe_call G_copy_of hr (by rfl) T.d_copy_of.g T.d_copy_of.kp T.d_copy_of.b .nil pass0 (pa_cons (pv 1) pa_nil)))
    (pss_one (ps_setG (pv 0) pe_str))), ?_⟩
  refine ⟨_, rfl, v, d, rfl, hd, n, fun H3 r s3 hr3 => ⟨_, rfl, a, T.r_InvalidPage.c, rfl, T.r_InvalidPage.e, T.r_InvalidPage.n _ (by decide), .inl ⟨s3 _ _ ea, fun dx nd ne => ?_⟩⟩⟩
  refine ⟨_, rfl, a, T.r_InvalidPage.c, rfl, T.r_InvalidPage.e, T.r_InvalidPage.n _ (by decide), .inr ⟨dx, _, upd_same, (upd_ne ne).trans upd_same, (by show 1 ≤ 900; decide), ?_⟩⟩
  refine q dx r _ (s3.free nd) ?_ upd_same (init_same s3 nd) (Dp.mono (init_new ea s3 nd) hr3)
  rw [upd_ne ne.symm]
  exact upd_same

theorem in_DuplicateCell (T : Top K mg) (n : Nat) : FnOk P w K mg base CX0 (n + 2) T.r_DuplicateCell.f T.r_DuplicateCell.fd ["self", "name"] (spIn K T.r_DuplicateCell.c "DuplicateCell" "name" n) := by
  have G_copy_of := ok_copy (P := P) (w := w) (base := base) T (n + 1)
  refine T.r_DuplicateCell.F.ok sc_DuplicateCell__init (fun vs H Q E h => ?_) (fun cdv A outer s H vs Q E hr h => ?_)
  · obtain ⟨a, v, d, rfl, _⟩ := h
    rfl
  obtain ⟨a, v, d, rfl, ea, hd, n, q⟩ := h
  refine ⟨_, (pss_cons (ps_setG (pv 0) (pe_call G_copy_of hr (by rfl) T.d_copy_of.g T.d_copy_of.kp T.d_copy_of.b .nil pass0 (pa_cons (pv 1) pa_nil)))
    (pss_one (ps_setG (pv 0) pe_str))), ?_⟩
  refine ⟨_, rfl, v, d, rfl, hd, n, fun H3 r s3 hr3 => ⟨_, rfl, a, T.r_DuplicateCell.c, rfl, T.r_DuplicateCell.e, T.r_DuplicateCell.n _ (by decide), .inl ⟨s3 _ _ ea, fun dx nd ne => ?_⟩⟩⟩
  refine ⟨_, rfl, a, T.r_DuplicateCell.c, rfl, T.r_DuplicateCell.e, T.r_DuplicateCell.n _ (by decide), .inr ⟨dx, _, upd_same, (upd_ne ne).trans upd_same, (by show 1 ≤ 900; decide), ?_⟩⟩
  refine q dx r _ (s3.free nd) ?_ upd_same (init_same s3 nd) (Dp.mono (init_new ea s3 nd) hr3)
  rw [upd_ne ne.symm]
  exact upd_same

theorem in_DuplicateTie (T : Top K mg) (n : Nat) : FnOk P w K mg base CX0 (n + 2) T.r_DuplicateTie.f T.r_DuplicateTie.fd ["self", "tie"] (spIn K T.r_DuplicateTie.c "DuplicateTie" "tie" n) := by
  have G_copy_of := ok_copy (P := P) (w := w) (base := base) T (n + 1)
  refine T.r_DuplicateTie.F.ok sc_DuplicateTie__init (fun vs H Q E h => ?_) (fun cdv A outer s H vs Q E hr h => ?_)
  · obtain ⟨a, v, d, rfl, _⟩ := h
    rfl
  obtain ⟨a, v, d, rfl, ea, hd, n, q⟩ := h
  refine ⟨_, (pss_cons (ps_setG (pv 0) (pe_call G_copy_of hr (by rfl) T.d_copy_of.g T.d_copy_of.kp T.d_copy_of.b .nil pass0 (pa_cons (pv 1) pa_nil)))
    (pss_one (ps_setG (pv 0) pe_str))), ?_⟩
  refine ⟨_, rfl, v, d, rfl, hd, n, fun H3 r s3 hr3 => ⟨_, rfl, a, T.r_DuplicateTie.c, rfl, T.r_DuplicateTie.e, T.r_DuplicateTie.n _ (by decide), .inl ⟨s3 _ _ ea, fun dx nd ne => ?_⟩⟩⟩
  refine ⟨_, rfl, a, T.r_DuplicateTie.c, rfl, T.r_DuplicateTie.e, T.r_DuplicateTie.n _ (by decide), .inr ⟨dx, _, upd_same, (upd_ne ne).trans upd_same, (by show 1 ≤ 900; decide), ?_⟩⟩
  refine q dx r _ (s3.free nd) ?_ upd_same (init_same s3 nd) (Dp.mono (init_new ea s3 nd) hr3)
  rw [upd_ne ne.symm]
  exact upd_same

theorem in_KindsDiffer (T : Top K mg) (n : Nat) : FnOk P w K mg base CX0 (n + 2) T.r_KindsDiffer.f T.r_KindsDiffer.fd ["self", "name"] (spIn K T.r_KindsDiffer.c "KindsDiffer" "name" n) := by
  have G_copy_of := ok_copy (P := P) (w := w) (base := base) T (n + 1)
  refine T.r_KindsDiffer.F.ok sc_KindsDiffer__init (fun vs H Q E h => ?_) (fun cdv A outer s H vs Q E hr h => ?_)
  · obtain ⟨a, v, d, rfl, _⟩ := h
    rfl
  obtain ⟨a, v, d, rfl, ea, hd, n, q⟩ := h
  refine ⟨_, (pss_cons (ps_setG (pv 0) (pe_call G_copy_of hr (by rfl) T.d_copy_of.g T.d_copy_of.kp T.d_copy_of.b .nil pass0 (pa_cons (pv 1) pa_nil)))
    (pss_one (ps_setG (pv 0) pe_str))), ?_⟩
  refine ⟨_, rfl, v, d, rfl, hd, n, fun H3 r s3 hr3 => ⟨_, rfl, a, T.r_KindsDiffer.c, rfl, T.r_KindsDiffer.e, T.r_KindsDiffer.n _ (by decide), .inl ⟨s3 _ _ ea, fun dx nd ne => ?_⟩⟩⟩
  refine ⟨_, rfl, a, T.r_KindsDiffer.c, rfl, T.r_KindsDiffer.e, T.r_KindsDiffer.n _ (by decide), .inr ⟨dx, _, upd_same, (upd_ne ne).trans upd_same, (by show 1 ≤ 900; decide), ?_⟩⟩
  refine q dx r _ (s3.free nd) ?_ upd_same (init_same s3 nd) (Dp.mono (init_new ea s3 nd) hr3)
  rw [upd_ne ne.symm]
  exact upd_same

theorem in_BooksDiffer (T : Top K mg) : FnOk P w K mg base CX0 1 T.r_BooksDiffer.f T.r_BooksDiffer.fd ["self"] (spIn0 T.r_BooksDiffer.c "BooksDiffer") := by
  refine T.r_BooksDiffer.F.ok sc_BooksDiffer__init (fun vs H Q E h => ?_) (fun cdv A outer s H vs Q E hr h => ?_)
  · obtain ⟨a, rfl, _⟩ := h
    rfl
  obtain ⟨a, rfl, ea, q⟩ := h
  refine ⟨_, (pss_one (ps_setG (pv 0) pe_str)), ?_⟩
  refine ⟨_, rfl, a, T.r_BooksDiffer.c, rfl, T.r_BooksDiffer.e, T.r_BooksDiffer.n _ (by decide), .inl ⟨ea, fun dx nd ne => ?_⟩⟩
  refine q dx _ nd upd_same ((upd_ne ne).trans upd_same) fun b u e => ?_
  have n1 : b ≠ a := fun z => by
    rw [z] at e
    unfold hid at e
    rw [if_pos rfl] at e
    cases e
  rw [hid_ne n1] at e
  rw [upd_ne n1, upd_ne (ne_of_none e nd)]
  exact e

theorem in_Unsettled (T : Top K mg) : FnOk P w K mg base CX0 1 T.r_Unsettled.f T.r_Unsettled.fd ["self"] (spIn0 T.r_Unsettled.c "Unsettled") := by
  refine T.r_Unsettled.F.ok sc_Unsettled__init (fun vs H Q E h => ?_) (fun cdv A outer s H vs Q E hr h => ?_)
  · obtain ⟨a, rfl, _⟩ := h
    rfl
  obtain ⟨a, rfl, ea, q⟩ := h
  refine ⟨_, (pss_one (ps_setG (pv 0) pe_str)), ?_⟩
  refine ⟨_, rfl, a, T.r_Unsettled.c, rfl, T.r_Unsettled.e, T.r_Unsettled.n _ (by decide), .inl ⟨ea, fun dx nd ne => ?_⟩⟩
  refine q dx _ nd upd_same ((upd_ne ne).trans upd_same) fun b u e => ?_
  have n1 : b ≠ a := fun z => by
    rw [z] at e
    unfold hid at e
    rw [if_pos rfl] at e
    cases e
  rw [hid_ne n1] at e
  rw [upd_ne n1, upd_ne (ne_of_none e nd)]
  exact e

theorem in_Full (T : Top K mg) (n : Nat) : FnOk P w K mg base CX0 (n + 2) T.r_Full.f T.r_Full.fd ["self", "limit"] (spIn K T.r_Full.c "Full" "limit" n) := by
  have G_copy_of := ok_copy (P := P) (w := w) (base := base) T (n + 1)
  refine T.r_Full.F.ok sc_Full__init (fun vs H Q E h => ?_) (fun cdv A outer s H vs Q E hr h => ?_)
  · obtain ⟨a, v, d, rfl, _⟩ := h
    rfl
  obtain ⟨a, v, d, rfl, ea, hd, n, q⟩ := h
  refine ⟨_, (pss_cons (ps_setG (pv 0) (pe_call G_copy_of hr (by rfl) T.d_copy_of.g T.d_copy_of.kp T.d_copy_of.b .nil pass0 (pa_cons (pv 1) pa_nil)))
    (pss_one (ps_setG (pv 0) pe_str))), ?_⟩
  refine ⟨_, rfl, v, d, rfl, hd, n, fun H3 r s3 hr3 => ⟨_, rfl, a, T.r_Full.c, rfl, T.r_Full.e, T.r_Full.n _ (by decide), .inl ⟨s3 _ _ ea, fun dx nd ne => ?_⟩⟩⟩
  refine ⟨_, rfl, a, T.r_Full.c, rfl, T.r_Full.e, T.r_Full.n _ (by decide), .inr ⟨dx, _, upd_same, (upd_ne ne).trans upd_same, (by show 1 ≤ 900; decide), ?_⟩⟩
  refine q dx r _ (s3.free nd) ?_ upd_same (init_same s3 nd) (Dp.mono (init_new ea s3 nd) hr3)
  rw [upd_ne ne.symm]
  exact upd_same

theorem in_EmptyHistory (T : Top K mg) : FnOk P w K mg base CX0 1 T.r_EmptyHistory.f T.r_EmptyHistory.fd ["self"] (spIn0 T.r_EmptyHistory.c "EmptyHistory") := by
  refine T.r_EmptyHistory.F.ok sc_EmptyHistory__init (fun vs H Q E h => ?_) (fun cdv A outer s H vs Q E hr h => ?_)
  · obtain ⟨a, rfl, _⟩ := h
    rfl
  obtain ⟨a, rfl, ea, q⟩ := h
  refine ⟨_, (pss_one (ps_setG (pv 0) pe_str)), ?_⟩
  refine ⟨_, rfl, a, T.r_EmptyHistory.c, rfl, T.r_EmptyHistory.e, T.r_EmptyHistory.n _ (by decide), .inl ⟨ea, fun dx nd ne => ?_⟩⟩
  refine q dx _ nd upd_same ((upd_ne ne).trans upd_same) fun b u e => ?_
  have n1 : b ≠ a := fun z => by
    rw [z] at e
    unfold hid at e
    rw [if_pos rfl] at e
    cases e
  rw [hid_ne n1] at e
  rw [upd_ne n1, upd_ne (ne_of_none e nd)]
  exact e

theorem in_UnknownCell (T : Top K mg) (n : Nat) : FnOk P w K mg base CX0 (n + 2) T.r_UnknownCell.f T.r_UnknownCell.fd ["self", "name"] (spIn K T.r_UnknownCell.c "UnknownCell" "name" n) := by
  have G_copy_of := ok_copy (P := P) (w := w) (base := base) T (n + 1)
  refine T.r_UnknownCell.F.ok sc_UnknownCell__init (fun vs H Q E h => ?_) (fun cdv A outer s H vs Q E hr h => ?_)
  · obtain ⟨a, v, d, rfl, _⟩ := h
    rfl
  obtain ⟨a, v, d, rfl, ea, hd, n, q⟩ := h
  refine ⟨_, (pss_cons (ps_setG (pv 0) (pe_call G_copy_of hr (by rfl) T.d_copy_of.g T.d_copy_of.kp T.d_copy_of.b .nil pass0 (pa_cons (pv 1) pa_nil)))
    (pss_one (ps_setG (pv 0) pe_str))), ?_⟩
  refine ⟨_, rfl, v, d, rfl, hd, n, fun H3 r s3 hr3 => ⟨_, rfl, a, T.r_UnknownCell.c, rfl, T.r_UnknownCell.e, T.r_UnknownCell.n _ (by decide), .inl ⟨s3 _ _ ea, fun dx nd ne => ?_⟩⟩⟩
  refine ⟨_, rfl, a, T.r_UnknownCell.c, rfl, T.r_UnknownCell.e, T.r_UnknownCell.n _ (by decide), .inr ⟨dx, _, upd_same, (upd_ne ne).trans upd_same, (by show 1 ≤ 900; decide), ?_⟩⟩
  refine q dx r _ (s3.free nd) ?_ upd_same (init_same s3 nd) (Dp.mono (init_new ea s3 nd) hr3)
  rw [upd_ne ne.symm]
  exact upd_same

theorem in_UnknownKind (T : Top K mg) (n : Nat) : FnOk P w K mg base CX0 (n + 2) T.r_UnknownKind.f T.r_UnknownKind.fd ["self", "name"] (spIn K T.r_UnknownKind.c "UnknownKind" "name" n) := by
  have G_copy_of := ok_copy (P := P) (w := w) (base := base) T (n + 1)
  refine T.r_UnknownKind.F.ok sc_UnknownKind__init (fun vs H Q E h => ?_) (fun cdv A outer s H vs Q E hr h => ?_)
  · obtain ⟨a, v, d, rfl, _⟩ := h
    rfl
  obtain ⟨a, v, d, rfl, ea, hd, n, q⟩ := h
  refine ⟨_, (pss_cons (ps_setG (pv 0) (pe_call G_copy_of hr (by rfl) T.d_copy_of.g T.d_copy_of.kp T.d_copy_of.b .nil pass0 (pa_cons (pv 1) pa_nil)))
    (pss_one (ps_setG (pv 0) pe_str))), ?_⟩
  refine ⟨_, rfl, v, d, rfl, hd, n, fun H3 r s3 hr3 => ⟨_, rfl, a, T.r_UnknownKind.c, rfl, T.r_UnknownKind.e, T.r_UnknownKind.n _ (by decide), .inl ⟨s3 _ _ ea, fun dx nd ne => ?_⟩⟩⟩
  refine ⟨_, rfl, a, T.r_UnknownKind.c, rfl, T.r_UnknownKind.e, T.r_UnknownKind.n _ (by decide), .inr ⟨dx, _, upd_same, (upd_ne ne).trans upd_same, (by show 1 ≤ 900; decide), ?_⟩⟩
  refine q dx r _ (s3.free nd) ?_ upd_same (init_same s3 nd) (Dp.mono (init_new ea s3 nd) hr3)
  rw [upd_ne ne.symm]
  exact upd_same

theorem in_UnknownTie (T : Top K mg) (n : Nat) : FnOk P w K mg base CX0 (n + 2) T.r_UnknownTie.f T.r_UnknownTie.fd ["self", "name"] (spIn K T.r_UnknownTie.c "UnknownTie" "name" n) := by
  have G_copy_of := ok_copy (P := P) (w := w) (base := base) T (n + 1)
  refine T.r_UnknownTie.F.ok sc_UnknownTie__init (fun vs H Q E h => ?_) (fun cdv A outer s H vs Q E hr h => ?_)
  · obtain ⟨a, v, d, rfl, _⟩ := h
    rfl
  obtain ⟨a, v, d, rfl, ea, hd, n, q⟩ := h
  refine ⟨_, (pss_cons (ps_setG (pv 0) (pe_call G_copy_of hr (by rfl) T.d_copy_of.g T.d_copy_of.kp T.d_copy_of.b .nil pass0 (pa_cons (pv 1) pa_nil)))
    (pss_one (ps_setG (pv 0) pe_str))), ?_⟩
  refine ⟨_, rfl, v, d, rfl, hd, n, fun H3 r s3 hr3 => ⟨_, rfl, a, T.r_UnknownTie.c, rfl, T.r_UnknownTie.e, T.r_UnknownTie.n _ (by decide), .inl ⟨s3 _ _ ea, fun dx nd ne => ?_⟩⟩⟩
  refine ⟨_, rfl, a, T.r_UnknownTie.c, rfl, T.r_UnknownTie.e, T.r_UnknownTie.n _ (by decide), .inr ⟨dx, _, upd_same, (upd_ne ne).trans upd_same, (by show 1 ≤ 900; decide), ?_⟩⟩
  refine q dx r _ (s3.free nd) ?_ upd_same (init_same s3 nd) (Dp.mono (init_new ea s3 nd) hr3)
  rw [upd_ne ne.symm]
  exact upd_same

theorem in_UnknownField (T : Top K mg) (n : Nat) : FnOk P w K mg base CX0 (n + 2) T.r_UnknownField.f T.r_UnknownField.fd ["self", "name"] (spIn K T.r_UnknownField.c "UnknownField" "name" n) := by
  have G_copy_of := ok_copy (P := P) (w := w) (base := base) T (n + 1)
  refine T.r_UnknownField.F.ok sc_UnknownField__init (fun vs H Q E h => ?_) (fun cdv A outer s H vs Q E hr h => ?_)
  · obtain ⟨a, v, d, rfl, _⟩ := h
    rfl
  obtain ⟨a, v, d, rfl, ea, hd, n, q⟩ := h
  refine ⟨_, (pss_cons (ps_setG (pv 0) (pe_call G_copy_of hr (by rfl) T.d_copy_of.g T.d_copy_of.kp T.d_copy_of.b .nil pass0 (pa_cons (pv 1) pa_nil)))
    (pss_one (ps_setG (pv 0) pe_str))), ?_⟩
  refine ⟨_, rfl, v, d, rfl, hd, n, fun H3 r s3 hr3 => ⟨_, rfl, a, T.r_UnknownField.c, rfl, T.r_UnknownField.e, T.r_UnknownField.n _ (by decide), .inl ⟨s3 _ _ ea, fun dx nd ne => ?_⟩⟩⟩
  refine ⟨_, rfl, a, T.r_UnknownField.c, rfl, T.r_UnknownField.e, T.r_UnknownField.n _ (by decide), .inr ⟨dx, _, upd_same, (upd_ne ne).trans upd_same, (by show 1 ≤ 900; decide), ?_⟩⟩
  refine q dx r _ (s3.free nd) ?_ upd_same (init_same s3 nd) (Dp.mono (init_new ea s3 nd) hr3)
  rw [upd_ne ne.symm]
  exact upd_same

theorem in_MissingTie (T : Top K mg) (n : Nat) : FnOk P w K mg base CX0 (n + 2) T.r_MissingTie.f T.r_MissingTie.fd ["self", "tie"] (spIn K T.r_MissingTie.c "MissingTie" "tie" n) := by
  have G_copy_of := ok_copy (P := P) (w := w) (base := base) T (n + 1)
  refine T.r_MissingTie.F.ok sc_MissingTie__init (fun vs H Q E h => ?_) (fun cdv A outer s H vs Q E hr h => ?_)
  · obtain ⟨a, v, d, rfl, _⟩ := h
    rfl
  obtain ⟨a, v, d, rfl, ea, hd, n, q⟩ := h
  refine ⟨_, (pss_cons (ps_setG (pv 0) (pe_call G_copy_of hr (by rfl) T.d_copy_of.g T.d_copy_of.kp T.d_copy_of.b .nil pass0 (pa_cons (pv 1) pa_nil)))
    (pss_one (ps_setG (pv 0) pe_str))), ?_⟩
  refine ⟨_, rfl, v, d, rfl, hd, n, fun H3 r s3 hr3 => ⟨_, rfl, a, T.r_MissingTie.c, rfl, T.r_MissingTie.e, T.r_MissingTie.n _ (by decide), .inl ⟨s3 _ _ ea, fun dx nd ne => ?_⟩⟩⟩
  refine ⟨_, rfl, a, T.r_MissingTie.c, rfl, T.r_MissingTie.e, T.r_MissingTie.n _ (by decide), .inr ⟨dx, _, upd_same, (upd_ne ne).trans upd_same, (by show 1 ≤ 900; decide), ?_⟩⟩
  refine q dx r _ (s3.free nd) ?_ upd_same (init_same s3 nd) (Dp.mono (init_new ea s3 nd) hr3)
  rw [upd_ne ne.symm]
  exact upd_same

theorem in_UnknownMoment (T : Top K mg) (n : Nat) : FnOk P w K mg base CX0 (n + 2) T.r_UnknownMoment.f T.r_UnknownMoment.fd ["self", "given"] (spIn K T.r_UnknownMoment.c "UnknownMoment" "given" n) := by
  have G_copy_of := ok_copy (P := P) (w := w) (base := base) T (n + 1)
  refine T.r_UnknownMoment.F.ok sc_UnknownMoment__init (fun vs H Q E h => ?_) (fun cdv A outer s H vs Q E hr h => ?_)
  · obtain ⟨a, v, d, rfl, _⟩ := h
    rfl
  obtain ⟨a, v, d, rfl, ea, hd, n, q⟩ := h
  refine ⟨_, (pss_cons (ps_setG (pv 0) (pe_call G_copy_of hr (by rfl) T.d_copy_of.g T.d_copy_of.kp T.d_copy_of.b .nil pass0 (pa_cons (pv 1) pa_nil)))
    (pss_one (ps_setG (pv 0) pe_str))), ?_⟩
  refine ⟨_, rfl, v, d, rfl, hd, n, fun H3 r s3 hr3 => ⟨_, rfl, a, T.r_UnknownMoment.c, rfl, T.r_UnknownMoment.e, T.r_UnknownMoment.n _ (by decide), .inl ⟨s3 _ _ ea, fun dx nd ne => ?_⟩⟩⟩
  refine ⟨_, rfl, a, T.r_UnknownMoment.c, rfl, T.r_UnknownMoment.e, T.r_UnknownMoment.n _ (by decide), .inr ⟨dx, _, upd_same, (upd_ne ne).trans upd_same, (by show 1 ≤ 900; decide), ?_⟩⟩
  refine q dx r _ (s3.free nd) ?_ upd_same (init_same s3 nd) (Dp.mono (init_new ea s3 nd) hr3)
  rw [upd_ne ne.symm]
  exact upd_same

end
end Bh

set_option Elab.async false
set_option linter.all false
set_option maxRecDepth 100000
namespace Bh
open PySem PySem.Spec PyProof PyProof.Rows L2 HandSPX
/-! ### an own exception made by keyword -/
section
variable {prog : Program} {w : World} {A : Around} {E : Value → Shared → Prop} {R : Result → Shared → Prop} {h : Heap} {g : Array GenState} {d : Drawn} {t : Nat} {os : OsState}
variable {nm q : Str} {C N : Addr} {bs bm bmB : List Value} {hdct : Bool} {sn : List Str} {sub : List Value} {ab : Bool} {col : Option Bool} {dd : Option Addr} {k0 k1 k2 k3 k5 : Option Value} {B newId initId : String} {kk : Str} {kv : Value}
theorem kw_check {M : Model} (F : ExcBaseFacts B newId initId bmB) (hT : ∀ X : String, bm.contains (.type X) = bmB.contains (.type X)) {Q : Unit → Shared → Prop}
    (hC : h.get? C = some (excClassObj nm q C N bs bm hdct sn sub ab col dd k0 k1 k2 k3 k5 newId)) (hq : Q () ⟨h, g, d, t, os⟩) : wpAny M A (checkBuiltinCall newId ⟨[.ref C], [(kk, kv)]⟩) Q E ⟨h, g, d, t, os⟩ := by
  have c1 : (Value.ref C :: bm).contains (.type B) = true := by rw [List.contains_cons, hT, F.hasB, Bool.or_true]
  have c2 := F.noStar
  simp only [checkBuiltinCall, F.newKind, F.newSplit, F.newRow]
  repeat (first | refine wpAny_loadPart_at hC ?_ | (refine wpAny_isSubtype_exc hC ?_; rw [c1]) | refine wpAny_staticBase_exc hC ?_ | refine wpAny_madeBy_exc hC ?_ | simp only [bne_self_eq_false, Bool.false_eq_true, if_false] | wp_step)
  exact hq
theorem kw_new (F : ExcBaseFacts B newId initId bmB) (hT : ∀ X : String, bm.contains (.type X) = bmB.contains (.type X))
    (hC : h.get? C = some (excClassObj nm q C N bs bm hdct sn sub ab col dd k0 k1 k2 k3 k5 newId))
    (hq : R (.ok (.ret (.ref (h.objs.size + 1)))) ⟨(h.push (PySem.W.kdv_tup [])).push (excO C h.objs.size), g, d, t, os⟩) :
    codeAny (model prog w) A (.builtin newId ⟨[.ref C], [(kk, kv)]⟩) R ⟨h, g, d, t, os⟩ := by
  have ends := F.ends
  have c1 : (Value.ref C :: bm).contains (.type B) = true := by rw [List.contains_cons, hT, F.hasB, Bool.or_true]
  have c2 : (Value.ref C :: bm).contains (.type "AttributeError") = false := by rw [List.contains_cons, hT, F.noAttr]; rfl
  have c3 : (Value.ref C :: bm).contains (.type "NameError") = false := by rw [List.contains_cons, hT, F.noName]; rfl
  refine codeAny_builtinAt F.entry ?_
  unfold Builtin.«BaseException.__new__»
  refine PySem.wpAt_bind ?_
  show PySem.wpAt _ _ _ (stack >>= _) _ _ _
  refine PySem.wpAt_bind (PySem.wpAt_stack fun p below => PySem.wpAt_of_wpAny ?_)
  wp_walk
  refine PySem.wpAt_of_wpAny ?_
  rw [F.owner]
  repeat (first | with_reducible refine wpAny_madeHere_exc F.canon hC ?_ | with_reducible refine wpAny_loadPart_at hC ?_ | (with_reducible refine wpAny_isSubtype_exc hC ?_; first | rw [c1] | rw [c2] | rw [c3]) | wp_step)
  show R _ _
  rw [Heap.size_push]
  exact hq
theorem kw_type (F : ExcBaseFacts B newId initId bmB) (hT : ∀ X : String, bm.contains (.type X) = bmB.contains (.type X)) {fI : Addr} {Q : Fin → Shared → Prop}
    (hC : h.get? C = some (excClassObj nm q C N bs bm hdct sn sub ab col dd k0 k1 k2 k3 k5 newId))
    (hi : PySem.W.Looks (model prog w) h (typeLookup (.ref C) "__init__") (some (.ref fI))) (hb : ∀ self, PySem.W.Looks (model prog w) h (bindSpecial (.ref fI) self) (.ref fI, [self]))
    (hq : codeAny (model prog w) A (.call (.ref fI) ⟨[.ref (h.objs.size + 1)], [(kk, kv)]⟩)
      (fun r s' => match r with | .ok (.ret v) => v = .none ∧ Q (.done (.ret (.ref (h.objs.size + 1)))) s' | .ok _ => False | .error e => E e s')
      ⟨(h.push (PySem.W.kdv_tup [])).push (excO C h.objs.size), g, d, t, os⟩) :
    wpAny (model prog w) A (Builtin.«type.__call__» ⟨[.ref C], [(kk, kv)]⟩) Q E ⟨h, g, d, t, os⟩ := by
  repeat (first | with_reducible refine wpAny_loadPart_at hC ?_ | with_reducible refine wpAny_madeBy_exc hC ?_ | wp_step)
  refine codeAny_call_builtin_code (Code.quiet_builtin _ F.quiet) (kw_check F hT hC ?_)
  refine kw_new F hT hC ?_
  show wpAny _ _ _ _ _ _
  have k : ∀ b o, h.get? b = some o → ((h.push (PySem.W.kdv_tup [])).push (excO C h.objs.size)).get? b = some o := fun b o e => Heap.get?_push_of_some _ (Heap.get?_push_of_some _ e)
  have hC1 := k _ _ hC
  have hget : ((h.push (PySem.W.kdv_tup [])).push (excO C h.objs.size)).get? (h.objs.size + 1) = some (excO C h.objs.size) := by heap_get
  have hcC : (Value.ref C :: bm).contains (.ref C) = true := by simp
  have i1 := hi.keeps k
  have b1 := (hb (.ref (h.objs.size + 1))).keeps k
  unfold isInstance
  repeat (first | with_reducible refine wpAny_loadPart_at hget ?_ | (with_reducible refine wpAny_isSubtype_exc hC1 ?_; rw [hcC]) | wp_step)
  show wpAny _ _ (typeLookup (.ref C) _) _ _ _
  refine i1.at ?_
  refine wpAny_holding (wpAny_bind (b1.at ?_))
  refine wpAny_bind (wpAny_call (codeAny_mono hq fun r s' z => ?_))
  rcases r with e | (v | _ | _ | _) <;> first | exact z | exact z.elim | skip
  obtain ⟨rfl, z⟩ := z
  first
    | exact wpAny_pure (wpAny_pure z)
    | (wp_walk; exact z)
theorem kw_call (F : ExcBaseFacts B newId initId bmB) (hT : ∀ X : String, bm.contains (.type X) = bmB.contains (.type X)) {fI : Addr}
    (hC : h.get? C = some (excClassObj nm q C N bs bm hdct sn sub ab col dd k0 k1 k2 k3 k5 newId))
    (hi : PySem.W.Looks (model prog w) h (typeLookup (.ref C) "__init__") (some (.ref fI))) (hb : ∀ self, PySem.W.Looks (model prog w) h (bindSpecial (.ref fI) self) (.ref fI, [self]))
    (hq : codeAny (model prog w) (A.under (.builtin "type.__call__" ⟨[.ref C], [(kk, kv)]⟩)) (.call (.ref fI) ⟨[.ref (h.objs.size + 1)], [(kk, kv)]⟩) (PySem.W.InitBack (h.objs.size + 1) R)
      ⟨(h.push (PySem.W.kdv_tup [])).push (excO C h.objs.size), g, d, t, os⟩) :
    codeAny (model prog w) A (.call (.ref C) ⟨[], [(kk, kv)]⟩) R ⟨h, g, d, t, os⟩ := by
  have f1 := tc_lookup
  have f2 := tc_bind (.ref C)
  have hTy : (⟨h, g, d, t, os⟩ : Shared).TypeIs (.ref C) "type" := ⟨_, hC, rfl⟩
  refine codeAny_of_tree ?_
  show wpAny _ _ (callAny (.ref C) _) _ _ _
  repeat (any_goals (first | assumption | with_reducible refine wpAny_loadPart_at hC ?_ | wp_step))
  refine ⟨rfl, ?_⟩
  refine codeAny_call_builtin_at (Code.quiet_builtin _ (by decide +kernel)) entry_typeCall (wpAny_check_type_call_sub hC (kw_type F hT hC hi hb ?_))
  refine codeAny_mono hq fun r s' z => ?_
  rcases r with e | (v | _ | _ | _) <;> exact z
end
end Bh

set_option Elab.async false
set_option linter.all false
set_option maxRecDepth 100000
namespace Bh
open PySem PySem.Spec PyProof.Rows L2
/-- C() with C's own __init__ -/
theorem pe_mkG0 {X : Cx} {x : Str} {C fI : Addr} {k : Nat} {fd : FuncData} {ps : List Str} {sp : Sp} {p pos : Pos} (T : ExG X.K C) (iC : PySem.W.findIn X.K (.ref C) "__init__" = some (some (.ref fI))) (tI : PySem.W.typeIn X.K (.ref fI) = some (.type "function"))
    (F : FnOk X.prog X.w X.K X.mg X.base CX0 k fI fd ps sp) (hr : Room (k + 1) X.A) (hb : Binds X.K fd ps []) (hg : Gl X x) (hm : X.mg x = some (.ref C))
    (hdb : (x == ("__debug__" : Str)) = false := by decide) :
    PE X (.Call (.Name x p) [] [] pos) (tMkG C sp tNil) := by
  refine ⟨fun pins s σ H Q I h => wpAny_Call_Name_kw (ld_glob I hg hm ?_ hdb)⟩
  obtain ⟨B, newId, initId, bmB, FB, SF, ov, nm, q, N, bs, bm, sn, sub, ab, col, dd, k0, k1, k2, k3, k5, look, same⟩ := T.fam
  refine PySem.W.callWith_K0 I.kIn T.kC ?_
  obtain ⟨_, y⟩ := (h : _ ∧ _)
  obtain ⟨hh, g, dr, tk, os⟩ := s
  have n1 : H (hh.objs.size + 1) = none := I.hok.fresh (Nat.le_succ _)
  have yy := y (hh.objs.size + 1) n1
  have more : ∀ b o, hh.get? b = some o → ((hh.push (PySem.W.kdv_tup [])).push (PySem.HandSPX.excO C hh.objs.size)).get? b = some o := fun b o z => Heap.get?_push_of_some _ (Heap.get?_push_of_some _ z)
  have at_ : ((hh.push (PySem.W.kdv_tup [])).push (PySem.HandSPX.excO C hh.objs.size)).get? (hh.objs.size + 1) = some (PySem.HandSPX.excO C hh.objs.size) := by heap_get
  have J2 : Inv X pins σ (upd H (hh.objs.size + 1) (exo (hh.objs.size + 1) C none)) ⟨(hh.push (PySem.W.kdv_tup [])).push (PySem.HandSPX.excO C hh.objs.size), g, dr, tk, os⟩ := I.laid (t' := tk) more (Nat.le_succ _) (exo_ok at_)
  have rv2 : Vals [V.ref (hh.objs.size + 1)] [Value.ref (hh.objs.size + 1)] := .cons rfl .nil
  have ln : [Value.ref (hh.objs.size + 1)].length = ps.length := rv2.length.symm.trans (F.len _ _ _ _ yy)
  have bnd := hb _ [Value.ref (hh.objs.size + 1)] J2.kIn (by rw [List.append_nil]; exact ln)
  rw [List.append_nil] at bnd
  have body := F.run _ X.stack _ _ ⟨[Value.ref (hh.objs.size + 1)], []⟩ _ _ _ (fun _ _ _ => False) (hr.make C [] []) (J2.env0.make C [] []) bnd rv2 yy
  refine wpAny_call (PySem.HandSPX.call_own FB same (I.kIn _ _ look) (PySem.W.looks_findIn I.kIn iC) (fun self => PySem.W.bind_fn I.kIn self tI) (Nat.zero_le _) (codeAny_mono body fun r s2 z => ?_))
  cases r with
  | error _ => exact z.elim
  | ok fl =>
    cases fl with
    | ret w =>
      obtain ⟨v, H2, o2, b2, un2, ok2, rw2, ev, q2⟩ := z
      subst ev
      exact ⟨rw2, ⟨V.ref (hh.objs.size + 1), H2, J2.call' (ch := []) o2 un2 ok2 b2 (fun _ m => nomatch m), rfl, q2⟩⟩
    | next => exact z.elim
    | brk => exact z.elim
    | cont => exact z.elim
/-- C(k = e): kb is the promise of the binding of self and one keyword -/
theorem pe_mkGK {X : Cx} {x kk : Str} {C fI : Addr} {k : Nat} {fd : FuncData} {ps : List Str} {sp : Sp} {p pos : Pos} {kws : List Keyword} {tk : TA} {g : List Value → List Value → List Value} {gV : List V → List V → List V} (T : ExG X.K C) (iC : PySem.W.findIn X.K (.ref C) "__init__" = some (some (.ref fI))) (tI : PySem.W.typeIn X.K (.ref fI) = some (.type "function"))
    (F : FnOk X.prog X.w X.K X.mg X.base CX0 k fI fd ps sp) (hr : Room (k + 1) X.A) (hb : KBn X.K fd ps 1 [kk] g gV) (hg : Gl X x) (hm : X.mg x = some (.ref C)) (hkw : PK X kws tk)
    (hall : (backToKw pos (keywordEach kws X.env)).all (·.1.isSome) = true := by rfl) (hks : (backToKw pos (keywordEach kws X.env)).filterMap (·.1) = [kk] := by rfl)
    (hdb : (x == ("__debug__" : Str)) = false := by decide) (hpl : ((backTo pos (starEach [] X.env)).any (·.1) || (backToKw pos (keywordEach kws X.env)).any (·.1.isNone)) = false := by rfl) :
    PE X (.Call (.Name x p) [] kws pos) (fun σ H Q => tk σ H fun zs H1 => zs.length = 1 ∧ ∀ a, H1 a = none → sp (gV [.ref a] zs) (upd H1 a (exo a C none)) (fun v H2 => v = .non ∧ Q (.ref a) H2) fun _ _ _ => False) := by
  refine ⟨fun pins s σ H Q I h => wpAny_Call_Name_kw (ld_glob I hg hm ?_ hdb)⟩
  obtain ⟨B, newId, initId, bmB, FB, SF, ov, nm, q, N, bs, bm, sn, sub, ab, col, dd, k0, k1, k2, k3, k5, look, same⟩ := T.fam
  refine PySem.W.callWith_KW0 (h₀ := X.base) I.ok.mod.kin T.kC hall ?_ hpl
  refine thn (hkw.run pos pins s σ H _ I h) fun ws s2 ⟨zs, H1, J, rz, lz, y⟩ => ⟨J.kIn, ?_⟩
  rw [hks]
  obtain ⟨u, rfl⟩ : ∃ u, ws = [u] := by
    cases rz with
    | nil => cases lz
    | cons a b => cases b with
      | nil => exact ⟨_, rfl⟩
      | cons => cases lz
  show wpAny _ _ (call (.ref C) [] [(kk, u)]) _ _ _
  obtain ⟨hh, gg, dr, tk2, os⟩ := s2
  have n1 : H1 (hh.objs.size + 1) = none := J.hok.fresh (Nat.le_succ _)
  have yy := y (hh.objs.size + 1) n1
  have more : ∀ b o, hh.get? b = some o → ((hh.push (PySem.W.kdv_tup [])).push (PySem.HandSPX.excO C hh.objs.size)).get? b = some o := fun b o z => Heap.get?_push_of_some _ (Heap.get?_push_of_some _ z)
  have at_ : ((hh.push (PySem.W.kdv_tup [])).push (PySem.HandSPX.excO C hh.objs.size)).get? (hh.objs.size + 1) = some (PySem.HandSPX.excO C hh.objs.size) := by heap_get
  have J2 : Inv X pins σ (upd H1 (hh.objs.size + 1) (exo (hh.objs.size + 1) C none)) ⟨(hh.push (PySem.W.kdv_tup [])).push (PySem.HandSPX.excO C hh.objs.size), gg, dr, tk2, os⟩ := J.laid (t' := tk2) more (Nat.le_succ _) (exo_ok at_)
  have rv2 : Vals [V.ref (hh.objs.size + 1)] [Value.ref (hh.objs.size + 1)] := .cons rfl .nil
  have bnd := hb.to _ [Value.ref (hh.objs.size + 1)] [u] J2.kIn rfl rfl
  have body := F.run _ X.stack _ _ ⟨[Value.ref (hh.objs.size + 1)], [(kk, u)]⟩ _ _ _ (fun _ _ _ => False) (hr.make C [] [(kk, u)]) (J2.env0.make C [] [(kk, u)]) bnd (hb.rel rv2 rz) yy
  refine wpAny_call (kw_call FB same (J.kIn _ _ look) (PySem.W.looks_findIn J.kIn iC) (fun self => PySem.W.bind_fn J.kIn self tI) (codeAny_mono body fun r s2 z => ?_))
  cases r with
  | error _ => exact z.elim
  | ok fl =>
    cases fl with
    | ret w =>
      obtain ⟨v, H2, o2, b2, un2, ok2, rw2, ev, q2⟩ := z
      subst ev
      exact ⟨rw2, ⟨V.ref (hh.objs.size + 1), H2, J2.call' (ch := []) o2 un2 ok2 b2 (fun _ m => nomatch m), rfl, q2⟩⟩
    | next => exact z.elim
    | brk => exact z.elim
    | cont => exact z.elim
end Bh

set_option Elab.async false
set_option linter.all false
set_option maxRecDepth 100000
set_option maxHeartbeats 1000000
namespace Bh
open PySem PySem.Spec PyProof.Rows L2
theorem kb2 {K : PySem.W.Frag} {f : Addr} {fd : FuncData} {x qn p : Str} {st : Stmt} (F : Fun K x qn st f fd) (h : ∀ (od : Option Addr) (kV doc pm : Value) (an : Option Addr) (cdv ct : Value) (s : Shared) (u v : Value), BindsTo s (PySem.W.fnOf x qn (defArgs st) (defBody st) (defScope st) .none kV doc pm an cdv ct) ⟨[u], [(p, v)]⟩ [("self", u), (p, v)]) : KBn K fd ["self", p] 1 [p] (fun us ws => us ++ ws) (fun vs zs => vs ++ zs) := by
  obtain ⟨oc, od, kV, doc, pm, an, cdv, ct, osl, e, _⟩ := F.ex
  refine ⟨fun s us ws _ l1 l2 => ?_, fun r1 r2 => ?_⟩
  · rw [e]
    match us, ws, l1, l2 with
    | [u], [v], _, _ => exact h od kV doc pm an cdv ct s u v
  · exact Vals.append r1 r2
/-- v is an error of the class C that holds its code and, under f, data like d -/
def ErrAt (K : PySem.W.Frag) (H : Hp) (C : Addr) (nm f : Str) (d : PyData) (v : V) : Prop := ∃ (a dx : Addr) (r : V), v = .ref a ∧ H a = some (exo a C (some dx)) ∧ H dx = some (exd dx [("code", .str nm), (f, r)]) ∧ Dp K H r d
def ErrAt0 (H : Hp) (C : Addr) (nm : Str) (v : V) : Prop := ∃ (a dx : Addr), v = .ref a ∧ H a = some (exo a C (some dx)) ∧ H dx = some (exd dx [("code", .str nm)])
section
variable {P : Program} {w : World} {K : PySem.W.Frag} {mg : Str → Option Value} {base : Heap}
theorem ErrAt.mono {H H' : Hp} {C : Addr} {nm f : Str} {d : PyData} {v : V} (s : Same H H') : ErrAt K H C nm f d v → ErrAt K H' C nm f d v := fun ⟨a, dx, r, e, e1, e2, e3⟩ => ⟨a, dx, r, e, s _ _ e1, s _ _ e2, Dp.mono s e3⟩
theorem ErrAt0.mono {H H' : Hp} {C : Addr} {nm : Str} {v : V} (s : Same H H') : ErrAt0 H C nm v → ErrAt0 H' C nm v := fun ⟨a, dx, e, e1, e2⟩ => ⟨a, dx, e, s _ _ e1, s _ _ e2⟩
theorem newOf_same {H H' : Hp} {a : Addr} {o : HO} (n : H a = none) : Same H (upd H a o) := same_new n
theorem mk_go {H : Hp} {C a : Addr} {nm f : Str} {n : Nat} {v : V} {d : PyData} {Q : Hp → Prop} (hd : Dp K H v d) (hs : Sh n d) (na : H a = none) (k : ∀ H2, Same H H2 → ErrAt K (newOf H H2) C nm f d (.ref a) → Q H2) :
    spIn K C nm f n (V.ref a :: [v]) (upd H a (exo a C none)) (fun v H2 => v = .non ∧ Q H2) fun _ _ _ => False := by
  refine ⟨a, v, d, rfl, upd_same, Dp.mono (same_new na) hd, hs, fun dx r H2 nd e1 e2 s1 hr => ⟨rfl, k _ (fun b u e => s1 _ _ ?_) ⟨a, dx, r, rfl, (newOf_at na).trans e1, (newOf_at ((same_new na).free nd)).trans e2, Dp.mono (newOf_trans (same_new na)) hr⟩⟩⟩
  have ne : b ≠ a := fun z => by
    rw [z, na] at e
    cases e
  rw [hid_ne ne, upd_ne ne]
  exact e
theorem mk_go0 {H : Hp} {C a : Addr} {nm : Str} {Q : Hp → Prop} (na : H a = none) (k : ∀ H2, Same H H2 → ErrAt0 (newOf H H2) C nm (.ref a) → Q H2) :
    spIn0 C nm (V.ref a :: []) (upd H a (exo a C none)) (fun v H2 => v = .non ∧ Q H2) fun _ _ _ => False := by
  refine ⟨a, rfl, upd_same, fun dx H2 nd e1 e2 s1 => ⟨rfl, k _ (fun b u e => s1 _ _ ?_) ⟨a, dx, rfl, (newOf_at na).trans e1, (newOf_at ((same_new na).free nd)).trans e2⟩⟩⟩
  have ne : b ≠ a := fun z => by
    rw [z, na] at e
    cases e
  rw [hid_ne ne, upd_ne ne]
  exact e
theorem kb_InvalidLook (T : Top K mg) : KBn K T.r_InvalidLook.fd ["self", "cell"] 1 ["cell"] (fun us ws => us ++ ws) (fun vs zs => vs ++ zs) := kb2 T.r_InvalidLook.F fun _ _ _ _ _ _ _ _ _ _ => .of_eq rfl
theorem kb_InvalidPage (T : Top K mg) : KBn K T.r_InvalidPage.fd ["self", "line"] 1 ["line"] (fun us ws => us ++ ws) (fun vs zs => vs ++ zs) := kb2 T.r_InvalidPage.F fun _ _ _ _ _ _ _ _ _ _ => .of_eq rfl
theorem kb_Full (T : Top K mg) : KBn K T.r_Full.fd ["self", "limit"] 1 ["limit"] (fun us ws => us ++ ws) (fun vs zs => vs ++ zs) := kb2 T.r_Full.F fun _ _ _ _ _ _ _ _ _ _ => .of_eq rfl
theorem kb_MissingTie (T : Top K mg) : KBn K T.r_MissingTie.fd ["self", "tie"] 1 ["tie"] (fun us ws => us ++ ws) (fun vs zs => vs ++ zs) := kb2 T.r_MissingTie.F fun _ _ _ _ _ _ _ _ _ _ => .of_eq rfl
end
end Bh

set_option Elab.async false
set_option linter.all false
set_option maxRecDepth 100000
set_option maxHeartbeats 4000000
namespace Bh
open PySem PySem.Spec PyProof.Rows L2
/-- a row of the table: the class, its name, its attribute -/
abbrev RowT : Type := Addr × Str × Option Str
def ErrX (K : PySem.W.Frag) (H : Hp) (d : PyData) : RowT → V → Prop
  | (c, nm, some f), u => ErrAt K H c nm f d u
  | (c, nm, none), u => ErrAt0 H c nm u
/-- (name, error) -/
def RowX (K : PySem.W.Frag) (H : Hp) (d : PyData) (r : RowT) (x : V) : Prop := ∃ (t : Addr) (u : V), x = .ref t ∧ H t = some (.tup [.str r.2.1, u]) ∧ ErrX K H d r u
section
variable {P : Program} {w : World} {K : PySem.W.Frag} {mg : Str → Option Value} {base : Heap}
theorem ErrX.mono {H H' : Hp} {d : PyData} {u : V} (s : Same H H') : ∀ {r : RowT}, ErrX K H d r u → ErrX K H' d r u
  | (_, _, some _), h => ErrAt.mono s h
  | (_, _, none), h => ErrAt0.mono s h
theorem RowX.mono {H H' : Hp} {d : PyData} {x : V} {r : RowT} (s : Same H H') : RowX K H d r x → RowX K H' d r x := fun ⟨t, u, e, e1, e2⟩ => ⟨t, u, e, s _ _ e1, ErrX.mono s e2⟩
def Top.rows (T : Top K mg) : List RowT := [(T.r_InvalidField.c, "InvalidField", some "position"), (T.r_InvalidTie.c, "InvalidTie", some "position"), (T.r_InvalidKind.c, "InvalidKind", some "position"), (T.r_InvalidHolding.c, "InvalidHolding", some "given"), (T.r_InvalidRulebook.c, "InvalidRulebook", some "line"), (T.r_InvalidName.c, "InvalidName", some "given"), (T.r_InvalidNetwork.c, "InvalidNetwork", some "line"), (T.r_InvalidState.c, "InvalidState", some "cell"), (T.r_InvalidLook.c, "InvalidLook", some "cell"), (T.r_InvalidCount.c, "InvalidCount", some "given"), (T.r_InvalidCommand.c, "InvalidCommand", some "word"), (T.r_InvalidLimit.c, "InvalidLimit", some "given"), (T.r_InvalidPage.c, "InvalidPage", some "line"), (T.r_DuplicateCell.c, "DuplicateCell", some "name"), (T.r_DuplicateTie.c, "DuplicateTie", some "tie"), (T.r_KindsDiffer.c, "KindsDiffer", some "name"), (T.r_BooksDiffer.c, "BooksDiffer", none), (T.r_Unsettled.c, "Unsettled", none), (T.r_Full.c, "Full", some "limit"), (T.r_EmptyHistory.c, "EmptyHistory", none), (T.r_UnknownCell.c, "UnknownCell", some "name"), (T.r_UnknownKind.c, "UnknownKind", some "name"), (T.r_UnknownTie.c, "UnknownTie", some "name"), (T.r_UnknownField.c, "UnknownField", some "name"), (T.r_MissingTie.c, "MissingTie", some "tie"), (T.r_UnknownMoment.c, "UnknownMoment", some "given")]
def spMade (K : PySem.W.Frag) (rows : List RowT) : Sp := fun vs H Q _ => ∃ (v : V) (d : PyData), vs = [v] ∧ Dp K H v d ∧ Sh 3 d ∧ ∀ (p : Addr) (xs : List V) (H' : Hp), Same H H' → newOf H H' p = some (.lst xs) → Paired (RowX K (newOf H H') d) rows xs → Q (.ref p) H'
theorem ok_made (T : Top K mg) : FnOk P w K mg base CX0 8 T.a_l_made_errors T.fd_l_made_errors ["_law_given_here"] (spMade K T.rows) := by
  have I_InvalidField := in_InvalidField (P := P) (w := w) (base := base) T 3
  have I_InvalidTie := in_InvalidTie (P := P) (w := w) (base := base) T 3
  have I_InvalidKind := in_InvalidKind (P := P) (w := w) (base := base) T 3
  have I_InvalidHolding := in_InvalidHolding (P := P) (w := w) (base := base) T 3
  have I_InvalidRulebook := in_InvalidRulebook (P := P) (w := w) (base := base) T 3
  have I_InvalidName := in_InvalidName (P := P) (w := w) (base := base) T 3
  have I_InvalidNetwork := in_InvalidNetwork (P := P) (w := w) (base := base) T 3
  have I_InvalidState := in_InvalidState (P := P) (w := w) (base := base) T 3
  have I_InvalidLook := in_InvalidLook (P := P) (w := w) (base := base) T 3
  have I_InvalidCount := in_InvalidCount (P := P) (w := w) (base := base) T 3
  have I_InvalidCommand := in_InvalidCommand (P := P) (w := w) (base := base) T 3
  have I_InvalidLimit := in_InvalidLimit (P := P) (w := w) (base := base) T 3
  have I_InvalidPage := in_InvalidPage (P := P) (w := w) (base := base) T 3
  have I_DuplicateCell := in_DuplicateCell (P := P) (w := w) (base := base) T 3
  have I_DuplicateTie := in_DuplicateTie (P := P) (w := w) (base := base) T 3
  have I_KindsDiffer := in_KindsDiffer (P := P) (w := w) (base := base) T 3
  have I_BooksDiffer := in_BooksDiffer (P := P) (w := w) (base := base) T
  have I_Unsettled := in_Unsettled (P := P) (w := w) (base := base) T
  have I_Full := in_Full (P := P) (w := w) (base := base) T 3
  have I_EmptyHistory := in_EmptyHistory (P := P) (w := w) (base := base) T
  have I_UnknownCell := in_UnknownCell (P := P) (w := w) (base := base) T 3
  have I_UnknownKind := in_UnknownKind (P := P) (w := w) (base := base) T 3
  have I_UnknownTie := in_UnknownTie (P := P) (w := w) (base := base) T 3
  have I_UnknownField := in_UnknownField (P := P) (w := w) (base := base) T 3
  have I_MissingTie := in_MissingTie (P := P) (w := w) (base := base) T 3
  have I_UnknownMoment := in_UnknownMoment (P := P) (w := w) (base := base) T 3
  refine T.d_l_made_errors.F.ok sc_l_made_errors (fun vs H Q E h => ?_) (fun cdv A outer s H vs Q E hr h => ?_)
  · obtain ⟨v, d, rfl, _⟩ := h
    rfl
  obtain ⟨v, d, rfl, hd, hs, q⟩ := h
  refine ⟨_, (pss_cons (ps_set (i := 1) sc_l_made_errors.nd rfl (Or.inl rfl) (pe_lst (pa_cons (pe_tup (pa_cons pe_str (pa_cons (pe_mkG T.r_InvalidField.e T.r_InvalidField.i T.r_InvalidField.t I_InvalidField (hr.mono (by decide)) T.r_InvalidField.b (by rfl) T.r_InvalidField.g (pa_cons (pv 0) pa_nil)) pa_nil))) (pa_cons (pe_tup (pa_cons pe_str (pa_cons (pe_mkG T.r_InvalidTie.e T.r_InvalidTie.i T.r_InvalidTie.t I_InvalidTie (hr.mono (by decide)) T.r_InvalidTie.b (by rfl) T.r_InvalidTie.g (pa_cons (pv 0) pa_nil)) pa_nil))) (pa_cons (pe_tup (pa_cons pe_str (pa_cons (pe_mkG T.r_InvalidKind.e T.r_InvalidKind.i T.r_InvalidKind.t I_InvalidKind (hr.mono (by decide)) T.r_InvalidKind.b (by rfl) T.r_InvalidKind.g (pa_cons (pv 0) pa_nil)) pa_nil))) pa_nil)))))
    (pss_cons (ps_set (i := 1) sc_l_made_errors.nd rfl (Or.inl rfl) (pe_op op_cat (pv 1) (pe_lst (pa_cons (pe_tup (pa_cons pe_str (pa_cons (pe_mkG T.r_InvalidHolding.e T.r_InvalidHolding.i T.r_InvalidHolding.t I_InvalidHolding (hr.mono (by decide)) T.r_InvalidHolding.b (by rfl) T.r_InvalidHolding.g (pa_cons (pv 0) pa_nil)) pa_nil))) (pa_cons (pe_tup (pa_cons pe_str (pa_cons (pe_mkG T.r_InvalidRulebook.e T.r_InvalidRulebook.i T.r_InvalidRulebook.t I_InvalidRulebook (hr.mono (by decide)) T.r_InvalidRulebook.b (by rfl) T.r_InvalidRulebook.g (pa_cons (pv 0) pa_nil)) pa_nil))) pa_nil)))))
    (pss_cons (ps_set (i := 1) sc_l_made_errors.nd rfl (Or.inl rfl) (pe_op op_cat (pv 1) (pe_lst (pa_cons (pe_tup (pa_cons pe_str (pa_cons (pe_mkG T.r_InvalidName.e T.r_InvalidName.i T.r_InvalidName.t I_InvalidName (hr.mono (by decide)) T.r_InvalidName.b (by rfl) T.r_InvalidName.g (pa_cons (pv 0) pa_nil)) pa_nil))) (pa_cons (pe_tup (pa_cons pe_str (pa_cons (pe_mkG T.r_InvalidNetwork.e T.r_InvalidNetwork.i T.r_InvalidNetwork.t I_InvalidNetwork (hr.mono (by decide)) T.r_InvalidNetwork.b (by rfl) T.r_InvalidNetwork.g (pa_cons (pv 0) pa_nil)) pa_nil))) pa_nil)))))
    (pss_cons (ps_set (i := 1) sc_l_made_errors.nd rfl (Or.inl rfl) (pe_op op_cat (pv 1) (pe_lst (pa_cons (pe_tup (pa_cons pe_str (pa_cons (pe_mkG T.r_InvalidState.e T.r_InvalidState.i T.r_InvalidState.t I_InvalidState (hr.mono (by decide)) T.r_InvalidState.b (by rfl) T.r_InvalidState.g (pa_cons (pv 0) pa_nil)) pa_nil))) (pa_cons (pe_tup (pa_cons pe_str (pa_cons (pe_mkG T.r_InvalidLook.e T.r_InvalidLook.i T.r_InvalidLook.t I_InvalidLook (hr.mono (by decide)) T.r_InvalidLook.b (by rfl) T.r_InvalidLook.g (pa_cons (pv 0) pa_nil)) pa_nil))) pa_nil)))))
    (pss_cons (ps_set (i := 1) sc_l_made_errors.nd rfl (Or.inl rfl) (pe_op op_cat (pv 1) (pe_lst (pa_cons (pe_tup (pa_cons pe_str (pa_cons (pe_mkG T.r_InvalidCount.e T.r_InvalidCount.i T.r_InvalidCount.t I_InvalidCount (hr.mono (by decide)) T.r_InvalidCount.b (by rfl) T.r_InvalidCount.g (pa_cons (pv 0) pa_nil)) pa_nil))) (pa_cons (pe_tup (pa_cons pe_str (pa_cons (pe_mkG T.r_InvalidCommand.e T.r_InvalidCommand.i T.r_InvalidCommand.t I_InvalidCommand (hr.mono (by decide)) T.r_InvalidCommand.b (by rfl) T.r_InvalidCommand.g (pa_cons (pv 0) pa_nil)) pa_nil))) pa_nil)))))
    (pss_cons (ps_set (i := 1) sc_l_made_errors.nd rfl (Or.inl rfl) (pe_op op_cat (pv 1) (pe_lst (pa_cons (pe_tup (pa_cons pe_str (pa_cons (pe_mkG T.r_InvalidLimit.e T.r_InvalidLimit.i T.r_InvalidLimit.t I_InvalidLimit (hr.mono (by decide)) T.r_InvalidLimit.b (by rfl) T.r_InvalidLimit.g (pa_cons (pv 0) pa_nil)) pa_nil))) (pa_cons (pe_tup (pa_cons pe_str (pa_cons (pe_mkG T.r_InvalidPage.e T.r_InvalidPage.i T.r_InvalidPage.t I_InvalidPage (hr.mono (by decide)) T.r_InvalidPage.b (by rfl) T.r_InvalidPage.g (pa_cons (pv 0) pa_nil)) pa_nil))) pa_nil)))))
    (pss_cons (ps_set (i := 1) sc_l_made_errors.nd rfl (Or.inl rfl) (pe_op op_cat (pv 1) (pe_lst (pa_cons (pe_tup (pa_cons pe_str (pa_cons (pe_mkG T.r_DuplicateCell.e T.r_DuplicateCell.i T.r_DuplicateCell.t I_DuplicateCell (hr.mono (by decide)) T.r_DuplicateCell.b (by rfl) T.r_DuplicateCell.g (pa_cons (pv 0) pa_nil)) pa_nil))) (pa_cons (pe_tup (pa_cons pe_str (pa_cons (pe_mkG T.r_DuplicateTie.e T.r_DuplicateTie.i T.r_DuplicateTie.t I_DuplicateTie (hr.mono (by decide)) T.r_DuplicateTie.b (by rfl) T.r_DuplicateTie.g (pa_cons (pv 0) pa_nil)) pa_nil))) pa_nil)))))
    (pss_cons (ps_set (i := 1) sc_l_made_errors.nd rfl (Or.inl rfl) (pe_op op_cat (pv 1) (pe_lst (pa_cons (pe_tup (pa_cons pe_str (pa_cons (pe_mkG T.r_KindsDiffer.e T.r_KindsDiffer.i T.r_KindsDiffer.t I_KindsDiffer (hr.mono (by decide)) T.r_KindsDiffer.b (by rfl) T.r_KindsDiffer.g (pa_cons (pv 0) pa_nil)) pa_nil))) (pa_cons (pe_tup (pa_cons pe_str (pa_cons (pe_mkG0 T.r_BooksDiffer.e T.r_BooksDiffer.i T.r_BooksDiffer.t I_BooksDiffer (hr.mono (by decide)) T.r_BooksDiffer.b (by rfl) T.r_BooksDiffer.g) pa_nil))) (pa_cons (pe_tup (pa_cons pe_str (pa_cons (pe_mkG0 T.r_Unsettled.e T.r_Unsettled.i T.r_Unsettled.t I_Unsettled (hr.mono (by decide)) T.r_Unsettled.b (by rfl) T.r_Unsettled.g) pa_nil))) pa_nil))))))
    (pss_cons (ps_set (i := 1) sc_l_made_errors.nd rfl (Or.inl rfl) (pe_op op_cat (pv 1) (pe_lst (pa_cons (pe_tup (pa_cons pe_str (pa_cons (pe_mkG T.r_Full.e T.r_Full.i T.r_Full.t I_Full (hr.mono (by decide)) T.r_Full.b (by rfl) T.r_Full.g (pa_cons (pv 0) pa_nil)) pa_nil))) (pa_cons (pe_tup (pa_cons pe_str (pa_cons (pe_mkG0 T.r_EmptyHistory.e T.r_EmptyHistory.i T.r_EmptyHistory.t I_EmptyHistory (hr.mono (by decide)) T.r_EmptyHistory.b (by rfl) T.r_EmptyHistory.g) pa_nil))) (pa_cons (pe_tup (pa_cons pe_str (pa_cons (pe_mkG T.r_UnknownCell.e T.r_UnknownCell.i T.r_UnknownCell.t I_UnknownCell (hr.mono (by decide)) T.r_UnknownCell.b (by rfl) T.r_UnknownCell.g (pa_cons (pv 0) pa_nil)) pa_nil))) pa_nil))))))
    (pss_cons (ps_set (i := 1) sc_l_made_errors.nd rfl (Or.inl rfl) (pe_op op_cat (pv 1) (pe_lst (pa_cons (pe_tup (pa_cons pe_str (pa_cons (pe_mkG T.r_UnknownKind.e T.r_UnknownKind.i T.r_UnknownKind.t I_UnknownKind (hr.mono (by decide)) T.r_UnknownKind.b (by rfl) T.r_UnknownKind.g (pa_cons (pv 0) pa_nil)) pa_nil))) (pa_cons (pe_tup (pa_cons pe_str (pa_cons (pe_mkG T.r_UnknownTie.e T.r_UnknownTie.i T.r_UnknownTie.t I_UnknownTie (hr.mono (by decide)) T.r_UnknownTie.b (by rfl) T.r_UnknownTie.g (pa_cons (pv 0) pa_nil)) pa_nil))) pa_nil)))))
    (pss_cons (ps_set (i := 1) sc_l_made_errors.nd rfl (Or.inl rfl) (pe_op op_cat (pv 1) (pe_lst (pa_cons (pe_tup (pa_cons pe_str (pa_cons (pe_mkG T.r_UnknownField.e T.r_UnknownField.i T.r_UnknownField.t I_UnknownField (hr.mono (by decide)) T.r_UnknownField.b (by rfl) T.r_UnknownField.g (pa_cons (pv 0) pa_nil)) pa_nil))) (pa_cons (pe_tup (pa_cons pe_str (pa_cons (pe_mkG T.r_MissingTie.e T.r_MissingTie.i T.r_MissingTie.t I_MissingTie (hr.mono (by decide)) T.r_MissingTie.b (by rfl) T.r_MissingTie.g (pa_cons (pv 0) pa_nil)) pa_nil))) pa_nil)))))
    (pss_one (ps_ret (pe_op op_cat (pv 1) (pe_lst (pa_cons (pe_tup (pa_cons pe_str (pa_cons (pe_mkG T.r_UnknownMoment.e T.r_UnknownMoment.i T.r_UnknownMoment.t I_UnknownMoment (hr.mono (by decide)) T.r_UnknownMoment.b (by rfl) T.r_UnknownMoment.g (pa_cons (pv 0) pa_nil)) pa_nil))) pa_nil)))))))))))))))), ?_⟩
  have S0 : Same H H := Same.refl H
  refine ⟨_, rfl, (by show 1 ≤ 1000; decide), fun a0 na0 => mk_go (Dp.mono S0 hd) hs na0 fun h0 s0 e0 => ⟨(by show 2 ≤ sizeLine; decide), fun p0 n0 => ?_⟩⟩
  have t0 := s0.trans (same_new (o := .tup [.str "InvalidField", .ref a0]) n0)
  have S1 := S0.trans t0
  have R0 : RowX K (newOf H _) d (T.r_InvalidField.c, "InvalidField", some "position") (.ref p0) := ⟨p0, .ref a0, rfl, (newOf_at ((S0.trans s0).free n0)).trans upd_same, ErrAt.mono ((newOf_trans S0).trans (newOf_mono (same_new (o := .tup [.str "InvalidField", .ref a0]) n0))) e0⟩
  refine ⟨_, rfl, (by show 1 ≤ 1000; decide), fun a1 na1 => mk_go (Dp.mono S1 hd) hs na1 fun h1 s1 e1 => ⟨(by show 2 ≤ sizeLine; decide), fun p1 n1 => ?_⟩⟩
  have t1 := s1.trans (same_new (o := .tup [.str "InvalidTie", .ref a1]) n1)
  have S2 := S1.trans t1
  have R1 : RowX K (newOf H _) d (T.r_InvalidTie.c, "InvalidTie", some "position") (.ref p1) := ⟨p1, .ref a1, rfl, (newOf_at ((S1.trans s1).free n1)).trans upd_same, ErrAt.mono ((newOf_trans S1).trans (newOf_mono (same_new (o := .tup [.str "InvalidTie", .ref a1]) n1))) e1⟩
  refine ⟨_, rfl, (by show 1 ≤ 1000; decide), fun a2 na2 => mk_go (Dp.mono S2 hd) hs na2 fun h2 s2 e2 => ⟨(by show 2 ≤ sizeLine; decide), fun p2 n2 => ?_⟩⟩
  have t2 := s2.trans (same_new (o := .tup [.str "InvalidKind", .ref a2]) n2)
  have S3 := S2.trans t2
  have R2 : RowX K (newOf H _) d (T.r_InvalidKind.c, "InvalidKind", some "position") (.ref p2) := ⟨p2, .ref a2, rfl, (newOf_at ((S2.trans s2).free n2)).trans upd_same, ErrAt.mono ((newOf_trans S2).trans (newOf_mono (same_new (o := .tup [.str "InvalidKind", .ref a2]) n2))) e2⟩
  refine ⟨(by show 3 ≤ sizeLine; decide), fun l0 nl0 => ?_⟩
  have t3 := same_new (o := .lst [.ref p0, .ref p1, .ref p2]) nl0
  have S4 := S3.trans t3
  refine ⟨_, rfl, ?_⟩
  refine ⟨_, rfl, (by show 1 ≤ 1000; decide), fun a3 na3 => mk_go (Dp.mono S4 hd) hs na3 fun h3 s3 e3 => ⟨(by show 2 ≤ sizeLine; decide), fun p3 n3 => ?_⟩⟩
  have t4 := s3.trans (same_new (o := .tup [.str "InvalidHolding", .ref a3]) n3)
  have S5 := S4.trans t4
  have R3 : RowX K (newOf H _) d (T.r_InvalidHolding.c, "InvalidHolding", some "given") (.ref p3) := ⟨p3, .ref a3, rfl, (newOf_at ((S4.trans s3).free n3)).trans upd_same, ErrAt.mono ((newOf_trans S4).trans (newOf_mono (same_new (o := .tup [.str "InvalidHolding", .ref a3]) n3))) e3⟩
  refine ⟨_, rfl, (by show 1 ≤ 1000; decide), fun a4 na4 => mk_go (Dp.mono S5 hd) hs na4 fun h4 s4 e4 => ⟨(by show 2 ≤ sizeLine; decide), fun p4 n4 => ?_⟩⟩
  have t5 := s4.trans (same_new (o := .tup [.str "InvalidRulebook", .ref a4]) n4)
  have S6 := S5.trans t5
  have R4 : RowX K (newOf H _) d (T.r_InvalidRulebook.c, "InvalidRulebook", some "line") (.ref p4) := ⟨p4, .ref a4, rfl, (newOf_at ((S5.trans s4).free n4)).trans upd_same, ErrAt.mono ((newOf_trans S5).trans (newOf_mono (same_new (o := .tup [.str "InvalidRulebook", .ref a4]) n4))) e4⟩
  refine ⟨(by show 2 ≤ sizeLine; decide), fun l1 nl1 => ?_⟩
  have t6 := same_new (o := .lst [.ref p3, .ref p4]) nl1
  have S7 := S6.trans t6
  refine ⟨l0, l1, _, _, rfl, rfl, (((t4).trans t5).trans t6) _ _ upd_same, upd_same, (by show 5 ≤ sizeLine; decide), fun c1 nc1 => ?_⟩
  have t7 := same_new (o := .lst [.ref p0, .ref p1, .ref p2, .ref p3, .ref p4]) nc1
  have S8 := S7.trans t7
  refine ⟨_, rfl, ?_⟩
  refine ⟨_, rfl, (by show 1 ≤ 1000; decide), fun a5 na5 => mk_go (Dp.mono S8 hd) hs na5 fun h5 s5 e5 => ⟨(by show 2 ≤ sizeLine; decide), fun p5 n5 => ?_⟩⟩
  have t8 := s5.trans (same_new (o := .tup [.str "InvalidName", .ref a5]) n5)
  have S9 := S8.trans t8
  have R5 : RowX K (newOf H _) d (T.r_InvalidName.c, "InvalidName", some "given") (.ref p5) := ⟨p5, .ref a5, rfl, (newOf_at ((S8.trans s5).free n5)).trans upd_same, ErrAt.mono ((newOf_trans S8).trans (newOf_mono (same_new (o := .tup [.str "InvalidName", .ref a5]) n5))) e5⟩
  refine ⟨_, rfl, (by show 1 ≤ 1000; decide), fun a6 na6 => mk_go (Dp.mono S9 hd) hs na6 fun h6 s6 e6 => ⟨(by show 2 ≤ sizeLine; decide), fun p6 n6 => ?_⟩⟩
  have t9 := s6.trans (same_new (o := .tup [.str "InvalidNetwork", .ref a6]) n6)
  have S10 := S9.trans t9
  have R6 : RowX K (newOf H _) d (T.r_InvalidNetwork.c, "InvalidNetwork", some "line") (.ref p6) := ⟨p6, .ref a6, rfl, (newOf_at ((S9.trans s6).free n6)).trans upd_same, ErrAt.mono ((newOf_trans S9).trans (newOf_mono (same_new (o := .tup [.str "InvalidNetwork", .ref a6]) n6))) e6⟩
  refine ⟨(by show 2 ≤ sizeLine; decide), fun l2 nl2 => ?_⟩
  have t10 := same_new (o := .lst [.ref p5, .ref p6]) nl2
  have S11 := S10.trans t10
  refine ⟨c1, l2, _, _, rfl, rfl, (((t8).trans t9).trans t10) _ _ upd_same, upd_same, (by show 7 ≤ sizeLine; decide), fun c2 nc2 => ?_⟩
  have t11 := same_new (o := .lst [.ref p0, .ref p1, .ref p2, .ref p3, .ref p4, .ref p5, .ref p6]) nc2
  have S12 := S11.trans t11
  refine ⟨_, rfl, ?_⟩
  refine ⟨_, rfl, (by show 1 ≤ 1000; decide), fun a7 na7 => mk_go (Dp.mono S12 hd) hs na7 fun h7 s7 e7 => ⟨(by show 2 ≤ sizeLine; decide), fun p7 n7 => ?_⟩⟩
  have t12 := s7.trans (same_new (o := .tup [.str "InvalidState", .ref a7]) n7)
  have S13 := S12.trans t12
  have R7 : RowX K (newOf H _) d (T.r_InvalidState.c, "InvalidState", some "cell") (.ref p7) := ⟨p7, .ref a7, rfl, (newOf_at ((S12.trans s7).free n7)).trans upd_same, ErrAt.mono ((newOf_trans S12).trans (newOf_mono (same_new (o := .tup [.str "InvalidState", .ref a7]) n7))) e7⟩
  refine ⟨_, rfl, (by show 1 ≤ 1000; decide), fun a8 na8 => mk_go (Dp.mono S13 hd) hs na8 fun h8 s8 e8 => ⟨(by show 2 ≤ sizeLine; decide), fun p8 n8 => ?_⟩⟩
  have t13 := s8.trans (same_new (o := .tup [.str "InvalidLook", .ref a8]) n8)
  have S14 := S13.trans t13
  have R8 : RowX K (newOf H _) d (T.r_InvalidLook.c, "InvalidLook", some "cell") (.ref p8) := ⟨p8, .ref a8, rfl, (newOf_at ((S13.trans s8).free n8)).trans upd_same, ErrAt.mono ((newOf_trans S13).trans (newOf_mono (same_new (o := .tup [.str "InvalidLook", .ref a8]) n8))) e8⟩
  refine ⟨(by show 2 ≤ sizeLine; decide), fun l3 nl3 => ?_⟩
  have t14 := same_new (o := .lst [.ref p7, .ref p8]) nl3
  have S15 := S14.trans t14
  refine ⟨c2, l3, _, _, rfl, rfl, (((t12).trans t13).trans t14) _ _ upd_same, upd_same, (by show 9 ≤ sizeLine; decide), fun c3 nc3 => ?_⟩
  have t15 := same_new (o := .lst [.ref p0, .ref p1, .ref p2, .ref p3, .ref p4, .ref p5, .ref p6, .ref p7, .ref p8]) nc3
  have S16 := S15.trans t15
  refine ⟨_, rfl, ?_⟩
  refine ⟨_, rfl, (by show 1 ≤ 1000; decide), fun a9 na9 => mk_go (Dp.mono S16 hd) hs na9 fun h9 s9 e9 => ⟨(by show 2 ≤ sizeLine; decide), fun p9 n9 => ?_⟩⟩
  have t16 := s9.trans (same_new (o := .tup [.str "InvalidCount", .ref a9]) n9)
  have S17 := S16.trans t16
  have R9 : RowX K (newOf H _) d (T.r_InvalidCount.c, "InvalidCount", some "given") (.ref p9) := ⟨p9, .ref a9, rfl, (newOf_at ((S16.trans s9).free n9)).trans upd_same, ErrAt.mono ((newOf_trans S16).trans (newOf_mono (same_new (o := .tup [.str "InvalidCount", .ref a9]) n9))) e9⟩
  refine ⟨_, rfl, (by show 1 ≤ 1000; decide), fun a10 na10 => mk_go (Dp.mono S17 hd) hs na10 fun h10 s10 e10 => ⟨(by show 2 ≤ sizeLine; decide), fun p10 n10 => ?_⟩⟩
  have t17 := s10.trans (same_new (o := .tup [.str "InvalidCommand", .ref a10]) n10)
  have S18 := S17.trans t17
  have R10 : RowX K (newOf H _) d (T.r_InvalidCommand.c, "InvalidCommand", some "word") (.ref p10) := ⟨p10, .ref a10, rfl, (newOf_at ((S17.trans s10).free n10)).trans upd_same, ErrAt.mono ((newOf_trans S17).trans (newOf_mono (same_new (o := .tup [.str "InvalidCommand", .ref a10]) n10))) e10⟩
  refine ⟨(by show 2 ≤ sizeLine; decide), fun l4 nl4 => ?_⟩
  have t18 := same_new (o := .lst [.ref p9, .ref p10]) nl4
  have S19 := S18.trans t18
  refine ⟨c3, l4, _, _, rfl, rfl, (((t16).trans t17).trans t18) _ _ upd_same, upd_same, (by show 11 ≤ sizeLine; decide), fun c4 nc4 => ?_⟩
  have t19 := same_new (o := .lst [.ref p0, .ref p1, .ref p2, .ref p3, .ref p4, .ref p5, .ref p6, .ref p7, .ref p8, .ref p9, .ref p10]) nc4
  have S20 := S19.trans t19
  refine ⟨_, rfl, ?_⟩
  refine ⟨_, rfl, (by show 1 ≤ 1000; decide), fun a11 na11 => mk_go (Dp.mono S20 hd) hs na11 fun h11 s11 e11 => ⟨(by show 2 ≤ sizeLine; decide), fun p11 n11 => ?_⟩⟩
  have t20 := s11.trans (same_new (o := .tup [.str "InvalidLimit", .ref a11]) n11)
  have S21 := S20.trans t20
  have R11 : RowX K (newOf H _) d (T.r_InvalidLimit.c, "InvalidLimit", some "given") (.ref p11) := ⟨p11, .ref a11, rfl, (newOf_at ((S20.trans s11).free n11)).trans upd_same, ErrAt.mono ((newOf_trans S20).trans (newOf_mono (same_new (o := .tup [.str "InvalidLimit", .ref a11]) n11))) e11⟩
  refine ⟨_, rfl, (by show 1 ≤ 1000; decide), fun a12 na12 => mk_go (Dp.mono S21 hd) hs na12 fun h12 s12 e12 => ⟨(by show 2 ≤ sizeLine; decide), fun p12 n12 => ?_⟩⟩
  have t21 := s12.trans (same_new (o := .tup [.str "InvalidPage", .ref a12]) n12)
  have S22 := S21.trans t21
  have R12 : RowX K (newOf H _) d (T.r_InvalidPage.c, "InvalidPage", some "line") (.ref p12) := ⟨p12, .ref a12, rfl, (newOf_at ((S21.trans s12).free n12)).trans upd_same, ErrAt.mono ((newOf_trans S21).trans (newOf_mono (same_new (o := .tup [.str "InvalidPage", .ref a12]) n12))) e12⟩
  refine ⟨(by show 2 ≤ sizeLine; decide), fun l5 nl5 => ?_⟩
  have t22 := same_new (o := .lst [.ref p11, .ref p12]) nl5
  have S23 := S22.trans t22
  refine ⟨c4, l5, _, _, rfl, rfl, (((t20).trans t21).trans t22) _ _ upd_same, upd_same, (by show 13 ≤ sizeLine; decide), fun c5 nc5 => ?_⟩
  have t23 := same_new (o := .lst [.ref p0, .ref p1, .ref p2, .ref p3, .ref p4, .ref p5, .ref p6, .ref p7, .ref p8, .ref p9, .ref p10, .ref p11, .ref p12]) nc5
  have S24 := S23.trans t23
  refine ⟨_, rfl, ?_⟩
  refine ⟨_, rfl, (by show 1 ≤ 1000; decide), fun a13 na13 => mk_go (Dp.mono S24 hd) hs na13 fun h13 s13 e13 => ⟨(by show 2 ≤ sizeLine; decide), fun p13 n13 => ?_⟩⟩
  have t24 := s13.trans (same_new (o := .tup [.str "DuplicateCell", .ref a13]) n13)
  have S25 := S24.trans t24
  have R13 : RowX K (newOf H _) d (T.r_DuplicateCell.c, "DuplicateCell", some "name") (.ref p13) := ⟨p13, .ref a13, rfl, (newOf_at ((S24.trans s13).free n13)).trans upd_same, ErrAt.mono ((newOf_trans S24).trans (newOf_mono (same_new (o := .tup [.str "DuplicateCell", .ref a13]) n13))) e13⟩
  refine ⟨_, rfl, (by show 1 ≤ 1000; decide), fun a14 na14 => mk_go (Dp.mono S25 hd) hs na14 fun h14 s14 e14 => ⟨(by show 2 ≤ sizeLine; decide), fun p14 n14 => ?_⟩⟩
  have t25 := s14.trans (same_new (o := .tup [.str "DuplicateTie", .ref a14]) n14)
  have S26 := S25.trans t25
  have R14 : RowX K (newOf H _) d (T.r_DuplicateTie.c, "DuplicateTie", some "tie") (.ref p14) := ⟨p14, .ref a14, rfl, (newOf_at ((S25.trans s14).free n14)).trans upd_same, ErrAt.mono ((newOf_trans S25).trans (newOf_mono (same_new (o := .tup [.str "DuplicateTie", .ref a14]) n14))) e14⟩
  refine ⟨(by show 2 ≤ sizeLine; decide), fun l6 nl6 => ?_⟩
  have t26 := same_new (o := .lst [.ref p13, .ref p14]) nl6
  have S27 := S26.trans t26
  refine ⟨c5, l6, _, _, rfl, rfl, (((t24).trans t25).trans t26) _ _ upd_same, upd_same, (by show 15 ≤ sizeLine; decide), fun c6 nc6 => ?_⟩
  have t27 := same_new (o := .lst [.ref p0, .ref p1, .ref p2, .ref p3, .ref p4, .ref p5, .ref p6, .ref p7, .ref p8, .ref p9, .ref p10, .ref p11, .ref p12, .ref p13, .ref p14]) nc6
  have S28 := S27.trans t27
  refine ⟨_, rfl, ?_⟩
  refine ⟨_, rfl, (by show 1 ≤ 1000; decide), fun a15 na15 => mk_go (Dp.mono S28 hd) hs na15 fun h15 s15 e15 => ⟨(by show 2 ≤ sizeLine; decide), fun p15 n15 => ?_⟩⟩
  have t28 := s15.trans (same_new (o := .tup [.str "KindsDiffer", .ref a15]) n15)
  have S29 := S28.trans t28
  have R15 : RowX K (newOf H _) d (T.r_KindsDiffer.c, "KindsDiffer", some "name") (.ref p15) := ⟨p15, .ref a15, rfl, (newOf_at ((S28.trans s15).free n15)).trans upd_same, ErrAt.mono ((newOf_trans S28).trans (newOf_mono (same_new (o := .tup [.str "KindsDiffer", .ref a15]) n15))) e15⟩
  refine ⟨(by show 0 ≤ 1000; decide), fun a16 na16 => mk_go0 na16 fun h16 s16 e16 => ⟨(by show 2 ≤ sizeLine; decide), fun p16 n16 => ?_⟩⟩
  have t29 := s16.trans (same_new (o := .tup [.str "BooksDiffer", .ref a16]) n16)
  have S30 := S29.trans t29
  have R16 : RowX K (newOf H _) d (T.r_BooksDiffer.c, "BooksDiffer", none) (.ref p16) := ⟨p16, .ref a16, rfl, (newOf_at ((S29.trans s16).free n16)).trans upd_same, ErrAt0.mono ((newOf_trans S29).trans (newOf_mono (same_new (o := .tup [.str "BooksDiffer", .ref a16]) n16))) e16⟩
  refine ⟨(by show 0 ≤ 1000; decide), fun a17 na17 => mk_go0 na17 fun h17 s17 e17 => ⟨(by show 2 ≤ sizeLine; decide), fun p17 n17 => ?_⟩⟩
  have t30 := s17.trans (same_new (o := .tup [.str "Unsettled", .ref a17]) n17)
  have S31 := S30.trans t30
  have R17 : RowX K (newOf H _) d (T.r_Unsettled.c, "Unsettled", none) (.ref p17) := ⟨p17, .ref a17, rfl, (newOf_at ((S30.trans s17).free n17)).trans upd_same, ErrAt0.mono ((newOf_trans S30).trans (newOf_mono (same_new (o := .tup [.str "Unsettled", .ref a17]) n17))) e17⟩
  refine ⟨(by show 3 ≤ sizeLine; decide), fun l7 nl7 => ?_⟩
  have t31 := same_new (o := .lst [.ref p15, .ref p16, .ref p17]) nl7
  have S32 := S31.trans t31
  refine ⟨c6, l7, _, _, rfl, rfl, ((((t28).trans t29).trans t30).trans t31) _ _ upd_same, upd_same, (by show 18 ≤ sizeLine; decide), fun c7 nc7 => ?_⟩
  have t32 := same_new (o := .lst [.ref p0, .ref p1, .ref p2, .ref p3, .ref p4, .ref p5, .ref p6, .ref p7, .ref p8, .ref p9, .ref p10, .ref p11, .ref p12, .ref p13, .ref p14, .ref p15, .ref p16, .ref p17]) nc7
  have S33 := S32.trans t32
  refine ⟨_, rfl, ?_⟩
  refine ⟨_, rfl, (by show 1 ≤ 1000; decide), fun a18 na18 => mk_go (Dp.mono S33 hd) hs na18 fun h18 s18 e18 => ⟨(by show 2 ≤ sizeLine; decide), fun p18 n18 => ?_⟩⟩
  have t33 := s18.trans (same_new (o := .tup [.str "Full", .ref a18]) n18)
  have S34 := S33.trans t33
  have R18 : RowX K (newOf H _) d (T.r_Full.c, "Full", some "limit") (.ref p18) := ⟨p18, .ref a18, rfl, (newOf_at ((S33.trans s18).free n18)).trans upd_same, ErrAt.mono ((newOf_trans S33).trans (newOf_mono (same_new (o := .tup [.str "Full", .ref a18]) n18))) e18⟩
  refine ⟨(by show 0 ≤ 1000; decide), fun a19 na19 => mk_go0 na19 fun h19 s19 e19 => ⟨(by show 2 ≤ sizeLine; decide), fun p19 n19 => ?_⟩⟩
  have t34 := s19.trans (same_new (o := .tup [.str "EmptyHistory", .ref a19]) n19)
  have S35 := S34.trans t34
  have R19 : RowX K (newOf H _) d (T.r_EmptyHistory.c, "EmptyHistory", none) (.ref p19) := ⟨p19, .ref a19, rfl, (newOf_at ((S34.trans s19).free n19)).trans upd_same, ErrAt0.mono ((newOf_trans S34).trans (newOf_mono (same_new (o := .tup [.str "EmptyHistory", .ref a19]) n19))) e19⟩
  refine ⟨_, rfl, (by show 1 ≤ 1000; decide), fun a20 na20 => mk_go (Dp.mono S35 hd) hs na20 fun h20 s20 e20 => ⟨(by show 2 ≤ sizeLine; decide), fun p20 n20 => ?_⟩⟩
  have t35 := s20.trans (same_new (o := .tup [.str "UnknownCell", .ref a20]) n20)
  have S36 := S35.trans t35
  have R20 : RowX K (newOf H _) d (T.r_UnknownCell.c, "UnknownCell", some "name") (.ref p20) := ⟨p20, .ref a20, rfl, (newOf_at ((S35.trans s20).free n20)).trans upd_same, ErrAt.mono ((newOf_trans S35).trans (newOf_mono (same_new (o := .tup [.str "UnknownCell", .ref a20]) n20))) e20⟩
  refine ⟨(by show 3 ≤ sizeLine; decide), fun l8 nl8 => ?_⟩
  have t36 := same_new (o := .lst [.ref p18, .ref p19, .ref p20]) nl8
  have S37 := S36.trans t36
  refine ⟨c7, l8, _, _, rfl, rfl, ((((t33).trans t34).trans t35).trans t36) _ _ upd_same, upd_same, (by show 21 ≤ sizeLine; decide), fun c8 nc8 => ?_⟩
  have t37 := same_new (o := .lst [.ref p0, .ref p1, .ref p2, .ref p3, .ref p4, .ref p5, .ref p6, .ref p7, .ref p8, .ref p9, .ref p10, .ref p11, .ref p12, .ref p13, .ref p14, .ref p15, .ref p16, .ref p17, .ref p18, .ref p19, .ref p20]) nc8
  have S38 := S37.trans t37
  refine ⟨_, rfl, ?_⟩
  refine ⟨_, rfl, (by show 1 ≤ 1000; decide), fun a21 na21 => mk_go (Dp.mono S38 hd) hs na21 fun h21 s21 e21 => ⟨(by show 2 ≤ sizeLine; decide), fun p21 n21 => ?_⟩⟩
  have t38 := s21.trans (same_new (o := .tup [.str "UnknownKind", .ref a21]) n21)
  have S39 := S38.trans t38
  have R21 : RowX K (newOf H _) d (T.r_UnknownKind.c, "UnknownKind", some "name") (.ref p21) := ⟨p21, .ref a21, rfl, (newOf_at ((S38.trans s21).free n21)).trans upd_same, ErrAt.mono ((newOf_trans S38).trans (newOf_mono (same_new (o := .tup [.str "UnknownKind", .ref a21]) n21))) e21⟩
  refine ⟨_, rfl, (by show 1 ≤ 1000; decide), fun a22 na22 => mk_go (Dp.mono S39 hd) hs na22 fun h22 s22 e22 => ⟨(by show 2 ≤ sizeLine; decide), fun p22 n22 => ?_⟩⟩
  have t39 := s22.trans (same_new (o := .tup [.str "UnknownTie", .ref a22]) n22)
  have S40 := S39.trans t39
  have R22 : RowX K (newOf H _) d (T.r_UnknownTie.c, "UnknownTie", some "name") (.ref p22) := ⟨p22, .ref a22, rfl, (newOf_at ((S39.trans s22).free n22)).trans upd_same, ErrAt.mono ((newOf_trans S39).trans (newOf_mono (same_new (o := .tup [.str "UnknownTie", .ref a22]) n22))) e22⟩
  refine ⟨(by show 2 ≤ sizeLine; decide), fun l9 nl9 => ?_⟩
  have t40 := same_new (o := .lst [.ref p21, .ref p22]) nl9
  have S41 := S40.trans t40
  refine ⟨c8, l9, _, _, rfl, rfl, (((t38).trans t39).trans t40) _ _ upd_same, upd_same, (by show 23 ≤ sizeLine; decide), fun c9 nc9 => ?_⟩
  have t41 := same_new (o := .lst [.ref p0, .ref p1, .ref p2, .ref p3, .ref p4, .ref p5, .ref p6, .ref p7, .ref p8, .ref p9, .ref p10, .ref p11, .ref p12, .ref p13, .ref p14, .ref p15, .ref p16, .ref p17, .ref p18, .ref p19, .ref p20, .ref p21, .ref p22]) nc9
  have S42 := S41.trans t41
  refine ⟨_, rfl, ?_⟩
  refine ⟨_, rfl, (by show 1 ≤ 1000; decide), fun a23 na23 => mk_go (Dp.mono S42 hd) hs na23 fun h23 s23 e23 => ⟨(by show 2 ≤ sizeLine; decide), fun p23 n23 => ?_⟩⟩
  have t42 := s23.trans (same_new (o := .tup [.str "UnknownField", .ref a23]) n23)
  have S43 := S42.trans t42
  have R23 : RowX K (newOf H _) d (T.r_UnknownField.c, "UnknownField", some "name") (.ref p23) := ⟨p23, .ref a23, rfl, (newOf_at ((S42.trans s23).free n23)).trans upd_same, ErrAt.mono ((newOf_trans S42).trans (newOf_mono (same_new (o := .tup [.str "UnknownField", .ref a23]) n23))) e23⟩
  refine ⟨_, rfl, (by show 1 ≤ 1000; decide), fun a24 na24 => mk_go (Dp.mono S43 hd) hs na24 fun h24 s24 e24 => ⟨(by show 2 ≤ sizeLine; decide), fun p24 n24 => ?_⟩⟩
  have t43 := s24.trans (same_new (o := .tup [.str "MissingTie", .ref a24]) n24)
  have S44 := S43.trans t43
  have R24 : RowX K (newOf H _) d (T.r_MissingTie.c, "MissingTie", some "tie") (.ref p24) := ⟨p24, .ref a24, rfl, (newOf_at ((S43.trans s24).free n24)).trans upd_same, ErrAt.mono ((newOf_trans S43).trans (newOf_mono (same_new (o := .tup [.str "MissingTie", .ref a24]) n24))) e24⟩
  refine ⟨(by show 2 ≤ sizeLine; decide), fun l10 nl10 => ?_⟩
  have t44 := same_new (o := .lst [.ref p23, .ref p24]) nl10
  have S45 := S44.trans t44
  refine ⟨c9, l10, _, _, rfl, rfl, (((t42).trans t43).trans t44) _ _ upd_same, upd_same, (by show 25 ≤ sizeLine; decide), fun c10 nc10 => ?_⟩
  have t45 := same_new (o := .lst [.ref p0, .ref p1, .ref p2, .ref p3, .ref p4, .ref p5, .ref p6, .ref p7, .ref p8, .ref p9, .ref p10, .ref p11, .ref p12, .ref p13, .ref p14, .ref p15, .ref p16, .ref p17, .ref p18, .ref p19, .ref p20, .ref p21, .ref p22, .ref p23, .ref p24]) nc10
  have S46 := S45.trans t45
  refine ⟨_, rfl, ?_⟩
  refine ⟨_, rfl, (by show 1 ≤ 1000; decide), fun a25 na25 => mk_go (Dp.mono S46 hd) hs na25 fun h25 s25 e25 => ⟨(by show 2 ≤ sizeLine; decide), fun p25 n25 => ?_⟩⟩
  have t46 := s25.trans (same_new (o := .tup [.str "UnknownMoment", .ref a25]) n25)
  have S47 := S46.trans t46
  have R25 : RowX K (newOf H _) d (T.r_UnknownMoment.c, "UnknownMoment", some "given") (.ref p25) := ⟨p25, .ref a25, rfl, (newOf_at ((S46.trans s25).free n25)).trans upd_same, ErrAt.mono ((newOf_trans S46).trans (newOf_mono (same_new (o := .tup [.str "UnknownMoment", .ref a25]) n25))) e25⟩
  refine ⟨(by show 1 ≤ sizeLine; decide), fun l11 nl11 => ?_⟩
  have t47 := same_new (o := .lst [.ref p25]) nl11
  have S48 := S47.trans t47
  refine ⟨c10, l11, _, _, rfl, rfl, ((t46).trans t47) _ _ upd_same, upd_same, (by show 26 ≤ sizeLine; decide), fun c11 nc11 => ?_⟩
  have t48 := same_new (o := .lst [.ref p0, .ref p1, .ref p2, .ref p3, .ref p4, .ref p5, .ref p6, .ref p7, .ref p8, .ref p9, .ref p10, .ref p11, .ref p12, .ref p13, .ref p14, .ref p15, .ref p16, .ref p17, .ref p18, .ref p19, .ref p20, .ref p21, .ref p22, .ref p23, .ref p24, .ref p25]) nc11
  have S49 := S48.trans t48
  have z48 := t48
  have z47 := t47.trans z48
  have z46 := t46.trans z47
  have z45 := t45.trans z46
  have z44 := t44.trans z45
  have z43 := t43.trans z44
  have z42 := t42.trans z43
  have z41 := t41.trans z42
  have z40 := t40.trans z41
  have z39 := t39.trans z40
  have z38 := t38.trans z39
  have z37 := t37.trans z38
  have z36 := t36.trans z37
  have z35 := t35.trans z36
  have z34 := t34.trans z35
  have z33 := t33.trans z34
  have z32 := t32.trans z33
  have z31 := t31.trans z32
  have z30 := t30.trans z31
  have z29 := t29.trans z30
  have z28 := t28.trans z29
  have z27 := t27.trans z28
  have z26 := t26.trans z27
  have z25 := t25.trans z26
  have z24 := t24.trans z25
  have z23 := t23.trans z24
  have z22 := t22.trans z23
  have z21 := t21.trans z22
  have z20 := t20.trans z21
  have z19 := t19.trans z20
  have z18 := t18.trans z19
  have z17 := t17.trans z18
  have z16 := t16.trans z17
  have z15 := t15.trans z16
  have z14 := t14.trans z15
  have z13 := t13.trans z14
  have z12 := t12.trans z13
  have z11 := t11.trans z12
  have z10 := t10.trans z11
  have z9 := t9.trans z10
  have z8 := t8.trans z9
  have z7 := t7.trans z8
  have z6 := t6.trans z7
  have z5 := t5.trans z6
  have z4 := t4.trans z5
  have z3 := t3.trans z4
  have z2 := t2.trans z3
  have z1 := t1.trans z2
  exact q c11 _ _ S49 ((newOf_at (S48.free nc11)).trans upd_same) (.cons (R0.mono (newOf_mono z1)) (.cons (R1.mono (newOf_mono z2)) (.cons (R2.mono (newOf_mono z3)) (.cons (R3.mono (newOf_mono z5)) (.cons (R4.mono (newOf_mono z6)) (.cons (R5.mono (newOf_mono z9)) (.cons (R6.mono (newOf_mono z10)) (.cons (R7.mono (newOf_mono z13)) (.cons (R8.mono (newOf_mono z14)) (.cons (R9.mono (newOf_mono z17)) (.cons (R10.mono (newOf_mono z18)) (.cons (R11.mono (newOf_mono z21)) (.cons (R12.mono (newOf_mono z22)) (.cons (R13.mono (newOf_mono z25)) (.cons (R14.mono (newOf_mono z26)) (.cons (R15.mono (newOf_mono z29)) (.cons (R16.mono (newOf_mono z30)) (.cons (R17.mono (newOf_mono z31)) (.cons (R18.mono (newOf_mono z34)) (.cons (R19.mono (newOf_mono z35)) (.cons (R20.mono (newOf_mono z36)) (.cons (R21.mono (newOf_mono z39)) (.cons (R22.mono (newOf_mono z40)) (.cons (R23.mono (newOf_mono z43)) (.cons (R24.mono (newOf_mono z44)) (.cons (R25.mono (newOf_mono z47)) .nil))))))))))))))))))))))))))
end
end Bh

set_option Elab.async false
set_option linter.all false
set_option maxRecDepth 100000
set_option maxHeartbeats 4000000
namespace Bh
open PySem PySem.Spec PyProof.Rows L2
section
variable {P : Program} {w : World} {K : PySem.W.Frag} {mg : Str → Option Value} {base : Heap}
theorem kit_at {cs : List Addr} {vs : List Value} (h : kitTab K cs vs = true) {i j : Nat} {c : Addr} {v : Value} (hi : cs[i]? = some c) (hj : vs[j]? = some v) (li : i < 26) (lj : j < 30) : PySem.W.kitOne K (.ref c) v = some (dueF i j) := by
  have a := List.all_eq_true.mp (List.all_eq_true.mp h i (List.mem_range.mpr li)) j (List.mem_range.mpr lj)
  rw [hi, hj] at a
  exact eq_of_beq a
theorem Top.rows_k (T : Top K mg) : ∀ r ∈ T.rows, ExcC K r.1 ∧ XfC K r.1 := by
  intro r h
  unfold Top.rows at h
  rcases List.mem_cons.mp h with rfl | h
  · exact ⟨T.r_InvalidField.k, T.r_InvalidField.x⟩
  rcases List.mem_cons.mp h with rfl | h
  · exact ⟨T.r_InvalidTie.k, T.r_InvalidTie.x⟩
  rcases List.mem_cons.mp h with rfl | h
  · exact ⟨T.r_InvalidKind.k, T.r_InvalidKind.x⟩
  rcases List.mem_cons.mp h with rfl | h
  · exact ⟨T.r_InvalidHolding.k, T.r_InvalidHolding.x⟩
  rcases List.mem_cons.mp h with rfl | h
  · exact ⟨T.r_InvalidRulebook.k, T.r_InvalidRulebook.x⟩
  rcases List.mem_cons.mp h with rfl | h
  · exact ⟨T.r_InvalidName.k, T.r_InvalidName.x⟩
  rcases List.mem_cons.mp h with rfl | h
  · exact ⟨T.r_InvalidNetwork.k, T.r_InvalidNetwork.x⟩
  rcases List.mem_cons.mp h with rfl | h
  · exact ⟨T.r_InvalidState.k, T.r_InvalidState.x⟩
  rcases List.mem_cons.mp h with rfl | h
  · exact ⟨T.r_InvalidLook.k, T.r_InvalidLook.x⟩
  rcases List.mem_cons.mp h with rfl | h
  · exact ⟨T.r_InvalidCount.k, T.r_InvalidCount.x⟩
  rcases List.mem_cons.mp h with rfl | h
  · exact ⟨T.r_InvalidCommand.k, T.r_InvalidCommand.x⟩
  rcases List.mem_cons.mp h with rfl | h
  · exact ⟨T.r_InvalidLimit.k, T.r_InvalidLimit.x⟩
  rcases List.mem_cons.mp h with rfl | h
  · exact ⟨T.r_InvalidPage.k, T.r_InvalidPage.x⟩
  rcases List.mem_cons.mp h with rfl | h
  · exact ⟨T.r_DuplicateCell.k, T.r_DuplicateCell.x⟩
  rcases List.mem_cons.mp h with rfl | h
  · exact ⟨T.r_DuplicateTie.k, T.r_DuplicateTie.x⟩
  rcases List.mem_cons.mp h with rfl | h
  · exact ⟨T.r_KindsDiffer.k, T.r_KindsDiffer.x⟩
  rcases List.mem_cons.mp h with rfl | h
  · exact ⟨T.r_BooksDiffer.k, T.r_BooksDiffer.x⟩
  rcases List.mem_cons.mp h with rfl | h
  · exact ⟨T.r_Unsettled.k, T.r_Unsettled.x⟩
  rcases List.mem_cons.mp h with rfl | h
  · exact ⟨T.r_Full.k, T.r_Full.x⟩
  rcases List.mem_cons.mp h with rfl | h
  · exact ⟨T.r_EmptyHistory.k, T.r_EmptyHistory.x⟩
  rcases List.mem_cons.mp h with rfl | h
  · exact ⟨T.r_UnknownCell.k, T.r_UnknownCell.x⟩
  rcases List.mem_cons.mp h with rfl | h
  · exact ⟨T.r_UnknownKind.k, T.r_UnknownKind.x⟩
  rcases List.mem_cons.mp h with rfl | h
  · exact ⟨T.r_UnknownTie.k, T.r_UnknownTie.x⟩
  rcases List.mem_cons.mp h with rfl | h
  · exact ⟨T.r_UnknownField.k, T.r_UnknownField.x⟩
  rcases List.mem_cons.mp h with rfl | h
  · exact ⟨T.r_MissingTie.k, T.r_MissingTie.x⟩
  rcases List.mem_cons.mp h with rfl | h
  · exact ⟨T.r_UnknownMoment.k, T.r_UnknownMoment.x⟩
  cases h
theorem Top.rows_c (T : Top K mg) : T.rows.map (·.1) = [T.r_InvalidField.c, T.r_InvalidTie.c, T.r_InvalidKind.c, T.r_InvalidHolding.c, T.r_InvalidRulebook.c, T.r_InvalidName.c, T.r_InvalidNetwork.c, T.r_InvalidState.c, T.r_InvalidLook.c, T.r_InvalidCount.c, T.r_InvalidCommand.c, T.r_InvalidLimit.c, T.r_InvalidPage.c, T.r_DuplicateCell.c, T.r_DuplicateTie.c, T.r_KindsDiffer.c, T.r_BooksDiffer.c, T.r_Unsettled.c, T.r_Full.c, T.r_EmptyHistory.c, T.r_UnknownCell.c, T.r_UnknownKind.c, T.r_UnknownTie.c, T.r_UnknownField.c, T.r_MissingTie.c, T.r_UnknownMoment.c] := rfl
def spFlags (rows : List RowT) : Sp := fun vs H Q _ => ∃ (a dx : Addr) (fs : List (Str × V)) (i : Nat) (r : RowT), vs = [.ref a] ∧ rows[i]? = some r ∧ H a = some (exo a r.1 (some dx)) ∧ H dx = some (exd dx fs) ∧
  ∀ (p : Addr) (H' : Hp), Same H H' → H' p = some (.lst ((List.range 30).map fun j => V.bl (dueF i j))) → Q (.ref p) H'
theorem ok_flags (T : Top K mg) : FnOk P w K mg base CX0 1 T.a_l_flags T.fd_l_flags ["_law_e"] (spFlags T.rows) := by
  refine T.d_l_flags.F.ok sc_l_flags (fun vs H Q E h => ?_) (fun cdv A outer s H vs Q E hr h => ?_)
  · obtain ⟨a, dx, fs, i, r, rfl, _⟩ := h
    rfl
  obtain ⟨a, dx, fs, i, r, rfl, hi, ea, ed, q⟩ := h
  have li : i < 26 := by
    have := (List.getElem?_eq_some_iff.mp hi).1
    exact this
  have hc : (T.rows.map (·.1))[i]? = some r.1 := by rw [List.getElem?_map, hi]; rfl
  rw [T.rows_c] at hc
  have xk := (T.rows_k r (List.mem_of_getElem? hi)).1
  have kt := fun j v hj lj => kit_at (j := j) (v := v) T.kt hc hj li lj
  refine ⟨_, (pss_cons (ps_set (i := 1) sc_l_flags.nd rfl (Or.inl rfl) (pe_lst (pa_cons (pe_callB call_isO (by rfl) T.b_isinstance (by decide +kernel) (pa_cons (pv 0) (pa_cons (pe_glob (v := .ref T.r_InvalidField.c) rfl T.r_InvalidField.g rfl) pa_nil))) (pa_cons (pe_callB call_isO (by rfl) T.b_isinstance (by decide +kernel) (pa_cons (pv 0) (pa_cons (pe_glob (v := .ref T.r_InvalidTie.c) rfl T.r_InvalidTie.g rfl) pa_nil))) (pa_cons (pe_callB call_isO (by rfl) T.b_isinstance (by decide +kernel) (pa_cons (pv 0) (pa_cons (pe_glob (v := .ref T.r_InvalidKind.c) rfl T.r_InvalidKind.g rfl) pa_nil))) pa_nil)))))
    (pss_cons (ps_set (i := 1) sc_l_flags.nd rfl (Or.inl rfl) (pe_op op_cat (pv 1) (pe_lst (pa_cons (pe_callB call_isO (by rfl) T.b_isinstance (by decide +kernel) (pa_cons (pv 0) (pa_cons (pe_glob (v := .ref T.r_InvalidHolding.c) rfl T.r_InvalidHolding.g rfl) pa_nil))) (pa_cons (pe_callB call_isO (by rfl) T.b_isinstance (by decide +kernel) (pa_cons (pv 0) (pa_cons (pe_glob (v := .ref T.r_InvalidRulebook.c) rfl T.r_InvalidRulebook.g rfl) pa_nil))) (pa_cons (pe_callB call_isO (by rfl) T.b_isinstance (by decide +kernel) (pa_cons (pv 0) (pa_cons (pe_glob (v := .ref T.r_InvalidName.c) rfl T.r_InvalidName.g rfl) pa_nil))) pa_nil))))))
    (pss_cons (ps_set (i := 1) sc_l_flags.nd rfl (Or.inl rfl) (pe_op op_cat (pv 1) (pe_lst (pa_cons (pe_callB call_isO (by rfl) T.b_isinstance (by decide +kernel) (pa_cons (pv 0) (pa_cons (pe_glob (v := .ref T.r_InvalidNetwork.c) rfl T.r_InvalidNetwork.g rfl) pa_nil))) (pa_cons (pe_callB call_isO (by rfl) T.b_isinstance (by decide +kernel) (pa_cons (pv 0) (pa_cons (pe_glob (v := .ref T.r_InvalidState.c) rfl T.r_InvalidState.g rfl) pa_nil))) (pa_cons (pe_callB call_isO (by rfl) T.b_isinstance (by decide +kernel) (pa_cons (pv 0) (pa_cons (pe_glob (v := .ref T.r_InvalidLook.c) rfl T.r_InvalidLook.g rfl) pa_nil))) pa_nil))))))
    (pss_cons (ps_set (i := 1) sc_l_flags.nd rfl (Or.inl rfl) (pe_op op_cat (pv 1) (pe_lst (pa_cons (pe_callB call_isO (by rfl) T.b_isinstance (by decide +kernel) (pa_cons (pv 0) (pa_cons (pe_glob (v := .ref T.r_InvalidCount.c) rfl T.r_InvalidCount.g rfl) pa_nil))) (pa_cons (pe_callB call_isO (by rfl) T.b_isinstance (by decide +kernel) (pa_cons (pv 0) (pa_cons (pe_glob (v := .ref T.r_InvalidCommand.c) rfl T.r_InvalidCommand.g rfl) pa_nil))) (pa_cons (pe_callB call_isO (by rfl) T.b_isinstance (by decide +kernel) (pa_cons (pv 0) (pa_cons (pe_glob (v := .ref T.r_InvalidLimit.c) rfl T.r_InvalidLimit.g rfl) pa_nil))) pa_nil))))))
    (pss_cons (ps_set (i := 1) sc_l_flags.nd rfl (Or.inl rfl) (pe_op op_cat (pv 1) (pe_lst (pa_cons (pe_callB call_isO (by rfl) T.b_isinstance (by decide +kernel) (pa_cons (pv 0) (pa_cons (pe_glob (v := .ref T.r_InvalidPage.c) rfl T.r_InvalidPage.g rfl) pa_nil))) (pa_cons (pe_callB call_isO (by rfl) T.b_isinstance (by decide +kernel) (pa_cons (pv 0) (pa_cons (pe_glob (v := .ref T.r_DuplicateCell.c) rfl T.r_DuplicateCell.g rfl) pa_nil))) (pa_cons (pe_callB call_isO (by rfl) T.b_isinstance (by decide +kernel) (pa_cons (pv 0) (pa_cons (pe_glob (v := .ref T.r_DuplicateTie.c) rfl T.r_DuplicateTie.g rfl) pa_nil))) pa_nil))))))
    (pss_cons (ps_set (i := 1) sc_l_flags.nd rfl (Or.inl rfl) (pe_op op_cat (pv 1) (pe_lst (pa_cons (pe_callB call_isO (by rfl) T.b_isinstance (by decide +kernel) (pa_cons (pv 0) (pa_cons (pe_glob (v := .ref T.r_KindsDiffer.c) rfl T.r_KindsDiffer.g rfl) pa_nil))) (pa_cons (pe_callB call_isO (by rfl) T.b_isinstance (by decide +kernel) (pa_cons (pv 0) (pa_cons (pe_glob (v := .ref T.r_BooksDiffer.c) rfl T.r_BooksDiffer.g rfl) pa_nil))) (pa_cons (pe_callB call_isO (by rfl) T.b_isinstance (by decide +kernel) (pa_cons (pv 0) (pa_cons (pe_glob (v := .ref T.r_Unsettled.c) rfl T.r_Unsettled.g rfl) pa_nil))) pa_nil))))))
    (pss_cons (ps_set (i := 1) sc_l_flags.nd rfl (Or.inl rfl) (pe_op op_cat (pv 1) (pe_lst (pa_cons (pe_callB call_isO (by rfl) T.b_isinstance (by decide +kernel) (pa_cons (pv 0) (pa_cons (pe_glob (v := .ref T.r_Full.c) rfl T.r_Full.g rfl) pa_nil))) (pa_cons (pe_callB call_isO (by rfl) T.b_isinstance (by decide +kernel) (pa_cons (pv 0) (pa_cons (pe_glob (v := .ref T.r_EmptyHistory.c) rfl T.r_EmptyHistory.g rfl) pa_nil))) (pa_cons (pe_callB call_isO (by rfl) T.b_isinstance (by decide +kernel) (pa_cons (pv 0) (pa_cons (pe_glob (v := .ref T.r_UnknownCell.c) rfl T.r_UnknownCell.g rfl) pa_nil))) pa_nil))))))
    (pss_cons (ps_set (i := 1) sc_l_flags.nd rfl (Or.inl rfl) (pe_op op_cat (pv 1) (pe_lst (pa_cons (pe_callB call_isO (by rfl) T.b_isinstance (by decide +kernel) (pa_cons (pv 0) (pa_cons (pe_glob (v := .ref T.r_UnknownKind.c) rfl T.r_UnknownKind.g rfl) pa_nil))) (pa_cons (pe_callB call_isO (by rfl) T.b_isinstance (by decide +kernel) (pa_cons (pv 0) (pa_cons (pe_glob (v := .ref T.r_UnknownTie.c) rfl T.r_UnknownTie.g rfl) pa_nil))) (pa_cons (pe_callB call_isO (by rfl) T.b_isinstance (by decide +kernel) (pa_cons (pv 0) (pa_cons (pe_glob (v := .ref T.r_UnknownField.c) rfl T.r_UnknownField.g rfl) pa_nil))) pa_nil))))))
    (pss_cons (ps_set (i := 1) sc_l_flags.nd rfl (Or.inl rfl) (pe_op op_cat (pv 1) (pe_lst (pa_cons (pe_callB call_isO (by rfl) T.b_isinstance (by decide +kernel) (pa_cons (pv 0) (pa_cons (pe_glob (v := .ref T.r_MissingTie.c) rfl T.r_MissingTie.g rfl) pa_nil))) (pa_cons (pe_callB call_isO (by rfl) T.b_isinstance (by decide +kernel) (pa_cons (pv 0) (pa_cons (pe_glob (v := .ref T.r_UnknownMoment.c) rfl T.r_UnknownMoment.g rfl) pa_nil))) pa_nil)))))
    (pss_one (ps_ret (pe_op op_cat (pv 1) (pe_lst (pa_cons (pe_callB call_isO (by rfl) T.b_isinstance (by decide +kernel) (pa_cons (pv 0) (pa_cons (pe_glob (v := .ref T.cBE) rfl T.gBE rfl) pa_nil))) (pa_cons (pe_callB call_isO (by rfl) T.b_isinstance (by decide +kernel) (pa_cons (pv 0) (pa_cons (pe_tyN "ValueError" (by rfl) T.z_VE (by decide +kernel)) pa_nil))) (pa_cons (pe_callB call_isO (by rfl) T.b_isinstance (by decide +kernel) (pa_cons (pv 0) (pa_cons (pe_glob (v := .ref T.cMS) rfl T.gMS rfl) pa_nil))) (pa_cons (pe_callB call_isO (by rfl) T.b_isinstance (by decide +kernel) (pa_cons (pv 0) (pa_cons (pe_tyN "LookupError" (by rfl) T.z_LE (by decide +kernel)) pa_nil))) pa_nil))))))))))))))))), ?_⟩
  have S0 : Same H H := Same.refl H
  refine ⟨_, rfl, ?_⟩
  refine ⟨a, r.1, dx, fs, _, _, dueF i 0, rfl, xk, S0 _ _ ea, S0 _ _ ed, fun u e => e, kt 0 _ rfl (by decide), ?_⟩
  refine ⟨_, rfl, ?_⟩
  refine ⟨a, r.1, dx, fs, _, _, dueF i 1, rfl, xk, S0 _ _ ea, S0 _ _ ed, fun u e => e, kt 1 _ rfl (by decide), ?_⟩
  refine ⟨_, rfl, ?_⟩
  refine ⟨a, r.1, dx, fs, _, _, dueF i 2, rfl, xk, S0 _ _ ea, S0 _ _ ed, fun u e => e, kt 2 _ rfl (by decide), ?_⟩
  refine ⟨(by show 3 ≤ sizeLine; decide), fun l0 nl0 => ?_⟩
  have t0 := same_new (o := .lst [.bl (dueF i 0), .bl (dueF i 1), .bl (dueF i 2)]) nl0
  have S1 := S0.trans t0
  refine ⟨_, rfl, ?_⟩
  refine ⟨_, rfl, ?_⟩
  refine ⟨a, r.1, dx, fs, _, _, dueF i 3, rfl, xk, S1 _ _ ea, S1 _ _ ed, fun u e => e, kt 3 _ rfl (by decide), ?_⟩
  refine ⟨_, rfl, ?_⟩
  refine ⟨a, r.1, dx, fs, _, _, dueF i 4, rfl, xk, S1 _ _ ea, S1 _ _ ed, fun u e => e, kt 4 _ rfl (by decide), ?_⟩
  refine ⟨_, rfl, ?_⟩
  refine ⟨a, r.1, dx, fs, _, _, dueF i 5, rfl, xk, S1 _ _ ea, S1 _ _ ed, fun u e => e, kt 5 _ rfl (by decide), ?_⟩
  refine ⟨(by show 3 ≤ sizeLine; decide), fun l1 nl1 => ?_⟩
  have t1 := same_new (o := .lst [.bl (dueF i 3), .bl (dueF i 4), .bl (dueF i 5)]) nl1
  have S2 := S1.trans t1
  refine ⟨l0, l1, _, _, rfl, rfl, (t1) _ _ upd_same, upd_same, (by show 6 ≤ sizeLine; decide), fun c1 nc1 => ?_⟩
  have t2 := same_new (o := .lst [.bl (dueF i 0), .bl (dueF i 1), .bl (dueF i 2), .bl (dueF i 3), .bl (dueF i 4), .bl (dueF i 5)]) nc1
  have S3 := S2.trans t2
  refine ⟨_, rfl, ?_⟩
  refine ⟨_, rfl, ?_⟩
  refine ⟨a, r.1, dx, fs, _, _, dueF i 6, rfl, xk, S3 _ _ ea, S3 _ _ ed, fun u e => e, kt 6 _ rfl (by decide), ?_⟩
  refine ⟨_, rfl, ?_⟩
  refine ⟨a, r.1, dx, fs, _, _, dueF i 7, rfl, xk, S3 _ _ ea, S3 _ _ ed, fun u e => e, kt 7 _ rfl (by decide), ?_⟩
  refine ⟨_, rfl, ?_⟩
  refine ⟨a, r.1, dx, fs, _, _, dueF i 8, rfl, xk, S3 _ _ ea, S3 _ _ ed, fun u e => e, kt 8 _ rfl (by decide), ?_⟩
  refine ⟨(by show 3 ≤ sizeLine; decide), fun l2 nl2 => ?_⟩
  have t3 := same_new (o := .lst [.bl (dueF i 6), .bl (dueF i 7), .bl (dueF i 8)]) nl2
  have S4 := S3.trans t3
  refine ⟨c1, l2, _, _, rfl, rfl, (t3) _ _ upd_same, upd_same, (by show 9 ≤ sizeLine; decide), fun c2 nc2 => ?_⟩
  have t4 := same_new (o := .lst [.bl (dueF i 0), .bl (dueF i 1), .bl (dueF i 2), .bl (dueF i 3), .bl (dueF i 4), .bl (dueF i 5), .bl (dueF i 6), .bl (dueF i 7), .bl (dueF i 8)]) nc2
  have S5 := S4.trans t4
  refine ⟨_, rfl, ?_⟩
  refine ⟨_, rfl, ?_⟩
  refine ⟨a, r.1, dx, fs, _, _, dueF i 9, rfl, xk, S5 _ _ ea, S5 _ _ ed, fun u e => e, kt 9 _ rfl (by decide), ?_⟩
  refine ⟨_, rfl, ?_⟩
  refine ⟨a, r.1, dx, fs, _, _, dueF i 10, rfl, xk, S5 _ _ ea, S5 _ _ ed, fun u e => e, kt 10 _ rfl (by decide), ?_⟩
  refine ⟨_, rfl, ?_⟩
  refine ⟨a, r.1, dx, fs, _, _, dueF i 11, rfl, xk, S5 _ _ ea, S5 _ _ ed, fun u e => e, kt 11 _ rfl (by decide), ?_⟩
  refine ⟨(by show 3 ≤ sizeLine; decide), fun l3 nl3 => ?_⟩
  have t5 := same_new (o := .lst [.bl (dueF i 9), .bl (dueF i 10), .bl (dueF i 11)]) nl3
  have S6 := S5.trans t5
  refine ⟨c2, l3, _, _, rfl, rfl, (t5) _ _ upd_same, upd_same, (by show 12 ≤ sizeLine; decide), fun c3 nc3 => ?_⟩
  have t6 := same_new (o := .lst [.bl (dueF i 0), .bl (dueF i 1), .bl (dueF i 2), .bl (dueF i 3), .bl (dueF i 4), .bl (dueF i 5), .bl (dueF i 6), .bl (dueF i 7), .bl (dueF i 8), .bl (dueF i 9), .bl (dueF i 10), .bl (dueF i 11)]) nc3
  have S7 := S6.trans t6
  refine ⟨_, rfl, ?_⟩
  refine ⟨_, rfl, ?_⟩
  refine ⟨a, r.1, dx, fs, _, _, dueF i 12, rfl, xk, S7 _ _ ea, S7 _ _ ed, fun u e => e, kt 12 _ rfl (by decide), ?_⟩
  refine ⟨_, rfl, ?_⟩
  refine ⟨a, r.1, dx, fs, _, _, dueF i 13, rfl, xk, S7 _ _ ea, S7 _ _ ed, fun u e => e, kt 13 _ rfl (by decide), ?_⟩
  refine ⟨_, rfl, ?_⟩
  refine ⟨a, r.1, dx, fs, _, _, dueF i 14, rfl, xk, S7 _ _ ea, S7 _ _ ed, fun u e => e, kt 14 _ rfl (by decide), ?_⟩
  refine ⟨(by show 3 ≤ sizeLine; decide), fun l4 nl4 => ?_⟩
  have t7 := same_new (o := .lst [.bl (dueF i 12), .bl (dueF i 13), .bl (dueF i 14)]) nl4
  have S8 := S7.trans t7
  refine ⟨c3, l4, _, _, rfl, rfl, (t7) _ _ upd_same, upd_same, (by show 15 ≤ sizeLine; decide), fun c4 nc4 => ?_⟩
  have t8 := same_new (o := .lst [.bl (dueF i 0), .bl (dueF i 1), .bl (dueF i 2), .bl (dueF i 3), .bl (dueF i 4), .bl (dueF i 5), .bl (dueF i 6), .bl (dueF i 7), .bl (dueF i 8), .bl (dueF i 9), .bl (dueF i 10), .bl (dueF i 11), .bl (dueF i 12), .bl (dueF i 13), .bl (dueF i 14)]) nc4
  have S9 := S8.trans t8
  refine ⟨_, rfl, ?_⟩
  refine ⟨_, rfl, ?_⟩
  refine ⟨a, r.1, dx, fs, _, _, dueF i 15, rfl, xk, S9 _ _ ea, S9 _ _ ed, fun u e => e, kt 15 _ rfl (by decide), ?_⟩
  refine ⟨_, rfl, ?_⟩
  refine ⟨a, r.1, dx, fs, _, _, dueF i 16, rfl, xk, S9 _ _ ea, S9 _ _ ed, fun u e => e, kt 16 _ rfl (by decide), ?_⟩
  refine ⟨_, rfl, ?_⟩
  refine ⟨a, r.1, dx, fs, _, _, dueF i 17, rfl, xk, S9 _ _ ea, S9 _ _ ed, fun u e => e, kt 17 _ rfl (by decide), ?_⟩
  refine ⟨(by show 3 ≤ sizeLine; decide), fun l5 nl5 => ?_⟩
  have t9 := same_new (o := .lst [.bl (dueF i 15), .bl (dueF i 16), .bl (dueF i 17)]) nl5
  have S10 := S9.trans t9
  refine ⟨c4, l5, _, _, rfl, rfl, (t9) _ _ upd_same, upd_same, (by show 18 ≤ sizeLine; decide), fun c5 nc5 => ?_⟩
  have t10 := same_new (o := .lst [.bl (dueF i 0), .bl (dueF i 1), .bl (dueF i 2), .bl (dueF i 3), .bl (dueF i 4), .bl (dueF i 5), .bl (dueF i 6), .bl (dueF i 7), .bl (dueF i 8), .bl (dueF i 9), .bl (dueF i 10), .bl (dueF i 11), .bl (dueF i 12), .bl (dueF i 13), .bl (dueF i 14), .bl (dueF i 15), .bl (dueF i 16), .bl (dueF i 17)]) nc5
  have S11 := S10.trans t10
  refine ⟨_, rfl, ?_⟩
  refine ⟨_, rfl, ?_⟩
  refine ⟨a, r.1, dx, fs, _, _, dueF i 18, rfl, xk, S11 _ _ ea, S11 _ _ ed, fun u e => e, kt 18 _ rfl (by decide), ?_⟩
  refine ⟨_, rfl, ?_⟩
  refine ⟨a, r.1, dx, fs, _, _, dueF i 19, rfl, xk, S11 _ _ ea, S11 _ _ ed, fun u e => e, kt 19 _ rfl (by decide), ?_⟩
  refine ⟨_, rfl, ?_⟩
  refine ⟨a, r.1, dx, fs, _, _, dueF i 20, rfl, xk, S11 _ _ ea, S11 _ _ ed, fun u e => e, kt 20 _ rfl (by decide), ?_⟩
  refine ⟨(by show 3 ≤ sizeLine; decide), fun l6 nl6 => ?_⟩
  have t11 := same_new (o := .lst [.bl (dueF i 18), .bl (dueF i 19), .bl (dueF i 20)]) nl6
  have S12 := S11.trans t11
  refine ⟨c5, l6, _, _, rfl, rfl, (t11) _ _ upd_same, upd_same, (by show 21 ≤ sizeLine; decide), fun c6 nc6 => ?_⟩
  have t12 := same_new (o := .lst [.bl (dueF i 0), .bl (dueF i 1), .bl (dueF i 2), .bl (dueF i 3), .bl (dueF i 4), .bl (dueF i 5), .bl (dueF i 6), .bl (dueF i 7), .bl (dueF i 8), .bl (dueF i 9), .bl (dueF i 10), .bl (dueF i 11), .bl (dueF i 12), .bl (dueF i 13), .bl (dueF i 14), .bl (dueF i 15), .bl (dueF i 16), .bl (dueF i 17), .bl (dueF i 18), .bl (dueF i 19), .bl (dueF i 20)]) nc6
  have S13 := S12.trans t12
  refine ⟨_, rfl, ?_⟩
  refine ⟨_, rfl, ?_⟩
  refine ⟨a, r.1, dx, fs, _, _, dueF i 21, rfl, xk, S13 _ _ ea, S13 _ _ ed, fun u e => e, kt 21 _ rfl (by decide), ?_⟩
  refine ⟨_, rfl, ?_⟩
  refine ⟨a, r.1, dx, fs, _, _, dueF i 22, rfl, xk, S13 _ _ ea, S13 _ _ ed, fun u e => e, kt 22 _ rfl (by decide), ?_⟩
  refine ⟨_, rfl, ?_⟩
  refine ⟨a, r.1, dx, fs, _, _, dueF i 23, rfl, xk, S13 _ _ ea, S13 _ _ ed, fun u e => e, kt 23 _ rfl (by decide), ?_⟩
  refine ⟨(by show 3 ≤ sizeLine; decide), fun l7 nl7 => ?_⟩
  have t13 := same_new (o := .lst [.bl (dueF i 21), .bl (dueF i 22), .bl (dueF i 23)]) nl7
  have S14 := S13.trans t13
  refine ⟨c6, l7, _, _, rfl, rfl, (t13) _ _ upd_same, upd_same, (by show 24 ≤ sizeLine; decide), fun c7 nc7 => ?_⟩
  have t14 := same_new (o := .lst [.bl (dueF i 0), .bl (dueF i 1), .bl (dueF i 2), .bl (dueF i 3), .bl (dueF i 4), .bl (dueF i 5), .bl (dueF i 6), .bl (dueF i 7), .bl (dueF i 8), .bl (dueF i 9), .bl (dueF i 10), .bl (dueF i 11), .bl (dueF i 12), .bl (dueF i 13), .bl (dueF i 14), .bl (dueF i 15), .bl (dueF i 16), .bl (dueF i 17), .bl (dueF i 18), .bl (dueF i 19), .bl (dueF i 20), .bl (dueF i 21), .bl (dueF i 22), .bl (dueF i 23)]) nc7
  have S15 := S14.trans t14
  refine ⟨_, rfl, ?_⟩
  refine ⟨_, rfl, ?_⟩
  refine ⟨a, r.1, dx, fs, _, _, dueF i 24, rfl, xk, S15 _ _ ea, S15 _ _ ed, fun u e => e, kt 24 _ rfl (by decide), ?_⟩
  refine ⟨_, rfl, ?_⟩
  refine ⟨a, r.1, dx, fs, _, _, dueF i 25, rfl, xk, S15 _ _ ea, S15 _ _ ed, fun u e => e, kt 25 _ rfl (by decide), ?_⟩
  refine ⟨(by show 2 ≤ sizeLine; decide), fun l8 nl8 => ?_⟩
  have t15 := same_new (o := .lst [.bl (dueF i 24), .bl (dueF i 25)]) nl8
  have S16 := S15.trans t15
  refine ⟨c7, l8, _, _, rfl, rfl, (t15) _ _ upd_same, upd_same, (by show 26 ≤ sizeLine; decide), fun c8 nc8 => ?_⟩
  have t16 := same_new (o := .lst [.bl (dueF i 0), .bl (dueF i 1), .bl (dueF i 2), .bl (dueF i 3), .bl (dueF i 4), .bl (dueF i 5), .bl (dueF i 6), .bl (dueF i 7), .bl (dueF i 8), .bl (dueF i 9), .bl (dueF i 10), .bl (dueF i 11), .bl (dueF i 12), .bl (dueF i 13), .bl (dueF i 14), .bl (dueF i 15), .bl (dueF i 16), .bl (dueF i 17), .bl (dueF i 18), .bl (dueF i 19), .bl (dueF i 20), .bl (dueF i 21), .bl (dueF i 22), .bl (dueF i 23), .bl (dueF i 24), .bl (dueF i 25)]) nc8
  have S17 := S16.trans t16
  refine ⟨_, rfl, ?_⟩
  refine ⟨_, rfl, ?_⟩
  refine ⟨a, r.1, dx, fs, _, _, dueF i 26, rfl, xk, S17 _ _ ea, S17 _ _ ed, fun u e => e, kt 26 _ rfl (by decide), ?_⟩
  refine ⟨_, rfl, ?_⟩
  refine ⟨a, r.1, dx, fs, .ty "ValueError", .type "ValueError", dueF i 27, rfl, xk, S17 _ _ ea, S17 _ _ ed, fun u e => e, kt 27 _ rfl (by decide), ?_⟩
  refine ⟨_, rfl, ?_⟩
  refine ⟨a, r.1, dx, fs, _, _, dueF i 28, rfl, xk, S17 _ _ ea, S17 _ _ ed, fun u e => e, kt 28 _ rfl (by decide), ?_⟩
  refine ⟨_, rfl, ?_⟩
  refine ⟨a, r.1, dx, fs, .ty "LookupError", .type "LookupError", dueF i 29, rfl, xk, S17 _ _ ea, S17 _ _ ed, fun u e => e, kt 29 _ rfl (by decide), ?_⟩
  refine ⟨(by show 4 ≤ sizeLine; decide), fun l9 nl9 => ?_⟩
  have t17 := same_new (o := .lst [.bl (dueF i 26), .bl (dueF i 27), .bl (dueF i 28), .bl (dueF i 29)]) nl9
  have S18 := S17.trans t17
  refine ⟨c8, l9, _, _, rfl, rfl, (t17) _ _ upd_same, upd_same, (by show 30 ≤ sizeLine; decide), fun c9 nc9 => ?_⟩
  have t18 := same_new (o := .lst [.bl (dueF i 0), .bl (dueF i 1), .bl (dueF i 2), .bl (dueF i 3), .bl (dueF i 4), .bl (dueF i 5), .bl (dueF i 6), .bl (dueF i 7), .bl (dueF i 8), .bl (dueF i 9), .bl (dueF i 10), .bl (dueF i 11), .bl (dueF i 12), .bl (dueF i 13), .bl (dueF i 14), .bl (dueF i 15), .bl (dueF i 16), .bl (dueF i 17), .bl (dueF i 18), .bl (dueF i 19), .bl (dueF i 20), .bl (dueF i 21), .bl (dueF i 22), .bl (dueF i 23), .bl (dueF i 24), .bl (dueF i 25), .bl (dueF i 26), .bl (dueF i 27), .bl (dueF i 28), .bl (dueF i 29)]) nc9
  have S19 := S18.trans t18
  exact q c9 _ S19 upd_same
end
end Bh

set_option Elab.async false
set_option linter.all false
set_option maxRecDepth 100000
set_option maxHeartbeats 4000000
namespace Bh
open PySem PySem.Spec PyProof.Rows L2
theorem iteB {b : Bool} {A B : Prop} (h1 : b = true → A) (h2 : b = false → B) : if b = true then A else B := by
  cases b
  · exact h2 rfl
  · exact h1 rfl
section
variable {P : Program} {w : World} {K : PySem.W.Frag} {mg : Str → Option Value} {base : Heap}
def spGiv (K : PySem.W.Frag) (rows : List RowT) : Sp := fun vs H Q _ => ∃ (u : V) (d : PyData) (r : RowT), vs = [u] ∧ r ∈ rows ∧ ErrX K H d r u ∧ ∀ v H', Same H H' → (r.2.2 = none → v = .non) → (r.2.2 ≠ none → Dp K H' v d) → Q v H'
theorem ok_given (T : Top K mg) : FnOk P w K mg base CX0 1 T.a_l_given T.fd_l_given ["_law_e"] (spGiv K T.rows) := by
  refine T.d_l_given.F.ok sc_l_given (fun vs H Q E h => ?_) (fun cdv A outer s H vs Q E hr h => ?_)
  · obtain ⟨u, d, r, rfl, _⟩ := h
    rfl
  obtain ⟨u, d, r, rfl, h, he, q⟩ := h
  refine ⟨_, (pss_cons (ps_if (pt_cmpR (op_in_seq_K (K := K) (by rfl)) (pe_xo (pv 0)) (pe_tup (pa_cons pe_str (pa_cons pe_str (pa_cons pe_str pa_nil)))) (by rfl)) (pss_one (ps_ret (pe_xo (pv 0)))) pss_nil)
    (pss_cons (ps_if (pt_cmpR (op_in_seq_K (K := K) (by rfl)) (pe_xo (pv 0)) (pe_tup (pa_cons pe_str (pa_cons pe_str (pa_cons pe_str pa_nil)))) (by rfl)) (pss_one (ps_ret (pe_xo (pv 0)))) pss_nil)
    (pss_cons (ps_if (pt_cmpR (op_in_seq_K (K := K) (by rfl)) (pe_xo (pv 0)) (pe_tup (pa_cons pe_str (pa_cons pe_str (pa_cons pe_str (pa_cons pe_str (pa_cons pe_str pa_nil)))))) (by rfl)) (pss_one (ps_ret (pe_xo (pv 0)))) pss_nil)
    (pss_cons (ps_if (pt_cmpR (op_in_seq_K (K := K) (by rfl)) (pe_xo (pv 0)) (pe_tup (pa_cons pe_str (pa_cons pe_str pa_nil))) (by rfl)) (pss_one (ps_ret (pe_xo (pv 0)))) pss_nil)
    (pss_cons (ps_if (pt_cmpR (op_in_seq_K (K := K) (by rfl)) (pe_xo (pv 0)) (pe_tup (pa_cons pe_str (pa_cons pe_str pa_nil))) (by rfl)) (pss_one (ps_ret (pe_xo (pv 0)))) pss_nil)
    (pss_cons (ps_if (pt_cmpR op_eq (pe_xo (pv 0)) pe_str (nomark _)) (pss_one (ps_ret (pe_xo (pv 0)))) pss_nil)
    (pss_cons (ps_if (pt_cmpR op_eq (pe_xo (pv 0)) pe_str (nomark _)) (pss_one (ps_ret (pe_xo (pv 0)))) pss_nil)
    (pss_one (ps_ret (pe_ifExp (pt_cmpR (op_in_seq_K (K := K) (by rfl)) (pe_xo (pv 0)) (pe_tup (pa_cons pe_str (pa_cons pe_str (pa_cons pe_str pa_nil)))) (by rfl)) pe_non (pe_xo (pv 0)))))))))))), ?_⟩
  unfold Top.rows at h
  rcases List.mem_cons.mp h with rfl | h
  · obtain ⟨a, dx, v, rfl, ea, ed, hv⟩ := he
    refine ⟨_, rfl, a, T.r_InvalidField.c, dx, _, _, rfl, (Same.refl H) _ _ ea, T.r_InvalidField.x, T.r_InvalidField.n _ (by decide), (Same.refl H) _ _ ed, rfl, (by show 3 ≤ sizeLine; decide), fun t0 n0 => ?_⟩
    refine ⟨t0, _, rfl, .inr (SqT.of upd_same), rfl, rfl, _, rfl, iteB (fun _ => ?_) (fun z => absurd z (by decide +kernel))⟩
    have s0 := (Same.refl H).trans (same_new (o := .tup [.str "InvalidField", .str "InvalidTie", .str "InvalidKind"]) n0)
    exact ⟨_, rfl, a, T.r_InvalidField.c, dx, _, _, rfl, s0 _ _ ea, T.r_InvalidField.x, T.r_InvalidField.n _ (by decide), s0 _ _ ed, rfl, q _ _ s0 (fun z => nomatch z) fun _ => Dp.mono s0 hv⟩
  rcases List.mem_cons.mp h with rfl | h
  · obtain ⟨a, dx, v, rfl, ea, ed, hv⟩ := he
    refine ⟨_, rfl, a, T.r_InvalidTie.c, dx, _, _, rfl, (Same.refl H) _ _ ea, T.r_InvalidTie.x, T.r_InvalidTie.n _ (by decide), (Same.refl H) _ _ ed, rfl, (by show 3 ≤ sizeLine; decide), fun t0 n0 => ?_⟩
    refine ⟨t0, _, rfl, .inr (SqT.of upd_same), rfl, rfl, _, rfl, iteB (fun _ => ?_) (fun z => absurd z (by decide +kernel))⟩
    have s0 := (Same.refl H).trans (same_new (o := .tup [.str "InvalidField", .str "InvalidTie", .str "InvalidKind"]) n0)
    exact ⟨_, rfl, a, T.r_InvalidTie.c, dx, _, _, rfl, s0 _ _ ea, T.r_InvalidTie.x, T.r_InvalidTie.n _ (by decide), s0 _ _ ed, rfl, q _ _ s0 (fun z => nomatch z) fun _ => Dp.mono s0 hv⟩
  rcases List.mem_cons.mp h with rfl | h
  · obtain ⟨a, dx, v, rfl, ea, ed, hv⟩ := he
    refine ⟨_, rfl, a, T.r_InvalidKind.c, dx, _, _, rfl, (Same.refl H) _ _ ea, T.r_InvalidKind.x, T.r_InvalidKind.n _ (by decide), (Same.refl H) _ _ ed, rfl, (by show 3 ≤ sizeLine; decide), fun t0 n0 => ?_⟩
    refine ⟨t0, _, rfl, .inr (SqT.of upd_same), rfl, rfl, _, rfl, iteB (fun _ => ?_) (fun z => absurd z (by decide +kernel))⟩
    have s0 := (Same.refl H).trans (same_new (o := .tup [.str "InvalidField", .str "InvalidTie", .str "InvalidKind"]) n0)
    exact ⟨_, rfl, a, T.r_InvalidKind.c, dx, _, _, rfl, s0 _ _ ea, T.r_InvalidKind.x, T.r_InvalidKind.n _ (by decide), s0 _ _ ed, rfl, q _ _ s0 (fun z => nomatch z) fun _ => Dp.mono s0 hv⟩
  rcases List.mem_cons.mp h with rfl | h
  · obtain ⟨a, dx, v, rfl, ea, ed, hv⟩ := he
    refine ⟨_, rfl, a, T.r_InvalidHolding.c, dx, _, _, rfl, (Same.refl H) _ _ ea, T.r_InvalidHolding.x, T.r_InvalidHolding.n _ (by decide), (Same.refl H) _ _ ed, rfl, (by show 3 ≤ sizeLine; decide), fun t0 n0 => ?_⟩
    refine ⟨t0, _, rfl, .inr (SqT.of upd_same), rfl, rfl, _, rfl, iteB (fun z => absurd z (by decide +kernel)) (fun _ => ?_)⟩
    have s0 := (Same.refl H).trans (same_new (o := .tup [.str "InvalidField", .str "InvalidTie", .str "InvalidKind"]) n0)
    refine ⟨_, rfl, a, T.r_InvalidHolding.c, dx, _, _, rfl, s0 _ _ ea, T.r_InvalidHolding.x, T.r_InvalidHolding.n _ (by decide), s0 _ _ ed, rfl, (by show 3 ≤ sizeLine; decide), fun t1 n1 => ?_⟩
    refine ⟨t1, _, rfl, .inr (SqT.of upd_same), rfl, rfl, _, rfl, iteB (fun z => absurd z (by decide +kernel)) (fun _ => ?_)⟩
    have s1 := s0.trans (same_new (o := .tup [.str "InvalidRulebook", .str "InvalidNetwork", .str "InvalidPage"]) n1)
    refine ⟨_, rfl, a, T.r_InvalidHolding.c, dx, _, _, rfl, s1 _ _ ea, T.r_InvalidHolding.x, T.r_InvalidHolding.n _ (by decide), s1 _ _ ed, rfl, (by show 5 ≤ sizeLine; decide), fun t2 n2 => ?_⟩
    refine ⟨t2, _, rfl, .inr (SqT.of upd_same), rfl, rfl, _, rfl, iteB (fun _ => ?_) (fun z => absurd z (by decide +kernel))⟩
    have s2 := s1.trans (same_new (o := .tup [.str "InvalidHolding", .str "InvalidName", .str "InvalidCount", .str "InvalidLimit", .str "UnknownMoment"]) n2)
    exact ⟨_, rfl, a, T.r_InvalidHolding.c, dx, _, _, rfl, s2 _ _ ea, T.r_InvalidHolding.x, T.r_InvalidHolding.n _ (by decide), s2 _ _ ed, rfl, q _ _ s2 (fun z => nomatch z) fun _ => Dp.mono s2 hv⟩
  rcases List.mem_cons.mp h with rfl | h
  · obtain ⟨a, dx, v, rfl, ea, ed, hv⟩ := he
    refine ⟨_, rfl, a, T.r_InvalidRulebook.c, dx, _, _, rfl, (Same.refl H) _ _ ea, T.r_InvalidRulebook.x, T.r_InvalidRulebook.n _ (by decide), (Same.refl H) _ _ ed, rfl, (by show 3 ≤ sizeLine; decide), fun t0 n0 => ?_⟩
    refine ⟨t0, _, rfl, .inr (SqT.of upd_same), rfl, rfl, _, rfl, iteB (fun z => absurd z (by decide +kernel)) (fun _ => ?_)⟩
    have s0 := (Same.refl H).trans (same_new (o := .tup [.str "InvalidField", .str "InvalidTie", .str "InvalidKind"]) n0)
    refine ⟨_, rfl, a, T.r_InvalidRulebook.c, dx, _, _, rfl, s0 _ _ ea, T.r_InvalidRulebook.x, T.r_InvalidRulebook.n _ (by decide), s0 _ _ ed, rfl, (by show 3 ≤ sizeLine; decide), fun t1 n1 => ?_⟩
    refine ⟨t1, _, rfl, .inr (SqT.of upd_same), rfl, rfl, _, rfl, iteB (fun _ => ?_) (fun z => absurd z (by decide +kernel))⟩
    have s1 := s0.trans (same_new (o := .tup [.str "InvalidRulebook", .str "InvalidNetwork", .str "InvalidPage"]) n1)
    exact ⟨_, rfl, a, T.r_InvalidRulebook.c, dx, _, _, rfl, s1 _ _ ea, T.r_InvalidRulebook.x, T.r_InvalidRulebook.n _ (by decide), s1 _ _ ed, rfl, q _ _ s1 (fun z => nomatch z) fun _ => Dp.mono s1 hv⟩
  rcases List.mem_cons.mp h with rfl | h
  · obtain ⟨a, dx, v, rfl, ea, ed, hv⟩ := he
    refine ⟨_, rfl, a, T.r_InvalidName.c, dx, _, _, rfl, (Same.refl H) _ _ ea, T.r_InvalidName.x, T.r_InvalidName.n _ (by decide), (Same.refl H) _ _ ed, rfl, (by show 3 ≤ sizeLine; decide), fun t0 n0 => ?_⟩
    refine ⟨t0, _, rfl, .inr (SqT.of upd_same), rfl, rfl, _, rfl, iteB (fun z => absurd z (by decide +kernel)) (fun _ => ?_)⟩
    have s0 := (Same.refl H).trans (same_new (o := .tup [.str "InvalidField", .str "InvalidTie", .str "InvalidKind"]) n0)
    refine ⟨_, rfl, a, T.r_InvalidName.c, dx, _, _, rfl, s0 _ _ ea, T.r_InvalidName.x, T.r_InvalidName.n _ (by decide), s0 _ _ ed, rfl, (by show 3 ≤ sizeLine; decide), fun t1 n1 => ?_⟩
    refine ⟨t1, _, rfl, .inr (SqT.of upd_same), rfl, rfl, _, rfl, iteB (fun z => absurd z (by decide +kernel)) (fun _ => ?_)⟩
    have s1 := s0.trans (same_new (o := .tup [.str "InvalidRulebook", .str "InvalidNetwork", .str "InvalidPage"]) n1)
    refine ⟨_, rfl, a, T.r_InvalidName.c, dx, _, _, rfl, s1 _ _ ea, T.r_InvalidName.x, T.r_InvalidName.n _ (by decide), s1 _ _ ed, rfl, (by show 5 ≤ sizeLine; decide), fun t2 n2 => ?_⟩
    refine ⟨t2, _, rfl, .inr (SqT.of upd_same), rfl, rfl, _, rfl, iteB (fun _ => ?_) (fun z => absurd z (by decide +kernel))⟩
    have s2 := s1.trans (same_new (o := .tup [.str "InvalidHolding", .str "InvalidName", .str "InvalidCount", .str "InvalidLimit", .str "UnknownMoment"]) n2)
    exact ⟨_, rfl, a, T.r_InvalidName.c, dx, _, _, rfl, s2 _ _ ea, T.r_InvalidName.x, T.r_InvalidName.n _ (by decide), s2 _ _ ed, rfl, q _ _ s2 (fun z => nomatch z) fun _ => Dp.mono s2 hv⟩
  rcases List.mem_cons.mp h with rfl | h
  · obtain ⟨a, dx, v, rfl, ea, ed, hv⟩ := he
    refine ⟨_, rfl, a, T.r_InvalidNetwork.c, dx, _, _, rfl, (Same.refl H) _ _ ea, T.r_InvalidNetwork.x, T.r_InvalidNetwork.n _ (by decide), (Same.refl H) _ _ ed, rfl, (by show 3 ≤ sizeLine; decide), fun t0 n0 => ?_⟩
    refine ⟨t0, _, rfl, .inr (SqT.of upd_same), rfl, rfl, _, rfl, iteB (fun z => absurd z (by decide +kernel)) (fun _ => ?_)⟩
    have s0 := (Same.refl H).trans (same_new (o := .tup [.str "InvalidField", .str "InvalidTie", .str "InvalidKind"]) n0)
    refine ⟨_, rfl, a, T.r_InvalidNetwork.c, dx, _, _, rfl, s0 _ _ ea, T.r_InvalidNetwork.x, T.r_InvalidNetwork.n _ (by decide), s0 _ _ ed, rfl, (by show 3 ≤ sizeLine; decide), fun t1 n1 => ?_⟩
    refine ⟨t1, _, rfl, .inr (SqT.of upd_same), rfl, rfl, _, rfl, iteB (fun _ => ?_) (fun z => absurd z (by decide +kernel))⟩
    have s1 := s0.trans (same_new (o := .tup [.str "InvalidRulebook", .str "InvalidNetwork", .str "InvalidPage"]) n1)
    exact ⟨_, rfl, a, T.r_InvalidNetwork.c, dx, _, _, rfl, s1 _ _ ea, T.r_InvalidNetwork.x, T.r_InvalidNetwork.n _ (by decide), s1 _ _ ed, rfl, q _ _ s1 (fun z => nomatch z) fun _ => Dp.mono s1 hv⟩
  rcases List.mem_cons.mp h with rfl | h
  · obtain ⟨a, dx, v, rfl, ea, ed, hv⟩ := he
    refine ⟨_, rfl, a, T.r_InvalidState.c, dx, _, _, rfl, (Same.refl H) _ _ ea, T.r_InvalidState.x, T.r_InvalidState.n _ (by decide), (Same.refl H) _ _ ed, rfl, (by show 3 ≤ sizeLine; decide), fun t0 n0 => ?_⟩
    refine ⟨t0, _, rfl, .inr (SqT.of upd_same), rfl, rfl, _, rfl, iteB (fun z => absurd z (by decide +kernel)) (fun _ => ?_)⟩
    have s0 := (Same.refl H).trans (same_new (o := .tup [.str "InvalidField", .str "InvalidTie", .str "InvalidKind"]) n0)
    refine ⟨_, rfl, a, T.r_InvalidState.c, dx, _, _, rfl, s0 _ _ ea, T.r_InvalidState.x, T.r_InvalidState.n _ (by decide), s0 _ _ ed, rfl, (by show 3 ≤ sizeLine; decide), fun t1 n1 => ?_⟩
    refine ⟨t1, _, rfl, .inr (SqT.of upd_same), rfl, rfl, _, rfl, iteB (fun z => absurd z (by decide +kernel)) (fun _ => ?_)⟩
    have s1 := s0.trans (same_new (o := .tup [.str "InvalidRulebook", .str "InvalidNetwork", .str "InvalidPage"]) n1)
    refine ⟨_, rfl, a, T.r_InvalidState.c, dx, _, _, rfl, s1 _ _ ea, T.r_InvalidState.x, T.r_InvalidState.n _ (by decide), s1 _ _ ed, rfl, (by show 5 ≤ sizeLine; decide), fun t2 n2 => ?_⟩
    refine ⟨t2, _, rfl, .inr (SqT.of upd_same), rfl, rfl, _, rfl, iteB (fun z => absurd z (by decide +kernel)) (fun _ => ?_)⟩
    have s2 := s1.trans (same_new (o := .tup [.str "InvalidHolding", .str "InvalidName", .str "InvalidCount", .str "InvalidLimit", .str "UnknownMoment"]) n2)
    refine ⟨_, rfl, a, T.r_InvalidState.c, dx, _, _, rfl, s2 _ _ ea, T.r_InvalidState.x, T.r_InvalidState.n _ (by decide), s2 _ _ ed, rfl, (by show 2 ≤ sizeLine; decide), fun t3 n3 => ?_⟩
    refine ⟨t3, _, rfl, .inr (SqT.of upd_same), rfl, rfl, _, rfl, iteB (fun _ => ?_) (fun z => absurd z (by decide +kernel))⟩
    have s3 := s2.trans (same_new (o := .tup [.str "InvalidState", .str "InvalidLook"]) n3)
    exact ⟨_, rfl, a, T.r_InvalidState.c, dx, _, _, rfl, s3 _ _ ea, T.r_InvalidState.x, T.r_InvalidState.n _ (by decide), s3 _ _ ed, rfl, q _ _ s3 (fun z => nomatch z) fun _ => Dp.mono s3 hv⟩
  rcases List.mem_cons.mp h with rfl | h
  · obtain ⟨a, dx, v, rfl, ea, ed, hv⟩ := he
    refine ⟨_, rfl, a, T.r_InvalidLook.c, dx, _, _, rfl, (Same.refl H) _ _ ea, T.r_InvalidLook.x, T.r_InvalidLook.n _ (by decide), (Same.refl H) _ _ ed, rfl, (by show 3 ≤ sizeLine; decide), fun t0 n0 => ?_⟩
    refine ⟨t0, _, rfl, .inr (SqT.of upd_same), rfl, rfl, _, rfl, iteB (fun z => absurd z (by decide +kernel)) (fun _ => ?_)⟩
    have s0 := (Same.refl H).trans (same_new (o := .tup [.str "InvalidField", .str "InvalidTie", .str "InvalidKind"]) n0)
    refine ⟨_, rfl, a, T.r_InvalidLook.c, dx, _, _, rfl, s0 _ _ ea, T.r_InvalidLook.x, T.r_InvalidLook.n _ (by decide), s0 _ _ ed, rfl, (by show 3 ≤ sizeLine; decide), fun t1 n1 => ?_⟩
    refine ⟨t1, _, rfl, .inr (SqT.of upd_same), rfl, rfl, _, rfl, iteB (fun z => absurd z (by decide +kernel)) (fun _ => ?_)⟩
    have s1 := s0.trans (same_new (o := .tup [.str "InvalidRulebook", .str "InvalidNetwork", .str "InvalidPage"]) n1)
    refine ⟨_, rfl, a, T.r_InvalidLook.c, dx, _, _, rfl, s1 _ _ ea, T.r_InvalidLook.x, T.r_InvalidLook.n _ (by decide), s1 _ _ ed, rfl, (by show 5 ≤ sizeLine; decide), fun t2 n2 => ?_⟩
    refine ⟨t2, _, rfl, .inr (SqT.of upd_same), rfl, rfl, _, rfl, iteB (fun z => absurd z (by decide +kernel)) (fun _ => ?_)⟩
    have s2 := s1.trans (same_new (o := .tup [.str "InvalidHolding", .str "InvalidName", .str "InvalidCount", .str "InvalidLimit", .str "UnknownMoment"]) n2)
    refine ⟨_, rfl, a, T.r_InvalidLook.c, dx, _, _, rfl, s2 _ _ ea, T.r_InvalidLook.x, T.r_InvalidLook.n _ (by decide), s2 _ _ ed, rfl, (by show 2 ≤ sizeLine; decide), fun t3 n3 => ?_⟩
    refine ⟨t3, _, rfl, .inr (SqT.of upd_same), rfl, rfl, _, rfl, iteB (fun _ => ?_) (fun z => absurd z (by decide +kernel))⟩
    have s3 := s2.trans (same_new (o := .tup [.str "InvalidState", .str "InvalidLook"]) n3)
    exact ⟨_, rfl, a, T.r_InvalidLook.c, dx, _, _, rfl, s3 _ _ ea, T.r_InvalidLook.x, T.r_InvalidLook.n _ (by decide), s3 _ _ ed, rfl, q _ _ s3 (fun z => nomatch z) fun _ => Dp.mono s3 hv⟩
  rcases List.mem_cons.mp h with rfl | h
  · obtain ⟨a, dx, v, rfl, ea, ed, hv⟩ := he
    refine ⟨_, rfl, a, T.r_InvalidCount.c, dx, _, _, rfl, (Same.refl H) _ _ ea, T.r_InvalidCount.x, T.r_InvalidCount.n _ (by decide), (Same.refl H) _ _ ed, rfl, (by show 3 ≤ sizeLine; decide), fun t0 n0 => ?_⟩
    refine ⟨t0, _, rfl, .inr (SqT.of upd_same), rfl, rfl, _, rfl, iteB (fun z => absurd z (by decide +kernel)) (fun _ => ?_)⟩
    have s0 := (Same.refl H).trans (same_new (o := .tup [.str "InvalidField", .str "InvalidTie", .str "InvalidKind"]) n0)
    refine ⟨_, rfl, a, T.r_InvalidCount.c, dx, _, _, rfl, s0 _ _ ea, T.r_InvalidCount.x, T.r_InvalidCount.n _ (by decide), s0 _ _ ed, rfl, (by show 3 ≤ sizeLine; decide), fun t1 n1 => ?_⟩
    refine ⟨t1, _, rfl, .inr (SqT.of upd_same), rfl, rfl, _, rfl, iteB (fun z => absurd z (by decide +kernel)) (fun _ => ?_)⟩
    have s1 := s0.trans (same_new (o := .tup [.str "InvalidRulebook", .str "InvalidNetwork", .str "InvalidPage"]) n1)
    refine ⟨_, rfl, a, T.r_InvalidCount.c, dx, _, _, rfl, s1 _ _ ea, T.r_InvalidCount.x, T.r_InvalidCount.n _ (by decide), s1 _ _ ed, rfl, (by show 5 ≤ sizeLine; decide), fun t2 n2 => ?_⟩
    refine ⟨t2, _, rfl, .inr (SqT.of upd_same), rfl, rfl, _, rfl, iteB (fun _ => ?_) (fun z => absurd z (by decide +kernel))⟩
    have s2 := s1.trans (same_new (o := .tup [.str "InvalidHolding", .str "InvalidName", .str "InvalidCount", .str "InvalidLimit", .str "UnknownMoment"]) n2)
    exact ⟨_, rfl, a, T.r_InvalidCount.c, dx, _, _, rfl, s2 _ _ ea, T.r_InvalidCount.x, T.r_InvalidCount.n _ (by decide), s2 _ _ ed, rfl, q _ _ s2 (fun z => nomatch z) fun _ => Dp.mono s2 hv⟩
  rcases List.mem_cons.mp h with rfl | h
  · obtain ⟨a, dx, v, rfl, ea, ed, hv⟩ := he
    refine ⟨_, rfl, a, T.r_InvalidCommand.c, dx, _, _, rfl, (Same.refl H) _ _ ea, T.r_InvalidCommand.x, T.r_InvalidCommand.n _ (by decide), (Same.refl H) _ _ ed, rfl, (by show 3 ≤ sizeLine; decide), fun t0 n0 => ?_⟩
    refine ⟨t0, _, rfl, .inr (SqT.of upd_same), rfl, rfl, _, rfl, iteB (fun z => absurd z (by decide +kernel)) (fun _ => ?_)⟩
    have s0 := (Same.refl H).trans (same_new (o := .tup [.str "InvalidField", .str "InvalidTie", .str "InvalidKind"]) n0)
    refine ⟨_, rfl, a, T.r_InvalidCommand.c, dx, _, _, rfl, s0 _ _ ea, T.r_InvalidCommand.x, T.r_InvalidCommand.n _ (by decide), s0 _ _ ed, rfl, (by show 3 ≤ sizeLine; decide), fun t1 n1 => ?_⟩
    refine ⟨t1, _, rfl, .inr (SqT.of upd_same), rfl, rfl, _, rfl, iteB (fun z => absurd z (by decide +kernel)) (fun _ => ?_)⟩
    have s1 := s0.trans (same_new (o := .tup [.str "InvalidRulebook", .str "InvalidNetwork", .str "InvalidPage"]) n1)
    refine ⟨_, rfl, a, T.r_InvalidCommand.c, dx, _, _, rfl, s1 _ _ ea, T.r_InvalidCommand.x, T.r_InvalidCommand.n _ (by decide), s1 _ _ ed, rfl, (by show 5 ≤ sizeLine; decide), fun t2 n2 => ?_⟩
    refine ⟨t2, _, rfl, .inr (SqT.of upd_same), rfl, rfl, _, rfl, iteB (fun z => absurd z (by decide +kernel)) (fun _ => ?_)⟩
    have s2 := s1.trans (same_new (o := .tup [.str "InvalidHolding", .str "InvalidName", .str "InvalidCount", .str "InvalidLimit", .str "UnknownMoment"]) n2)
    refine ⟨_, rfl, a, T.r_InvalidCommand.c, dx, _, _, rfl, s2 _ _ ea, T.r_InvalidCommand.x, T.r_InvalidCommand.n _ (by decide), s2 _ _ ed, rfl, (by show 2 ≤ sizeLine; decide), fun t3 n3 => ?_⟩
    refine ⟨t3, _, rfl, .inr (SqT.of upd_same), rfl, rfl, _, rfl, iteB (fun z => absurd z (by decide +kernel)) (fun _ => ?_)⟩
    have s3 := s2.trans (same_new (o := .tup [.str "InvalidState", .str "InvalidLook"]) n3)
    refine ⟨_, rfl, a, T.r_InvalidCommand.c, dx, _, _, rfl, s3 _ _ ea, T.r_InvalidCommand.x, T.r_InvalidCommand.n _ (by decide), s3 _ _ ed, rfl, (by show 2 ≤ sizeLine; decide), fun t4 n4 => ?_⟩
    refine ⟨t4, _, rfl, .inr (SqT.of upd_same), rfl, rfl, _, rfl, iteB (fun z => absurd z (by decide +kernel)) (fun _ => ?_)⟩
    have s4 := s3.trans (same_new (o := .tup [.str "DuplicateTie", .str "MissingTie"]) n4)
    refine ⟨_, rfl, a, T.r_InvalidCommand.c, dx, _, _, rfl, s4 _ _ ea, T.r_InvalidCommand.x, T.r_InvalidCommand.n _ (by decide), s4 _ _ ed, rfl, rfl, _, rfl, iteB (fun _ => ?_) (fun z => absurd z (by decide +kernel))⟩
    exact ⟨_, rfl, a, T.r_InvalidCommand.c, dx, _, _, rfl, s4 _ _ ea, T.r_InvalidCommand.x, T.r_InvalidCommand.n _ (by decide), s4 _ _ ed, rfl, q _ _ s4 (fun z => nomatch z) fun _ => Dp.mono s4 hv⟩
  rcases List.mem_cons.mp h with rfl | h
  · obtain ⟨a, dx, v, rfl, ea, ed, hv⟩ := he
    refine ⟨_, rfl, a, T.r_InvalidLimit.c, dx, _, _, rfl, (Same.refl H) _ _ ea, T.r_InvalidLimit.x, T.r_InvalidLimit.n _ (by decide), (Same.refl H) _ _ ed, rfl, (by show 3 ≤ sizeLine; decide), fun t0 n0 => ?_⟩
    refine ⟨t0, _, rfl, .inr (SqT.of upd_same), rfl, rfl, _, rfl, iteB (fun z => absurd z (by decide +kernel)) (fun _ => ?_)⟩
    have s0 := (Same.refl H).trans (same_new (o := .tup [.str "InvalidField", .str "InvalidTie", .str "InvalidKind"]) n0)
    refine ⟨_, rfl, a, T.r_InvalidLimit.c, dx, _, _, rfl, s0 _ _ ea, T.r_InvalidLimit.x, T.r_InvalidLimit.n _ (by decide), s0 _ _ ed, rfl, (by show 3 ≤ sizeLine; decide), fun t1 n1 => ?_⟩
    refine ⟨t1, _, rfl, .inr (SqT.of upd_same), rfl, rfl, _, rfl, iteB (fun z => absurd z (by decide +kernel)) (fun _ => ?_)⟩
    have s1 := s0.trans (same_new (o := .tup [.str "InvalidRulebook", .str "InvalidNetwork", .str "InvalidPage"]) n1)
    refine ⟨_, rfl, a, T.r_InvalidLimit.c, dx, _, _, rfl, s1 _ _ ea, T.r_InvalidLimit.x, T.r_InvalidLimit.n _ (by decide), s1 _ _ ed, rfl, (by show 5 ≤ sizeLine; decide), fun t2 n2 => ?_⟩
    refine ⟨t2, _, rfl, .inr (SqT.of upd_same), rfl, rfl, _, rfl, iteB (fun _ => ?_) (fun z => absurd z (by decide +kernel))⟩
    have s2 := s1.trans (same_new (o := .tup [.str "InvalidHolding", .str "InvalidName", .str "InvalidCount", .str "InvalidLimit", .str "UnknownMoment"]) n2)
    exact ⟨_, rfl, a, T.r_InvalidLimit.c, dx, _, _, rfl, s2 _ _ ea, T.r_InvalidLimit.x, T.r_InvalidLimit.n _ (by decide), s2 _ _ ed, rfl, q _ _ s2 (fun z => nomatch z) fun _ => Dp.mono s2 hv⟩
  rcases List.mem_cons.mp h with rfl | h
  · obtain ⟨a, dx, v, rfl, ea, ed, hv⟩ := he
    refine ⟨_, rfl, a, T.r_InvalidPage.c, dx, _, _, rfl, (Same.refl H) _ _ ea, T.r_InvalidPage.x, T.r_InvalidPage.n _ (by decide), (Same.refl H) _ _ ed, rfl, (by show 3 ≤ sizeLine; decide), fun t0 n0 => ?_⟩
    refine ⟨t0, _, rfl, .inr (SqT.of upd_same), rfl, rfl, _, rfl, iteB (fun z => absurd z (by decide +kernel)) (fun _ => ?_)⟩
    have s0 := (Same.refl H).trans (same_new (o := .tup [.str "InvalidField", .str "InvalidTie", .str "InvalidKind"]) n0)
    refine ⟨_, rfl, a, T.r_InvalidPage.c, dx, _, _, rfl, s0 _ _ ea, T.r_InvalidPage.x, T.r_InvalidPage.n _ (by decide), s0 _ _ ed, rfl, (by show 3 ≤ sizeLine; decide), fun t1 n1 => ?_⟩
    refine ⟨t1, _, rfl, .inr (SqT.of upd_same), rfl, rfl, _, rfl, iteB (fun _ => ?_) (fun z => absurd z (by decide +kernel))⟩
    have s1 := s0.trans (same_new (o := .tup [.str "InvalidRulebook", .str "InvalidNetwork", .str "InvalidPage"]) n1)
    exact ⟨_, rfl, a, T.r_InvalidPage.c, dx, _, _, rfl, s1 _ _ ea, T.r_InvalidPage.x, T.r_InvalidPage.n _ (by decide), s1 _ _ ed, rfl, q _ _ s1 (fun z => nomatch z) fun _ => Dp.mono s1 hv⟩
  rcases List.mem_cons.mp h with rfl | h
  · obtain ⟨a, dx, v, rfl, ea, ed, hv⟩ := he
    refine ⟨_, rfl, a, T.r_DuplicateCell.c, dx, _, _, rfl, (Same.refl H) _ _ ea, T.r_DuplicateCell.x, T.r_DuplicateCell.n _ (by decide), (Same.refl H) _ _ ed, rfl, (by show 3 ≤ sizeLine; decide), fun t0 n0 => ?_⟩
    refine ⟨t0, _, rfl, .inr (SqT.of upd_same), rfl, rfl, _, rfl, iteB (fun z => absurd z (by decide +kernel)) (fun _ => ?_)⟩
    have s0 := (Same.refl H).trans (same_new (o := .tup [.str "InvalidField", .str "InvalidTie", .str "InvalidKind"]) n0)
    refine ⟨_, rfl, a, T.r_DuplicateCell.c, dx, _, _, rfl, s0 _ _ ea, T.r_DuplicateCell.x, T.r_DuplicateCell.n _ (by decide), s0 _ _ ed, rfl, (by show 3 ≤ sizeLine; decide), fun t1 n1 => ?_⟩
    refine ⟨t1, _, rfl, .inr (SqT.of upd_same), rfl, rfl, _, rfl, iteB (fun z => absurd z (by decide +kernel)) (fun _ => ?_)⟩
    have s1 := s0.trans (same_new (o := .tup [.str "InvalidRulebook", .str "InvalidNetwork", .str "InvalidPage"]) n1)
    refine ⟨_, rfl, a, T.r_DuplicateCell.c, dx, _, _, rfl, s1 _ _ ea, T.r_DuplicateCell.x, T.r_DuplicateCell.n _ (by decide), s1 _ _ ed, rfl, (by show 5 ≤ sizeLine; decide), fun t2 n2 => ?_⟩
    refine ⟨t2, _, rfl, .inr (SqT.of upd_same), rfl, rfl, _, rfl, iteB (fun z => absurd z (by decide +kernel)) (fun _ => ?_)⟩
    have s2 := s1.trans (same_new (o := .tup [.str "InvalidHolding", .str "InvalidName", .str "InvalidCount", .str "InvalidLimit", .str "UnknownMoment"]) n2)
    refine ⟨_, rfl, a, T.r_DuplicateCell.c, dx, _, _, rfl, s2 _ _ ea, T.r_DuplicateCell.x, T.r_DuplicateCell.n _ (by decide), s2 _ _ ed, rfl, (by show 2 ≤ sizeLine; decide), fun t3 n3 => ?_⟩
    refine ⟨t3, _, rfl, .inr (SqT.of upd_same), rfl, rfl, _, rfl, iteB (fun z => absurd z (by decide +kernel)) (fun _ => ?_)⟩
    have s3 := s2.trans (same_new (o := .tup [.str "InvalidState", .str "InvalidLook"]) n3)
    refine ⟨_, rfl, a, T.r_DuplicateCell.c, dx, _, _, rfl, s3 _ _ ea, T.r_DuplicateCell.x, T.r_DuplicateCell.n _ (by decide), s3 _ _ ed, rfl, (by show 2 ≤ sizeLine; decide), fun t4 n4 => ?_⟩
    refine ⟨t4, _, rfl, .inr (SqT.of upd_same), rfl, rfl, _, rfl, iteB (fun z => absurd z (by decide +kernel)) (fun _ => ?_)⟩
    have s4 := s3.trans (same_new (o := .tup [.str "DuplicateTie", .str "MissingTie"]) n4)
    refine ⟨_, rfl, a, T.r_DuplicateCell.c, dx, _, _, rfl, s4 _ _ ea, T.r_DuplicateCell.x, T.r_DuplicateCell.n _ (by decide), s4 _ _ ed, rfl, rfl, _, rfl, iteB (fun z => absurd z (by decide +kernel)) (fun _ => ?_)⟩
    refine ⟨_, rfl, a, T.r_DuplicateCell.c, dx, _, _, rfl, s4 _ _ ea, T.r_DuplicateCell.x, T.r_DuplicateCell.n _ (by decide), s4 _ _ ed, rfl, rfl, _, rfl, iteB (fun z => absurd z (by decide +kernel)) (fun _ => ?_)⟩
    refine ⟨_, rfl, a, T.r_DuplicateCell.c, dx, _, _, rfl, s4 _ _ ea, T.r_DuplicateCell.x, T.r_DuplicateCell.n _ (by decide), s4 _ _ ed, rfl, (by show 3 ≤ sizeLine; decide), fun t7 n7 => ?_⟩
    refine ⟨t7, _, rfl, .inr (SqT.of upd_same), rfl, rfl, _, rfl, iteB (fun z => absurd z (by decide +kernel)) (fun _ => ?_)⟩
    have s7 := s4.trans (same_new (o := .tup [.str "BooksDiffer", .str "Unsettled", .str "EmptyHistory"]) n7)
    exact ⟨_, rfl, a, T.r_DuplicateCell.c, dx, _, _, rfl, s7 _ _ ea, T.r_DuplicateCell.x, T.r_DuplicateCell.n _ (by decide), s7 _ _ ed, rfl, q _ _ s7 (fun z => nomatch z) fun _ => Dp.mono s7 hv⟩
  rcases List.mem_cons.mp h with rfl | h
  · obtain ⟨a, dx, v, rfl, ea, ed, hv⟩ := he
    refine ⟨_, rfl, a, T.r_DuplicateTie.c, dx, _, _, rfl, (Same.refl H) _ _ ea, T.r_DuplicateTie.x, T.r_DuplicateTie.n _ (by decide), (Same.refl H) _ _ ed, rfl, (by show 3 ≤ sizeLine; decide), fun t0 n0 => ?_⟩
    refine ⟨t0, _, rfl, .inr (SqT.of upd_same), rfl, rfl, _, rfl, iteB (fun z => absurd z (by decide +kernel)) (fun _ => ?_)⟩
    have s0 := (Same.refl H).trans (same_new (o := .tup [.str "InvalidField", .str "InvalidTie", .str "InvalidKind"]) n0)
    refine ⟨_, rfl, a, T.r_DuplicateTie.c, dx, _, _, rfl, s0 _ _ ea, T.r_DuplicateTie.x, T.r_DuplicateTie.n _ (by decide), s0 _ _ ed, rfl, (by show 3 ≤ sizeLine; decide), fun t1 n1 => ?_⟩
    refine ⟨t1, _, rfl, .inr (SqT.of upd_same), rfl, rfl, _, rfl, iteB (fun z => absurd z (by decide +kernel)) (fun _ => ?_)⟩
    have s1 := s0.trans (same_new (o := .tup [.str "InvalidRulebook", .str "InvalidNetwork", .str "InvalidPage"]) n1)
    refine ⟨_, rfl, a, T.r_DuplicateTie.c, dx, _, _, rfl, s1 _ _ ea, T.r_DuplicateTie.x, T.r_DuplicateTie.n _ (by decide), s1 _ _ ed, rfl, (by show 5 ≤ sizeLine; decide), fun t2 n2 => ?_⟩
    refine ⟨t2, _, rfl, .inr (SqT.of upd_same), rfl, rfl, _, rfl, iteB (fun z => absurd z (by decide +kernel)) (fun _ => ?_)⟩
    have s2 := s1.trans (same_new (o := .tup [.str "InvalidHolding", .str "InvalidName", .str "InvalidCount", .str "InvalidLimit", .str "UnknownMoment"]) n2)
    refine ⟨_, rfl, a, T.r_DuplicateTie.c, dx, _, _, rfl, s2 _ _ ea, T.r_DuplicateTie.x, T.r_DuplicateTie.n _ (by decide), s2 _ _ ed, rfl, (by show 2 ≤ sizeLine; decide), fun t3 n3 => ?_⟩
    refine ⟨t3, _, rfl, .inr (SqT.of upd_same), rfl, rfl, _, rfl, iteB (fun z => absurd z (by decide +kernel)) (fun _ => ?_)⟩
    have s3 := s2.trans (same_new (o := .tup [.str "InvalidState", .str "InvalidLook"]) n3)
    refine ⟨_, rfl, a, T.r_DuplicateTie.c, dx, _, _, rfl, s3 _ _ ea, T.r_DuplicateTie.x, T.r_DuplicateTie.n _ (by decide), s3 _ _ ed, rfl, (by show 2 ≤ sizeLine; decide), fun t4 n4 => ?_⟩
    refine ⟨t4, _, rfl, .inr (SqT.of upd_same), rfl, rfl, _, rfl, iteB (fun _ => ?_) (fun z => absurd z (by decide +kernel))⟩
    have s4 := s3.trans (same_new (o := .tup [.str "DuplicateTie", .str "MissingTie"]) n4)
    exact ⟨_, rfl, a, T.r_DuplicateTie.c, dx, _, _, rfl, s4 _ _ ea, T.r_DuplicateTie.x, T.r_DuplicateTie.n _ (by decide), s4 _ _ ed, rfl, q _ _ s4 (fun z => nomatch z) fun _ => Dp.mono s4 hv⟩
  rcases List.mem_cons.mp h with rfl | h
  · obtain ⟨a, dx, v, rfl, ea, ed, hv⟩ := he
    refine ⟨_, rfl, a, T.r_KindsDiffer.c, dx, _, _, rfl, (Same.refl H) _ _ ea, T.r_KindsDiffer.x, T.r_KindsDiffer.n _ (by decide), (Same.refl H) _ _ ed, rfl, (by show 3 ≤ sizeLine; decide), fun t0 n0 => ?_⟩
    refine ⟨t0, _, rfl, .inr (SqT.of upd_same), rfl, rfl, _, rfl, iteB (fun z => absurd z (by decide +kernel)) (fun _ => ?_)⟩
    have s0 := (Same.refl H).trans (same_new (o := .tup [.str "InvalidField", .str "InvalidTie", .str "InvalidKind"]) n0)
    refine ⟨_, rfl, a, T.r_KindsDiffer.c, dx, _, _, rfl, s0 _ _ ea, T.r_KindsDiffer.x, T.r_KindsDiffer.n _ (by decide), s0 _ _ ed, rfl, (by show 3 ≤ sizeLine; decide), fun t1 n1 => ?_⟩
    refine ⟨t1, _, rfl, .inr (SqT.of upd_same), rfl, rfl, _, rfl, iteB (fun z => absurd z (by decide +kernel)) (fun _ => ?_)⟩
    have s1 := s0.trans (same_new (o := .tup [.str "InvalidRulebook", .str "InvalidNetwork", .str "InvalidPage"]) n1)
    refine ⟨_, rfl, a, T.r_KindsDiffer.c, dx, _, _, rfl, s1 _ _ ea, T.r_KindsDiffer.x, T.r_KindsDiffer.n _ (by decide), s1 _ _ ed, rfl, (by show 5 ≤ sizeLine; decide), fun t2 n2 => ?_⟩
    refine ⟨t2, _, rfl, .inr (SqT.of upd_same), rfl, rfl, _, rfl, iteB (fun z => absurd z (by decide +kernel)) (fun _ => ?_)⟩
    have s2 := s1.trans (same_new (o := .tup [.str "InvalidHolding", .str "InvalidName", .str "InvalidCount", .str "InvalidLimit", .str "UnknownMoment"]) n2)
    refine ⟨_, rfl, a, T.r_KindsDiffer.c, dx, _, _, rfl, s2 _ _ ea, T.r_KindsDiffer.x, T.r_KindsDiffer.n _ (by decide), s2 _ _ ed, rfl, (by show 2 ≤ sizeLine; decide), fun t3 n3 => ?_⟩
    refine ⟨t3, _, rfl, .inr (SqT.of upd_same), rfl, rfl, _, rfl, iteB (fun z => absurd z (by decide +kernel)) (fun _ => ?_)⟩
    have s3 := s2.trans (same_new (o := .tup [.str "InvalidState", .str "InvalidLook"]) n3)
    refine ⟨_, rfl, a, T.r_KindsDiffer.c, dx, _, _, rfl, s3 _ _ ea, T.r_KindsDiffer.x, T.r_KindsDiffer.n _ (by decide), s3 _ _ ed, rfl, (by show 2 ≤ sizeLine; decide), fun t4 n4 => ?_⟩
    refine ⟨t4, _, rfl, .inr (SqT.of upd_same), rfl, rfl, _, rfl, iteB (fun z => absurd z (by decide +kernel)) (fun _ => ?_)⟩
    have s4 := s3.trans (same_new (o := .tup [.str "DuplicateTie", .str "MissingTie"]) n4)
    refine ⟨_, rfl, a, T.r_KindsDiffer.c, dx, _, _, rfl, s4 _ _ ea, T.r_KindsDiffer.x, T.r_KindsDiffer.n _ (by decide), s4 _ _ ed, rfl, rfl, _, rfl, iteB (fun z => absurd z (by decide +kernel)) (fun _ => ?_)⟩
    refine ⟨_, rfl, a, T.r_KindsDiffer.c, dx, _, _, rfl, s4 _ _ ea, T.r_KindsDiffer.x, T.r_KindsDiffer.n _ (by decide), s4 _ _ ed, rfl, rfl, _, rfl, iteB (fun z => absurd z (by decide +kernel)) (fun _ => ?_)⟩
    refine ⟨_, rfl, a, T.r_KindsDiffer.c, dx, _, _, rfl, s4 _ _ ea, T.r_KindsDiffer.x, T.r_KindsDiffer.n _ (by decide), s4 _ _ ed, rfl, (by show 3 ≤ sizeLine; decide), fun t7 n7 => ?_⟩
    refine ⟨t7, _, rfl, .inr (SqT.of upd_same), rfl, rfl, _, rfl, iteB (fun z => absurd z (by decide +kernel)) (fun _ => ?_)⟩
    have s7 := s4.trans (same_new (o := .tup [.str "BooksDiffer", .str "Unsettled", .str "EmptyHistory"]) n7)
    exact ⟨_, rfl, a, T.r_KindsDiffer.c, dx, _, _, rfl, s7 _ _ ea, T.r_KindsDiffer.x, T.r_KindsDiffer.n _ (by decide), s7 _ _ ed, rfl, q _ _ s7 (fun z => nomatch z) fun _ => Dp.mono s7 hv⟩
  rcases List.mem_cons.mp h with rfl | h
  · obtain ⟨a, dx, rfl, ea, ed⟩ := he
    refine ⟨_, rfl, a, T.r_BooksDiffer.c, dx, _, _, rfl, (Same.refl H) _ _ ea, T.r_BooksDiffer.x, T.r_BooksDiffer.n _ (by decide), (Same.refl H) _ _ ed, rfl, (by show 3 ≤ sizeLine; decide), fun t0 n0 => ?_⟩
    refine ⟨t0, _, rfl, .inr (SqT.of upd_same), rfl, rfl, _, rfl, iteB (fun z => absurd z (by decide +kernel)) (fun _ => ?_)⟩
    have s0 := (Same.refl H).trans (same_new (o := .tup [.str "InvalidField", .str "InvalidTie", .str "InvalidKind"]) n0)
    refine ⟨_, rfl, a, T.r_BooksDiffer.c, dx, _, _, rfl, s0 _ _ ea, T.r_BooksDiffer.x, T.r_BooksDiffer.n _ (by decide), s0 _ _ ed, rfl, (by show 3 ≤ sizeLine; decide), fun t1 n1 => ?_⟩
    refine ⟨t1, _, rfl, .inr (SqT.of upd_same), rfl, rfl, _, rfl, iteB (fun z => absurd z (by decide +kernel)) (fun _ => ?_)⟩
    have s1 := s0.trans (same_new (o := .tup [.str "InvalidRulebook", .str "InvalidNetwork", .str "InvalidPage"]) n1)
    refine ⟨_, rfl, a, T.r_BooksDiffer.c, dx, _, _, rfl, s1 _ _ ea, T.r_BooksDiffer.x, T.r_BooksDiffer.n _ (by decide), s1 _ _ ed, rfl, (by show 5 ≤ sizeLine; decide), fun t2 n2 => ?_⟩
    refine ⟨t2, _, rfl, .inr (SqT.of upd_same), rfl, rfl, _, rfl, iteB (fun z => absurd z (by decide +kernel)) (fun _ => ?_)⟩
    have s2 := s1.trans (same_new (o := .tup [.str "InvalidHolding", .str "InvalidName", .str "InvalidCount", .str "InvalidLimit", .str "UnknownMoment"]) n2)
    refine ⟨_, rfl, a, T.r_BooksDiffer.c, dx, _, _, rfl, s2 _ _ ea, T.r_BooksDiffer.x, T.r_BooksDiffer.n _ (by decide), s2 _ _ ed, rfl, (by show 2 ≤ sizeLine; decide), fun t3 n3 => ?_⟩
    refine ⟨t3, _, rfl, .inr (SqT.of upd_same), rfl, rfl, _, rfl, iteB (fun z => absurd z (by decide +kernel)) (fun _ => ?_)⟩
    have s3 := s2.trans (same_new (o := .tup [.str "InvalidState", .str "InvalidLook"]) n3)
    refine ⟨_, rfl, a, T.r_BooksDiffer.c, dx, _, _, rfl, s3 _ _ ea, T.r_BooksDiffer.x, T.r_BooksDiffer.n _ (by decide), s3 _ _ ed, rfl, (by show 2 ≤ sizeLine; decide), fun t4 n4 => ?_⟩
    refine ⟨t4, _, rfl, .inr (SqT.of upd_same), rfl, rfl, _, rfl, iteB (fun z => absurd z (by decide +kernel)) (fun _ => ?_)⟩
    have s4 := s3.trans (same_new (o := .tup [.str "DuplicateTie", .str "MissingTie"]) n4)
    refine ⟨_, rfl, a, T.r_BooksDiffer.c, dx, _, _, rfl, s4 _ _ ea, T.r_BooksDiffer.x, T.r_BooksDiffer.n _ (by decide), s4 _ _ ed, rfl, rfl, _, rfl, iteB (fun z => absurd z (by decide +kernel)) (fun _ => ?_)⟩
    refine ⟨_, rfl, a, T.r_BooksDiffer.c, dx, _, _, rfl, s4 _ _ ea, T.r_BooksDiffer.x, T.r_BooksDiffer.n _ (by decide), s4 _ _ ed, rfl, rfl, _, rfl, iteB (fun z => absurd z (by decide +kernel)) (fun _ => ?_)⟩
    refine ⟨_, rfl, a, T.r_BooksDiffer.c, dx, _, _, rfl, s4 _ _ ea, T.r_BooksDiffer.x, T.r_BooksDiffer.n _ (by decide), s4 _ _ ed, rfl, (by show 3 ≤ sizeLine; decide), fun t7 n7 => ?_⟩
    refine ⟨t7, _, rfl, .inr (SqT.of upd_same), rfl, rfl, _, rfl, iteB (fun _ => ?_) (fun z => absurd z (by decide +kernel))⟩
    have s7 := s4.trans (same_new (o := .tup [.str "BooksDiffer", .str "Unsettled", .str "EmptyHistory"]) n7)
    exact q _ _ s7 (fun _ => rfl) fun z => absurd rfl z
  rcases List.mem_cons.mp h with rfl | h
  · obtain ⟨a, dx, rfl, ea, ed⟩ := he
    refine ⟨_, rfl, a, T.r_Unsettled.c, dx, _, _, rfl, (Same.refl H) _ _ ea, T.r_Unsettled.x, T.r_Unsettled.n _ (by decide), (Same.refl H) _ _ ed, rfl, (by show 3 ≤ sizeLine; decide), fun t0 n0 => ?_⟩
    refine ⟨t0, _, rfl, .inr (SqT.of upd_same), rfl, rfl, _, rfl, iteB (fun z => absurd z (by decide +kernel)) (fun _ => ?_)⟩
    have s0 := (Same.refl H).trans (same_new (o := .tup [.str "InvalidField", .str "InvalidTie", .str "InvalidKind"]) n0)
    refine ⟨_, rfl, a, T.r_Unsettled.c, dx, _, _, rfl, s0 _ _ ea, T.r_Unsettled.x, T.r_Unsettled.n _ (by decide), s0 _ _ ed, rfl, (by show 3 ≤ sizeLine; decide), fun t1 n1 => ?_⟩
    refine ⟨t1, _, rfl, .inr (SqT.of upd_same), rfl, rfl, _, rfl, iteB (fun z => absurd z (by decide +kernel)) (fun _ => ?_)⟩
    have s1 := s0.trans (same_new (o := .tup [.str "InvalidRulebook", .str "InvalidNetwork", .str "InvalidPage"]) n1)
    refine ⟨_, rfl, a, T.r_Unsettled.c, dx, _, _, rfl, s1 _ _ ea, T.r_Unsettled.x, T.r_Unsettled.n _ (by decide), s1 _ _ ed, rfl, (by show 5 ≤ sizeLine; decide), fun t2 n2 => ?_⟩
    refine ⟨t2, _, rfl, .inr (SqT.of upd_same), rfl, rfl, _, rfl, iteB (fun z => absurd z (by decide +kernel)) (fun _ => ?_)⟩
    have s2 := s1.trans (same_new (o := .tup [.str "InvalidHolding", .str "InvalidName", .str "InvalidCount", .str "InvalidLimit", .str "UnknownMoment"]) n2)
    refine ⟨_, rfl, a, T.r_Unsettled.c, dx, _, _, rfl, s2 _ _ ea, T.r_Unsettled.x, T.r_Unsettled.n _ (by decide), s2 _ _ ed, rfl, (by show 2 ≤ sizeLine; decide), fun t3 n3 => ?_⟩
    refine ⟨t3, _, rfl, .inr (SqT.of upd_same), rfl, rfl, _, rfl, iteB (fun z => absurd z (by decide +kernel)) (fun _ => ?_)⟩
    have s3 := s2.trans (same_new (o := .tup [.str "InvalidState", .str "InvalidLook"]) n3)
    refine ⟨_, rfl, a, T.r_Unsettled.c, dx, _, _, rfl, s3 _ _ ea, T.r_Unsettled.x, T.r_Unsettled.n _ (by decide), s3 _ _ ed, rfl, (by show 2 ≤ sizeLine; decide), fun t4 n4 => ?_⟩
    refine ⟨t4, _, rfl, .inr (SqT.of upd_same), rfl, rfl, _, rfl, iteB (fun z => absurd z (by decide +kernel)) (fun _ => ?_)⟩
    have s4 := s3.trans (same_new (o := .tup [.str "DuplicateTie", .str "MissingTie"]) n4)
    refine ⟨_, rfl, a, T.r_Unsettled.c, dx, _, _, rfl, s4 _ _ ea, T.r_Unsettled.x, T.r_Unsettled.n _ (by decide), s4 _ _ ed, rfl, rfl, _, rfl, iteB (fun z => absurd z (by decide +kernel)) (fun _ => ?_)⟩
    refine ⟨_, rfl, a, T.r_Unsettled.c, dx, _, _, rfl, s4 _ _ ea, T.r_Unsettled.x, T.r_Unsettled.n _ (by decide), s4 _ _ ed, rfl, rfl, _, rfl, iteB (fun z => absurd z (by decide +kernel)) (fun _ => ?_)⟩
    refine ⟨_, rfl, a, T.r_Unsettled.c, dx, _, _, rfl, s4 _ _ ea, T.r_Unsettled.x, T.r_Unsettled.n _ (by decide), s4 _ _ ed, rfl, (by show 3 ≤ sizeLine; decide), fun t7 n7 => ?_⟩
    refine ⟨t7, _, rfl, .inr (SqT.of upd_same), rfl, rfl, _, rfl, iteB (fun _ => ?_) (fun z => absurd z (by decide +kernel))⟩
    have s7 := s4.trans (same_new (o := .tup [.str "BooksDiffer", .str "Unsettled", .str "EmptyHistory"]) n7)
    exact q _ _ s7 (fun _ => rfl) fun z => absurd rfl z
  rcases List.mem_cons.mp h with rfl | h
  · obtain ⟨a, dx, v, rfl, ea, ed, hv⟩ := he
    refine ⟨_, rfl, a, T.r_Full.c, dx, _, _, rfl, (Same.refl H) _ _ ea, T.r_Full.x, T.r_Full.n _ (by decide), (Same.refl H) _ _ ed, rfl, (by show 3 ≤ sizeLine; decide), fun t0 n0 => ?_⟩
    refine ⟨t0, _, rfl, .inr (SqT.of upd_same), rfl, rfl, _, rfl, iteB (fun z => absurd z (by decide +kernel)) (fun _ => ?_)⟩
    have s0 := (Same.refl H).trans (same_new (o := .tup [.str "InvalidField", .str "InvalidTie", .str "InvalidKind"]) n0)
    refine ⟨_, rfl, a, T.r_Full.c, dx, _, _, rfl, s0 _ _ ea, T.r_Full.x, T.r_Full.n _ (by decide), s0 _ _ ed, rfl, (by show 3 ≤ sizeLine; decide), fun t1 n1 => ?_⟩
    refine ⟨t1, _, rfl, .inr (SqT.of upd_same), rfl, rfl, _, rfl, iteB (fun z => absurd z (by decide +kernel)) (fun _ => ?_)⟩
    have s1 := s0.trans (same_new (o := .tup [.str "InvalidRulebook", .str "InvalidNetwork", .str "InvalidPage"]) n1)
    refine ⟨_, rfl, a, T.r_Full.c, dx, _, _, rfl, s1 _ _ ea, T.r_Full.x, T.r_Full.n _ (by decide), s1 _ _ ed, rfl, (by show 5 ≤ sizeLine; decide), fun t2 n2 => ?_⟩
    refine ⟨t2, _, rfl, .inr (SqT.of upd_same), rfl, rfl, _, rfl, iteB (fun z => absurd z (by decide +kernel)) (fun _ => ?_)⟩
    have s2 := s1.trans (same_new (o := .tup [.str "InvalidHolding", .str "InvalidName", .str "InvalidCount", .str "InvalidLimit", .str "UnknownMoment"]) n2)
    refine ⟨_, rfl, a, T.r_Full.c, dx, _, _, rfl, s2 _ _ ea, T.r_Full.x, T.r_Full.n _ (by decide), s2 _ _ ed, rfl, (by show 2 ≤ sizeLine; decide), fun t3 n3 => ?_⟩
    refine ⟨t3, _, rfl, .inr (SqT.of upd_same), rfl, rfl, _, rfl, iteB (fun z => absurd z (by decide +kernel)) (fun _ => ?_)⟩
    have s3 := s2.trans (same_new (o := .tup [.str "InvalidState", .str "InvalidLook"]) n3)
    refine ⟨_, rfl, a, T.r_Full.c, dx, _, _, rfl, s3 _ _ ea, T.r_Full.x, T.r_Full.n _ (by decide), s3 _ _ ed, rfl, (by show 2 ≤ sizeLine; decide), fun t4 n4 => ?_⟩
    refine ⟨t4, _, rfl, .inr (SqT.of upd_same), rfl, rfl, _, rfl, iteB (fun z => absurd z (by decide +kernel)) (fun _ => ?_)⟩
    have s4 := s3.trans (same_new (o := .tup [.str "DuplicateTie", .str "MissingTie"]) n4)
    refine ⟨_, rfl, a, T.r_Full.c, dx, _, _, rfl, s4 _ _ ea, T.r_Full.x, T.r_Full.n _ (by decide), s4 _ _ ed, rfl, rfl, _, rfl, iteB (fun z => absurd z (by decide +kernel)) (fun _ => ?_)⟩
    refine ⟨_, rfl, a, T.r_Full.c, dx, _, _, rfl, s4 _ _ ea, T.r_Full.x, T.r_Full.n _ (by decide), s4 _ _ ed, rfl, rfl, _, rfl, iteB (fun _ => ?_) (fun z => absurd z (by decide +kernel))⟩
    exact ⟨_, rfl, a, T.r_Full.c, dx, _, _, rfl, s4 _ _ ea, T.r_Full.x, T.r_Full.n _ (by decide), s4 _ _ ed, rfl, q _ _ s4 (fun z => nomatch z) fun _ => Dp.mono s4 hv⟩
  rcases List.mem_cons.mp h with rfl | h
  · obtain ⟨a, dx, rfl, ea, ed⟩ := he
    refine ⟨_, rfl, a, T.r_EmptyHistory.c, dx, _, _, rfl, (Same.refl H) _ _ ea, T.r_EmptyHistory.x, T.r_EmptyHistory.n _ (by decide), (Same.refl H) _ _ ed, rfl, (by show 3 ≤ sizeLine; decide), fun t0 n0 => ?_⟩
    refine ⟨t0, _, rfl, .inr (SqT.of upd_same), rfl, rfl, _, rfl, iteB (fun z => absurd z (by decide +kernel)) (fun _ => ?_)⟩
    have s0 := (Same.refl H).trans (same_new (o := .tup [.str "InvalidField", .str "InvalidTie", .str "InvalidKind"]) n0)
    refine ⟨_, rfl, a, T.r_EmptyHistory.c, dx, _, _, rfl, s0 _ _ ea, T.r_EmptyHistory.x, T.r_EmptyHistory.n _ (by decide), s0 _ _ ed, rfl, (by show 3 ≤ sizeLine; decide), fun t1 n1 => ?_⟩
    refine ⟨t1, _, rfl, .inr (SqT.of upd_same), rfl, rfl, _, rfl, iteB (fun z => absurd z (by decide +kernel)) (fun _ => ?_)⟩
    have s1 := s0.trans (same_new (o := .tup [.str "InvalidRulebook", .str "InvalidNetwork", .str "InvalidPage"]) n1)
    refine ⟨_, rfl, a, T.r_EmptyHistory.c, dx, _, _, rfl, s1 _ _ ea, T.r_EmptyHistory.x, T.r_EmptyHistory.n _ (by decide), s1 _ _ ed, rfl, (by show 5 ≤ sizeLine; decide), fun t2 n2 => ?_⟩
    refine ⟨t2, _, rfl, .inr (SqT.of upd_same), rfl, rfl, _, rfl, iteB (fun z => absurd z (by decide +kernel)) (fun _ => ?_)⟩
    have s2 := s1.trans (same_new (o := .tup [.str "InvalidHolding", .str "InvalidName", .str "InvalidCount", .str "InvalidLimit", .str "UnknownMoment"]) n2)
    refine ⟨_, rfl, a, T.r_EmptyHistory.c, dx, _, _, rfl, s2 _ _ ea, T.r_EmptyHistory.x, T.r_EmptyHistory.n _ (by decide), s2 _ _ ed, rfl, (by show 2 ≤ sizeLine; decide), fun t3 n3 => ?_⟩
    refine ⟨t3, _, rfl, .inr (SqT.of upd_same), rfl, rfl, _, rfl, iteB (fun z => absurd z (by decide +kernel)) (fun _ => ?_)⟩
    have s3 := s2.trans (same_new (o := .tup [.str "InvalidState", .str "InvalidLook"]) n3)
    refine ⟨_, rfl, a, T.r_EmptyHistory.c, dx, _, _, rfl, s3 _ _ ea, T.r_EmptyHistory.x, T.r_EmptyHistory.n _ (by decide), s3 _ _ ed, rfl, (by show 2 ≤ sizeLine; decide), fun t4 n4 => ?_⟩
    refine ⟨t4, _, rfl, .inr (SqT.of upd_same), rfl, rfl, _, rfl, iteB (fun z => absurd z (by decide +kernel)) (fun _ => ?_)⟩
    have s4 := s3.trans (same_new (o := .tup [.str "DuplicateTie", .str "MissingTie"]) n4)
    refine ⟨_, rfl, a, T.r_EmptyHistory.c, dx, _, _, rfl, s4 _ _ ea, T.r_EmptyHistory.x, T.r_EmptyHistory.n _ (by decide), s4 _ _ ed, rfl, rfl, _, rfl, iteB (fun z => absurd z (by decide +kernel)) (fun _ => ?_)⟩
    refine ⟨_, rfl, a, T.r_EmptyHistory.c, dx, _, _, rfl, s4 _ _ ea, T.r_EmptyHistory.x, T.r_EmptyHistory.n _ (by decide), s4 _ _ ed, rfl, rfl, _, rfl, iteB (fun z => absurd z (by decide +kernel)) (fun _ => ?_)⟩
    refine ⟨_, rfl, a, T.r_EmptyHistory.c, dx, _, _, rfl, s4 _ _ ea, T.r_EmptyHistory.x, T.r_EmptyHistory.n _ (by decide), s4 _ _ ed, rfl, (by show 3 ≤ sizeLine; decide), fun t7 n7 => ?_⟩
    refine ⟨t7, _, rfl, .inr (SqT.of upd_same), rfl, rfl, _, rfl, iteB (fun _ => ?_) (fun z => absurd z (by decide +kernel))⟩
    have s7 := s4.trans (same_new (o := .tup [.str "BooksDiffer", .str "Unsettled", .str "EmptyHistory"]) n7)
    exact q _ _ s7 (fun _ => rfl) fun z => absurd rfl z
  rcases List.mem_cons.mp h with rfl | h
  · obtain ⟨a, dx, v, rfl, ea, ed, hv⟩ := he
    refine ⟨_, rfl, a, T.r_UnknownCell.c, dx, _, _, rfl, (Same.refl H) _ _ ea, T.r_UnknownCell.x, T.r_UnknownCell.n _ (by decide), (Same.refl H) _ _ ed, rfl, (by show 3 ≤ sizeLine; decide), fun t0 n0 => ?_⟩
    refine ⟨t0, _, rfl, .inr (SqT.of upd_same), rfl, rfl, _, rfl, iteB (fun z => absurd z (by decide +kernel)) (fun _ => ?_)⟩
    have s0 := (Same.refl H).trans (same_new (o := .tup [.str "InvalidField", .str "InvalidTie", .str "InvalidKind"]) n0)
    refine ⟨_, rfl, a, T.r_UnknownCell.c, dx, _, _, rfl, s0 _ _ ea, T.r_UnknownCell.x, T.r_UnknownCell.n _ (by decide), s0 _ _ ed, rfl, (by show 3 ≤ sizeLine; decide), fun t1 n1 => ?_⟩
    refine ⟨t1, _, rfl, .inr (SqT.of upd_same), rfl, rfl, _, rfl, iteB (fun z => absurd z (by decide +kernel)) (fun _ => ?_)⟩
    have s1 := s0.trans (same_new (o := .tup [.str "InvalidRulebook", .str "InvalidNetwork", .str "InvalidPage"]) n1)
    refine ⟨_, rfl, a, T.r_UnknownCell.c, dx, _, _, rfl, s1 _ _ ea, T.r_UnknownCell.x, T.r_UnknownCell.n _ (by decide), s1 _ _ ed, rfl, (by show 5 ≤ sizeLine; decide), fun t2 n2 => ?_⟩
    refine ⟨t2, _, rfl, .inr (SqT.of upd_same), rfl, rfl, _, rfl, iteB (fun z => absurd z (by decide +kernel)) (fun _ => ?_)⟩
    have s2 := s1.trans (same_new (o := .tup [.str "InvalidHolding", .str "InvalidName", .str "InvalidCount", .str "InvalidLimit", .str "UnknownMoment"]) n2)
    refine ⟨_, rfl, a, T.r_UnknownCell.c, dx, _, _, rfl, s2 _ _ ea, T.r_UnknownCell.x, T.r_UnknownCell.n _ (by decide), s2 _ _ ed, rfl, (by show 2 ≤ sizeLine; decide), fun t3 n3 => ?_⟩
    refine ⟨t3, _, rfl, .inr (SqT.of upd_same), rfl, rfl, _, rfl, iteB (fun z => absurd z (by decide +kernel)) (fun _ => ?_)⟩
    have s3 := s2.trans (same_new (o := .tup [.str "InvalidState", .str "InvalidLook"]) n3)
    refine ⟨_, rfl, a, T.r_UnknownCell.c, dx, _, _, rfl, s3 _ _ ea, T.r_UnknownCell.x, T.r_UnknownCell.n _ (by decide), s3 _ _ ed, rfl, (by show 2 ≤ sizeLine; decide), fun t4 n4 => ?_⟩
    refine ⟨t4, _, rfl, .inr (SqT.of upd_same), rfl, rfl, _, rfl, iteB (fun z => absurd z (by decide +kernel)) (fun _ => ?_)⟩
    have s4 := s3.trans (same_new (o := .tup [.str "DuplicateTie", .str "MissingTie"]) n4)
    refine ⟨_, rfl, a, T.r_UnknownCell.c, dx, _, _, rfl, s4 _ _ ea, T.r_UnknownCell.x, T.r_UnknownCell.n _ (by decide), s4 _ _ ed, rfl, rfl, _, rfl, iteB (fun z => absurd z (by decide +kernel)) (fun _ => ?_)⟩
    refine ⟨_, rfl, a, T.r_UnknownCell.c, dx, _, _, rfl, s4 _ _ ea, T.r_UnknownCell.x, T.r_UnknownCell.n _ (by decide), s4 _ _ ed, rfl, rfl, _, rfl, iteB (fun z => absurd z (by decide +kernel)) (fun _ => ?_)⟩
    refine ⟨_, rfl, a, T.r_UnknownCell.c, dx, _, _, rfl, s4 _ _ ea, T.r_UnknownCell.x, T.r_UnknownCell.n _ (by decide), s4 _ _ ed, rfl, (by show 3 ≤ sizeLine; decide), fun t7 n7 => ?_⟩
    refine ⟨t7, _, rfl, .inr (SqT.of upd_same), rfl, rfl, _, rfl, iteB (fun z => absurd z (by decide +kernel)) (fun _ => ?_)⟩
    have s7 := s4.trans (same_new (o := .tup [.str "BooksDiffer", .str "Unsettled", .str "EmptyHistory"]) n7)
    exact ⟨_, rfl, a, T.r_UnknownCell.c, dx, _, _, rfl, s7 _ _ ea, T.r_UnknownCell.x, T.r_UnknownCell.n _ (by decide), s7 _ _ ed, rfl, q _ _ s7 (fun z => nomatch z) fun _ => Dp.mono s7 hv⟩
  rcases List.mem_cons.mp h with rfl | h
  · obtain ⟨a, dx, v, rfl, ea, ed, hv⟩ := he
    refine ⟨_, rfl, a, T.r_UnknownKind.c, dx, _, _, rfl, (Same.refl H) _ _ ea, T.r_UnknownKind.x, T.r_UnknownKind.n _ (by decide), (Same.refl H) _ _ ed, rfl, (by show 3 ≤ sizeLine; decide), fun t0 n0 => ?_⟩
    refine ⟨t0, _, rfl, .inr (SqT.of upd_same), rfl, rfl, _, rfl, iteB (fun z => absurd z (by decide +kernel)) (fun _ => ?_)⟩
    have s0 := (Same.refl H).trans (same_new (o := .tup [.str "InvalidField", .str "InvalidTie", .str "InvalidKind"]) n0)
    refine ⟨_, rfl, a, T.r_UnknownKind.c, dx, _, _, rfl, s0 _ _ ea, T.r_UnknownKind.x, T.r_UnknownKind.n _ (by decide), s0 _ _ ed, rfl, (by show 3 ≤ sizeLine; decide), fun t1 n1 => ?_⟩
    refine ⟨t1, _, rfl, .inr (SqT.of upd_same), rfl, rfl, _, rfl, iteB (fun z => absurd z (by decide +kernel)) (fun _ => ?_)⟩
    have s1 := s0.trans (same_new (o := .tup [.str "InvalidRulebook", .str "InvalidNetwork", .str "InvalidPage"]) n1)
    refine ⟨_, rfl, a, T.r_UnknownKind.c, dx, _, _, rfl, s1 _ _ ea, T.r_UnknownKind.x, T.r_UnknownKind.n _ (by decide), s1 _ _ ed, rfl, (by show 5 ≤ sizeLine; decide), fun t2 n2 => ?_⟩
    refine ⟨t2, _, rfl, .inr (SqT.of upd_same), rfl, rfl, _, rfl, iteB (fun z => absurd z (by decide +kernel)) (fun _ => ?_)⟩
    have s2 := s1.trans (same_new (o := .tup [.str "InvalidHolding", .str "InvalidName", .str "InvalidCount", .str "InvalidLimit", .str "UnknownMoment"]) n2)
    refine ⟨_, rfl, a, T.r_UnknownKind.c, dx, _, _, rfl, s2 _ _ ea, T.r_UnknownKind.x, T.r_UnknownKind.n _ (by decide), s2 _ _ ed, rfl, (by show 2 ≤ sizeLine; decide), fun t3 n3 => ?_⟩
    refine ⟨t3, _, rfl, .inr (SqT.of upd_same), rfl, rfl, _, rfl, iteB (fun z => absurd z (by decide +kernel)) (fun _ => ?_)⟩
    have s3 := s2.trans (same_new (o := .tup [.str "InvalidState", .str "InvalidLook"]) n3)
    refine ⟨_, rfl, a, T.r_UnknownKind.c, dx, _, _, rfl, s3 _ _ ea, T.r_UnknownKind.x, T.r_UnknownKind.n _ (by decide), s3 _ _ ed, rfl, (by show 2 ≤ sizeLine; decide), fun t4 n4 => ?_⟩
    refine ⟨t4, _, rfl, .inr (SqT.of upd_same), rfl, rfl, _, rfl, iteB (fun z => absurd z (by decide +kernel)) (fun _ => ?_)⟩
    have s4 := s3.trans (same_new (o := .tup [.str "DuplicateTie", .str "MissingTie"]) n4)
    refine ⟨_, rfl, a, T.r_UnknownKind.c, dx, _, _, rfl, s4 _ _ ea, T.r_UnknownKind.x, T.r_UnknownKind.n _ (by decide), s4 _ _ ed, rfl, rfl, _, rfl, iteB (fun z => absurd z (by decide +kernel)) (fun _ => ?_)⟩
    refine ⟨_, rfl, a, T.r_UnknownKind.c, dx, _, _, rfl, s4 _ _ ea, T.r_UnknownKind.x, T.r_UnknownKind.n _ (by decide), s4 _ _ ed, rfl, rfl, _, rfl, iteB (fun z => absurd z (by decide +kernel)) (fun _ => ?_)⟩
    refine ⟨_, rfl, a, T.r_UnknownKind.c, dx, _, _, rfl, s4 _ _ ea, T.r_UnknownKind.x, T.r_UnknownKind.n _ (by decide), s4 _ _ ed, rfl, (by show 3 ≤ sizeLine; decide), fun t7 n7 => ?_⟩
    refine ⟨t7, _, rfl, .inr (SqT.of upd_same), rfl, rfl, _, rfl, iteB (fun z => absurd z (by decide +kernel)) (fun _ => ?_)⟩
    have s7 := s4.trans (same_new (o := .tup [.str "BooksDiffer", .str "Unsettled", .str "EmptyHistory"]) n7)
    exact ⟨_, rfl, a, T.r_UnknownKind.c, dx, _, _, rfl, s7 _ _ ea, T.r_UnknownKind.x, T.r_UnknownKind.n _ (by decide), s7 _ _ ed, rfl, q _ _ s7 (fun z => nomatch z) fun _ => Dp.mono s7 hv⟩
  rcases List.mem_cons.mp h with rfl | h
  · obtain ⟨a, dx, v, rfl, ea, ed, hv⟩ := he
    refine ⟨_, rfl, a, T.r_UnknownTie.c, dx, _, _, rfl, (Same.refl H) _ _ ea, T.r_UnknownTie.x, T.r_UnknownTie.n _ (by decide), (Same.refl H) _ _ ed, rfl, (by show 3 ≤ sizeLine; decide), fun t0 n0 => ?_⟩
    refine ⟨t0, _, rfl, .inr (SqT.of upd_same), rfl, rfl, _, rfl, iteB (fun z => absurd z (by decide +kernel)) (fun _ => ?_)⟩
    have s0 := (Same.refl H).trans (same_new (o := .tup [.str "InvalidField", .str "InvalidTie", .str "InvalidKind"]) n0)
    refine ⟨_, rfl, a, T.r_UnknownTie.c, dx, _, _, rfl, s0 _ _ ea, T.r_UnknownTie.x, T.r_UnknownTie.n _ (by decide), s0 _ _ ed, rfl, (by show 3 ≤ sizeLine; decide), fun t1 n1 => ?_⟩
    refine ⟨t1, _, rfl, .inr (SqT.of upd_same), rfl, rfl, _, rfl, iteB (fun z => absurd z (by decide +kernel)) (fun _ => ?_)⟩
    have s1 := s0.trans (same_new (o := .tup [.str "InvalidRulebook", .str "InvalidNetwork", .str "InvalidPage"]) n1)
    refine ⟨_, rfl, a, T.r_UnknownTie.c, dx, _, _, rfl, s1 _ _ ea, T.r_UnknownTie.x, T.r_UnknownTie.n _ (by decide), s1 _ _ ed, rfl, (by show 5 ≤ sizeLine; decide), fun t2 n2 => ?_⟩
    refine ⟨t2, _, rfl, .inr (SqT.of upd_same), rfl, rfl, _, rfl, iteB (fun z => absurd z (by decide +kernel)) (fun _ => ?_)⟩
    have s2 := s1.trans (same_new (o := .tup [.str "InvalidHolding", .str "InvalidName", .str "InvalidCount", .str "InvalidLimit", .str "UnknownMoment"]) n2)
    refine ⟨_, rfl, a, T.r_UnknownTie.c, dx, _, _, rfl, s2 _ _ ea, T.r_UnknownTie.x, T.r_UnknownTie.n _ (by decide), s2 _ _ ed, rfl, (by show 2 ≤ sizeLine; decide), fun t3 n3 => ?_⟩
    refine ⟨t3, _, rfl, .inr (SqT.of upd_same), rfl, rfl, _, rfl, iteB (fun z => absurd z (by decide +kernel)) (fun _ => ?_)⟩
    have s3 := s2.trans (same_new (o := .tup [.str "InvalidState", .str "InvalidLook"]) n3)
    refine ⟨_, rfl, a, T.r_UnknownTie.c, dx, _, _, rfl, s3 _ _ ea, T.r_UnknownTie.x, T.r_UnknownTie.n _ (by decide), s3 _ _ ed, rfl, (by show 2 ≤ sizeLine; decide), fun t4 n4 => ?_⟩
    refine ⟨t4, _, rfl, .inr (SqT.of upd_same), rfl, rfl, _, rfl, iteB (fun z => absurd z (by decide +kernel)) (fun _ => ?_)⟩
    have s4 := s3.trans (same_new (o := .tup [.str "DuplicateTie", .str "MissingTie"]) n4)
    refine ⟨_, rfl, a, T.r_UnknownTie.c, dx, _, _, rfl, s4 _ _ ea, T.r_UnknownTie.x, T.r_UnknownTie.n _ (by decide), s4 _ _ ed, rfl, rfl, _, rfl, iteB (fun z => absurd z (by decide +kernel)) (fun _ => ?_)⟩
    refine ⟨_, rfl, a, T.r_UnknownTie.c, dx, _, _, rfl, s4 _ _ ea, T.r_UnknownTie.x, T.r_UnknownTie.n _ (by decide), s4 _ _ ed, rfl, rfl, _, rfl, iteB (fun z => absurd z (by decide +kernel)) (fun _ => ?_)⟩
    refine ⟨_, rfl, a, T.r_UnknownTie.c, dx, _, _, rfl, s4 _ _ ea, T.r_UnknownTie.x, T.r_UnknownTie.n _ (by decide), s4 _ _ ed, rfl, (by show 3 ≤ sizeLine; decide), fun t7 n7 => ?_⟩
    refine ⟨t7, _, rfl, .inr (SqT.of upd_same), rfl, rfl, _, rfl, iteB (fun z => absurd z (by decide +kernel)) (fun _ => ?_)⟩
    have s7 := s4.trans (same_new (o := .tup [.str "BooksDiffer", .str "Unsettled", .str "EmptyHistory"]) n7)
    exact ⟨_, rfl, a, T.r_UnknownTie.c, dx, _, _, rfl, s7 _ _ ea, T.r_UnknownTie.x, T.r_UnknownTie.n _ (by decide), s7 _ _ ed, rfl, q _ _ s7 (fun z => nomatch z) fun _ => Dp.mono s7 hv⟩
  rcases List.mem_cons.mp h with rfl | h
  · obtain ⟨a, dx, v, rfl, ea, ed, hv⟩ := he
    refine ⟨_, rfl, a, T.r_UnknownField.c, dx, _, _, rfl, (Same.refl H) _ _ ea, T.r_UnknownField.x, T.r_UnknownField.n _ (by decide), (Same.refl H) _ _ ed, rfl, (by show 3 ≤ sizeLine; decide), fun t0 n0 => ?_⟩
    refine ⟨t0, _, rfl, .inr (SqT.of upd_same), rfl, rfl, _, rfl, iteB (fun z => absurd z (by decide +kernel)) (fun _ => ?_)⟩
    have s0 := (Same.refl H).trans (same_new (o := .tup [.str "InvalidField", .str "InvalidTie", .str "InvalidKind"]) n0)
    refine ⟨_, rfl, a, T.r_UnknownField.c, dx, _, _, rfl, s0 _ _ ea, T.r_UnknownField.x, T.r_UnknownField.n _ (by decide), s0 _ _ ed, rfl, (by show 3 ≤ sizeLine; decide), fun t1 n1 => ?_⟩
    refine ⟨t1, _, rfl, .inr (SqT.of upd_same), rfl, rfl, _, rfl, iteB (fun z => absurd z (by decide +kernel)) (fun _ => ?_)⟩
    have s1 := s0.trans (same_new (o := .tup [.str "InvalidRulebook", .str "InvalidNetwork", .str "InvalidPage"]) n1)
    refine ⟨_, rfl, a, T.r_UnknownField.c, dx, _, _, rfl, s1 _ _ ea, T.r_UnknownField.x, T.r_UnknownField.n _ (by decide), s1 _ _ ed, rfl, (by show 5 ≤ sizeLine; decide), fun t2 n2 => ?_⟩
    refine ⟨t2, _, rfl, .inr (SqT.of upd_same), rfl, rfl, _, rfl, iteB (fun z => absurd z (by decide +kernel)) (fun _ => ?_)⟩
    have s2 := s1.trans (same_new (o := .tup [.str "InvalidHolding", .str "InvalidName", .str "InvalidCount", .str "InvalidLimit", .str "UnknownMoment"]) n2)
    refine ⟨_, rfl, a, T.r_UnknownField.c, dx, _, _, rfl, s2 _ _ ea, T.r_UnknownField.x, T.r_UnknownField.n _ (by decide), s2 _ _ ed, rfl, (by show 2 ≤ sizeLine; decide), fun t3 n3 => ?_⟩
    refine ⟨t3, _, rfl, .inr (SqT.of upd_same), rfl, rfl, _, rfl, iteB (fun z => absurd z (by decide +kernel)) (fun _ => ?_)⟩
    have s3 := s2.trans (same_new (o := .tup [.str "InvalidState", .str "InvalidLook"]) n3)
    refine ⟨_, rfl, a, T.r_UnknownField.c, dx, _, _, rfl, s3 _ _ ea, T.r_UnknownField.x, T.r_UnknownField.n _ (by decide), s3 _ _ ed, rfl, (by show 2 ≤ sizeLine; decide), fun t4 n4 => ?_⟩
    refine ⟨t4, _, rfl, .inr (SqT.of upd_same), rfl, rfl, _, rfl, iteB (fun z => absurd z (by decide +kernel)) (fun _ => ?_)⟩
    have s4 := s3.trans (same_new (o := .tup [.str "DuplicateTie", .str "MissingTie"]) n4)
    refine ⟨_, rfl, a, T.r_UnknownField.c, dx, _, _, rfl, s4 _ _ ea, T.r_UnknownField.x, T.r_UnknownField.n _ (by decide), s4 _ _ ed, rfl, rfl, _, rfl, iteB (fun z => absurd z (by decide +kernel)) (fun _ => ?_)⟩
    refine ⟨_, rfl, a, T.r_UnknownField.c, dx, _, _, rfl, s4 _ _ ea, T.r_UnknownField.x, T.r_UnknownField.n _ (by decide), s4 _ _ ed, rfl, rfl, _, rfl, iteB (fun z => absurd z (by decide +kernel)) (fun _ => ?_)⟩
    refine ⟨_, rfl, a, T.r_UnknownField.c, dx, _, _, rfl, s4 _ _ ea, T.r_UnknownField.x, T.r_UnknownField.n _ (by decide), s4 _ _ ed, rfl, (by show 3 ≤ sizeLine; decide), fun t7 n7 => ?_⟩
    refine ⟨t7, _, rfl, .inr (SqT.of upd_same), rfl, rfl, _, rfl, iteB (fun z => absurd z (by decide +kernel)) (fun _ => ?_)⟩
    have s7 := s4.trans (same_new (o := .tup [.str "BooksDiffer", .str "Unsettled", .str "EmptyHistory"]) n7)
    exact ⟨_, rfl, a, T.r_UnknownField.c, dx, _, _, rfl, s7 _ _ ea, T.r_UnknownField.x, T.r_UnknownField.n _ (by decide), s7 _ _ ed, rfl, q _ _ s7 (fun z => nomatch z) fun _ => Dp.mono s7 hv⟩
  rcases List.mem_cons.mp h with rfl | h
  · obtain ⟨a, dx, v, rfl, ea, ed, hv⟩ := he
    refine ⟨_, rfl, a, T.r_MissingTie.c, dx, _, _, rfl, (Same.refl H) _ _ ea, T.r_MissingTie.x, T.r_MissingTie.n _ (by decide), (Same.refl H) _ _ ed, rfl, (by show 3 ≤ sizeLine; decide), fun t0 n0 => ?_⟩
    refine ⟨t0, _, rfl, .inr (SqT.of upd_same), rfl, rfl, _, rfl, iteB (fun z => absurd z (by decide +kernel)) (fun _ => ?_)⟩
    have s0 := (Same.refl H).trans (same_new (o := .tup [.str "InvalidField", .str "InvalidTie", .str "InvalidKind"]) n0)
    refine ⟨_, rfl, a, T.r_MissingTie.c, dx, _, _, rfl, s0 _ _ ea, T.r_MissingTie.x, T.r_MissingTie.n _ (by decide), s0 _ _ ed, rfl, (by show 3 ≤ sizeLine; decide), fun t1 n1 => ?_⟩
    refine ⟨t1, _, rfl, .inr (SqT.of upd_same), rfl, rfl, _, rfl, iteB (fun z => absurd z (by decide +kernel)) (fun _ => ?_)⟩
    have s1 := s0.trans (same_new (o := .tup [.str "InvalidRulebook", .str "InvalidNetwork", .str "InvalidPage"]) n1)
    refine ⟨_, rfl, a, T.r_MissingTie.c, dx, _, _, rfl, s1 _ _ ea, T.r_MissingTie.x, T.r_MissingTie.n _ (by decide), s1 _ _ ed, rfl, (by show 5 ≤ sizeLine; decide), fun t2 n2 => ?_⟩
    refine ⟨t2, _, rfl, .inr (SqT.of upd_same), rfl, rfl, _, rfl, iteB (fun z => absurd z (by decide +kernel)) (fun _ => ?_)⟩
    have s2 := s1.trans (same_new (o := .tup [.str "InvalidHolding", .str "InvalidName", .str "InvalidCount", .str "InvalidLimit", .str "UnknownMoment"]) n2)
    refine ⟨_, rfl, a, T.r_MissingTie.c, dx, _, _, rfl, s2 _ _ ea, T.r_MissingTie.x, T.r_MissingTie.n _ (by decide), s2 _ _ ed, rfl, (by show 2 ≤ sizeLine; decide), fun t3 n3 => ?_⟩
    refine ⟨t3, _, rfl, .inr (SqT.of upd_same), rfl, rfl, _, rfl, iteB (fun z => absurd z (by decide +kernel)) (fun _ => ?_)⟩
    have s3 := s2.trans (same_new (o := .tup [.str "InvalidState", .str "InvalidLook"]) n3)
    refine ⟨_, rfl, a, T.r_MissingTie.c, dx, _, _, rfl, s3 _ _ ea, T.r_MissingTie.x, T.r_MissingTie.n _ (by decide), s3 _ _ ed, rfl, (by show 2 ≤ sizeLine; decide), fun t4 n4 => ?_⟩
    refine ⟨t4, _, rfl, .inr (SqT.of upd_same), rfl, rfl, _, rfl, iteB (fun _ => ?_) (fun z => absurd z (by decide +kernel))⟩
    have s4 := s3.trans (same_new (o := .tup [.str "DuplicateTie", .str "MissingTie"]) n4)
    exact ⟨_, rfl, a, T.r_MissingTie.c, dx, _, _, rfl, s4 _ _ ea, T.r_MissingTie.x, T.r_MissingTie.n _ (by decide), s4 _ _ ed, rfl, q _ _ s4 (fun z => nomatch z) fun _ => Dp.mono s4 hv⟩
  rcases List.mem_cons.mp h with rfl | h
  · obtain ⟨a, dx, v, rfl, ea, ed, hv⟩ := he
    refine ⟨_, rfl, a, T.r_UnknownMoment.c, dx, _, _, rfl, (Same.refl H) _ _ ea, T.r_UnknownMoment.x, T.r_UnknownMoment.n _ (by decide), (Same.refl H) _ _ ed, rfl, (by show 3 ≤ sizeLine; decide), fun t0 n0 => ?_⟩
    refine ⟨t0, _, rfl, .inr (SqT.of upd_same), rfl, rfl, _, rfl, iteB (fun z => absurd z (by decide +kernel)) (fun _ => ?_)⟩
    have s0 := (Same.refl H).trans (same_new (o := .tup [.str "InvalidField", .str "InvalidTie", .str "InvalidKind"]) n0)
    refine ⟨_, rfl, a, T.r_UnknownMoment.c, dx, _, _, rfl, s0 _ _ ea, T.r_UnknownMoment.x, T.r_UnknownMoment.n _ (by decide), s0 _ _ ed, rfl, (by show 3 ≤ sizeLine; decide), fun t1 n1 => ?_⟩
    refine ⟨t1, _, rfl, .inr (SqT.of upd_same), rfl, rfl, _, rfl, iteB (fun z => absurd z (by decide +kernel)) (fun _ => ?_)⟩
    have s1 := s0.trans (same_new (o := .tup [.str "InvalidRulebook", .str "InvalidNetwork", .str "InvalidPage"]) n1)
    refine ⟨_, rfl, a, T.r_UnknownMoment.c, dx, _, _, rfl, s1 _ _ ea, T.r_UnknownMoment.x, T.r_UnknownMoment.n _ (by decide), s1 _ _ ed, rfl, (by show 5 ≤ sizeLine; decide), fun t2 n2 => ?_⟩
    refine ⟨t2, _, rfl, .inr (SqT.of upd_same), rfl, rfl, _, rfl, iteB (fun _ => ?_) (fun z => absurd z (by decide +kernel))⟩
    have s2 := s1.trans (same_new (o := .tup [.str "InvalidHolding", .str "InvalidName", .str "InvalidCount", .str "InvalidLimit", .str "UnknownMoment"]) n2)
    exact ⟨_, rfl, a, T.r_UnknownMoment.c, dx, _, _, rfl, s2 _ _ ea, T.r_UnknownMoment.x, T.r_UnknownMoment.n _ (by decide), s2 _ _ ed, rfl, q _ _ s2 (fun z => nomatch z) fun _ => Dp.mono s2 hv⟩
  cases h
end
end Bh

set_option Elab.async false
set_option linter.all false
set_option maxRecDepth 100000
set_option maxHeartbeats 1000000
namespace Bh
open PySem PySem.Spec PyProof.Rows L2
section
variable {P : Program} {w : World} {K : PySem.W.Frag} {mg : Str → Option Value} {base : Heap}
theorem like_step (T : Top K mg) (n : Nat) (G_l_like : FnOk P w K mg base CX0 n T.a_l_like T.fd_l_like ["_law_found", "_law_due"] (spLk K n)) : FnOk P w K mg base CX0 (n + 1) T.a_l_like T.fd_l_like ["_law_found", "_law_due"] (spLk K (n + 1)) := by
  refine T.d_l_like.F.ok sc_l_like (fun vs H Q E h => ?_) (fun cdv A outer s H vs Q E hr h => ?_)
  · obtain ⟨x, y, d, rfl, _⟩ := h
    rfl
  obtain ⟨x, y, d, rfl, hx, hy, hs, q⟩ := h
  refine ⟨_, (pss_cons (ps_if (pt_cmpR op_isN (pv 1) pe_non (nomark _)) (pss_one (ps_ret (pe_cmpR op_isN (pv 0) pe_non (nomark _)))) pss_nil)
    (pss_cons (ps_if (pt_val (pe_callB (call_isi_K (K := K) (by rfl)) (by rfl) T.b_isinstance (by decide +kernel) (pa_cons (pv 1) (pa_cons (pe_tyN "dict" (by rfl) T.b_dict (by decide +kernel)) pa_nil)))) (pss_cons ps_never
      (pss_one ps_never)) pss_nil)
    (pss_cons (ps_if (pt_val (pe_callB (call_isiT_K (K := K) (by rfl)) (by rfl) T.b_isinstance (by decide +kernel) (pa_cons (pv 1) (pa_cons (pe_tup (pa_cons (pe_tyN "list" (by rfl) T.b_list (by decide +kernel)) (pa_cons (pe_tyN "tuple" (by rfl) T.b_tuple (by decide +kernel)) pa_nil))) pa_nil)))) (pss_cons (ps_if (PW.pt (pw_or (pt_cmpR op_ne (pe_callB (call_isi_K (K := K) (by rfl)) (by rfl) T.b_isinstance (by decide +kernel) (pa_cons (pv 0) (pa_cons (pe_tyN "list" (by rfl) T.b_list (by decide +kernel)) pa_nil))) (pe_callB (call_isi_K (K := K) (by rfl)) (by rfl) T.b_isinstance (by decide +kernel) (pa_cons (pv 1) (pa_cons (pe_tyN "list" (by rfl) T.b_list (by decide +kernel)) pa_nil))) (nomark _)) (pw_or1 (pt_cmpR op_ne (pe_callB (call_isi_K (K := K) (by rfl)) (by rfl) T.b_isinstance (by decide +kernel) (pa_cons (pv 0) (pa_cons (pe_tyN "tuple" (by rfl) T.b_tuple (by decide +kernel)) pa_nil))) (pe_callB (call_isi_K (K := K) (by rfl)) (by rfl) T.b_isinstance (by decide +kernel) (pa_cons (pv 1) (pa_cons (pe_tyN "tuple" (by rfl) T.b_tuple (by decide +kernel)) pa_nil))) (nomark _))))) (pss_one (ps_ret pe_bl)) pss_nil)
      (pss_one (ps_ret (pe_and (pe_cmpR op_eq (pe_callB (call_len_seq_K (K := K) (by rfl)) (by rfl) T.b_len PySem.boot_len (pa_cons (pv 0) pa_nil)) (pe_callB (call_len_seq_K (K := K) (by rfl)) (by rfl) T.b_len PySem.boot_len (pa_cons (pv 1) pa_nil)) (nomark _)) (pe_one (pe_callB (cr_all_K (K := K) (by rfl) rfl) (by rfl) T.b_all (by decide +kernel) (pa_cons (pe_lc (own := [("_law_one", 3), ("_law_other", 4)]) rfl sc_l_like.nd (pi_zipA_K (K := K) (by rfl) (by rfl) T.b_zip (pa_cons (pv 0) (pa_cons (pv 1) pa_nil))) (blkOk_by (own := [("_law_one", 3), ("_law_other", 4)]) (N := ["_law_found", "_law_due", "_law_key", "_law_one", "_law_other"]) (sc := defScope s_l_like) (by decide +kernel)) (fun _ _ _ _ _ => by exact (pg_tup_K (K := K) (by rfl) (n := 2) (by rfl) (pgs_cons (pg_name (i := 3) sc_l_like.nd rfl (Or.inl rfl)) (pgs_cons (pg_name (i := 4) sc_l_like.nd rfl (Or.inl rfl)) pgs_nil)))) (fun _ _ _ _ _ => by exact pts_nil) (fun _ _ _ _ _ => by exact (pe_call G_l_like hr (by rfl) T.d_l_like.g T.d_l_like.kp T.d_l_like.b .nil pass0 (pa_cons (pv 3) (pa_cons (pv 4) pa_nil))))) pa_nil))))))) pss_nil)
    (pss_cons (ps_if (PW.pt (pw_or (pt_cmpR op_ne (pe_callB (call_isi_K (K := K) (by rfl)) (by rfl) T.b_isinstance (by decide +kernel) (pa_cons (pv 0) (pa_cons (pe_tyN "bool" (by rfl) T.b_bool (by decide +kernel)) pa_nil))) (pe_callB (call_isi_K (K := K) (by rfl)) (by rfl) T.b_isinstance (by decide +kernel) (pa_cons (pv 1) (pa_cons (pe_tyN "bool" (by rfl) T.b_bool (by decide +kernel)) pa_nil))) (nomark _)) (pw_or1 (pt_cmpR op_ne (pe_callB (call_isi_K (K := K) (by rfl)) (by rfl) T.b_isinstance (by decide +kernel) (pa_cons (pv 0) (pa_cons (pe_tyN "int" (by rfl) T.b_int (by decide +kernel)) pa_nil))) (pe_callB (call_isi_K (K := K) (by rfl)) (by rfl) T.b_isinstance (by decide +kernel) (pa_cons (pv 1) (pa_cons (pe_tyN "int" (by rfl) T.b_int (by decide +kernel)) pa_nil))) (nomark _))))) (pss_one (ps_ret pe_bl)) pss_nil)
    (pss_one (ps_ret (pe_and (pe_cmpR op_eq (pe_callB (call_isi_K (K := K) (by rfl)) (by rfl) T.b_isinstance (by decide +kernel) (pa_cons (pv 0) (pa_cons (pe_tyN "str" (by rfl) T.b_str (by decide +kernel)) pa_nil))) (pe_callB (call_isi_K (K := K) (by rfl)) (by rfl) T.b_isinstance (by decide +kernel) (pa_cons (pv 1) (pa_cons (pe_tyN "str" (by rfl) T.b_str (by decide +kernel)) pa_nil))) (nomark _)) (pe_one (pe_cmpR op_eq (pv 0) (pv 1) (nomark _)))))))))), ?_⟩
  cases hx with
  | non =>
    cases hy
    refine ⟨_, rfl, rfl, _, rfl, iteY rfl ⟨_, rfl, rfl, ?_⟩⟩
    exact q _ (Same.refl _)
  | bl b =>
    cases hy
    refine ⟨_, rfl, rfl, _, rfl, iteN (by intro z; cases z) ?_⟩
    refine ⟨_, rfl, _, _, _, _, false, rfl, .ty _, .base (.bl b), kit_ty (by decide +kernel), _, rfl, iteF ?_⟩
    refine ⟨_, rfl, (by show 2 ≤ sizeLine; decide), fun p np => ⟨_, p, _, _, _, false, rfl, upd_same, .cons (.ty _) (.cons (.ty _) .nil), .base (.bl b), kitAny_cons (kit_ty (b := "list") (r := false) (by decide +kernel)) (fun _ => kitAny_cons (kit_ty (r := false) (by decide +kernel)) (fun _ => kitAny_nil) (fun z => nomatch z)) (fun z => nomatch z), _, rfl, iteF ?_⟩⟩
    refine ⟨_, rfl, _, _, _, _, true, rfl, .ty _, .base (.bl b), kit_ty (by decide +kernel), _, rfl, _, _, _, _, true, rfl, .ty _, .base (.bl b), kit_ty (by decide +kernel), rfl, _, rfl, iteNS rfl ?_⟩
    refine ⟨_, rfl, _, _, _, _, true, rfl, .ty _, .base (.bl b), kit_ty (by decide +kernel), _, rfl, _, _, _, _, true, rfl, .ty _, .base (.bl b), kit_ty (by decide +kernel), rfl, _, rfl, iteNS rfl ?_⟩
    refine ⟨_, rfl, _, _, _, _, false, rfl, .ty _, .base (.bl b), kit_ty (by decide +kernel), _, rfl, _, _, _, _, false, rfl, .ty _, .base (.bl b), kit_ty (by decide +kernel), rfl, _, rfl, iteY rfl ⟨_, rfl, _, rfl, rfl, q_eq (q _ (same_new np))⟩⟩
  | int i =>
    cases hy
    refine ⟨_, rfl, rfl, _, rfl, iteN (by intro z; cases z) ?_⟩
    refine ⟨_, rfl, _, _, _, _, false, rfl, .ty _, .base (.int i), kit_ty (by decide +kernel), _, rfl, iteF ?_⟩
    refine ⟨_, rfl, (by show 2 ≤ sizeLine; decide), fun p np => ⟨_, p, _, _, _, false, rfl, upd_same, .cons (.ty _) (.cons (.ty _) .nil), .base (.int i), kitAny_cons (kit_ty (b := "list") (r := false) (by decide +kernel)) (fun _ => kitAny_cons (kit_ty (r := false) (by decide +kernel)) (fun _ => kitAny_nil) (fun z => nomatch z)) (fun z => nomatch z), _, rfl, iteF ?_⟩⟩
    refine ⟨_, rfl, _, _, _, _, false, rfl, .ty _, .base (.int i), kit_ty (by decide +kernel), _, rfl, _, _, _, _, false, rfl, .ty _, .base (.int i), kit_ty (by decide +kernel), rfl, _, rfl, iteNS rfl ?_⟩
    refine ⟨_, rfl, _, _, _, _, true, rfl, .ty _, .base (.int i), kit_ty (by decide +kernel), _, rfl, _, _, _, _, true, rfl, .ty _, .base (.int i), kit_ty (by decide +kernel), rfl, _, rfl, iteNS rfl ?_⟩
    refine ⟨_, rfl, _, _, _, _, false, rfl, .ty _, .base (.int i), kit_ty (by decide +kernel), _, rfl, _, _, _, _, false, rfl, .ty _, .base (.int i), kit_ty (by decide +kernel), rfl, _, rfl, iteY rfl ⟨_, rfl, _, rfl, rfl, q_eq (q _ (same_new np))⟩⟩
  | str z =>
    cases hy
    refine ⟨_, rfl, rfl, _, rfl, iteN (by intro z; cases z) ?_⟩
    refine ⟨_, rfl, _, _, _, _, false, rfl, .ty _, .base (.str z), kit_ty (by decide +kernel), _, rfl, iteF ?_⟩
    refine ⟨_, rfl, (by show 2 ≤ sizeLine; decide), fun p np => ⟨_, p, _, _, _, false, rfl, upd_same, .cons (.ty _) (.cons (.ty _) .nil), .base (.str z), kitAny_cons (kit_ty (b := "list") (r := false) (by decide +kernel)) (fun _ => kitAny_cons (kit_ty (r := false) (by decide +kernel)) (fun _ => kitAny_nil) (fun z => nomatch z)) (fun z => nomatch z), _, rfl, iteF ?_⟩⟩
    refine ⟨_, rfl, _, _, _, _, false, rfl, .ty _, .base (.str z), kit_ty (by decide +kernel), _, rfl, _, _, _, _, false, rfl, .ty _, .base (.str z), kit_ty (by decide +kernel), rfl, _, rfl, iteNS rfl ?_⟩
    refine ⟨_, rfl, _, _, _, _, false, rfl, .ty _, .base (.str z), kit_ty (by decide +kernel), _, rfl, _, _, _, _, false, rfl, .ty _, .base (.str z), kit_ty (by decide +kernel), rfl, _, rfl, iteNS rfl ?_⟩
    refine ⟨_, rfl, _, _, _, _, true, rfl, .ty _, .base (.str z), kit_ty (by decide +kernel), _, rfl, _, _, _, _, true, rfl, .ty _, .base (.str z), kit_ty (by decide +kernel), rfl, _, rfl, iteY rfl ⟨_, rfl, _, rfl, rfl, q_eq (q _ (same_new np))⟩⟩
  | @lst a xs ds h1 h2 =>
    cases hy with
    | @lst b ys _ k1 k2 =>
    cases hs with
    | @lst m _ hl hall =>
    have lxy : xs.length = ys.length := (DpAll.length h2).trans (DpAll.length k2).symm
    refine ⟨_, rfl, rfl, _, rfl, iteN (by intro z; cases z) ?_⟩
    refine ⟨_, rfl, _, _, _, _, false, rfl, .ty _, tyL k1, kit_ty (by decide +kernel), _, rfl, iteF ?_⟩
    refine ⟨_, rfl, (by show 2 ≤ sizeLine; decide), fun p np => ⟨_, p, _, _, _, true, rfl, upd_same, .cons (.ty _) (.cons (.ty _) .nil), tyL ((same_new np).seq k1), kitAny_cons (kit_ty (b := "list") (r := true) (by decide +kernel)) (fun z => nomatch z) (fun _ => rfl), _, rfl, iteT ?_⟩⟩
    have e1 : Same H (upd H p (.tup [.ty "list", .ty "tuple"])) := same_new np
    have h1' := e1.seq h1
    have k1' := e1.seq k1
    refine ⟨_, rfl, _, _, _, _, true, rfl, .ty _, tyL h1', kit_ty (by decide +kernel), _, rfl, _, _, _, _, true, rfl, .ty _, tyL k1', kit_ty (by decide +kernel), rfl, _, rfl, iteNS rfl ?_⟩
    refine ⟨_, rfl, _, _, _, _, false, rfl, .ty _, tyL h1', kit_ty (by decide +kernel), _, rfl, _, _, _, _, false, rfl, .ty _, tyL k1', kit_ty (by decide +kernel), rfl, _, rfl, iteNS rfl ?_⟩
    refine ⟨_, rfl, a, xs, rfl, .inl h1', _, rfl, b, ys, rfl, .inl k1', rfl, _, rfl, iteY (by rw [lxy]) ?_⟩
    refine ⟨_, rfl, _, rfl, a, b, xs, ys, rfl, .inl ⟨h1', k1', fun D nD => ?_⟩⟩
    refine lc_it (walk_zip (n := xs.length) (by omega)) (fun i H' => Same (upd H p (.tup [.ty "list", .ty "tuple"])) H' ∧ H' D = some (.lst ((List.replicate i true).map V.bl))) ⟨same_new nD, upd_same⟩ (fun i H' _ p => ⟨p.1.seq h1', p.1.seq k1'⟩) ?_ ?_
    · rintro i v H' H'' hi ⟨s1, hD⟩ ⟨Tp, x', y', rfl, nT, rfl, ex, ey⟩
      refine ⟨Tp, [x', y'], rfl, .inl (.inl upd_same), rfl, x', [y'], rfl, y', [], rfl, rfl, rfl, ?_⟩
      obtain ⟨d', hm, hx', hy'⟩ := dpa_at h2 k2 ex ey
      have s2 := e1.trans (s1.trans (same_new (o := .tup [x', y']) nT))
      refine ⟨_, rfl, _, rfl, x', y', d', rfl, Dp.mono s2 hx', Dp.mono s2 hy', hall _ hm, fun H4 s4 => ?_⟩
      have lz : xs.length = ds.length := DpAll.length h2
      refine ⟨_, s4 _ _ ((upd_ne (ne_of_none hD nT)).trans hD), by rw [List.length_map, List.length_replicate]; exact lt_line (by omega), fun b' o e' => ?_, ?_⟩
      · have nb : b' ≠ D := ne_of_none e' nD
        rw [upd_ne nb]
        exact s4 _ _ (same_new nT _ _ (s1 _ _ e'))
      · rw [upd_same, List.replicate_succ', List.map_append]
        rfl
    · rintro H' ⟨s1, hD⟩
      refine ⟨D, List.replicate xs.length true, rfl, SqL.of hD, ?_⟩
      rw [bls_true]
      exact q _ (e1.trans s1)
  | @tup a xs ds h1 h2 =>
    cases hy with
    | @tup b ys _ k1 k2 =>
    cases hs with
    | @tup m _ hl hall =>
    have lxy : xs.length = ys.length := (DpAll.length h2).trans (DpAll.length k2).symm
    refine ⟨_, rfl, rfl, _, rfl, iteN (by intro z; cases z) ?_⟩
    refine ⟨_, rfl, _, _, _, _, false, rfl, .ty _, tyT k1, kit_ty (by decide +kernel), _, rfl, iteF ?_⟩
    refine ⟨_, rfl, (by show 2 ≤ sizeLine; decide), fun p np => ⟨_, p, _, _, _, true, rfl, upd_same, .cons (.ty _) (.cons (.ty _) .nil), tyT (Same.tup (same_new np) k1), kitAny_cons (kit_ty (b := "list") (r := false) (by decide +kernel)) (fun _ => kitAny_cons (kit_ty (r := true) (by decide +kernel)) (fun z => nomatch z) (fun _ => rfl)) (fun z => nomatch z), _, rfl, iteT ?_⟩⟩
    have e1 : Same H (upd H p (.tup [.ty "list", .ty "tuple"])) := same_new np
    have h1' := Same.tup e1 h1
    have k1' := Same.tup e1 k1
    refine ⟨_, rfl, _, _, _, _, false, rfl, .ty _, tyT h1', kit_ty (by decide +kernel), _, rfl, _, _, _, _, false, rfl, .ty _, tyT k1', kit_ty (by decide +kernel), rfl, _, rfl, iteNS rfl ?_⟩
    refine ⟨_, rfl, _, _, _, _, true, rfl, .ty _, tyT h1', kit_ty (by decide +kernel), _, rfl, _, _, _, _, true, rfl, .ty _, tyT k1', kit_ty (by decide +kernel), rfl, _, rfl, iteNS rfl ?_⟩
    refine ⟨_, rfl, a, xs, rfl, .inr h1', _, rfl, b, ys, rfl, .inr k1', rfl, _, rfl, iteY (by rw [lxy]) ?_⟩
    refine ⟨_, rfl, _, rfl, a, b, xs, ys, rfl, .inr ⟨h1', k1', fun D nD => ?_⟩⟩
    refine lc_it (walk_zipT (n := xs.length) (by omega)) (fun i H' => Same (upd H p (.tup [.ty "list", .ty "tuple"])) H' ∧ H' D = some (.lst ((List.replicate i true).map V.bl))) ⟨same_new nD, upd_same⟩ (fun i H' _ p => ⟨Same.tup p.1 h1', Same.tup p.1 k1'⟩) ?_ ?_
    · rintro i v H' H'' hi ⟨s1, hD⟩ ⟨Tp, x', y', rfl, nT, rfl, ex, ey⟩
      refine ⟨Tp, [x', y'], rfl, .inl (.inl upd_same), rfl, x', [y'], rfl, y', [], rfl, rfl, rfl, ?_⟩
      obtain ⟨d', hm, hx', hy'⟩ := dpa_at h2 k2 ex ey
      have s2 := e1.trans (s1.trans (same_new (o := .tup [x', y']) nT))
      refine ⟨_, rfl, _, rfl, x', y', d', rfl, Dp.mono s2 hx', Dp.mono s2 hy', hall _ hm, fun H4 s4 => ?_⟩
      have lz : xs.length = ds.length := DpAll.length h2
      refine ⟨_, s4 _ _ ((upd_ne (ne_of_none hD nT)).trans hD), by rw [List.length_map, List.length_replicate]; exact lt_line (by omega), fun b' o e' => ?_, ?_⟩
      · have nb : b' ≠ D := ne_of_none e' nD
        rw [upd_ne nb]
        exact s4 _ _ (same_new nT _ _ (s1 _ _ e'))
      · rw [upd_same, List.replicate_succ', List.map_append]
        rfl
    · rintro H' ⟨s1, hD⟩
      refine ⟨D, List.replicate xs.length true, rfl, SqL.of hD, ?_⟩
      rw [bls_true]
      exact q _ (e1.trans s1)
theorem ok_like (T : Top K mg) : ∀ n : Nat, FnOk P w K mg base CX0 n T.a_l_like T.fd_l_like ["_law_found", "_law_due"] (spLk K n)
  | 0 => ⟨fun _ _ _ _ h => h.elim, fun _ _ _ _ _ _ _ _ _ _ _ _ _ h => h.elim⟩
  | n + 1 => like_step T n (ok_like T n)
end
end Bh

set_option Elab.async false
set_option linter.all false
set_option maxRecDepth 100000
namespace Bh
open PySem PySem.Spec PyProof.Rows L2
/-! ### the mirror of programs applied -/
def ix : List Str → Str → Nat
  | [], _ => 0
  | y :: r, x => if y = x then 0 else ix r x + 1
theorem ix_get : ∀ {l : List Str} {x : Str}, x ∈ l → l[ix l x]? = some x
  | y :: r, x, h => by
    unfold ix
    by_cases e : y = x
    · rw [if_pos e, e]
      rfl
    · rw [if_neg e]
      rcases List.mem_cons.mp h with z | z
      · exact absurd z.symm e
      · simpa using ix_get z
theorem ix_first : ∀ {l : List Str} {x : Str} {m : Nat}, m < ix l x → l[m]? ≠ some x
  | [], _, _, h => absurd h (Nat.not_lt_zero _)
  | y :: r, x, m, h => by
    unfold ix at h
    by_cases e : y = x
    · rw [if_pos e] at h
      exact absurd h (Nat.not_lt_zero _)
    · rw [if_neg e] at h
      cases m with
      | zero =>
        intro z
        exact e (Option.some.inj z)
      | succ m =>
        have q := ix_first (l := r) (x := x) (m := m) (by omega)
        simpa using q
theorem ix_lt {l : List Str} {x : Str} (h : x ∈ l) : ix l x < l.length := (List.getElem?_eq_some_iff.mp (ix_get h)).1
/-- the place of an item of different ones -/
theorem ix_at : ∀ {l : List Str} {i : Nat} {x : Str}, l.Nodup → l[i]? = some x → ix l x = i
  | [], _, _, _, h => by simp at h
  | y :: r, 0, x, _, h => by
    have e : y = x := Option.some.inj h
    unfold ix
    rw [if_pos e]
  | y :: r, i + 1, x, nd, h => by
    have hr : r[i]? = some x := by simpa using h
    have hm : x ∈ r := List.mem_of_getElem? hr
    have nd' := List.nodup_cons.mp nd
    have ne : ¬ y = x := fun z => nd'.1 (z ▸ hm)
    unfold ix
    rw [if_neg ne, ix_at nd'.2 hr]
theorem flat_strs (l : List Str) : (l.map V.str).all flatV = true := by
  rw [List.all_map]
  exact List.all_eq_true.mpr fun _ _ => rfl
theorem eqV_str {a b : Str} : eqV (.str a) (.str b) = decide (a = b) := rfl
theorem ixs_at {l : List Str} {x : Str} (h : x ∈ l) : (l.map V.str)[ix l x]? = some (.str x) := by
  rw [List.getElem?_map, ix_get h]
  rfl
theorem ixs_no {l : List Str} {x : Str} : ∀ (m : Nat) (z : V), m < ix l x → (l.map V.str)[m]? = some z → eqV z (.str x) = false := fun m z hm hz => by
  rw [List.getElem?_map] at hz
  cases e : l[m]? with
  | none =>
    rw [e] at hz
    cases hz
  | some y =>
    rw [e] at hz
    cases hz
    rw [eqV_str]
    refine decide_eq_false fun q => ix_first hm ?_
    rw [e, q]
abbrev Fld := Str × List Str
abbrev Tst := Str × Str × Str
abbrev Stp := Str × Str
abbrev Cas := List Tst × Option (List Stp)
def posOf (fs : List Fld) (x : Str) : Nat := ix (fs.map (·.1)) x
def optsOf (fs : List Fld) (x : Str) : List Str := ((fs[posOf fs x]?).map (·.2)).getD []
def nextO (os : List Str) (o : Str) : Str := os.getD (min (ix os o + 1) (os.length - 1)) o
def holdsT (fs : List Fld) (v : List Str) (t : Tst) : Bool :=
  if t.2.1 = "=" then decide (ix (optsOf fs t.1) (v.getD (posOf fs t.1) Str.empty) = ix (optsOf fs t.1) t.2.2)
  else if t.2.1 = "!" then !decide (ix (optsOf fs t.1) (v.getD (posOf fs t.1) Str.empty) = ix (optsOf fs t.1) t.2.2)
  else if t.2.1 = "<" then decide (ix (optsOf fs t.1) (v.getD (posOf fs t.1) Str.empty) < ix (optsOf fs t.1) t.2.2)
  else decide (ix (optsOf fs t.1) t.2.2 < ix (optsOf fs t.1) (v.getD (posOf fs t.1) Str.empty))
def stepO (fs : List Fld) (v : List Str) (s : Stp) : List Str :=
  v.set (posOf fs s.1) (if s.2 = "+" then nextO (optsOf fs s.1) (v.getD (posOf fs s.1) Str.empty) else s.2)
def stepped (fs : List Fld) (ss : List Stp) (v : List Str) : List Str := ss.foldl (stepO fs) v
def applyP (fs : List Fld) : List Cas → List Str → Option (List Str)
  | [], _ => none
  | c :: r, v => if c.1.all (holdsT fs v) = true then c.2.map (fun ss => stepped fs ss v) else applyP fs r v
def applyH (fs : List Fld) (p : List Cas) : Option (List Str) → Option (List Str)
  | none => none
  | some v => applyP fs p v
/-! what fits -/
def FitV (fs : List Fld) (v : List Str) : Prop := v.length = fs.length ∧ ∀ (i : Nat) (f : Fld) (o : Str), fs[i]? = some f → v[i]? = some o → o ∈ f.2
def FitT (fs : List Fld) (t : Tst) : Prop := t.1 ∈ fs.map (·.1) ∧ t.2.2 ∈ optsOf fs t.1
def FitS (fs : List Fld) (s : Stp) : Prop := s.1 ∈ fs.map (·.1) ∧ (s.2 ≠ "+" → s.2 ∈ optsOf fs s.1)
structure FitC (fs : List Fld) (c : Cas) : Prop where
  t : ∀ t ∈ c.1, FitT fs t
  s : ∀ ss, c.2 = some ss → ∀ s ∈ ss, FitS fs s
  lt : c.1.length ≤ 1000
  ls : ∀ ss, c.2 = some ss → ss.length ≤ 1000
theorem pos_at {fs : List Fld} {x : Str} (h : x ∈ fs.map (·.1)) : ∃ f, fs[posOf fs x]? = some f ∧ f.1 = x ∧ f.2 = optsOf fs x := by
  have q := ix_get h
  rw [List.getElem?_map] at q
  unfold optsOf
  show ∃ f, fs[posOf fs x]? = some f ∧ _
  have q' : (fs[posOf fs x]?).map (·.1) = some x := q
  cases e : fs[posOf fs x]? with
  | none =>
    rw [e] at q'
    cases q'
  | some f =>
    rw [e] at q'
    exact ⟨f, rfl, Option.some.inj q', rfl⟩
theorem fit_at {fs : List Fld} {v : List Str} {x : Str} (hv : FitV fs v) (h : x ∈ fs.map (·.1)) : ∃ o, v[posOf fs x]? = some o ∧ o ∈ optsOf fs x ∧ v.getD (posOf fs x) Str.empty = o := by
  obtain ⟨f, h1, h2, h3⟩ := pos_at h
  have hl : posOf fs x < v.length := by
    rw [hv.1]
    exact (List.getElem?_eq_some_iff.mp h1).1
  refine ⟨v[posOf fs x], List.getElem?_eq_getElem hl, ?_, ?_⟩
  · rw [← h3]
    exact hv.2 _ _ _ h1 (List.getElem?_eq_getElem hl)
  · rw [List.getD_eq_getElem?_getD, List.getElem?_eq_getElem hl]
    rfl
theorem next_mem {os : List Str} {o : Str} (h : o ∈ os) : os[min (ix os o + 1) (os.length - 1)]? = some (nextO os o) ∧ nextO os o ∈ os := by
  have hl := ix_lt h
  have hm : min (ix os o + 1) (os.length - 1) < os.length := by omega
  have e : os[min (ix os o + 1) (os.length - 1)]? = some (nextO os o) := by
    unfold nextO
    rw [List.getD_eq_getElem?_getD, List.getElem?_eq_getElem hm]
    rfl
  exact ⟨e, List.mem_of_getElem? e⟩
theorem step_fit {fs : List Fld} {v : List Str} {s : Stp} (hv : FitV fs v) (hs : FitS fs s) : FitV fs (stepO fs v s) := by
  refine ⟨by unfold stepO; rw [List.length_set]; exact hv.1, fun i f o hf ho => ?_⟩
  unfold stepO at ho
  obtain ⟨f', h1, h2, h3⟩ := pos_at hs.1
  obtain ⟨o', g1, g2, g3⟩ := fit_at hv hs.1
  rw [List.getElem?_set] at ho
  by_cases e : posOf fs s.1 = i
  · rw [if_pos e] at ho
    have hl : i < v.length := by
      rw [hv.1]
      exact (List.getElem?_eq_some_iff.mp hf).1
    rw [if_pos (e ▸ hl)] at ho
    have ho' := Option.some.inj ho
    rw [e, hf] at h1
    cases h1
    rw [← ho', h3]
    by_cases z : s.2 = "+"
    · rw [if_pos z, g3]
      exact (next_mem g2).2
    · rw [if_neg z]
      exact hs.2 z
  · rw [if_neg e] at ho
    exact hv.2 i f o hf ho
theorem stepped_fit {fs : List Fld} : ∀ {ss : List Stp} {v : List Str}, (∀ s ∈ ss, FitS fs s) → FitV fs v → FitV fs (stepped fs ss v)
  | [], _, _, hv => hv
  | s :: ss, v, h, hv => stepped_fit (ss := ss) (v := stepO fs v s) (fun s' hs' => h s' (List.mem_cons_of_mem _ hs')) (step_fit hv (h s (List.mem_cons_self ..)))
theorem stepped_take {fs : List Fld} {ss : List Stp} {v : List Str} {i : Nat} {s : Stp} (h : ss[i]? = some s) : stepped fs (ss.take (i + 1)) v = stepO fs (stepped fs (ss.take i) v) s := by
  unfold stepped
  rw [List.take_add_one, h, List.foldl_append]
  rfl
/-! as data -/
def dF (f : Fld) : PyData := .tuple [.str f.1, .tuple (f.2.map PyData.str)]
def dT (t : Tst) : PyData := .tuple [.str t.1, .str t.2.1, .str t.2.2]
def dS (s : Stp) : PyData := .tuple [.str s.1, .str s.2]
def dO : Option (List Stp) → PyData
  | none => .none
  | some ss => .tuple (ss.map dS)
def dC (c : Cas) : PyData := .tuple [.tuple (c.1.map dT), dO c.2]
def dV (v : List Str) : PyData := .tuple (v.map PyData.str)
def dH : Option (List Str) → PyData
  | none => .none
  | some v => dV v
section
variable {K : PySem.W.Frag} {H : Hp} {v : V}
theorem dp_dF {f : Fld} (h : Dp K H v (dF f)) : ∃ a o, v = .ref a ∧ SqT K H a [.str f.1, .ref o] ∧ SqT K H o (f.2.map V.str) := by
  obtain ⟨a, xs, rfl, h1, h2⟩ := dp_tup h
  obtain ⟨x, r, rfl, k1, k2⟩ := dpa_cons h2
  obtain ⟨y, r', rfl, k3, k4⟩ := dpa_cons k2
  cases dpa_nil k4
  cases dp_str k1
  obtain ⟨o, ys, rfl, m1, m2⟩ := dp_tup k3
  rw [dp_strs m2] at m1
  exact ⟨a, o, rfl, h1, m1⟩
theorem dp_dT {t : Tst} (h : Dp K H v (dT t)) : ∃ a, v = .ref a ∧ SqT K H a [.str t.1, .str t.2.1, .str t.2.2] := by
  obtain ⟨a, xs, rfl, h1, h2⟩ := dp_tup h
  obtain ⟨x, r, rfl, k1, k2⟩ := dpa_cons h2
  obtain ⟨y, r', rfl, k3, k4⟩ := dpa_cons k2
  obtain ⟨z, r'', rfl, k5, k6⟩ := dpa_cons k4
  cases dpa_nil k6
  cases dp_str k1
  cases dp_str k3
  cases dp_str k5
  exact ⟨a, rfl, h1⟩
theorem dp_dS {s : Stp} (h : Dp K H v (dS s)) : ∃ a, v = .ref a ∧ SqT K H a [.str s.1, .str s.2] := by
  obtain ⟨a, xs, rfl, h1, h2⟩ := dp_tup h
  obtain ⟨x, r, rfl, k1, k2⟩ := dpa_cons h2
  obtain ⟨y, r', rfl, k3, k4⟩ := dpa_cons k2
  cases dpa_nil k4
  cases dp_str k1
  cases dp_str k3
  exact ⟨a, rfl, h1⟩
theorem dp_dC {c : Cas} (h : Dp K H v (dC c)) : ∃ a t y, v = .ref a ∧ SqT K H a [.ref t, y] ∧ Dp K H (.ref t) (.tuple (c.1.map dT)) ∧ Dp K H y (dO c.2) := by
  obtain ⟨a, xs, rfl, h1, h2⟩ := dp_tup h
  obtain ⟨x, r, rfl, k1, k2⟩ := dpa_cons h2
  obtain ⟨y, r', rfl, k3, k4⟩ := dpa_cons k2
  cases dpa_nil k4
  obtain ⟨t, ys, rfl, m1, m2⟩ := dp_tup k1
  exact ⟨a, t, y, rfl, h1, .tup m1 m2, k3⟩
theorem dp_dV {w : List Str} (h : Dp K H v (dV w)) : ∃ a, v = .ref a ∧ SqT K H a (w.map V.str) := by
  obtain ⟨a, xs, rfl, h1, h2⟩ := dp_tup h
  rw [dp_strs h2] at h1
  exact ⟨a, rfl, h1⟩
theorem dV_dp {w : List Str} {a : Addr} (h : SqT K H a (w.map V.str)) : Dp K H (.ref a) (dV w) := .tup h (strs_dp w)
end
/-! fields as they stand: the options are tuples of which .index is asked -/
def FdAt (K : PySem.W.Frag) (H : Hp) (v : V) (f : Fld) : Prop := ∃ a o, v = .ref a ∧ SqT K H a [.str f.1, .ref o] ∧ SqP K H o (f.2.map V.str)
def FsAt (K : PySem.W.Frag) (H : Hp) (v : V) (fs : List Fld) : Prop := ∃ a xs, v = .ref a ∧ (SqL K H a xs ∨ SqT K H a xs) ∧ Paired (FdAt K H) xs fs
section
variable {K : PySem.W.Frag} {H H' : Hp} {v : V} {f : Fld} {fs : List Fld} {xs : List V}
theorem FdAt.mono (e : Same H H') (h : FdAt K H v f) : FdAt K H' v f := by
  obtain ⟨a, o, h1, h2, h3⟩ := h
  exact ⟨a, o, h1, Same.tup e h2, h3.mono e⟩
theorem fds_mono (e : Same H H') : ∀ {xs : List V} {fs : List Fld}, Paired (FdAt K H) xs fs → Paired (FdAt K H') xs fs
  | _, _, .nil => .nil
  | _, _, .cons h t => .cons (h.mono e) (fds_mono e t)
theorem FsAt.mono (e : Same H H') (h : FsAt K H v fs) : FsAt K H' v fs := by
  obtain ⟨a, xs, h1, h2, h3⟩ := h
  exact ⟨a, xs, h1, h2.imp e.seq (Same.tup e), fds_mono e h3⟩
theorem FdAt.dp (h : FdAt K H v f) : Dp K H v (dF f) := by
  obtain ⟨a, o, rfl, h2, h3⟩ := h
  exact .tup h2 (.cons (.str _) (.cons (.tup h3.sqT (strs_dp _)) .nil))
theorem fds_dp : ∀ {xs : List V} {fs : List Fld}, Paired (FdAt K H) xs fs → DpAll K H xs (fs.map dF)
  | _, _, .nil => .nil
  | _, _, .cons h t => .cons h.dp (fds_dp t)
theorem FsAt.dpS (h : FsAt K H v fs) : DpS K H v (fs.map dF) := by
  obtain ⟨a, xs, h1, h2, h3⟩ := h
  exact ⟨a, xs, h1, h2, fds_dp h3⟩
theorem fds_get : ∀ {xs : List V} {fs : List Fld} {i : Nat} {f : Fld}, Paired (FdAt K H) xs fs → fs[i]? = some f → ∃ x, xs[i]? = some x ∧ FdAt K H x f
  | _, _, _, _, .nil, e => by simp at e
  | _, _, 0, _, .cons h _, e => by
    simp at e
    subst e
    exact ⟨_, rfl, h⟩
  | _, _, i + 1, f, .cons _ t, e => by
    obtain ⟨x, h1, h2⟩ := fds_get (i := i) (f := f) t (by simpa using e)
    exact ⟨x, by simpa using h1, h2⟩
/-- fields[i][1], for the place i of a field x -/
theorem FsAt.opts {x : Str} (h : FsAt K H v fs) (hx : x ∈ fs.map (·.1)) : ∃ a xs t o, v = .ref a ∧ (SqL K H a xs ∨ SqT K H a xs) ∧ atI xs ((posOf fs x : Nat) : Int) = some (.ref t) ∧ SqT K H t [.str x, .ref o] ∧ SqP K H o ((optsOf fs x).map V.str) := by
  obtain ⟨a, xs, h1, h2, h3⟩ := h
  obtain ⟨f, k1, k2, k3⟩ := pos_at hx
  obtain ⟨y, m1, t, o, rfl, m2, m3⟩ := fds_get h3 k1
  rw [k2] at m2
  rw [k3] at m3
  exact ⟨a, xs, t, o, h1, h2, atI_nat m1, m2, m3⟩
end
/-! ### walks over a list or a tuple at a name -/
theorem iSeqV {K : PySem.W.Frag} {σ : L2.St} {H : Hp} {i : Nat} {a : Addr} {xs : List V} {R : It → Hp → Prop} (hσ : σ[i]? = some (some (.ref a))) (h : SqL K H a xs ∨ SqT K H a xs)
    (k : ∀ (J : It) (G : Hp → Prop), Walk J xs.length G (YAt xs) → (∀ H', Same H H' → G H') → R J H) : iSeq K (tVar i) σ H R := by
  rcases h with h | h
  · exact .inl ⟨.ref a, hσ, a, rfl, ⟨xs, h⟩, k _ _ walk_list fun H' e => e.seq h⟩
  · exact .inr ⟨.ref a, hσ, a, rfl, ⟨xs, h⟩, k _ _ walk_tup fun H' e => Same.tup e h⟩
end Bh
namespace Bh
open PySem PySem.Spec PyProof.Rows L2
theorem rIx_go {K : PySem.W.Frag} {H : Hp} {a : Addr} {xs : List V} {i : Int} {v : V} {Q : VK} (h : SqL K H a xs ∨ SqT K H a xs) (e : atI xs i = some v) (q : Q v H) : rIx K (.ref a) (.int i) H Q := by
  rcases h with h | h
  · exact .inl ⟨a, xs, i, v, rfl, rfl, h, e, q⟩
  · exact .inr (.inl ⟨a, xs, i, v, rfl, rfl, h, e, q⟩)
theorem dec_int {m n : Nat} : decide (V.int (m : Int) = V.int (n : Int)) = decide (m = n) := by
  refine decide_eq_decide.mpr ⟨fun h => ?_, fun h => by rw [h]⟩
  have e := V.int.inj h
  omega
theorem dec_lt {m n : Nat} : decide ((m : Int) < (n : Int)) = decide (m < n) := decide_eq_decide.mpr ⟨fun h => by omega, fun h => by omega⟩
theorem str_ne {a b : Str} (h : ¬ V.str a = V.str b) : a ≠ b := fun e => h (by rw [e])
end Bh

set_option Elab.async false
set_option linter.all false
set_option maxRecDepth 100000
namespace Bh
open PySem PySem.Spec PyProof.Rows L2
/-! ### what is drawn: names, options, fields, cases, programs -/
def pool : List Str := ["0", "1", "2", "10", "a", "b", "far", "x9", "zzzzzzzz", "7up"]
def tails : List Str := ["", "a", "qq", "xyz", "mmmmmmm"]
def letters : Str := "abcdefghijklmnopqrstuvwxyz"
theorem pool_nodup : pool.Nodup := by decide +kernel
theorem perm_strs {l : List Str} {ys : List V} (h : ys.Perm (l.map V.str)) : ∃ zs : List Str, zs.Perm l ∧ ys = zs.map V.str := by
  let g : V → Str := fun v => match v with
    | .str z => z
    | _ => Str.empty
  refine ⟨ys.map g, ?_, ?_⟩
  · have q := h.map g
    rw [List.map_map] at q
    have e : (g ∘ V.str) = id := by
      funext z
      rfl
    rw [e, List.map_id] at q
    exact q
  · rw [List.map_map]
    have q : ∀ v ∈ ys, (V.str ∘ g) v = v := fun v hv => by
      obtain ⟨z, _, rfl⟩ := List.mem_map.mp (h.mem_iff.mp hv)
      rfl
    rw [List.map_congr_left q, List.map_id']
/-- a name: one to eight lowercase letters -/
structure IsNm (w : Str) : Prop where
  lo : 1 ≤ w.length
  hi : w.length ≤ 8
  az : ∀ c ∈ w.cps.toList, 97 ≤ c ∧ c ≤ 122
def wordK (z : Str) (k c : Nat) : Str := cutS z none (some (k : Int)) ++ ⟨#[c]⟩ ++ cutS z (some (k : Int)) none
theorem cut_lo (z : Str) (k : Nat) : (cutS z none (some (k : Int))).cps.toList = z.cps.toList.take k := by
  unfold cutS
  rw [HT.sIx_none, HT.sIx_nat]
  show ((z.cps.toList.drop 0).take (min k z.length - 0)) = _
  rw [List.drop_zero, Nat.sub_zero]
  have e1 : z.cps.toList.length = z.cps.size := by simp
  have e2 : z.length = z.cps.size := rfl
  by_cases h : k ≤ z.length
  · rw [Nat.min_eq_left h]
  · rw [Nat.min_eq_right (by omega), List.take_of_length_le (by omega), List.take_of_length_le (by omega)]
theorem cut_hi (z : Str) (k : Nat) (h : k ≤ z.length) : (cutS z (some (k : Int)) none).cps.toList = z.cps.toList.drop k := by
  unfold cutS
  rw [HT.sIx_none, HT.sIx_nat, Nat.min_eq_left h]
  show ((z.cps.toList.drop k).take (z.length - k)) = _
  refine List.take_of_length_le ?_
  rw [List.length_drop]
  have : z.cps.toList.length = z.cps.size := by simp
  have : z.length = z.cps.size := rfl
  omega
theorem wordK_cps (z : Str) (k c : Nat) (h : k ≤ z.length) : (wordK z k c).cps.toList = z.cps.toList.take k ++ (c :: z.cps.toList.drop k) := by
  have e : (wordK z k c).cps = (cutS z none (some (k : Int))).cps ++ #[c] ++ (cutS z (some (k : Int)) none).cps := rfl
  rw [e, Array.toList_append, Array.toList_append, cut_lo, cut_hi z k h]
  simp
theorem wordK_length (z : Str) (k c : Nat) (h : k ≤ z.length) : (wordK z k c).length = z.length + 1 := by
  have e : (wordK z k c).length = (wordK z k c).cps.toList.length := by
    show (wordK z k c).cps.size = _
    simp
  rw [e, wordK_cps z k c h, List.length_append, List.length_take, List.length_cons, List.length_drop]
  have : z.cps.toList.length = z.cps.size := by simp
  have : z.length = z.cps.size := rfl
  omega
theorem wordK_inj {z : Str} {k c d : Nat} (h : k ≤ z.length) (e : wordK z k c = wordK z k d) : c = d := by
  have q := congrArg (fun s : Str => s.cps.toList) e
  simp only [wordK_cps z k _ h] at q
  have q2 := List.append_cancel_left q
  exact (List.cons.inj q2).1
theorem tails_ok : ∀ z ∈ tails, z.length ≤ 7 ∧ ∀ c ∈ z.cps.toList, 97 ≤ c ∧ c ≤ 122 := by
  decide +kernel
theorem wordK_nm {z : Str} (hz : z ∈ tails) {k c : Nat} (h : k ≤ z.length) (h1 : 97 ≤ c) (h2 : c ≤ 122) : IsNm (wordK z k c) := by
  obtain ⟨t1, t2⟩ := tails_ok z hz
  refine ⟨by rw [wordK_length z k c h]; omega, by rw [wordK_length z k c h]; omega, fun d hd => ?_⟩
  rw [wordK_cps z k c h] at hd
  rcases List.mem_append.mp hd with q | q
  · exact t2 d (List.mem_of_mem_take q)
  · rcases List.mem_cons.mp q with q | q
    · rw [q]
      exact ⟨h1, h2⟩
    · exact t2 d (List.mem_of_mem_drop q)
theorem letters_at {j : Int} (h0 : 0 ≤ j) (h1 : j < 26) : atI letters.cps.toList j = some (97 + j.toNat) := by
  have key : ∀ k : _root_.Fin 26, letters.cps.toList[k.val]? = some (97 + k.val) := by decide +kernel
  exact at_nn h0 (key ⟨j.toNat, by omega⟩)
def wordsOf (z : Str) (k : Nat) (s : Int) (n : Nat) : List Str := (List.range n).map fun (i : Nat) => wordK z k (97 + ((s + 5 * (i : Int)) % 26).toNat)
theorem wordsOf_nodup {z : Str} {k : Nat} {s : Int} {n : Nat} (h : k ≤ z.length) (hn : n ≤ 3) : (wordsOf z k s n).Nodup := by
  unfold wordsOf
  refine List.pairwise_map.mpr ((List.pairwise_lt_range (n := n)).imp_of_mem fun {a b} ha hb hab e => ?_)
  have h2 := List.mem_range.mp hb
  have q := wordK_inj h e
  omega
theorem wordsOf_nm {z : Str} (hz : z ∈ tails) {k : Nat} {s : Int} {n : Nat} (h : k ≤ z.length) : ∀ w ∈ wordsOf z k s n, IsNm w := fun w hw => by
  obtain ⟨i, _, rfl⟩ := List.mem_map.mp hw
  exact wordK_nm hz h (by omega) (by omega)
theorem wordsOf_len {z : Str} {k : Nat} {s : Int} {n : Nat} : (wordsOf z k s n).length = n := by
  unfold wordsOf
  rw [List.length_map, List.length_range]
/-- fields as the laws draw them -/
structure FsOk (fs : List Fld) : Prop where
  ne : 1 ≤ fs.length
  le : fs.length ≤ 3
  nd : (fs.map (·.1)).Nodup
  nm : ∀ f ∈ fs, IsNm f.1
  os : ∀ f ∈ fs, f.2.Nodup ∧ 2 ≤ f.2.length ∧ f.2.length ≤ 6 ∧ ∀ o ∈ f.2, o ∈ pool
theorem opts_of {fs : List Fld} (nd : (fs.map (·.1)).Nodup) {f : Fld} (h : f ∈ fs) : optsOf fs f.1 = f.2 := by
  obtain ⟨i, hi⟩ := List.mem_iff_getElem?.mp h
  have e : ix (fs.map (·.1)) f.1 = i := ix_at nd (by rw [List.getElem?_map, hi]; rfl)
  unfold optsOf posOf
  rw [e, hi]
  rfl
/-- signs of tests -/
def signs : List Str := ["=", "!", "<", ">"]
/-! ### promises of the defs that draw -/
def spAny (K : PySem.W.Frag) : Sp := fun vs H Q _ => ∃ (b l a : Addr) (G : Hp) (xs : List V), vs = [.ref b, .ref a] ∧ (SqL K G a xs ∨ SqT K G a xs) ∧ xs ≠ [] ∧ xs.length ≤ 100000 ∧ Wd b l G H ∧ ∀ x H', x ∈ xs → Wd b l G H' → Q x H'
def spMixed (K : PySem.W.Frag) : Sp := fun vs H Q _ => ∃ (b l a : Addr) (G : Hp) (xs : List V), vs = [.ref b, .ref a] ∧ SqL K G a xs ∧ xs.length ≤ 1000 ∧ Wd b l G H ∧
  ∀ (G' H' : Hp) (p : Addr) (ys : List V), Same G G' → Wd b l G' H' → G' p = some (.lst ys) → ys.Perm xs → Q (.ref p) H'
def spWords : Sp := fun vs H Q _ => ∃ (b l : Addr) (G : Hp) (n : Int), vs = [.ref b, .int n] ∧ 0 ≤ n ∧ n ≤ 3 ∧ Wd b l G H ∧
  ∀ (G' H' : Hp) (p : Addr) (ws : List Str), Same G G' → Wd b l G' H' → G' p = some (.lst (ws.map V.str)) → ws.length = n.toNat → ws.Nodup → (∀ w ∈ ws, IsNm w) → Q (.ref p) H'
def spOptions (K : PySem.W.Frag) : Sp := fun vs H Q _ => ∃ (b l : Addr) (G : Hp) (n : Int), vs = [.ref b, .int n] ∧ 2 ≤ n ∧ n ≤ 6 ∧ Wd b l G H ∧
  ∀ (G' H' : Hp) (p : Addr) (os : List Str), Same G G' → Wd b l G' H' → SqP K G' p (os.map V.str) → os.length = n.toNat → os.Nodup → (∀ o ∈ os, o ∈ pool) → Q (.ref p) H'
def spFields (K : PySem.W.Frag) : Sp := fun vs H Q _ => ∃ (b l : Addr) (G : Hp), vs = [.ref b, .int 24] ∧ Wd b l G H ∧
  ∀ (G' H' : Hp) (p : Addr) (xs : List V) (fs : List Fld), Same G G' → Wd b l G' H' → G' p = some (.lst xs) → Paired (FdAt K G') xs fs → FsOk fs → Q (.ref p) H'
def spCase (K : PySem.W.Frag) : Sp := fun vs H Q _ => ∃ (b l a : Addr) (G : Hp) (xs : List V) (fs : List Fld), vs = [.ref b, .ref a] ∧ SqL K G a xs ∧ Paired (FdAt K G) xs fs ∧ FsOk fs ∧ Wd b l G H ∧
  ∀ (G' H' : Hp) (y : V) (c : Cas), Same G G' → Wd b l G' H' → Dp K G' y (dC c) → FitC fs c → c.1.length ≤ 2 → (∀ ss, c.2 = some ss → ss.length ≤ 2) → (∀ t ∈ c.1, t.2.1 ∈ signs) → Q y H'
end Bh
namespace Bh
open PySem PySem.Spec PyProof.Rows L2
theorem cutV_take (xs : List V) {n : Int} (h : 0 ≤ n) : cutV xs none (some n) = xs.take n.toNat := by
  obtain ⟨k, rfl⟩ : ∃ m : Nat, n = (m : Int) := ⟨n.toNat, by omega⟩
  unfold cutV
  rw [HT.sIx_none, show HT.sIx xs.length xs.length (some (k : Int)) = min k xs.length from HT.sIx_nat _ _ k]
  show List.take (min k xs.length - 0) (List.drop 0 xs) = xs.take k
  rw [List.drop_zero, Nat.sub_zero]
  by_cases hk : k ≤ xs.length
  · rw [Nat.min_eq_left hk]
  · rw [Nat.min_eq_right (by omega), List.take_of_length_le (Nat.le_refl _), List.take_of_length_le (by omega)]
theorem fds_mem {K : PySem.W.Frag} {H : Hp} : ∀ {xs : List V} {fs : List Fld} {x : V}, Paired (FdAt K H) xs fs → x ∈ xs → ∃ f ∈ fs, FdAt K H x f
  | _, _, _, .nil, h => by cases h
  | _, _, x, .cons h t, hx => by
    rcases List.mem_cons.mp hx with e | hx
    · rw [e]
      exact ⟨_, List.mem_cons_self .., h⟩
    · obtain ⟨f, h1, h2⟩ := fds_mem t hx
      exact ⟨f, List.mem_cons_of_mem _ h1, h2⟩
theorem fds_len {K : PySem.W.Frag} {H : Hp} : ∀ {xs : List V} {fs : List Fld}, Paired (FdAt K H) xs fs → xs.length = fs.length
  | _, _, .nil => rfl
  | _, _, .cons _ t => congrArg Nat.succ (fds_len t)
theorem fds_snoc {K : PySem.W.Frag} {H : Hp} {x : V} {f : Fld} : ∀ {xs : List V} {fs : List Fld}, Paired (FdAt K H) xs fs → FdAt K H x f → Paired (FdAt K H) (xs ++ [x]) (fs ++ [f])
  | _, _, .nil, h => .cons h .nil
  | _, _, .cons k t, h => .cons k (fds_snoc t h)
theorem min_max_bound (z : Int) : 0 < (if (if z > 1 then z else 1) < 5 then (if z > 1 then z else 1) else 5) ∧ (if (if z > 1 then z else 1) < 5 then (if z > 1 then z else 1) else 5) ≤ (5 : Int) := by
  split <;> split <;> omega
end Bh
namespace Bh
open PySem PySem.Spec PyProof.Rows L2
theorem dpa_snoc {K : PySem.W.Frag} {H : Hp} {x : V} {d : PyData} {xs : List V} {ds : List PyData} (h : DpAll K H xs ds) (k : Dp K H x d) : DpAll K H (xs ++ [x]) (ds ++ [d]) := DpAll.append h (.cons k .nil)
end Bh
namespace Bh
open PySem PySem.Spec PyProof.Rows L2
theorem noL_dV (v : List Str) : noL (dV v) = true := noLs_map (fun _ => rfl) v
theorem noL_dT (t : Tst) : noL (dT t) = true := rfl
theorem noL_dS (s : Stp) : noL (dS s) = true := rfl
theorem noL_dO : ∀ o : Option (List Stp), noL (dO o) = true
  | none => rfl
  | some ss => noLs_map noL_dS ss
theorem noL_dC (c : Cas) : noL (dC c) = true := by
  show (noLs (c.1.map dT) && (noL (dO c.2) && true)) = true
  rw [noLs_map noL_dT, noL_dO]
  rfl
theorem FdAt.imm {K : PySem.W.Frag} {H H' : Hp} {v : V} {f : Fld} (e : Imm H H') (h : FdAt K H v f) : FdAt K H' v f := by
  obtain ⟨a, o, h1, h2, h3⟩ := h
  exact ⟨a, o, h1, e.tup h2, e.sqp h3⟩
theorem fds_imm {K : PySem.W.Frag} {H H' : Hp} (e : Imm H H') : ∀ {xs : List V} {fs : List Fld}, Paired (FdAt K H) xs fs → Paired (FdAt K H') xs fs
  | _, _, .nil => .nil
  | _, _, .cons h t => .cons (h.imm e) (fds_imm e t)
def spProg (K : PySem.W.Frag) : Sp := fun vs H Q _ => ∃ (b l a : Addr) (G : Hp) (n : Int) (xs : List V) (fs : List Fld), vs = [.ref b, .ref a, .int n] ∧ SqL K G a xs ∧ Paired (FdAt K G) xs fs ∧ FsOk fs ∧ 0 < n ∧ n ≤ 8 ∧ Wd b l G H ∧
  ∀ (G' H' : Hp) (y : V) (p : List Cas), Same G G' → Wd b l G' H' → Dp K G' y (.tuple (p.map dC)) → (∀ c ∈ p, FitC fs c ∧ c.1.length ≤ 2 ∧ (∀ ss, c.2 = some ss → ss.length ≤ 2) ∧ ∀ t ∈ c.1, t.2.1 ∈ signs) → 1 ≤ p.length → p.length ≤ 8 → Q y H'
/-! all values -/
def ext1 (acc : List (List Str)) (f : Fld) : List (List Str) := acc.flatMap fun v => f.2.map fun o => v ++ [o]
def vals (fs : List Fld) : List (List Str) := fs.foldl ext1 [[]]
theorem flat_len (os : List Str) : ∀ acc : List (List Str), (acc.flatMap fun v => os.map fun o => v ++ [o]).length = acc.length * os.length
  | [] => by simp
  | v :: r => by
    rw [List.flatMap_cons, List.length_append, List.length_map, flat_len os r, List.length_cons, Nat.succ_mul]
    omega
theorem vals_take {fs : List Fld} {i : Nat} {f : Fld} (h : fs[i]? = some f) : vals (fs.take (i + 1)) = ext1 (vals (fs.take i)) f := by
  unfold vals
  rw [List.take_add_one, h, List.foldl_append]
  rfl
theorem vals_len {fs : List Fld} (h : ∀ f ∈ fs, f.2.length ≤ 6) : ∀ i : Nat, (vals (fs.take i)).length ≤ 6 ^ i
  | 0 => by
    rw [List.take_zero]
    exact Nat.le_refl 1
  | i + 1 => by
    cases e : fs[i]? with
    | none =>
      have hl : fs.length ≤ i := List.getElem?_eq_none_iff.mp e
      rw [List.take_of_length_le (by omega), show fs = fs.take i from (List.take_of_length_le hl).symm]
      refine Nat.le_trans (vals_len h i) ?_
      rw [Nat.pow_succ]
      exact Nat.le_mul_of_pos_right _ (by decide)
    | some f =>
      rw [vals_take e]
      unfold ext1
      rw [flat_len, Nat.pow_succ]
      exact Nat.mul_le_mul (vals_len h i) (h f (List.mem_of_getElem? e))
theorem vals_fit : ∀ (fs done : List Fld) (acc : List (List Str)), (∀ v ∈ acc, FitV done v) → ∀ v ∈ fs.foldl ext1 acc, FitV (done ++ fs) v
  | [], done, acc, h, v, hv => by
    rw [List.append_nil]
    exact h v hv
  | f :: r, done, acc, h, v, hv => by
    have e : done ++ f :: r = (done ++ [f]) ++ r := by simp
    rw [e]
    refine vals_fit r (done ++ [f]) (ext1 acc f) (fun w hw => ?_) v hv
    obtain ⟨u, hu, hw2⟩ := List.mem_flatMap.mp hw
    obtain ⟨o, ho, rfl⟩ := List.mem_map.mp hw2
    obtain ⟨l1, l2⟩ := h u hu
    refine ⟨by rw [List.length_append, List.length_append, l1]; rfl, fun i g o' hg ho' => ?_⟩
    by_cases hi : i < done.length
    · rw [List.getElem?_append_left hi] at hg
      rw [List.getElem?_append_left (by omega)] at ho'
      exact l2 i g o' hg ho'
    · rw [List.getElem?_append_right (by omega)] at hg
      rw [List.getElem?_append_right (by omega), l1] at ho'
      have hz : i - done.length = 0 := by
        have := (List.getElem?_eq_some_iff.mp hg).1
        simp at this
        omega
      rw [hz] at hg ho'
      cases hg
      cases ho'
      exact ho
theorem vals_ok {fs : List Fld} : ∀ v ∈ vals fs, FitV fs v := by
  have q := vals_fit fs [] [[]] (fun v hv => by
    cases List.mem_singleton.mp hv
    exact ⟨rfl, fun i f o h => by simp at h⟩)
  show ∀ v ∈ fs.foldl ext1 [[]], FitV fs v
  simpa using q
def spVals (K : PySem.W.Frag) : Sp := fun vs H Q _ => ∃ (a : Addr) (xs : List V) (fs : List Fld), vs = [.ref a] ∧ SqL K H a xs ∧ Paired (FdAt K H) xs fs ∧ FsOk fs ∧
  ∀ (H' : Hp) (p : Addr) (ys : List V), Same H H' → H' p = some (.lst ys) → DpAll K H' ys ((vals fs).map dV) → Q (.ref p) H'
end Bh


set_option Elab.async false
set_option linter.all false
set_option maxRecDepth 100000
set_option maxHeartbeats 1000000
namespace Bh
open PySem PySem.Spec PyProof.Rows L2
section
variable {P : Program} {w : World} {K : PySem.W.Frag} {mg : Str → Option Value} {base : Heap}
theorem ok_any (T : Top K mg) : FnOk P w K mg base CX0 2 T.a_l_any T.fd_l_any ["_law_bag_here", "_law_row"] (spAny K) := by
  have G_l_draw := ok_draw (P := P) (w := w) (base := base) T
  refine T.d_l_any.F.ok sc_l_any (fun vs H Q E h => ?_) (fun cdv A outer s H vs Q E hr h => ?_)
  · obtain ⟨b, l, a, G, xs, rfl, _⟩ := h
    rfl
  obtain ⟨b, l, a, G, xs, rfl, hS, ne, hl, wd, q⟩ := h
  refine ⟨_, (pss_one (ps_ret (pe_ix (ix_seq_K (K := K) (by rfl)) (pv 1) (pe_call G_l_draw (hr.mono (by decide)) (by rfl) T.d_l_draw.g T.d_l_draw.kp T.d_l_draw.b .nil pass0 (pa_cons (pv 0) (pa_cons (pe_callB (call_len_seq_K (K := K) (by rfl)) (by rfl) T.b_len PySem.boot_len (pa_cons (pv 1) pa_nil)) pa_nil))) (fun _ _ => rfl)))), ?_⟩
  have hp : 0 < xs.length := List.length_pos_iff.mpr ne
  refine ⟨_, rfl, _, rfl, _, rfl, a, xs, rfl, seq_mono wd.sm hS, b, l, G, _, rfl, by omega, by omega, wd, fun r H1 r0 r1 w1 => ?_⟩
  obtain ⟨v, e, hm⟩ := at_lt r0 r1
  exact rIx_go (seq_mono w1.sm hS) e (q v H1 hm w1)
theorem ok_mixed (T : Top K mg) : FnOk P w K mg base CX0 2 T.a_l_mixed T.fd_l_mixed ["_law_bag_here", "_law_row"] (spMixed K) := by
  have G_l_draw := ok_draw (P := P) (w := w) (base := base) T
  refine T.d_l_mixed.F.ok sc_l_mixed (fun vs H Q E h => ?_) (fun cdv A outer s H vs Q E hr h => ?_)
  · obtain ⟨b, l, a, G, xs, rfl, _⟩ := h
    rfl
  obtain ⟨b, l, a, G, xs, rfl, hS, hl, wd, q⟩ := h
  refine ⟨_, (pss_cons (ps_set (i := 2) sc_l_mixed.nd rfl (Or.inl rfl) (pe_lst pa_nil))
    (pss_cons (ps_for PassesOwn.never rfl (pi_list_K (K := K) (by rfl) (pv 1)) (pg_name (i := 3) sc_l_mixed.nd rfl (Or.inl rfl))
      (pss_one (ps_expr (pe_bm_K (K := K) (by rfl) PySem.F.plainAttrs_list PySem.F.slot_list_insert PySem.F.type_list_insert mt_insert (pv 2) (pa_cons (pe_call G_l_draw (hr.mono (by decide)) (by rfl) T.d_l_draw.g T.d_l_draw.kp T.d_l_draw.b .nil pass0 (pa_cons (pv 0) (pa_cons (pe_op op_add (pe_callB (call_len_seq_K (K := K) (by rfl)) (by rfl) T.b_len PySem.boot_len (pa_cons (pv 2) pa_nil)) pe_int) pa_nil))) (pa_cons (pv 3) pa_nil))))))
    (pss_one (ps_ret (pv 2))))), ?_⟩
  refine ⟨Nat.zero_le _, fun p np => ?_⟩
  have gp : G p = none := wd.free np
  refine ⟨_, rfl, a, rfl, ⟨_, (wd.sm.trans (same_new np)).seq hS⟩, for_it walk_list (fun i σ H' => ∃ v3 G' ys, σ = [some (.ref b), some (.ref a), some (.ref p), v3] ∧ Same G G' ∧ Wd b l G' H' ∧ G' p = some (.lst ys) ∧ ys.Perm (xs.take i))
    ⟨none, _, [], rfl, same_new gp, wd.new np, upd_same, .nil⟩ (fun i σ H' _ ⟨_, _, _, _, e, w', _⟩ => (e.trans w'.sm).seq hS) ?_ ?_⟩
  · rintro i x σ H' H'' hi ⟨v3, G', ys, rfl, sg, w1, hp, pm⟩ ⟨rfl, ex⟩
    have ly : ys.length = i := by
      rw [pm.length_eq, List.length_take]
      omega
    refine ⟨_, rfl, .inl ⟨rfl, _, SqL.of (w1.sm _ _ hp)⟩, _, rfl, _, rfl, p, ys, rfl, .inl (SqL.of (w1.sm _ _ hp)), _, _, rfl, rfl, b, l, G', _, rfl, by omega, by omega, w1, fun r H1 r0 r1 w2 => ?_⟩
    refine ⟨_, rfl, p, ys, r, x, rfl, rfl, w2.sm _ _ hp, lt_line (by omega), r0, by omega, ?_⟩
    refine ⟨_, _, ys.take r.toNat ++ [x] ++ ys.drop r.toNat, rfl, same_mut sg gp, w2.mut hp, upd_same, ?_⟩
    have e : xs.take (i + 1) = xs.take i ++ [x] := by rw [List.take_add_one, ex]; rfl
    rw [e]
    have k : (ys.take r.toNat ++ [x] ++ ys.drop r.toNat).Perm (ys.take r.toNat ++ ys.drop r.toNat ++ [x]) := by
      rw [List.append_assoc, List.append_assoc]
      exact List.Perm.append_left _ List.perm_append_comm
    rw [List.take_append_drop] at k
    exact k.trans (pm.append_right [x])
  · rintro σ H' ⟨v3, G', ys, rfl, sg, w1, hp, pm⟩
    rw [List.take_length] at pm
    exact ⟨_, rfl, q G' H' p ys sg w1 hp pm⟩
end
end Bh

set_option Elab.async false
set_option linter.all false
set_option maxRecDepth 100000
set_option maxHeartbeats 4000000
namespace Bh
open PySem PySem.Spec PyProof.Rows L2
section
variable {P : Program} {w : World} {K : PySem.W.Frag} {mg : Str → Option Value} {base : Heap}

theorem paired_at {α β : Type} {F : α → β → Prop} : ∀ {l : List α} {m : List β} {i : Nat} {y : β}, Paired F l m → m[i]? = some y → ∃ x, l[i]? = some x ∧ F x y
  | _, _, _, _, .nil, e => by cases e
  | _, _, 0, _, .cons h _, e => by
    cases e
    exact ⟨_, rfl, h⟩
  | _, _, i + 1, _, .cons _ t, e => paired_at (i := i) t e
def names : List Str := ["InvalidField", "InvalidTie", "InvalidKind", "InvalidHolding", "InvalidRulebook", "InvalidName", "InvalidNetwork", "InvalidState", "InvalidLook", "InvalidCount", "InvalidCommand", "InvalidLimit", "InvalidPage", "DuplicateCell", "DuplicateTie", "KindsDiffer", "BooksDiffer", "Unsettled", "Full", "EmptyHistory", "UnknownCell", "UnknownKind", "UnknownTie", "UnknownField", "MissingTie", "UnknownMoment"]
theorem names_nd : names.Nodup := by decide +kernel
theorem names_ne {m j : Nat} {n1 n2 : Str} (h : m ≠ j) (h1 : names[m]? = some n1) (h2 : names[j]? = some n2) : n1 ≠ n2 := fun e => h ((List.getElem?_inj (List.getElem?_eq_some_iff.mp h1).1 names_nd).mp (by rw [h1, h2, e]))
theorem codes_at {m : Nat} {z : V} (h : (names.map V.str)[m]? = some z) : ∃ n, names[m]? = some n ∧ z = .str n := by
  rw [List.getElem?_map] at h
  cases e : names[m]? with
  | none =>
    rw [e] at h
    cases h
  | some n =>
    rw [e] at h
    cases h
    exact ⟨n, rfl, rfl⟩
theorem rows_n {K : PySem.W.Frag} {mg : Str → Option Value} (T : Top K mg) : T.rows.map (fun r => r.2.1) = names := rfl
theorem Wd.fresh1 {b l : Addr} {G H H' : Hp} (w : Wd b l G H) (e : Same H H') : Wd b l (hid b (hid l H')) H' ∧ Same G (hid b (hid l H')) ∧ Same (newOf H H') (hid b (hid l H')) := by
  have hb := w.bag.same e
  refine ⟨⟨?_, ?_, hid_le.trans hid_le, hb⟩, hid_of (hid_of (w.sm.trans e) w.nl) w.nb, fun a o z => ?_⟩
  · unfold hid
    rw [if_pos rfl]
  · show hid b (hid l H') l = none
    rw [hid_comm]
    unfold hid
    rw [if_pos rfl]
  · have n : H a = none := by
      cases q : H a with
      | none => rfl
      | some u =>
        unfold newOf at z
        rw [if_neg (by rw [q]; exact fun z => nomatch z)] at z
        cases z
    rw [newOf_at n] at z
    rw [hid_ne (w.b_ne n), hid_ne (w.l_ne n)]
    exact z
theorem Top.rows_cd {K : PySem.W.Frag} {mg : Str → Option Value} (T : Top K mg) : ∀ r ∈ T.rows, PySem.W.findIn K (.ref r.1) "code" = some none := by
  intro r h
  unfold Top.rows at h
  rcases List.mem_cons.mp h with rfl | h
  · exact T.r_InvalidField.n _ (by decide)
  rcases List.mem_cons.mp h with rfl | h
  · exact T.r_InvalidTie.n _ (by decide)
  rcases List.mem_cons.mp h with rfl | h
  · exact T.r_InvalidKind.n _ (by decide)
  rcases List.mem_cons.mp h with rfl | h
  · exact T.r_InvalidHolding.n _ (by decide)
  rcases List.mem_cons.mp h with rfl | h
  · exact T.r_InvalidRulebook.n _ (by decide)
  rcases List.mem_cons.mp h with rfl | h
  · exact T.r_InvalidName.n _ (by decide)
  rcases List.mem_cons.mp h with rfl | h
  · exact T.r_InvalidNetwork.n _ (by decide)
  rcases List.mem_cons.mp h with rfl | h
  · exact T.r_InvalidState.n _ (by decide)
  rcases List.mem_cons.mp h with rfl | h
  · exact T.r_InvalidLook.n _ (by decide)
  rcases List.mem_cons.mp h with rfl | h
  · exact T.r_InvalidCount.n _ (by decide)
  rcases List.mem_cons.mp h with rfl | h
  · exact T.r_InvalidCommand.n _ (by decide)
  rcases List.mem_cons.mp h with rfl | h
  · exact T.r_InvalidLimit.n _ (by decide)
  rcases List.mem_cons.mp h with rfl | h
  · exact T.r_InvalidPage.n _ (by decide)
  rcases List.mem_cons.mp h with rfl | h
  · exact T.r_DuplicateCell.n _ (by decide)
  rcases List.mem_cons.mp h with rfl | h
  · exact T.r_DuplicateTie.n _ (by decide)
  rcases List.mem_cons.mp h with rfl | h
  · exact T.r_KindsDiffer.n _ (by decide)
  rcases List.mem_cons.mp h with rfl | h
  · exact T.r_BooksDiffer.n _ (by decide)
  rcases List.mem_cons.mp h with rfl | h
  · exact T.r_Unsettled.n _ (by decide)
  rcases List.mem_cons.mp h with rfl | h
  · exact T.r_Full.n _ (by decide)
  rcases List.mem_cons.mp h with rfl | h
  · exact T.r_EmptyHistory.n _ (by decide)
  rcases List.mem_cons.mp h with rfl | h
  · exact T.r_UnknownCell.n _ (by decide)
  rcases List.mem_cons.mp h with rfl | h
  · exact T.r_UnknownKind.n _ (by decide)
  rcases List.mem_cons.mp h with rfl | h
  · exact T.r_UnknownTie.n _ (by decide)
  rcases List.mem_cons.mp h with rfl | h
  · exact T.r_UnknownField.n _ (by decide)
  rcases List.mem_cons.mp h with rfl | h
  · exact T.r_MissingTie.n _ (by decide)
  rcases List.mem_cons.mp h with rfl | h
  · exact T.r_UnknownMoment.n _ (by decide)
  cases h
theorem errx_parts {K : PySem.W.Frag} {H : Hp} {d : PyData} {u : V} : ∀ {r : RowT}, ErrX K H d r u → ∃ (a dx : Addr) (fs : List (Str × V)), u = .ref a ∧ H a = some (exo a r.1 (some dx)) ∧ H dx = some (exd dx fs) ∧ fs.lookup ("code" : Str) = some (V.str r.2.1)
  | (_, _, some _), ⟨a, dx, v, e, e1, e2, _⟩ => ⟨a, dx, _, e, e1, e2, rfl⟩
  | (_, _, none), ⟨a, dx, e, e1, e2⟩ => ⟨a, dx, _, e, e1, e2, rfl⟩
theorem Sh.up1 {n : Nat} {d : PyData} (h : Sh n d) : Sh (n + 1) d := by
  induction h with
  | non => exact .non
  | bl => exact .bl
  | int => exact .int
  | str => exact .str
  | lst hl _ ih => exact .lst hl ih
  | tup hl _ ih => exact .tup hl ih
def rows2 : List (Str × Option Str) := [("InvalidField", some "position"), ("InvalidTie", some "position"), ("InvalidKind", some "position"), ("InvalidHolding", some "given"), ("InvalidRulebook", some "line"), ("InvalidName", some "given"), ("InvalidNetwork", some "line"), ("InvalidState", some "cell"), ("InvalidLook", some "cell"), ("InvalidCount", some "given"), ("InvalidCommand", some "word"), ("InvalidLimit", some "given"), ("InvalidPage", some "line"), ("DuplicateCell", some "name"), ("DuplicateTie", some "tie"), ("KindsDiffer", some "name"), ("BooksDiffer", none), ("Unsettled", none), ("Full", some "limit"), ("EmptyHistory", none), ("UnknownCell", some "name"), ("UnknownKind", some "name"), ("UnknownTie", some "name"), ("UnknownField", some "name"), ("MissingTie", some "tie"), ("UnknownMoment", some "given")]
theorem rows_2 {K : PySem.W.Frag} {mg : Str → Option Value} (T : Top K mg) : T.rows.map (·.2) = rows2 := rfl
abbrev bares : List V := [.str "BooksDiffer", .str "Unsettled", .str "EmptyHistory"]
theorem bare_all : ∀ p ∈ rows2, inV (V.str p.1) bares = p.2.isNone := by decide +kernel
theorem bare_of {K : PySem.W.Frag} {mg : Str → Option Value} {T : Top K mg} {r : RowT} (h : r ∈ T.rows) : inV (V.str r.2.1) bares = r.2.2.isNone := bare_all r.2 (by
  rw [← rows_2 T]
  exact List.mem_map_of_mem h)
theorem due_b : ∀ j < 26, (List.range 26).map (dueF j) ++ [!decide ((19 : Int) < (j : Int)), !decide ((19 : Int) < (j : Int)), decide ((19 : Int) < (j : Int)), decide ((19 : Int) < (j : Int))] = (List.range 30).map (dueF j) := by decide +kernel
theorem due30 {j : Nat} (h : j < 26) : ((List.range 26).map fun k => V.bl (dueF j k)) ++ [.bl (!decide ((19 : Int) < (j : Int))), .bl (!decide ((19 : Int) < (j : Int))), .bl (decide ((19 : Int) < (j : Int))), .bl (decide ((19 : Int) < (j : Int)))] = (List.range 30).map fun k => V.bl (dueF j k) := by
  have e := congrArg (List.map V.bl) (due_b j h)
  rw [List.map_append, List.map_map, List.map_map] at e
  exact e
theorem bls_dp {K : PySem.W.Frag} {H : Hp} (f : Nat → Bool) : ∀ l : List Nat, DpAll K H (l.map fun k => V.bl (f k)) (l.map fun k => PyData.bool (f k))
  | [] => .nil
  | _ :: l => .cons (.bl _) (bls_dp f l)
theorem bls_dep (f : Nat → Bool) : (PyData.list ((List.range 30).map fun k => .bool (f k))).depth ≤ 1 := Sh.depth (n := 1) (.lst (by rw [List.length_map, List.length_range]; decide) fun d h => by
  obtain ⟨k, _, rfl⟩ := List.mem_map.mp h
  exact .bl)
def spLaw (K : PySem.W.Frag) : Sp := fun vs H Q _ => ∃ (a : Addr) (ns : List Int), vs = [.ref a] ∧ SqL K H a (ns.map V.int) ∧ ns.length ≤ 63 ∧ ∀ H', Q (.bl true) H'
theorem ok_law {f : Addr} {fd : FuncData} (T : Top K mg) (F : Fun K "law" "law" s_law f fd) : FnOk P w K mg base CX0 9 f fd ["_law_script"] (spLaw K) := by
  have G_l_bag := ok_bag (P := P) (w := w) (base := base) T
  have G_l_draw := ok_draw (P := P) (w := w) (base := base) T
  have G_l_any := ok_any (P := P) (w := w) (base := base) T
  have G_l_mixed := ok_mixed (P := P) (w := w) (base := base) T
  have G_l_given := ok_given (P := P) (w := w) (base := base) T
  have G_l_flags := ok_flags (P := P) (w := w) (base := base) T
  have G_l_made_errors := ok_made (P := P) (w := w) (base := base) T
  have G_l_like := ok_like (P := P) (w := w) (base := base) T 5
  have I_InvalidLook := in_InvalidLook (P := P) (w := w) (base := base) T 3
  have I_Full := in_Full (P := P) (w := w) (base := base) T 3
  have I_MissingTie := in_MissingTie (P := P) (w := w) (base := base) T 3
  have I_InvalidPage := in_InvalidPage (P := P) (w := w) (base := base) T 3
  refine F.ok sc_law (fun vs H Q E h => ?_) (fun cdv A outer s H vs Q E hr h => ?_)
  · obtain ⟨a, ns, rfl, _⟩ := h
    rfl
  obtain ⟨a, ns, rfl, hS, h63, q⟩ := h
  refine ⟨_, (pss_cons (ps_set (i := 1) sc_law.nd rfl (Or.inl rfl) (pe_call G_l_bag (hr.mono (by decide)) (by rfl) T.d_l_bag.g T.d_l_bag.kp T.d_l_bag.b .nil pass0 (pa_cons (pv 0) pa_nil)))
    (pss_cons (ps_set (i := 2) sc_law.nd rfl (Or.inl rfl) (pe_call G_l_any (hr.mono (by decide)) (by rfl) T.d_l_any.g T.d_l_any.kp T.d_l_any.b .nil pass0 (pa_cons (pv 1) (pa_cons (pe_lst (pa_cons pe_str (pa_cons pe_str (pa_cons pe_non (pa_cons pe_bl (pa_cons (pe_op op_add (pe_op op_pow pe_int pe_int) (pe_call G_l_draw (hr.mono (by decide)) (by rfl) T.d_l_draw.g T.d_l_draw.kp T.d_l_draw.b .nil pass0 (pa_cons (pv 1) (pa_cons pe_int pa_nil)))) (pa_cons (pe_tup (pa_cons pe_str (pa_cons pe_int pa_nil))) (pa_cons (pe_lst (pa_cons pe_str pa_nil)) (pa_cons (pe_op op_sub pe_int (pe_call G_l_draw (hr.mono (by decide)) (by rfl) T.d_l_draw.g T.d_l_draw.kp T.d_l_draw.b .nil pass0 (pa_cons (pv 1) (pa_cons pe_int pa_nil)))) pa_nil))))))))) pa_nil))))
    (pss_cons (ps_set (i := 3) sc_law.nd rfl (Or.inl rfl) (pe_call G_l_made_errors (hr.mono (by decide)) (by rfl) T.d_l_made_errors.g T.d_l_made_errors.kp T.d_l_made_errors.b .nil pass0 (pa_cons (pv 2) pa_nil)))
    (pss_cons (ps_setLc (i := 4) (own := [("_law_code", 5), ("_law_error", 6)]) rfl sc_law.nd rfl rfl (sw_true rfl rfl rfl (by decide +kernel)) (pi_list_K (K := K) (by rfl) (pv 3)) (blkOk_by (own := [("_law_code", 5), ("_law_error", 6)]) (N := ["_law_script", "_law_bag_here", "_law_given_here", "_law_rows", "_law_codes", "_law_code", "_law_error", "_law_late", "_law_due", "_law_bare", "_law_told", "_law_one"]) (sc := defScope s_law) (by decide +kernel)) (fun _ _ _ _ _ => by exact (pg_tup_K (K := K) (by rfl) (n := 2) (by rfl) (pgs_cons (pg_name (i := 5) sc_law.nd rfl (Or.inl rfl)) (pgs_cons (pg_name (i := 6) sc_law.nd rfl (Or.inl rfl)) pgs_nil)))) (fun _ _ _ _ _ => by exact pts_nil) (fun _ _ _ _ _ => by exact (pv 5)))
    (pss_cons (ps_for PassesOwn.never rfl (pi_list_K (K := K) (by rfl) (pe_call G_l_mixed (hr.mono (by decide)) (by rfl) T.d_l_mixed.g T.d_l_mixed.kp T.d_l_mixed.b .nil pass0 (pa_cons (pv 1) (pa_cons (pv 3) pa_nil)))) (pg_tup_K (K := K) (by rfl) (n := 2) (by rfl) (pgs_cons (pg_name (i := 5) sc_law.nd rfl (Or.inr rfl)) (pgs_cons (pg_name (i := 6) sc_law.nd rfl (Or.inl rfl)) pgs_nil)))
      (pss_cons (ps_set (i := 7) sc_law.nd rfl (Or.inl rfl) (pe_cmpR op_gt (pe_bm_K (K := K) (by rfl) PySem.F.plainAttrs_list PySem.F.slot_list_index PySem.F.type_list_index (mt_index_K (K := K) (by rfl)) (pv 4) (pa_cons (pv 5) pa_nil)) pe_int (nomark _)))
      (pss_cons (ps_set (i := 8) sc_law.nd rfl (Or.inl rfl) (pe_op op_cat (pe_lc (own := [("_law_one", 11)]) rfl sc_law.nd (pi_list_K (K := K) (by rfl) (pv 4)) (blkOk_by (own := [("_law_one", 11)]) (N := ["_law_script", "_law_bag_here", "_law_given_here", "_law_rows", "_law_codes", "_law_code", "_law_error", "_law_late", "_law_due", "_law_bare", "_law_told", "_law_one"]) (sc := defScope s_law) (by decide +kernel)) (fun _ _ _ _ _ => by exact (pg_name (i := 11) sc_law.nd rfl (Or.inl rfl))) (fun _ _ _ _ _ => by exact pts_nil) (fun _ _ _ _ _ => by exact (pe_cmpR op_eq (pv 11) (pv 5) (nomark _)))) (pe_lst (pa_cons (pe_not (pv 7)) (pa_cons (pe_not (pv 7)) (pa_cons (pv 7) (pa_cons (pv 7) pa_nil)))))))
      (pss_cons (ps_set (i := 9) sc_law.nd rfl (Or.inl rfl) (pe_cmpR (op_in_seq_K (K := K) (by rfl)) (pv 5) (pe_tup (pa_cons pe_str (pa_cons pe_str (pa_cons pe_str pa_nil)))) (by rfl)))
      (pss_cons (ps_if (PW.pt (pw_or (pt_cmpR op_ne (pe_xo (pv 6)) (pv 5) (nomark _)) (pw_or1 (pt_cmpR (op_neP (K := K) (by rfl) hr.units) (pe_call G_l_flags (hr.mono (by decide)) (by rfl) T.d_l_flags.g T.d_l_flags.kp T.d_l_flags.b .nil pass0 (pa_cons (pv 6) pa_nil)) (pv 8) (nomark _))))) (pss_one (ps_ret pe_bl)) pss_nil)
      (pss_one (ps_if (pt_not (pt_val (pe_call G_l_like (hr.mono (by decide)) (by rfl) T.d_l_like.g T.d_l_like.kp T.d_l_like.b .nil pass0 (pa_cons (pe_call G_l_given (hr.mono (by decide)) (by rfl) T.d_l_given.g T.d_l_given.kp T.d_l_given.b .nil pass0 (pa_cons (pv 6) pa_nil)) (pa_cons (pe_ifExp (pt_val (pv 9)) pe_non (pv 2)) pa_nil))))) (pss_one (ps_ret pe_bl)) pss_nil)))))))
    (pss_cons (ps_set (i := 10) sc_law.nd rfl (Or.inl rfl) (pe_lst (pa_cons (pe_xo (pe_mkGK T.r_InvalidLook.e T.r_InvalidLook.i T.r_InvalidLook.t I_InvalidLook (hr.mono (by decide)) (kb_InvalidLook T) (by rfl) T.r_InvalidLook.g (pk_cons (pv 2) pk_nil))) (pa_cons (pe_xo (pe_mkGK T.r_Full.e T.r_Full.i T.r_Full.t I_Full (hr.mono (by decide)) (kb_Full T) (by rfl) T.r_Full.g (pk_cons (pv 2) pk_nil))) (pa_cons (pe_xo (pe_mkGK T.r_MissingTie.e T.r_MissingTie.i T.r_MissingTie.t I_MissingTie (hr.mono (by decide)) (kb_MissingTie T) (by rfl) T.r_MissingTie.g (pk_cons (pv 2) pk_nil))) (pa_cons (pe_xo (pe_mkGK T.r_InvalidPage.e T.r_InvalidPage.i T.r_InvalidPage.t I_InvalidPage (hr.mono (by decide)) (kb_InvalidPage T) (by rfl) T.r_InvalidPage.g (pk_cons (pv 2) pk_nil))) pa_nil))))))
    (pss_one (ps_ret (pe_call G_l_like (hr.mono (by decide)) (by rfl) T.d_l_like.g T.d_l_like.kp T.d_l_like.b .nil pass0 (pa_cons (pv 10) (pa_cons (pe_op op_rep (pe_lst (pa_cons (pv 2) pa_nil)) pe_int) pa_nil))))))))))), ?_⟩
  refine ⟨_, rfl, a, ns, rfl, hS, h63, fun b l H1 nb nl s1 hb => ?_⟩
  have wd := wd_start nb nl s1 hb
  refine ⟨_, rfl, _, _, rfl, rfl, ⟨by decide, by decide, by decide⟩, ?_⟩
  refine ⟨_, rfl, b, l, _, 9, rfl, by decide, by decide, wd, fun r1 H2 r10 r11 w2 => ?_⟩
  refine ⟨_, _, rfl, rfl, ?_⟩
  refine ⟨(by show 2 ≤ sizeLine; decide), fun t1 n1 => ?_⟩
  have w3 := w2.new (o := .tup [.str "q", .int 3]) n1
  have g3 := w2.sameG (o := .tup [.str "q", .int 3]) n1
  refine ⟨(by show 1 ≤ sizeLine; decide), fun t2 n2 => ?_⟩
  have w4 := w3.new (o := .lst [.str "ab"]) n2
  have g4 := w3.sameG (o := .lst [.str "ab"]) n2
  refine ⟨_, rfl, b, l, _, 9, rfl, by decide, by decide, w4, fun r2 H5 r20 r21 w5 => ?_⟩
  refine ⟨_, _, rfl, rfl, ?_⟩
  refine ⟨(by show 8 ≤ sizeLine; decide), fun t3 n3 => ?_⟩
  have w6 := w5.new (o := .lst [.str "", .str "b-a", .non, .bl true, .int (10 ^ 29 + r1), .ref t1, .ref t2, .int (0 - r2)]) n3
  have g6 := w5.sameG (o := .lst [.str "", .str "b-a", .non, .bl true, .int (10 ^ 29 + r1), .ref t1, .ref t2, .int (0 - r2)]) n3
  refine ⟨b, l, t3, _, _, rfl, .inl (SqL.of upd_same), (fun z => by cases z), (by show 8 ≤ 100000; decide), w6, fun x H7 hx w7 => ?_⟩
  obtain ⟨G7, w7, gt1, gt2⟩ : ∃ G7, Wd b l G7 H7 ∧ G7 t1 = some (.tup [.str "q", .int 3]) ∧ G7 t2 = some (.lst [.str "ab"]) := ⟨_, w7, (g4.trans g6) _ _ upd_same, g6 _ _ upd_same⟩
  obtain ⟨d, hd, hs⟩ : ∃ d, Dp K G7 x d ∧ Sh 3 d := by
    simp only [List.mem_cons, List.not_mem_nil, or_false] at hx
    rcases hx with rfl | rfl | rfl | rfl | rfl | rfl | rfl | rfl
    · exact ⟨_, .str _, .str⟩
    · exact ⟨_, .str _, .str⟩
    · exact ⟨_, .non, .non⟩
    · exact ⟨_, .bl _, .bl⟩
    · exact ⟨_, .int _, .int⟩
    · exact ⟨_, .tup (SqT.of gt1) (.cons (.str _) (.cons (.int _) .nil)), .tup (by show 2 ≤ _; decide) fun d h => by
        rcases List.mem_cons.mp h with rfl | h
        · exact .str
        · rw [List.mem_singleton.mp h]
          exact .int⟩
    · exact ⟨_, .lst (SqL.of gt2) (.cons (.str _) .nil), .lst (by show 1 ≤ _; decide) fun d h => by
        rw [List.mem_singleton.mp h]
        exact .str⟩
    · exact ⟨_, .int _, .int⟩
  refine ⟨_, rfl, x, d, rfl, Dp.mono w7.sm hd, hs, fun p xs H8 s8 hp hR => ?_⟩
  obtain ⟨w8, g8, nw⟩ := w7.fresh1 s8
  obtain ⟨G8, e8⟩ : ∃ G8, G8 = hid b (hid l H8) := ⟨_, rfl⟩
  rw [← e8] at w8 g8 nw
  have hp8 := nw _ _ hp
  have hR8 : Paired (RowX K G8 d) T.rows xs := Paired.mono (fun _ _ h => RowX.mono nw h) hR
  have lx : xs.length = 26 := hR8.length.symm
  have hd8 := Dp.mono g8 hd
  refine ⟨_, rfl, p, rfl, ⟨_, SqL.of (w8.sm _ _ hp8)⟩, fun D nD => ?_⟩
  have gD := w8.free nD
  refine lc_it walk_list (fun i H' => ∃ G', Same G8 G' ∧ Wd b l G' H' ∧ G' D = some (.lst ((T.rows.take i).map fun r => V.str r.2.1))) ⟨_, w8.sameG nD, w8.new nD, upd_same⟩ (fun i H' _ ⟨_, e, w', _⟩ => SqL.of (w'.sm _ _ (e _ _ hp8))) ?_ ?_
  · rintro i y H' H'' hi ⟨G', sg, w9, hD⟩ ⟨rfl, ey⟩
    obtain ⟨r, er, t, u, rfl, et, _⟩ := paired_at hR8 ey
    have li : i < 26 := by rw [← lx]; exact hi
    refine ⟨t, [.str r.2.1, u], rfl, .inl (.inl (w9.sm _ _ (sg _ _ et))), rfl, _, _, rfl, _, _, rfl, rfl, rfl, ?_⟩
    refine ⟨_, rfl, _, w9.sm _ _ hD, ?_, _, same_mut sg gD, w9.mut hD, ?_⟩
    · rw [List.length_map, List.length_take]
      exact lt_line (by omega)
    · rw [upd_same, List.take_add_one, er, List.map_append]
      rfl
  rintro H9 ⟨G9, sg9, w9, hD⟩
  have mx : xs.length ≤ 1000 := by omega
  have hD9 : G9 D = some (.lst (names.map V.str)) := by
    rw [hD, lx, List.take_of_length_le (Nat.le_refl 26 : T.rows.length ≤ 26), ← rows_n T, List.map_map]
    rfl
  refine ⟨_, rfl, _, rfl, b, l, p, G9, xs, rfl, SqL.of (sg9 _ _ hp8), mx, w9, fun G10 H10 m ys sg10 w10 hm pm => ?_⟩
  have f10 := sg9.trans sg10
  refine ⟨m, rfl, ⟨_, SqL.of (w10.sm _ _ hm)⟩, for_it walk_list (fun i σ H' => ∃ x5 x6 x7 x8 x9 x11 G', σ = [some (.ref a), some (.ref b), some x, some (.ref p), some (.ref D), x5, x6, x7, x8, x9, none, x11] ∧ Same G10 G' ∧ Wd b l G' H')
    ⟨none, none, none, none, none, none, _, rfl, Same.refl _, w10⟩ (fun i σ H' _ ⟨_, _, _, _, _, _, _, _, e, w'⟩ => SqL.of (w'.sm _ _ (e _ _ hm))) ?_ ?_⟩
  · rintro i y σ H' H'' hi ⟨x5, x6, x7, x8, x9, x11, G', rfl, sg, w1⟩ ⟨rfl, ey⟩
    obtain ⟨j, ej⟩ := List.getElem?_of_mem (pm.mem_iff.mp (List.mem_of_getElem? ey))
    obtain ⟨r, er, t, u, rfl, et, eu⟩ := paired_at hR8 ej
    have F8 := f10.trans sg
    refine ⟨t, [.str r.2.1, u], rfl, .inl (.inl (w1.sm _ _ (F8 _ _ et))), rfl, _, _, rfl, _, _, rfl, rfl, ?_⟩
    have en : names[j]? = some r.2.1 := by
      rw [← rows_n T, List.getElem?_map, er]
      rfl
    have lj : j < 26 := (List.getElem?_eq_some_iff.mp en).1
    have hDn := (sg10.trans sg) _ _ hD9
    refine ⟨_, rfl, .inl ⟨rfl, _, SqL.of (w1.sm _ _ hDn)⟩, _, rfl, D, names.map V.str, .str r.2.1, j, .str r.2.1, rfl, rfl, SqL.of (w1.sm _ _ hDn), rfl, by decide +kernel, by rw [List.getElem?_map, en]; rfl, beq_self_eq_true r.2.1, fun m z hm hz => ?_, ?_⟩
    · obtain ⟨n, e1, rfl⟩ := codes_at hz
      exact beq_eq_false_iff_ne.mpr (names_ne (Nat.ne_of_lt hm) e1 en)
    refine ⟨_, _, rfl, rfl, ?_⟩
    refine ⟨_, rfl, D, rfl, ⟨_, SqL.of (w1.sm _ _ hDn)⟩, fun D2 nD2 => ?_⟩
    have gD2 := w1.free nD2
    refine lc_it walk_list (fun i H' => ∃ G2, Same G' G2 ∧ Wd b l G2 H' ∧ G2 D2 = some (.lst (((List.range 26).map fun k => V.bl (dueF j k)).take i))) ⟨_, w1.sameG nD2, w1.new nD2, upd_same⟩ (fun i H' _ ⟨_, e, w', _⟩ => SqL.of (w'.sm _ _ (e _ _ hDn))) ?_ ?_
    · rintro i y Ha Hb hi ⟨G2, sg2, w2, hD2⟩ ⟨rfl, ey⟩
      obtain ⟨n, e1, rfl⟩ := codes_at ey
      have li : i < 26 := (List.getElem?_eq_some_iff.mp e1).1
      have ev : decide (V.str n = V.str r.2.1) = dueF j i := by
        unfold dueF
        rw [if_pos li]
        by_cases h : j = i
        · subst h
          rw [en] at e1
          cases e1
          simp
        · have k1 := names_ne (fun z => h z.symm) e1 en
          have k2 : V.str n ≠ V.str r.2.1 := fun z => k1 (by cases z; rfl)
          rw [decide_eq_false k2, beq_eq_false_iff_ne.mpr h]
      refine ⟨rfl, _, rfl, _, rfl, rfl, _, w2.sm _ _ hD2, ?_, _, same_mut sg2 gD2, w2.mut hD2, ?_⟩
      · rw [List.length_take, List.length_map, List.length_range]
        exact lt_line (by omega)
      · rw [upd_same, List.take_add_one, List.getElem?_map, List.getElem?_range li, ev]
        rfl
    rintro H3 ⟨G3, sg3, w3, hD2⟩
    have hD2' : G3 D2 = some (.lst ((List.range 26).map fun k => V.bl (dueF j k))) := by
      rw [hD2, List.take_of_length_le (by rw [List.length_map, List.length_map, List.length_range]; decide)]
    refine ⟨_, rfl, _, rfl, _, rfl, _, rfl, _, rfl, _, rfl, ?_⟩
    refine ⟨(by show 4 ≤ sizeLine; decide), fun p2 n2 => ?_⟩
    have w4 := w3.new (o := .lst [.bl (!decide ((19 : Int) < j)), .bl (!decide ((19 : Int) < j)), .bl (decide ((19 : Int) < j)), .bl (decide ((19 : Int) < j))]) n2
    have g4' := w3.sameG (o := .lst [.bl (!decide ((19 : Int) < j)), .bl (!decide ((19 : Int) < j)), .bl (decide ((19 : Int) < j)), .bl (decide ((19 : Int) < j))]) n2
    refine ⟨D2, p2, _, _, rfl, rfl, w4.sm _ _ (g4' _ _ hD2'), upd_same, ?_, fun D3 nD3 => ?_⟩
    · rw [List.length_map, List.length_range]
      show 26 + 4 ≤ sizeLine
      decide
    have w5 := w4.new (o := .lst (((List.range 26).map fun k => V.bl (dueF j k)) ++ [.bl (!decide ((19 : Int) < j)), .bl (!decide ((19 : Int) < j)), .bl (decide ((19 : Int) < j)), .bl (decide ((19 : Int) < j))])) nD3
    refine ⟨_, rfl, (by show 3 ≤ sizeLine; decide), fun t4 n4 => ?_⟩
    have w6 := w5.new (o := .tup [.str "BooksDiffer", .str "Unsettled", .str "EmptyHistory"]) n4
    refine ⟨t4, _, rfl, .inr (SqT.of upd_same), rfl, rfl, ?_⟩
    have S6 : Same G' _ := sg3.trans (g4'.trans ((w4.sameG nD3).trans (w5.sameG (o := .tup bares) n4)))
    have hD3 := (w5.sameG (o := .tup bares) n4) _ _ (upd_same (H := upd G3 p2 _) (a := D3) (o := .lst (((List.range 26).map fun k => V.bl (dueF j k)) ++ [.bl (!decide ((19 : Int) < j)), .bl (!decide ((19 : Int) < j)), .bl (decide ((19 : Int) < j)), .bl (decide ((19 : Int) < j))])))
    have hm := List.mem_of_getElem? er
    obtain ⟨ae, dxe, fse, rfl, ea, ed, lk⟩ := errx_parts eu
    have F9 := F8.trans S6
    refine ⟨_, rfl, ae, r.1, dxe, fse, _, rfl, w6.sm _ _ (F9 _ _ ea), (T.rows_k r hm).2, T.rows_cd r hm, w6.sm _ _ (F9 _ _ ed), lk, _, rfl, rfl, _, rfl, iteB (fun z => by simp at z) (fun _ => ?_)⟩
    refine ⟨_, rfl, ae, dxe, fse, j, r, rfl, er, w6.sm _ _ (F9 _ _ ea), w6.sm _ _ (F9 _ _ ed), fun pf H7 s7 hpf => ?_⟩
    have dF := Dp.lst (K := K) (H := H7) (SqL.of hpf) (bls_dp (dueF j) (List.range 30))
    have hD4 := s7 _ _ (w6.sm _ _ hD3)
    rw [due30 lj] at hD4
    have dD := Dp.lst (K := K) (H := H7) (SqL.of hD4) (bls_dp (dueF j) (List.range 30))
    refine ⟨_, rfl, _, _, dF, dD, Nat.le_trans (Nat.min_le_left _ _) (Nat.le_trans (bls_dep _) (by decide)), _, rfl, ?_⟩
    rw [SeqAt.eqv_refl_plain _ (Dp.plain dF)]
    have w7 := w6.same s7
    refine ⟨_, rfl, _, d, r, rfl, hm, ErrX.mono (F9.trans w7.sm) eu, fun v H8 s8 v0 v1 => ?_⟩
    have w8 := w7.same s8
    have bo := bare_of hm
    refine ⟨_, rfl, _, rfl, iteB (fun z => ?_) (fun z => ?_)⟩
    · have e := v0 (Option.isNone_iff_eq_none.mp (bo.symm.trans z))
      rw [e]
      refine ⟨_, _, .none, rfl, .non, .non, .non, fun H9 s9 => ⟨_, rfl, ?_⟩⟩
      exact ⟨_, _, _, _, _, _, _, rfl, sg.trans S6, w8.same s9⟩
    · have e := v1 (fun y => by rw [bo, y] at z; cases z)
      refine ⟨_, rfl, _, _, d, rfl, e, Dp.mono (F9.trans w8.sm) hd8, hs.up1, fun H9 s9 => ⟨_, rfl, ?_⟩⟩
      exact ⟨_, _, _, _, _, _, _, rfl, sg.trans S6, w8.same s9⟩
  · rintro σ H' ⟨x5, x6, x7, x8, x9, x11, G', rfl, sg, w1⟩
    have h0 := Dp.mono ((f10.trans sg).trans w1.sm) hd8
    refine ⟨_, rfl, rfl, fun a0 na0 => mk_go h0 hs na0 fun H1 s1 e0 => ?_⟩
    obtain ⟨_, dx0, r0, ee, ea0, ed0, hr0⟩ := e0
    cases ee
    have h1 := Dp.mono s1 h0
    refine ⟨a0, _, dx0, _, r0, rfl, newOf_le _ _ ea0, T.r_InvalidLook.x, T.r_InvalidLook.n _ (by decide), newOf_le _ _ ed0, rfl, ?_⟩
    refine ⟨_, rfl, rfl, fun a1 na1 => mk_go h1 hs na1 fun H2 s2 e1 => ?_⟩
    obtain ⟨_, dx1, r1, ee, ea1, ed1, hr1⟩ := e1
    cases ee
    have h2 := Dp.mono s2 h1
    refine ⟨a1, _, dx1, _, r1, rfl, newOf_le _ _ ea1, T.r_Full.x, T.r_Full.n _ (by decide), newOf_le _ _ ed1, rfl, ?_⟩
    refine ⟨_, rfl, rfl, fun a2 na2 => mk_go h2 hs na2 fun H3 s3 e2 => ?_⟩
    obtain ⟨_, dx2, r2, ee, ea2, ed2, hr2⟩ := e2
    cases ee
    have h3 := Dp.mono s3 h2
    refine ⟨a2, _, dx2, _, r2, rfl, newOf_le _ _ ea2, T.r_MissingTie.x, T.r_MissingTie.n _ (by decide), newOf_le _ _ ed2, rfl, ?_⟩
    refine ⟨_, rfl, rfl, fun a3 na3 => mk_go h3 hs na3 fun H4 s4 e3 => ?_⟩
    obtain ⟨_, dx3, r3, ee, ea3, ed3, hr3⟩ := e3
    cases ee
    have h4 := Dp.mono s4 h3
    refine ⟨a3, _, dx3, _, r3, rfl, newOf_le _ _ ea3, T.r_InvalidPage.x, T.r_InvalidPage.n _ (by decide), newOf_le _ _ ed3, rfl, ?_⟩
    have k0 := Dp.mono ((s2.trans s3).trans s4) (Dp.mono newOf_le hr0)
    have k1 := Dp.mono (s3.trans s4) (Dp.mono newOf_le hr1)
    have k2 := Dp.mono s4 (Dp.mono newOf_le hr2)
    have k3 := Dp.mono newOf_le hr3
    refine ⟨(by show 4 ≤ sizeLine; decide), fun p4 n4 => ?_⟩
    have g5 := same_new (o := .lst [r0, r1, r2, r3]) n4
    refine ⟨_, rfl, _, rfl, (by show 1 ≤ sizeLine; decide), fun p5 n5 => ?_⟩
    have g6 := same_new (o := .lst [x]) n5
    refine ⟨p5, 4, [x], rfl, rfl, upd_same, by decide, by decide, (by show 4 ≤ sizeLine; decide), fun p6 n6 => ?_⟩
    have g7 := same_new (o := .lst (List.replicate (4 : Int).toNat [x]).flatten) n6
    have g := g5.trans (g6.trans g7)
    have hz := Dp.mono g h4
    refine ⟨_, _, .list [d, d, d, d], rfl, .lst (SqL.of (g7 _ _ (g6 _ _ upd_same))) (.cons (Dp.mono g k0) (.cons (Dp.mono g k1) (.cons (Dp.mono g k2) (.cons (Dp.mono g k3) .nil)))), .lst (SqL.of (xs := [x, x, x, x]) upd_same) (.cons hz (.cons hz (.cons hz (.cons hz .nil)))), .lst (by show 4 ≤ 100000; decide) (fun e he => ?_), fun H8 _ => q H8⟩
    have ed : e = d := by
      simp only [List.mem_cons, List.not_mem_nil, or_false, or_self] at he
      exact he
    rw [ed]
    exact hs
end
end Bh

set_option Elab.async false
set_option linter.all false
set_option maxRecDepth 100000
set_option maxHeartbeats 4000000
namespace Bh
open PySem PySem.Spec PyProof.Rows L2
theorem fam_ValueError {K : PySem.W.Frag} {C xB : Addr} {nm q : Str} {N : Addr} {bs : List Value} {sn : List Str} {su : List Value} {ab : Bool} {co : Option Bool} {dd : Option Addr} {m0 m1 m2 m3 m5 : Option Value}
    (lk : K.lookup C = some (excClassObj nm q C N bs (.ref xB :: [.type "ValueError", .type "Exception", .type "BaseException", .type "object"]) true sn su ab co dd m0 m1 m2 m3 m5 "ValueError.__new__")) :
    ∃ (B newId initId : String) (bmB : List Value), ExcBaseFacts B newId initId bmB ∧ StoreFacts B bmB "object.__setattr__" "object" ∧ PySem.W.excOver K C bmB = true ∧
    ∃ nm q N bs bm sn sub ab col dd k0 k1 k2 k3 k5, K.lookup C = some (excClassObj nm q C N bs bm true sn sub ab col dd k0 k1 k2 k3 k5 newId) ∧ ∀ Y : String, bm.contains (.type Y) = bmB.contains (.type Y) :=
  ⟨_, _, _, _, PySem.F.excBase_ValueError, PySem.F.store_ValueError, (by
    unfold PySem.W.excOver PySem.W.clsIn
    rw [lk]
    show (C == C && (([.type "ValueError", .type "Exception", .type "BaseException", .type "object"] : List Value) == [.type "ValueError", .type "Exception", .type "BaseException", .type "object"])) = true
    rw [beq_self_eq_true, beq_self_eq_true]
    rfl), _, _, _, _, _, _, _, _, _, _, _, _, _, _, _, lk, fun Y => rfl⟩
theorem fam_LookupError {K : PySem.W.Frag} {C xB : Addr} {nm q : Str} {N : Addr} {bs : List Value} {sn : List Str} {su : List Value} {ab : Bool} {co : Option Bool} {dd : Option Addr} {m0 m1 m2 m3 m5 : Option Value}
    (lk : K.lookup C = some (excClassObj nm q C N bs (.ref xB :: [.type "LookupError", .type "Exception", .type "BaseException", .type "object"]) true sn su ab co dd m0 m1 m2 m3 m5 "LookupError.__new__")) :
    ∃ (B newId initId : String) (bmB : List Value), ExcBaseFacts B newId initId bmB ∧ StoreFacts B bmB "object.__setattr__" "object" ∧ PySem.W.excOver K C bmB = true ∧
    ∃ nm q N bs bm sn sub ab col dd k0 k1 k2 k3 k5, K.lookup C = some (excClassObj nm q C N bs bm true sn sub ab col dd k0 k1 k2 k3 k5 newId) ∧ ∀ Y : String, bm.contains (.type Y) = bmB.contains (.type Y) :=
  ⟨_, _, _, _, PySem.F.excBase_LookupError, PySem.F.store_LookupError, (by
    unfold PySem.W.excOver PySem.W.clsIn
    rw [lk]
    show (C == C && (([.type "LookupError", .type "Exception", .type "BaseException", .type "object"] : List Value) == [.type "LookupError", .type "Exception", .type "BaseException", .type "object"])) = true
    rw [beq_self_eq_true, beq_self_eq_true]
    rfl), _, _, _, _, _, _, _, _, _, _, _, _, _, _, _, lk, fun Y => rfl⟩
theorem no_of {K : PySem.W.Frag} {C : Addr} {p : Str} (h1 : PySem.W.findIn K (.ref C) "code" = some none) (h2 : PySem.W.findIn K (.ref C) p = some none) : ∀ y ∈ (["code", p] : List Str), PySem.W.findIn K (.ref C) y = some none := fun y hy => by
  rcases List.mem_cons.mp hy with e | hy
  · rw [e]
    exact h1
  · rw [List.mem_singleton.mp hy]
    exact h2
theorem no_of0 {K : PySem.W.Frag} {C : Addr} (h1 : PySem.W.findIn K (.ref C) "code" = some none) : ∀ y ∈ (["code"] : List Str), PySem.W.findIn K (.ref C) y = some none := fun y hy => by
  rw [List.mem_singleton.mp hy]
  exact h1
def mkTop {K : PySem.W.Frag} {h : Heap} {mg : Str → Option Value} (X : K.In h) (G : h.Ns mainGlobals mg)
    {f0 : Addr} {od0 an0 : Option Addr} {sl0 : Array (Option Value)} {oc0 kV0 dc0 pm0 cd0 ct0 : Value}
    {f1 : Addr} {od1 an1 : Option Addr} {sl1 : Array (Option Value)} {oc1 kV1 dc1 pm1 cd1 ct1 : Value}
    {f2 : Addr} {od2 an2 : Option Addr} {sl2 : Array (Option Value)} {oc2 kV2 dc2 pm2 cd2 ct2 : Value}
    {f3 : Addr} {od3 an3 : Option Addr} {sl3 : Array (Option Value)} {oc3 kV3 dc3 pm3 cd3 ct3 : Value}
    {f4 : Addr} {od4 an4 : Option Addr} {sl4 : Array (Option Value)} {oc4 kV4 dc4 pm4 cd4 ct4 : Value}
    {f5 : Addr} {od5 an5 : Option Addr} {sl5 : Array (Option Value)} {oc5 kV5 dc5 pm5 cd5 ct5 : Value}
    {f6 : Addr} {od6 an6 : Option Addr} {sl6 : Array (Option Value)} {oc6 kV6 dc6 pm6 cd6 ct6 : Value}
    {f7 : Addr} {od7 an7 : Option Addr} {sl7 : Array (Option Value)} {oc7 kV7 dc7 pm7 cd7 ct7 : Value}
    {f8 : Addr} {od8 an8 : Option Addr} {sl8 : Array (Option Value)} {oc8 kV8 dc8 pm8 cd8 ct8 : Value}
    {f9 : Addr} {od9 an9 : Option Addr} {sl9 : Array (Option Value)} {oc9 kV9 dc9 pm9 cd9 ct9 : Value}
    {xB xM : Addr}
    {x0 h0 : Addr} {nm0 qn0 : Str} {N0 : Addr} {bs0 : List Value} {sn0 : List Str} {su0 : List Value} {ab0 : Bool} {co0 : Option Bool} {dd0 : Option Addr} {m00 m10 m20 m30 m50 : Option Value} {hod0 han0 : Option Addr} {hsl0 : Array (Option Value)} {hoc0 hkV0 hdc0 hpm0 hcd0 hct0 : Value}
    {x1 h1 : Addr} {nm1 qn1 : Str} {N1 : Addr} {bs1 : List Value} {sn1 : List Str} {su1 : List Value} {ab1 : Bool} {co1 : Option Bool} {dd1 : Option Addr} {m01 m11 m21 m31 m51 : Option Value} {hod1 han1 : Option Addr} {hsl1 : Array (Option Value)} {hoc1 hkV1 hdc1 hpm1 hcd1 hct1 : Value}
    {x2 h2 : Addr} {nm2 qn2 : Str} {N2 : Addr} {bs2 : List Value} {sn2 : List Str} {su2 : List Value} {ab2 : Bool} {co2 : Option Bool} {dd2 : Option Addr} {m02 m12 m22 m32 m52 : Option Value} {hod2 han2 : Option Addr} {hsl2 : Array (Option Value)} {hoc2 hkV2 hdc2 hpm2 hcd2 hct2 : Value}
    {x3 h3 : Addr} {nm3 qn3 : Str} {N3 : Addr} {bs3 : List Value} {sn3 : List Str} {su3 : List Value} {ab3 : Bool} {co3 : Option Bool} {dd3 : Option Addr} {m03 m13 m23 m33 m53 : Option Value} {hod3 han3 : Option Addr} {hsl3 : Array (Option Value)} {hoc3 hkV3 hdc3 hpm3 hcd3 hct3 : Value}
    {x4 h4 : Addr} {nm4 qn4 : Str} {N4 : Addr} {bs4 : List Value} {sn4 : List Str} {su4 : List Value} {ab4 : Bool} {co4 : Option Bool} {dd4 : Option Addr} {m04 m14 m24 m34 m54 : Option Value} {hod4 han4 : Option Addr} {hsl4 : Array (Option Value)} {hoc4 hkV4 hdc4 hpm4 hcd4 hct4 : Value}
    {x5 h5 : Addr} {nm5 qn5 : Str} {N5 : Addr} {bs5 : List Value} {sn5 : List Str} {su5 : List Value} {ab5 : Bool} {co5 : Option Bool} {dd5 : Option Addr} {m05 m15 m25 m35 m55 : Option Value} {hod5 han5 : Option Addr} {hsl5 : Array (Option Value)} {hoc5 hkV5 hdc5 hpm5 hcd5 hct5 : Value}
    {x6 h6 : Addr} {nm6 qn6 : Str} {N6 : Addr} {bs6 : List Value} {sn6 : List Str} {su6 : List Value} {ab6 : Bool} {co6 : Option Bool} {dd6 : Option Addr} {m06 m16 m26 m36 m56 : Option Value} {hod6 han6 : Option Addr} {hsl6 : Array (Option Value)} {hoc6 hkV6 hdc6 hpm6 hcd6 hct6 : Value}
    {x7 h7 : Addr} {nm7 qn7 : Str} {N7 : Addr} {bs7 : List Value} {sn7 : List Str} {su7 : List Value} {ab7 : Bool} {co7 : Option Bool} {dd7 : Option Addr} {m07 m17 m27 m37 m57 : Option Value} {hod7 han7 : Option Addr} {hsl7 : Array (Option Value)} {hoc7 hkV7 hdc7 hpm7 hcd7 hct7 : Value}
    {x8 h8 : Addr} {nm8 qn8 : Str} {N8 : Addr} {bs8 : List Value} {sn8 : List Str} {su8 : List Value} {ab8 : Bool} {co8 : Option Bool} {dd8 : Option Addr} {m08 m18 m28 m38 m58 : Option Value} {hod8 han8 : Option Addr} {hsl8 : Array (Option Value)} {hoc8 hkV8 hdc8 hpm8 hcd8 hct8 : Value}
    {x9 h9 : Addr} {nm9 qn9 : Str} {N9 : Addr} {bs9 : List Value} {sn9 : List Str} {su9 : List Value} {ab9 : Bool} {co9 : Option Bool} {dd9 : Option Addr} {m09 m19 m29 m39 m59 : Option Value} {hod9 han9 : Option Addr} {hsl9 : Array (Option Value)} {hoc9 hkV9 hdc9 hpm9 hcd9 hct9 : Value}
    {x10 h10 : Addr} {nm10 qn10 : Str} {N10 : Addr} {bs10 : List Value} {sn10 : List Str} {su10 : List Value} {ab10 : Bool} {co10 : Option Bool} {dd10 : Option Addr} {m010 m110 m210 m310 m510 : Option Value} {hod10 han10 : Option Addr} {hsl10 : Array (Option Value)} {hoc10 hkV10 hdc10 hpm10 hcd10 hct10 : Value}
    {x11 h11 : Addr} {nm11 qn11 : Str} {N11 : Addr} {bs11 : List Value} {sn11 : List Str} {su11 : List Value} {ab11 : Bool} {co11 : Option Bool} {dd11 : Option Addr} {m011 m111 m211 m311 m511 : Option Value} {hod11 han11 : Option Addr} {hsl11 : Array (Option Value)} {hoc11 hkV11 hdc11 hpm11 hcd11 hct11 : Value}
    {x12 h12 : Addr} {nm12 qn12 : Str} {N12 : Addr} {bs12 : List Value} {sn12 : List Str} {su12 : List Value} {ab12 : Bool} {co12 : Option Bool} {dd12 : Option Addr} {m012 m112 m212 m312 m512 : Option Value} {hod12 han12 : Option Addr} {hsl12 : Array (Option Value)} {hoc12 hkV12 hdc12 hpm12 hcd12 hct12 : Value}
    {x13 h13 : Addr} {nm13 qn13 : Str} {N13 : Addr} {bs13 : List Value} {sn13 : List Str} {su13 : List Value} {ab13 : Bool} {co13 : Option Bool} {dd13 : Option Addr} {m013 m113 m213 m313 m513 : Option Value} {hod13 han13 : Option Addr} {hsl13 : Array (Option Value)} {hoc13 hkV13 hdc13 hpm13 hcd13 hct13 : Value}
    {x14 h14 : Addr} {nm14 qn14 : Str} {N14 : Addr} {bs14 : List Value} {sn14 : List Str} {su14 : List Value} {ab14 : Bool} {co14 : Option Bool} {dd14 : Option Addr} {m014 m114 m214 m314 m514 : Option Value} {hod14 han14 : Option Addr} {hsl14 : Array (Option Value)} {hoc14 hkV14 hdc14 hpm14 hcd14 hct14 : Value}
    {x15 h15 : Addr} {nm15 qn15 : Str} {N15 : Addr} {bs15 : List Value} {sn15 : List Str} {su15 : List Value} {ab15 : Bool} {co15 : Option Bool} {dd15 : Option Addr} {m015 m115 m215 m315 m515 : Option Value} {hod15 han15 : Option Addr} {hsl15 : Array (Option Value)} {hoc15 hkV15 hdc15 hpm15 hcd15 hct15 : Value}
    {x16 h16 : Addr} {nm16 qn16 : Str} {N16 : Addr} {bs16 : List Value} {sn16 : List Str} {su16 : List Value} {ab16 : Bool} {co16 : Option Bool} {dd16 : Option Addr} {m016 m116 m216 m316 m516 : Option Value} {hod16 han16 : Option Addr} {hsl16 : Array (Option Value)} {hoc16 hkV16 hdc16 hpm16 hcd16 hct16 : Value}
    {x17 h17 : Addr} {nm17 qn17 : Str} {N17 : Addr} {bs17 : List Value} {sn17 : List Str} {su17 : List Value} {ab17 : Bool} {co17 : Option Bool} {dd17 : Option Addr} {m017 m117 m217 m317 m517 : Option Value} {hod17 han17 : Option Addr} {hsl17 : Array (Option Value)} {hoc17 hkV17 hdc17 hpm17 hcd17 hct17 : Value}
    {x18 h18 : Addr} {nm18 qn18 : Str} {N18 : Addr} {bs18 : List Value} {sn18 : List Str} {su18 : List Value} {ab18 : Bool} {co18 : Option Bool} {dd18 : Option Addr} {m018 m118 m218 m318 m518 : Option Value} {hod18 han18 : Option Addr} {hsl18 : Array (Option Value)} {hoc18 hkV18 hdc18 hpm18 hcd18 hct18 : Value}
    {x19 h19 : Addr} {nm19 qn19 : Str} {N19 : Addr} {bs19 : List Value} {sn19 : List Str} {su19 : List Value} {ab19 : Bool} {co19 : Option Bool} {dd19 : Option Addr} {m019 m119 m219 m319 m519 : Option Value} {hod19 han19 : Option Addr} {hsl19 : Array (Option Value)} {hoc19 hkV19 hdc19 hpm19 hcd19 hct19 : Value}
    {x20 h20 : Addr} {nm20 qn20 : Str} {N20 : Addr} {bs20 : List Value} {sn20 : List Str} {su20 : List Value} {ab20 : Bool} {co20 : Option Bool} {dd20 : Option Addr} {m020 m120 m220 m320 m520 : Option Value} {hod20 han20 : Option Addr} {hsl20 : Array (Option Value)} {hoc20 hkV20 hdc20 hpm20 hcd20 hct20 : Value}
    {x21 h21 : Addr} {nm21 qn21 : Str} {N21 : Addr} {bs21 : List Value} {sn21 : List Str} {su21 : List Value} {ab21 : Bool} {co21 : Option Bool} {dd21 : Option Addr} {m021 m121 m221 m321 m521 : Option Value} {hod21 han21 : Option Addr} {hsl21 : Array (Option Value)} {hoc21 hkV21 hdc21 hpm21 hcd21 hct21 : Value}
    {x22 h22 : Addr} {nm22 qn22 : Str} {N22 : Addr} {bs22 : List Value} {sn22 : List Str} {su22 : List Value} {ab22 : Bool} {co22 : Option Bool} {dd22 : Option Addr} {m022 m122 m222 m322 m522 : Option Value} {hod22 han22 : Option Addr} {hsl22 : Array (Option Value)} {hoc22 hkV22 hdc22 hpm22 hcd22 hct22 : Value}
    {x23 h23 : Addr} {nm23 qn23 : Str} {N23 : Addr} {bs23 : List Value} {sn23 : List Str} {su23 : List Value} {ab23 : Bool} {co23 : Option Bool} {dd23 : Option Addr} {m023 m123 m223 m323 m523 : Option Value} {hod23 han23 : Option Addr} {hsl23 : Array (Option Value)} {hoc23 hkV23 hdc23 hpm23 hcd23 hct23 : Value}
    {x24 h24 : Addr} {nm24 qn24 : Str} {N24 : Addr} {bs24 : List Value} {sn24 : List Str} {su24 : List Value} {ab24 : Bool} {co24 : Option Bool} {dd24 : Option Addr} {m024 m124 m224 m324 m524 : Option Value} {hod24 han24 : Option Addr} {hsl24 : Array (Option Value)} {hoc24 hkV24 hdc24 hpm24 hcd24 hct24 : Value}
    {x25 h25 : Addr} {nm25 qn25 : Str} {N25 : Addr} {bs25 : List Value} {sn25 : List Str} {su25 : List Value} {ab25 : Bool} {co25 : Option Bool} {dd25 : Option Addr} {m025 m125 m225 m325 m525 : Option Value} {hod25 han25 : Option Addr} {hsl25 : Array (Option Value)} {hoc25 hkV25 hdc25 hpm25 hcd25 hct25 : Value}
    (a0 : PySem.W.nsIn K mainGlobals "copy_of" = some (some (.ref f0))) (l0 : K.lookup f0 = some ⟨oc0, od0, .func (PySem.W.fnOf "copy_of" "copy_of" (defArgs s_copy_of) (defBody s_copy_of) (defScope s_copy_of) .none kV0 dc0 pm0 an0 cd0 ct0), sl0⟩) (c0 : PySem.W.codeIn K cd0 "copy_of" = true) (k0 : PySem.W.keepIn K (.ref f0) = true)
    (a1 : PySem.W.nsIn K mainGlobals "_law_bag" = some (some (.ref f1))) (l1 : K.lookup f1 = some ⟨oc1, od1, .func (PySem.W.fnOf "_law_bag" "_law_bag" (defArgs s_l_bag) (defBody s_l_bag) (defScope s_l_bag) .none kV1 dc1 pm1 an1 cd1 ct1), sl1⟩) (c1 : PySem.W.codeIn K cd1 "_law_bag" = true) (k1 : PySem.W.keepIn K (.ref f1) = true)
    (a2 : PySem.W.nsIn K mainGlobals "_law_draw" = some (some (.ref f2))) (l2 : K.lookup f2 = some ⟨oc2, od2, .func (PySem.W.fnOf "_law_draw" "_law_draw" (defArgs s_l_draw) (defBody s_l_draw) (defScope s_l_draw) .none kV2 dc2 pm2 an2 cd2 ct2), sl2⟩) (c2 : PySem.W.codeIn K cd2 "_law_draw" = true) (k2 : PySem.W.keepIn K (.ref f2) = true)
    (a3 : PySem.W.nsIn K mainGlobals "_law_any" = some (some (.ref f3))) (l3 : K.lookup f3 = some ⟨oc3, od3, .func (PySem.W.fnOf "_law_any" "_law_any" (defArgs s_l_any) (defBody s_l_any) (defScope s_l_any) .none kV3 dc3 pm3 an3 cd3 ct3), sl3⟩) (c3 : PySem.W.codeIn K cd3 "_law_any" = true) (k3 : PySem.W.keepIn K (.ref f3) = true)
    (a4 : PySem.W.nsIn K mainGlobals "_law_mixed" = some (some (.ref f4))) (l4 : K.lookup f4 = some ⟨oc4, od4, .func (PySem.W.fnOf "_law_mixed" "_law_mixed" (defArgs s_l_mixed) (defBody s_l_mixed) (defScope s_l_mixed) .none kV4 dc4 pm4 an4 cd4 ct4), sl4⟩) (c4 : PySem.W.codeIn K cd4 "_law_mixed" = true) (k4 : PySem.W.keepIn K (.ref f4) = true)
    (a5 : PySem.W.nsIn K mainGlobals "_law_like" = some (some (.ref f5))) (l5 : K.lookup f5 = some ⟨oc5, od5, .func (PySem.W.fnOf "_law_like" "_law_like" (defArgs s_l_like) (defBody s_l_like) (defScope s_l_like) .none kV5 dc5 pm5 an5 cd5 ct5), sl5⟩) (c5 : PySem.W.codeIn K cd5 "_law_like" = true) (k5 : PySem.W.keepIn K (.ref f5) = true)
    (a6 : PySem.W.nsIn K mainGlobals "_law_given" = some (some (.ref f6))) (l6 : K.lookup f6 = some ⟨oc6, od6, .func (PySem.W.fnOf "_law_given" "_law_given" (defArgs s_l_given) (defBody s_l_given) (defScope s_l_given) .none kV6 dc6 pm6 an6 cd6 ct6), sl6⟩) (c6 : PySem.W.codeIn K cd6 "_law_given" = true) (k6 : PySem.W.keepIn K (.ref f6) = true)
    (a7 : PySem.W.nsIn K mainGlobals "_law_made_errors" = some (some (.ref f7))) (l7 : K.lookup f7 = some ⟨oc7, od7, .func (PySem.W.fnOf "_law_made_errors" "_law_made_errors" (defArgs s_l_made_errors) (defBody s_l_made_errors) (defScope s_l_made_errors) .none kV7 dc7 pm7 an7 cd7 ct7), sl7⟩) (c7 : PySem.W.codeIn K cd7 "_law_made_errors" = true) (k7 : PySem.W.keepIn K (.ref f7) = true)
    (a8 : PySem.W.nsIn K mainGlobals "_law_flags" = some (some (.ref f8))) (l8 : K.lookup f8 = some ⟨oc8, od8, .func (PySem.W.fnOf "_law_flags" "_law_flags" (defArgs s_l_flags) (defBody s_l_flags) (defScope s_l_flags) .none kV8 dc8 pm8 an8 cd8 ct8), sl8⟩) (c8 : PySem.W.codeIn K cd8 "_law_flags" = true) (k8 : PySem.W.keepIn K (.ref f8) = true)
    (a9 : PySem.W.nsIn K mainGlobals "law" = some (some (.ref f9))) (l9 : K.lookup f9 = some ⟨oc9, od9, .func (PySem.W.fnOf "law" "law" (defArgs s_law) (defBody s_law) (defScope s_law) .none kV9 dc9 pm9 an9 cd9 ct9), sl9⟩) (c9 : PySem.W.codeIn K cd9 "law" = true) (k9 : PySem.W.keepIn K (.ref f9) = true)
    (z_all : PySem.W.nsIn K mainGlobals "all" = some none)
    (z_dict : PySem.W.nsIn K mainGlobals "dict" = some none)
    (z_isinstance : PySem.W.nsIn K mainGlobals "isinstance" = some none)
    (z_len : PySem.W.nsIn K mainGlobals "len" = some none)
    (z_list : PySem.W.nsIn K mainGlobals "list" = some none)
    (z_max : PySem.W.nsIn K mainGlobals "max" = some none)
    (z_min : PySem.W.nsIn K mainGlobals "min" = some none)
    (z_range : PySem.W.nsIn K mainGlobals "range" = some none)
    (z_sorted : PySem.W.nsIn K mainGlobals "sorted" = some none)
    (z_tuple : PySem.W.nsIn K mainGlobals "tuple" = some none)
    (z_int : PySem.W.nsIn K mainGlobals "int" = some none)
    (z_zip : PySem.W.nsIn K mainGlobals "zip" = some none)
    (z_bool : PySem.W.nsIn K mainGlobals "bool" = some none)
    (z_str : PySem.W.nsIn K mainGlobals "str" = some none)
    (yxB : PySem.W.nsIn K mainGlobals "BestError" = some (some (.ref xB)))
    (yxM : PySem.W.nsIn K mainGlobals "Missing" = some (some (.ref xM)))
    (z_ValueError : PySem.W.nsIn K mainGlobals "ValueError" = some none)
    (z_LookupError : PySem.W.nsIn K mainGlobals "LookupError" = some none)
    (yhn : PySem.W.specialIn K (.builtin "object.__class__") "__get__" = some (some (.builtin "getset_descriptor.__get__"))) (yht : PySem.W.takesIn K (.builtin "object.__class__") = some true)
    (yC0 : PySem.W.nsIn K mainGlobals "InvalidField" = some (some (.ref x0)))
    (yL0 : K.lookup x0 = some (excClassObj nm0 qn0 x0 N0 bs0 (.ref xB :: [.type "ValueError", .type "Exception", .type "BaseException", .type "object"]) true sn0 su0 ab0 co0 dd0 m00 m10 m20 m30 m50 "ValueError.__new__"))
    (ySa0 : PySem.W.findIn K (.ref x0) "__setattr__" = some (some (.builtin "object.__setattr__")))
    (yGa0 : PySem.W.findIn K (.ref x0) "__getattribute__" = some (some (.builtin "BaseException.__getattribute__")))
    (yGg0 : PySem.W.findIn K (.ref x0) "__getattr__" = some none)
    (yGc0 : PySem.W.findIn K (.ref x0) "__class__" = some (some (.builtin "object.__class__")))
    (yM0 : PySem.W.mroIn K x0 (.type "object") = some true)
    (yN20 : PySem.W.findIn K (.ref x0) "code" = some none)
    (yN10 : PySem.W.findIn K (.ref x0) "position" = some none)
    (yI0 : PySem.W.findIn K (.ref x0) "__init__" = some (some (.ref h0)))
    (yT0 : PySem.W.typeIn K (.ref h0) = some (.type "function"))
    (yF0 : K.lookup h0 = some ⟨hoc0, hod0, .func (PySem.W.fnOf "__init__" "InvalidField.__init__" (defArgs s_InvalidField__init) (defBody s_InvalidField__init) (defScope s_InvalidField__init) .none hkV0 hdc0 hpm0 han0 hcd0 hct0), hsl0⟩)
    (yFc0 : PySem.W.codeIn K hcd0 "InvalidField.__init__" = true)
    (yFk0 : PySem.W.keepIn K (.ref h0) = true)
    (yK0 : PySem.W.keepIn K (.ref x0) = true)
    (yE0 : PySem.W.subIn K (.ref x0) (.type "BaseException") = some true)
    (yTy0 : PySem.W.typeIn K (.ref x0) = some (.type "type"))
    (yH0 : PySem.W.hasDictIn K x0 = true)
    (yC1 : PySem.W.nsIn K mainGlobals "InvalidTie" = some (some (.ref x1)))
    (yL1 : K.lookup x1 = some (excClassObj nm1 qn1 x1 N1 bs1 (.ref xB :: [.type "ValueError", .type "Exception", .type "BaseException", .type "object"]) true sn1 su1 ab1 co1 dd1 m01 m11 m21 m31 m51 "ValueError.__new__"))
    (ySa1 : PySem.W.findIn K (.ref x1) "__setattr__" = some (some (.builtin "object.__setattr__")))
    (yGa1 : PySem.W.findIn K (.ref x1) "__getattribute__" = some (some (.builtin "BaseException.__getattribute__")))
    (yGg1 : PySem.W.findIn K (.ref x1) "__getattr__" = some none)
    (yGc1 : PySem.W.findIn K (.ref x1) "__class__" = some (some (.builtin "object.__class__")))
    (yM1 : PySem.W.mroIn K x1 (.type "object") = some true)
    (yN21 : PySem.W.findIn K (.ref x1) "code" = some none)
    (yN11 : PySem.W.findIn K (.ref x1) "position" = some none)
    (yI1 : PySem.W.findIn K (.ref x1) "__init__" = some (some (.ref h1)))
    (yT1 : PySem.W.typeIn K (.ref h1) = some (.type "function"))
    (yF1 : K.lookup h1 = some ⟨hoc1, hod1, .func (PySem.W.fnOf "__init__" "InvalidTie.__init__" (defArgs s_InvalidTie__init) (defBody s_InvalidTie__init) (defScope s_InvalidTie__init) .none hkV1 hdc1 hpm1 han1 hcd1 hct1), hsl1⟩)
    (yFc1 : PySem.W.codeIn K hcd1 "InvalidTie.__init__" = true)
    (yFk1 : PySem.W.keepIn K (.ref h1) = true)
    (yK1 : PySem.W.keepIn K (.ref x1) = true)
    (yE1 : PySem.W.subIn K (.ref x1) (.type "BaseException") = some true)
    (yTy1 : PySem.W.typeIn K (.ref x1) = some (.type "type"))
    (yH1 : PySem.W.hasDictIn K x1 = true)
    (yC2 : PySem.W.nsIn K mainGlobals "InvalidKind" = some (some (.ref x2)))
    (yL2 : K.lookup x2 = some (excClassObj nm2 qn2 x2 N2 bs2 (.ref xB :: [.type "ValueError", .type "Exception", .type "BaseException", .type "object"]) true sn2 su2 ab2 co2 dd2 m02 m12 m22 m32 m52 "ValueError.__new__"))
    (ySa2 : PySem.W.findIn K (.ref x2) "__setattr__" = some (some (.builtin "object.__setattr__")))
    (yGa2 : PySem.W.findIn K (.ref x2) "__getattribute__" = some (some (.builtin "BaseException.__getattribute__")))
    (yGg2 : PySem.W.findIn K (.ref x2) "__getattr__" = some none)
    (yGc2 : PySem.W.findIn K (.ref x2) "__class__" = some (some (.builtin "object.__class__")))
    (yM2 : PySem.W.mroIn K x2 (.type "object") = some true)
    (yN22 : PySem.W.findIn K (.ref x2) "code" = some none)
    (yN12 : PySem.W.findIn K (.ref x2) "position" = some none)
    (yI2 : PySem.W.findIn K (.ref x2) "__init__" = some (some (.ref h2)))
    (yT2 : PySem.W.typeIn K (.ref h2) = some (.type "function"))
    (yF2 : K.lookup h2 = some ⟨hoc2, hod2, .func (PySem.W.fnOf "__init__" "InvalidKind.__init__" (defArgs s_InvalidKind__init) (defBody s_InvalidKind__init) (defScope s_InvalidKind__init) .none hkV2 hdc2 hpm2 han2 hcd2 hct2), hsl2⟩)
    (yFc2 : PySem.W.codeIn K hcd2 "InvalidKind.__init__" = true)
    (yFk2 : PySem.W.keepIn K (.ref h2) = true)
    (yK2 : PySem.W.keepIn K (.ref x2) = true)
    (yE2 : PySem.W.subIn K (.ref x2) (.type "BaseException") = some true)
    (yTy2 : PySem.W.typeIn K (.ref x2) = some (.type "type"))
    (yH2 : PySem.W.hasDictIn K x2 = true)
    (yC3 : PySem.W.nsIn K mainGlobals "InvalidHolding" = some (some (.ref x3)))
    (yL3 : K.lookup x3 = some (excClassObj nm3 qn3 x3 N3 bs3 (.ref xB :: [.type "ValueError", .type "Exception", .type "BaseException", .type "object"]) true sn3 su3 ab3 co3 dd3 m03 m13 m23 m33 m53 "ValueError.__new__"))
    (ySa3 : PySem.W.findIn K (.ref x3) "__setattr__" = some (some (.builtin "object.__setattr__")))
    (yGa3 : PySem.W.findIn K (.ref x3) "__getattribute__" = some (some (.builtin "BaseException.__getattribute__")))
    (yGg3 : PySem.W.findIn K (.ref x3) "__getattr__" = some none)
    (yGc3 : PySem.W.findIn K (.ref x3) "__class__" = some (some (.builtin "object.__class__")))
    (yM3 : PySem.W.mroIn K x3 (.type "object") = some true)
    (yN23 : PySem.W.findIn K (.ref x3) "code" = some none)
    (yN13 : PySem.W.findIn K (.ref x3) "given" = some none)
    (yI3 : PySem.W.findIn K (.ref x3) "__init__" = some (some (.ref h3)))
    (yT3 : PySem.W.typeIn K (.ref h3) = some (.type "function"))
    (yF3 : K.lookup h3 = some ⟨hoc3, hod3, .func (PySem.W.fnOf "__init__" "InvalidHolding.__init__" (defArgs s_InvalidHolding__init) (defBody s_InvalidHolding__init) (defScope s_InvalidHolding__init) .none hkV3 hdc3 hpm3 han3 hcd3 hct3), hsl3⟩)
    (yFc3 : PySem.W.codeIn K hcd3 "InvalidHolding.__init__" = true)
    (yFk3 : PySem.W.keepIn K (.ref h3) = true)
    (yK3 : PySem.W.keepIn K (.ref x3) = true)
    (yE3 : PySem.W.subIn K (.ref x3) (.type "BaseException") = some true)
    (yTy3 : PySem.W.typeIn K (.ref x3) = some (.type "type"))
    (yH3 : PySem.W.hasDictIn K x3 = true)
    (yC4 : PySem.W.nsIn K mainGlobals "InvalidRulebook" = some (some (.ref x4)))
    (yL4 : K.lookup x4 = some (excClassObj nm4 qn4 x4 N4 bs4 (.ref xB :: [.type "ValueError", .type "Exception", .type "BaseException", .type "object"]) true sn4 su4 ab4 co4 dd4 m04 m14 m24 m34 m54 "ValueError.__new__"))
    (ySa4 : PySem.W.findIn K (.ref x4) "__setattr__" = some (some (.builtin "object.__setattr__")))
    (yGa4 : PySem.W.findIn K (.ref x4) "__getattribute__" = some (some (.builtin "BaseException.__getattribute__")))
    (yGg4 : PySem.W.findIn K (.ref x4) "__getattr__" = some none)
    (yGc4 : PySem.W.findIn K (.ref x4) "__class__" = some (some (.builtin "object.__class__")))
    (yM4 : PySem.W.mroIn K x4 (.type "object") = some true)
    (yN24 : PySem.W.findIn K (.ref x4) "code" = some none)
    (yN14 : PySem.W.findIn K (.ref x4) "line" = some none)
    (yI4 : PySem.W.findIn K (.ref x4) "__init__" = some (some (.ref h4)))
    (yT4 : PySem.W.typeIn K (.ref h4) = some (.type "function"))
    (yF4 : K.lookup h4 = some ⟨hoc4, hod4, .func (PySem.W.fnOf "__init__" "InvalidRulebook.__init__" (defArgs s_InvalidRulebook__init) (defBody s_InvalidRulebook__init) (defScope s_InvalidRulebook__init) .none hkV4 hdc4 hpm4 han4 hcd4 hct4), hsl4⟩)
    (yFc4 : PySem.W.codeIn K hcd4 "InvalidRulebook.__init__" = true)
    (yFk4 : PySem.W.keepIn K (.ref h4) = true)
    (yK4 : PySem.W.keepIn K (.ref x4) = true)
    (yE4 : PySem.W.subIn K (.ref x4) (.type "BaseException") = some true)
    (yTy4 : PySem.W.typeIn K (.ref x4) = some (.type "type"))
    (yH4 : PySem.W.hasDictIn K x4 = true)
    (yC5 : PySem.W.nsIn K mainGlobals "InvalidName" = some (some (.ref x5)))
    (yL5 : K.lookup x5 = some (excClassObj nm5 qn5 x5 N5 bs5 (.ref xB :: [.type "ValueError", .type "Exception", .type "BaseException", .type "object"]) true sn5 su5 ab5 co5 dd5 m05 m15 m25 m35 m55 "ValueError.__new__"))
    (ySa5 : PySem.W.findIn K (.ref x5) "__setattr__" = some (some (.builtin "object.__setattr__")))
    (yGa5 : PySem.W.findIn K (.ref x5) "__getattribute__" = some (some (.builtin "BaseException.__getattribute__")))
    (yGg5 : PySem.W.findIn K (.ref x5) "__getattr__" = some none)
    (yGc5 : PySem.W.findIn K (.ref x5) "__class__" = some (some (.builtin "object.__class__")))
    (yM5 : PySem.W.mroIn K x5 (.type "object") = some true)
    (yN25 : PySem.W.findIn K (.ref x5) "code" = some none)
    (yN15 : PySem.W.findIn K (.ref x5) "given" = some none)
    (yI5 : PySem.W.findIn K (.ref x5) "__init__" = some (some (.ref h5)))
    (yT5 : PySem.W.typeIn K (.ref h5) = some (.type "function"))
    (yF5 : K.lookup h5 = some ⟨hoc5, hod5, .func (PySem.W.fnOf "__init__" "InvalidName.__init__" (defArgs s_InvalidName__init) (defBody s_InvalidName__init) (defScope s_InvalidName__init) .none hkV5 hdc5 hpm5 han5 hcd5 hct5), hsl5⟩)
    (yFc5 : PySem.W.codeIn K hcd5 "InvalidName.__init__" = true)
    (yFk5 : PySem.W.keepIn K (.ref h5) = true)
    (yK5 : PySem.W.keepIn K (.ref x5) = true)
    (yE5 : PySem.W.subIn K (.ref x5) (.type "BaseException") = some true)
    (yTy5 : PySem.W.typeIn K (.ref x5) = some (.type "type"))
    (yH5 : PySem.W.hasDictIn K x5 = true)
    (yC6 : PySem.W.nsIn K mainGlobals "InvalidNetwork" = some (some (.ref x6)))
    (yL6 : K.lookup x6 = some (excClassObj nm6 qn6 x6 N6 bs6 (.ref xB :: [.type "ValueError", .type "Exception", .type "BaseException", .type "object"]) true sn6 su6 ab6 co6 dd6 m06 m16 m26 m36 m56 "ValueError.__new__"))
    (ySa6 : PySem.W.findIn K (.ref x6) "__setattr__" = some (some (.builtin "object.__setattr__")))
    (yGa6 : PySem.W.findIn K (.ref x6) "__getattribute__" = some (some (.builtin "BaseException.__getattribute__")))
    (yGg6 : PySem.W.findIn K (.ref x6) "__getattr__" = some none)
    (yGc6 : PySem.W.findIn K (.ref x6) "__class__" = some (some (.builtin "object.__class__")))
    (yM6 : PySem.W.mroIn K x6 (.type "object") = some true)
    (yN26 : PySem.W.findIn K (.ref x6) "code" = some none)
    (yN16 : PySem.W.findIn K (.ref x6) "line" = some none)
    (yI6 : PySem.W.findIn K (.ref x6) "__init__" = some (some (.ref h6)))
    (yT6 : PySem.W.typeIn K (.ref h6) = some (.type "function"))
    (yF6 : K.lookup h6 = some ⟨hoc6, hod6, .func (PySem.W.fnOf "__init__" "InvalidNetwork.__init__" (defArgs s_InvalidNetwork__init) (defBody s_InvalidNetwork__init) (defScope s_InvalidNetwork__init) .none hkV6 hdc6 hpm6 han6 hcd6 hct6), hsl6⟩)
    (yFc6 : PySem.W.codeIn K hcd6 "InvalidNetwork.__init__" = true)
    (yFk6 : PySem.W.keepIn K (.ref h6) = true)
    (yK6 : PySem.W.keepIn K (.ref x6) = true)
    (yE6 : PySem.W.subIn K (.ref x6) (.type "BaseException") = some true)
    (yTy6 : PySem.W.typeIn K (.ref x6) = some (.type "type"))
    (yH6 : PySem.W.hasDictIn K x6 = true)
    (yC7 : PySem.W.nsIn K mainGlobals "InvalidState" = some (some (.ref x7)))
    (yL7 : K.lookup x7 = some (excClassObj nm7 qn7 x7 N7 bs7 (.ref xB :: [.type "ValueError", .type "Exception", .type "BaseException", .type "object"]) true sn7 su7 ab7 co7 dd7 m07 m17 m27 m37 m57 "ValueError.__new__"))
    (ySa7 : PySem.W.findIn K (.ref x7) "__setattr__" = some (some (.builtin "object.__setattr__")))
    (yGa7 : PySem.W.findIn K (.ref x7) "__getattribute__" = some (some (.builtin "BaseException.__getattribute__")))
    (yGg7 : PySem.W.findIn K (.ref x7) "__getattr__" = some none)
    (yGc7 : PySem.W.findIn K (.ref x7) "__class__" = some (some (.builtin "object.__class__")))
    (yM7 : PySem.W.mroIn K x7 (.type "object") = some true)
    (yN27 : PySem.W.findIn K (.ref x7) "code" = some none)
    (yN17 : PySem.W.findIn K (.ref x7) "cell" = some none)
    (yI7 : PySem.W.findIn K (.ref x7) "__init__" = some (some (.ref h7)))
    (yT7 : PySem.W.typeIn K (.ref h7) = some (.type "function"))
    (yF7 : K.lookup h7 = some ⟨hoc7, hod7, .func (PySem.W.fnOf "__init__" "InvalidState.__init__" (defArgs s_InvalidState__init) (defBody s_InvalidState__init) (defScope s_InvalidState__init) .none hkV7 hdc7 hpm7 han7 hcd7 hct7), hsl7⟩)
    (yFc7 : PySem.W.codeIn K hcd7 "InvalidState.__init__" = true)
    (yFk7 : PySem.W.keepIn K (.ref h7) = true)
    (yK7 : PySem.W.keepIn K (.ref x7) = true)
    (yE7 : PySem.W.subIn K (.ref x7) (.type "BaseException") = some true)
    (yTy7 : PySem.W.typeIn K (.ref x7) = some (.type "type"))
    (yH7 : PySem.W.hasDictIn K x7 = true)
    (yC8 : PySem.W.nsIn K mainGlobals "InvalidLook" = some (some (.ref x8)))
    (yL8 : K.lookup x8 = some (excClassObj nm8 qn8 x8 N8 bs8 (.ref xB :: [.type "ValueError", .type "Exception", .type "BaseException", .type "object"]) true sn8 su8 ab8 co8 dd8 m08 m18 m28 m38 m58 "ValueError.__new__"))
    (ySa8 : PySem.W.findIn K (.ref x8) "__setattr__" = some (some (.builtin "object.__setattr__")))
    (yGa8 : PySem.W.findIn K (.ref x8) "__getattribute__" = some (some (.builtin "BaseException.__getattribute__")))
    (yGg8 : PySem.W.findIn K (.ref x8) "__getattr__" = some none)
    (yGc8 : PySem.W.findIn K (.ref x8) "__class__" = some (some (.builtin "object.__class__")))
    (yM8 : PySem.W.mroIn K x8 (.type "object") = some true)
    (yN28 : PySem.W.findIn K (.ref x8) "code" = some none)
    (yN18 : PySem.W.findIn K (.ref x8) "cell" = some none)
    (yI8 : PySem.W.findIn K (.ref x8) "__init__" = some (some (.ref h8)))
    (yT8 : PySem.W.typeIn K (.ref h8) = some (.type "function"))
    (yF8 : K.lookup h8 = some ⟨hoc8, hod8, .func (PySem.W.fnOf "__init__" "InvalidLook.__init__" (defArgs s_InvalidLook__init) (defBody s_InvalidLook__init) (defScope s_InvalidLook__init) .none hkV8 hdc8 hpm8 han8 hcd8 hct8), hsl8⟩)
    (yFc8 : PySem.W.codeIn K hcd8 "InvalidLook.__init__" = true)
    (yFk8 : PySem.W.keepIn K (.ref h8) = true)
    (yK8 : PySem.W.keepIn K (.ref x8) = true)
    (yE8 : PySem.W.subIn K (.ref x8) (.type "BaseException") = some true)
    (yTy8 : PySem.W.typeIn K (.ref x8) = some (.type "type"))
    (yH8 : PySem.W.hasDictIn K x8 = true)
    (yC9 : PySem.W.nsIn K mainGlobals "InvalidCount" = some (some (.ref x9)))
    (yL9 : K.lookup x9 = some (excClassObj nm9 qn9 x9 N9 bs9 (.ref xB :: [.type "ValueError", .type "Exception", .type "BaseException", .type "object"]) true sn9 su9 ab9 co9 dd9 m09 m19 m29 m39 m59 "ValueError.__new__"))
    (ySa9 : PySem.W.findIn K (.ref x9) "__setattr__" = some (some (.builtin "object.__setattr__")))
    (yGa9 : PySem.W.findIn K (.ref x9) "__getattribute__" = some (some (.builtin "BaseException.__getattribute__")))
    (yGg9 : PySem.W.findIn K (.ref x9) "__getattr__" = some none)
    (yGc9 : PySem.W.findIn K (.ref x9) "__class__" = some (some (.builtin "object.__class__")))
    (yM9 : PySem.W.mroIn K x9 (.type "object") = some true)
    (yN29 : PySem.W.findIn K (.ref x9) "code" = some none)
    (yN19 : PySem.W.findIn K (.ref x9) "given" = some none)
    (yI9 : PySem.W.findIn K (.ref x9) "__init__" = some (some (.ref h9)))
    (yT9 : PySem.W.typeIn K (.ref h9) = some (.type "function"))
    (yF9 : K.lookup h9 = some ⟨hoc9, hod9, .func (PySem.W.fnOf "__init__" "InvalidCount.__init__" (defArgs s_InvalidCount__init) (defBody s_InvalidCount__init) (defScope s_InvalidCount__init) .none hkV9 hdc9 hpm9 han9 hcd9 hct9), hsl9⟩)
    (yFc9 : PySem.W.codeIn K hcd9 "InvalidCount.__init__" = true)
    (yFk9 : PySem.W.keepIn K (.ref h9) = true)
    (yK9 : PySem.W.keepIn K (.ref x9) = true)
    (yE9 : PySem.W.subIn K (.ref x9) (.type "BaseException") = some true)
    (yTy9 : PySem.W.typeIn K (.ref x9) = some (.type "type"))
    (yH9 : PySem.W.hasDictIn K x9 = true)
    (yC10 : PySem.W.nsIn K mainGlobals "InvalidCommand" = some (some (.ref x10)))
    (yL10 : K.lookup x10 = some (excClassObj nm10 qn10 x10 N10 bs10 (.ref xB :: [.type "ValueError", .type "Exception", .type "BaseException", .type "object"]) true sn10 su10 ab10 co10 dd10 m010 m110 m210 m310 m510 "ValueError.__new__"))
    (ySa10 : PySem.W.findIn K (.ref x10) "__setattr__" = some (some (.builtin "object.__setattr__")))
    (yGa10 : PySem.W.findIn K (.ref x10) "__getattribute__" = some (some (.builtin "BaseException.__getattribute__")))
    (yGg10 : PySem.W.findIn K (.ref x10) "__getattr__" = some none)
    (yGc10 : PySem.W.findIn K (.ref x10) "__class__" = some (some (.builtin "object.__class__")))
    (yM10 : PySem.W.mroIn K x10 (.type "object") = some true)
    (yN210 : PySem.W.findIn K (.ref x10) "code" = some none)
    (yN110 : PySem.W.findIn K (.ref x10) "word" = some none)
    (yI10 : PySem.W.findIn K (.ref x10) "__init__" = some (some (.ref h10)))
    (yT10 : PySem.W.typeIn K (.ref h10) = some (.type "function"))
    (yF10 : K.lookup h10 = some ⟨hoc10, hod10, .func (PySem.W.fnOf "__init__" "InvalidCommand.__init__" (defArgs s_InvalidCommand__init) (defBody s_InvalidCommand__init) (defScope s_InvalidCommand__init) .none hkV10 hdc10 hpm10 han10 hcd10 hct10), hsl10⟩)
    (yFc10 : PySem.W.codeIn K hcd10 "InvalidCommand.__init__" = true)
    (yFk10 : PySem.W.keepIn K (.ref h10) = true)
    (yK10 : PySem.W.keepIn K (.ref x10) = true)
    (yE10 : PySem.W.subIn K (.ref x10) (.type "BaseException") = some true)
    (yTy10 : PySem.W.typeIn K (.ref x10) = some (.type "type"))
    (yH10 : PySem.W.hasDictIn K x10 = true)
    (yC11 : PySem.W.nsIn K mainGlobals "InvalidLimit" = some (some (.ref x11)))
    (yL11 : K.lookup x11 = some (excClassObj nm11 qn11 x11 N11 bs11 (.ref xB :: [.type "ValueError", .type "Exception", .type "BaseException", .type "object"]) true sn11 su11 ab11 co11 dd11 m011 m111 m211 m311 m511 "ValueError.__new__"))
    (ySa11 : PySem.W.findIn K (.ref x11) "__setattr__" = some (some (.builtin "object.__setattr__")))
    (yGa11 : PySem.W.findIn K (.ref x11) "__getattribute__" = some (some (.builtin "BaseException.__getattribute__")))
    (yGg11 : PySem.W.findIn K (.ref x11) "__getattr__" = some none)
    (yGc11 : PySem.W.findIn K (.ref x11) "__class__" = some (some (.builtin "object.__class__")))
    (yM11 : PySem.W.mroIn K x11 (.type "object") = some true)
    (yN211 : PySem.W.findIn K (.ref x11) "code" = some none)
    (yN111 : PySem.W.findIn K (.ref x11) "given" = some none)
    (yI11 : PySem.W.findIn K (.ref x11) "__init__" = some (some (.ref h11)))
    (yT11 : PySem.W.typeIn K (.ref h11) = some (.type "function"))
    (yF11 : K.lookup h11 = some ⟨hoc11, hod11, .func (PySem.W.fnOf "__init__" "InvalidLimit.__init__" (defArgs s_InvalidLimit__init) (defBody s_InvalidLimit__init) (defScope s_InvalidLimit__init) .none hkV11 hdc11 hpm11 han11 hcd11 hct11), hsl11⟩)
    (yFc11 : PySem.W.codeIn K hcd11 "InvalidLimit.__init__" = true)
    (yFk11 : PySem.W.keepIn K (.ref h11) = true)
    (yK11 : PySem.W.keepIn K (.ref x11) = true)
    (yE11 : PySem.W.subIn K (.ref x11) (.type "BaseException") = some true)
    (yTy11 : PySem.W.typeIn K (.ref x11) = some (.type "type"))
    (yH11 : PySem.W.hasDictIn K x11 = true)
    (yC12 : PySem.W.nsIn K mainGlobals "InvalidPage" = some (some (.ref x12)))
    (yL12 : K.lookup x12 = some (excClassObj nm12 qn12 x12 N12 bs12 (.ref xB :: [.type "ValueError", .type "Exception", .type "BaseException", .type "object"]) true sn12 su12 ab12 co12 dd12 m012 m112 m212 m312 m512 "ValueError.__new__"))
    (ySa12 : PySem.W.findIn K (.ref x12) "__setattr__" = some (some (.builtin "object.__setattr__")))
    (yGa12 : PySem.W.findIn K (.ref x12) "__getattribute__" = some (some (.builtin "BaseException.__getattribute__")))
    (yGg12 : PySem.W.findIn K (.ref x12) "__getattr__" = some none)
    (yGc12 : PySem.W.findIn K (.ref x12) "__class__" = some (some (.builtin "object.__class__")))
    (yM12 : PySem.W.mroIn K x12 (.type "object") = some true)
    (yN212 : PySem.W.findIn K (.ref x12) "code" = some none)
    (yN112 : PySem.W.findIn K (.ref x12) "line" = some none)
    (yI12 : PySem.W.findIn K (.ref x12) "__init__" = some (some (.ref h12)))
    (yT12 : PySem.W.typeIn K (.ref h12) = some (.type "function"))
    (yF12 : K.lookup h12 = some ⟨hoc12, hod12, .func (PySem.W.fnOf "__init__" "InvalidPage.__init__" (defArgs s_InvalidPage__init) (defBody s_InvalidPage__init) (defScope s_InvalidPage__init) .none hkV12 hdc12 hpm12 han12 hcd12 hct12), hsl12⟩)
    (yFc12 : PySem.W.codeIn K hcd12 "InvalidPage.__init__" = true)
    (yFk12 : PySem.W.keepIn K (.ref h12) = true)
    (yK12 : PySem.W.keepIn K (.ref x12) = true)
    (yE12 : PySem.W.subIn K (.ref x12) (.type "BaseException") = some true)
    (yTy12 : PySem.W.typeIn K (.ref x12) = some (.type "type"))
    (yH12 : PySem.W.hasDictIn K x12 = true)
    (yC13 : PySem.W.nsIn K mainGlobals "DuplicateCell" = some (some (.ref x13)))
    (yL13 : K.lookup x13 = some (excClassObj nm13 qn13 x13 N13 bs13 (.ref xB :: [.type "ValueError", .type "Exception", .type "BaseException", .type "object"]) true sn13 su13 ab13 co13 dd13 m013 m113 m213 m313 m513 "ValueError.__new__"))
    (ySa13 : PySem.W.findIn K (.ref x13) "__setattr__" = some (some (.builtin "object.__setattr__")))
    (yGa13 : PySem.W.findIn K (.ref x13) "__getattribute__" = some (some (.builtin "BaseException.__getattribute__")))
    (yGg13 : PySem.W.findIn K (.ref x13) "__getattr__" = some none)
    (yGc13 : PySem.W.findIn K (.ref x13) "__class__" = some (some (.builtin "object.__class__")))
    (yM13 : PySem.W.mroIn K x13 (.type "object") = some true)
    (yN213 : PySem.W.findIn K (.ref x13) "code" = some none)
    (yN113 : PySem.W.findIn K (.ref x13) "name" = some none)
    (yI13 : PySem.W.findIn K (.ref x13) "__init__" = some (some (.ref h13)))
    (yT13 : PySem.W.typeIn K (.ref h13) = some (.type "function"))
    (yF13 : K.lookup h13 = some ⟨hoc13, hod13, .func (PySem.W.fnOf "__init__" "DuplicateCell.__init__" (defArgs s_DuplicateCell__init) (defBody s_DuplicateCell__init) (defScope s_DuplicateCell__init) .none hkV13 hdc13 hpm13 han13 hcd13 hct13), hsl13⟩)
    (yFc13 : PySem.W.codeIn K hcd13 "DuplicateCell.__init__" = true)
    (yFk13 : PySem.W.keepIn K (.ref h13) = true)
    (yK13 : PySem.W.keepIn K (.ref x13) = true)
    (yE13 : PySem.W.subIn K (.ref x13) (.type "BaseException") = some true)
    (yTy13 : PySem.W.typeIn K (.ref x13) = some (.type "type"))
    (yH13 : PySem.W.hasDictIn K x13 = true)
    (yC14 : PySem.W.nsIn K mainGlobals "DuplicateTie" = some (some (.ref x14)))
    (yL14 : K.lookup x14 = some (excClassObj nm14 qn14 x14 N14 bs14 (.ref xB :: [.type "ValueError", .type "Exception", .type "BaseException", .type "object"]) true sn14 su14 ab14 co14 dd14 m014 m114 m214 m314 m514 "ValueError.__new__"))
    (ySa14 : PySem.W.findIn K (.ref x14) "__setattr__" = some (some (.builtin "object.__setattr__")))
    (yGa14 : PySem.W.findIn K (.ref x14) "__getattribute__" = some (some (.builtin "BaseException.__getattribute__")))
    (yGg14 : PySem.W.findIn K (.ref x14) "__getattr__" = some none)
    (yGc14 : PySem.W.findIn K (.ref x14) "__class__" = some (some (.builtin "object.__class__")))
    (yM14 : PySem.W.mroIn K x14 (.type "object") = some true)
    (yN214 : PySem.W.findIn K (.ref x14) "code" = some none)
    (yN114 : PySem.W.findIn K (.ref x14) "tie" = some none)
    (yI14 : PySem.W.findIn K (.ref x14) "__init__" = some (some (.ref h14)))
    (yT14 : PySem.W.typeIn K (.ref h14) = some (.type "function"))
    (yF14 : K.lookup h14 = some ⟨hoc14, hod14, .func (PySem.W.fnOf "__init__" "DuplicateTie.__init__" (defArgs s_DuplicateTie__init) (defBody s_DuplicateTie__init) (defScope s_DuplicateTie__init) .none hkV14 hdc14 hpm14 han14 hcd14 hct14), hsl14⟩)
    (yFc14 : PySem.W.codeIn K hcd14 "DuplicateTie.__init__" = true)
    (yFk14 : PySem.W.keepIn K (.ref h14) = true)
    (yK14 : PySem.W.keepIn K (.ref x14) = true)
    (yE14 : PySem.W.subIn K (.ref x14) (.type "BaseException") = some true)
    (yTy14 : PySem.W.typeIn K (.ref x14) = some (.type "type"))
    (yH14 : PySem.W.hasDictIn K x14 = true)
    (yC15 : PySem.W.nsIn K mainGlobals "KindsDiffer" = some (some (.ref x15)))
    (yL15 : K.lookup x15 = some (excClassObj nm15 qn15 x15 N15 bs15 (.ref xB :: [.type "ValueError", .type "Exception", .type "BaseException", .type "object"]) true sn15 su15 ab15 co15 dd15 m015 m115 m215 m315 m515 "ValueError.__new__"))
    (ySa15 : PySem.W.findIn K (.ref x15) "__setattr__" = some (some (.builtin "object.__setattr__")))
    (yGa15 : PySem.W.findIn K (.ref x15) "__getattribute__" = some (some (.builtin "BaseException.__getattribute__")))
    (yGg15 : PySem.W.findIn K (.ref x15) "__getattr__" = some none)
    (yGc15 : PySem.W.findIn K (.ref x15) "__class__" = some (some (.builtin "object.__class__")))
    (yM15 : PySem.W.mroIn K x15 (.type "object") = some true)
    (yN215 : PySem.W.findIn K (.ref x15) "code" = some none)
    (yN115 : PySem.W.findIn K (.ref x15) "name" = some none)
    (yI15 : PySem.W.findIn K (.ref x15) "__init__" = some (some (.ref h15)))
    (yT15 : PySem.W.typeIn K (.ref h15) = some (.type "function"))
    (yF15 : K.lookup h15 = some ⟨hoc15, hod15, .func (PySem.W.fnOf "__init__" "KindsDiffer.__init__" (defArgs s_KindsDiffer__init) (defBody s_KindsDiffer__init) (defScope s_KindsDiffer__init) .none hkV15 hdc15 hpm15 han15 hcd15 hct15), hsl15⟩)
    (yFc15 : PySem.W.codeIn K hcd15 "KindsDiffer.__init__" = true)
    (yFk15 : PySem.W.keepIn K (.ref h15) = true)
    (yK15 : PySem.W.keepIn K (.ref x15) = true)
    (yE15 : PySem.W.subIn K (.ref x15) (.type "BaseException") = some true)
    (yTy15 : PySem.W.typeIn K (.ref x15) = some (.type "type"))
    (yH15 : PySem.W.hasDictIn K x15 = true)
    (yC16 : PySem.W.nsIn K mainGlobals "BooksDiffer" = some (some (.ref x16)))
    (yL16 : K.lookup x16 = some (excClassObj nm16 qn16 x16 N16 bs16 (.ref xB :: [.type "ValueError", .type "Exception", .type "BaseException", .type "object"]) true sn16 su16 ab16 co16 dd16 m016 m116 m216 m316 m516 "ValueError.__new__"))
    (ySa16 : PySem.W.findIn K (.ref x16) "__setattr__" = some (some (.builtin "object.__setattr__")))
    (yGa16 : PySem.W.findIn K (.ref x16) "__getattribute__" = some (some (.builtin "BaseException.__getattribute__")))
    (yGg16 : PySem.W.findIn K (.ref x16) "__getattr__" = some none)
    (yGc16 : PySem.W.findIn K (.ref x16) "__class__" = some (some (.builtin "object.__class__")))
    (yM16 : PySem.W.mroIn K x16 (.type "object") = some true)
    (yN216 : PySem.W.findIn K (.ref x16) "code" = some none)
    (yI16 : PySem.W.findIn K (.ref x16) "__init__" = some (some (.ref h16)))
    (yT16 : PySem.W.typeIn K (.ref h16) = some (.type "function"))
    (yF16 : K.lookup h16 = some ⟨hoc16, hod16, .func (PySem.W.fnOf "__init__" "BooksDiffer.__init__" (defArgs s_BooksDiffer__init) (defBody s_BooksDiffer__init) (defScope s_BooksDiffer__init) .none hkV16 hdc16 hpm16 han16 hcd16 hct16), hsl16⟩)
    (yFc16 : PySem.W.codeIn K hcd16 "BooksDiffer.__init__" = true)
    (yFk16 : PySem.W.keepIn K (.ref h16) = true)
    (yK16 : PySem.W.keepIn K (.ref x16) = true)
    (yE16 : PySem.W.subIn K (.ref x16) (.type "BaseException") = some true)
    (yTy16 : PySem.W.typeIn K (.ref x16) = some (.type "type"))
    (yH16 : PySem.W.hasDictIn K x16 = true)
    (yC17 : PySem.W.nsIn K mainGlobals "Unsettled" = some (some (.ref x17)))
    (yL17 : K.lookup x17 = some (excClassObj nm17 qn17 x17 N17 bs17 (.ref xB :: [.type "ValueError", .type "Exception", .type "BaseException", .type "object"]) true sn17 su17 ab17 co17 dd17 m017 m117 m217 m317 m517 "ValueError.__new__"))
    (ySa17 : PySem.W.findIn K (.ref x17) "__setattr__" = some (some (.builtin "object.__setattr__")))
    (yGa17 : PySem.W.findIn K (.ref x17) "__getattribute__" = some (some (.builtin "BaseException.__getattribute__")))
    (yGg17 : PySem.W.findIn K (.ref x17) "__getattr__" = some none)
    (yGc17 : PySem.W.findIn K (.ref x17) "__class__" = some (some (.builtin "object.__class__")))
    (yM17 : PySem.W.mroIn K x17 (.type "object") = some true)
    (yN217 : PySem.W.findIn K (.ref x17) "code" = some none)
    (yI17 : PySem.W.findIn K (.ref x17) "__init__" = some (some (.ref h17)))
    (yT17 : PySem.W.typeIn K (.ref h17) = some (.type "function"))
    (yF17 : K.lookup h17 = some ⟨hoc17, hod17, .func (PySem.W.fnOf "__init__" "Unsettled.__init__" (defArgs s_Unsettled__init) (defBody s_Unsettled__init) (defScope s_Unsettled__init) .none hkV17 hdc17 hpm17 han17 hcd17 hct17), hsl17⟩)
    (yFc17 : PySem.W.codeIn K hcd17 "Unsettled.__init__" = true)
    (yFk17 : PySem.W.keepIn K (.ref h17) = true)
    (yK17 : PySem.W.keepIn K (.ref x17) = true)
    (yE17 : PySem.W.subIn K (.ref x17) (.type "BaseException") = some true)
    (yTy17 : PySem.W.typeIn K (.ref x17) = some (.type "type"))
    (yH17 : PySem.W.hasDictIn K x17 = true)
    (yC18 : PySem.W.nsIn K mainGlobals "Full" = some (some (.ref x18)))
    (yL18 : K.lookup x18 = some (excClassObj nm18 qn18 x18 N18 bs18 (.ref xB :: [.type "ValueError", .type "Exception", .type "BaseException", .type "object"]) true sn18 su18 ab18 co18 dd18 m018 m118 m218 m318 m518 "ValueError.__new__"))
    (ySa18 : PySem.W.findIn K (.ref x18) "__setattr__" = some (some (.builtin "object.__setattr__")))
    (yGa18 : PySem.W.findIn K (.ref x18) "__getattribute__" = some (some (.builtin "BaseException.__getattribute__")))
    (yGg18 : PySem.W.findIn K (.ref x18) "__getattr__" = some none)
    (yGc18 : PySem.W.findIn K (.ref x18) "__class__" = some (some (.builtin "object.__class__")))
    (yM18 : PySem.W.mroIn K x18 (.type "object") = some true)
    (yN218 : PySem.W.findIn K (.ref x18) "code" = some none)
    (yN118 : PySem.W.findIn K (.ref x18) "limit" = some none)
    (yI18 : PySem.W.findIn K (.ref x18) "__init__" = some (some (.ref h18)))
    (yT18 : PySem.W.typeIn K (.ref h18) = some (.type "function"))
    (yF18 : K.lookup h18 = some ⟨hoc18, hod18, .func (PySem.W.fnOf "__init__" "Full.__init__" (defArgs s_Full__init) (defBody s_Full__init) (defScope s_Full__init) .none hkV18 hdc18 hpm18 han18 hcd18 hct18), hsl18⟩)
    (yFc18 : PySem.W.codeIn K hcd18 "Full.__init__" = true)
    (yFk18 : PySem.W.keepIn K (.ref h18) = true)
    (yK18 : PySem.W.keepIn K (.ref x18) = true)
    (yE18 : PySem.W.subIn K (.ref x18) (.type "BaseException") = some true)
    (yTy18 : PySem.W.typeIn K (.ref x18) = some (.type "type"))
    (yH18 : PySem.W.hasDictIn K x18 = true)
    (yC19 : PySem.W.nsIn K mainGlobals "EmptyHistory" = some (some (.ref x19)))
    (yL19 : K.lookup x19 = some (excClassObj nm19 qn19 x19 N19 bs19 (.ref xB :: [.type "ValueError", .type "Exception", .type "BaseException", .type "object"]) true sn19 su19 ab19 co19 dd19 m019 m119 m219 m319 m519 "ValueError.__new__"))
    (ySa19 : PySem.W.findIn K (.ref x19) "__setattr__" = some (some (.builtin "object.__setattr__")))
    (yGa19 : PySem.W.findIn K (.ref x19) "__getattribute__" = some (some (.builtin "BaseException.__getattribute__")))
    (yGg19 : PySem.W.findIn K (.ref x19) "__getattr__" = some none)
    (yGc19 : PySem.W.findIn K (.ref x19) "__class__" = some (some (.builtin "object.__class__")))
    (yM19 : PySem.W.mroIn K x19 (.type "object") = some true)
    (yN219 : PySem.W.findIn K (.ref x19) "code" = some none)
    (yI19 : PySem.W.findIn K (.ref x19) "__init__" = some (some (.ref h19)))
    (yT19 : PySem.W.typeIn K (.ref h19) = some (.type "function"))
    (yF19 : K.lookup h19 = some ⟨hoc19, hod19, .func (PySem.W.fnOf "__init__" "EmptyHistory.__init__" (defArgs s_EmptyHistory__init) (defBody s_EmptyHistory__init) (defScope s_EmptyHistory__init) .none hkV19 hdc19 hpm19 han19 hcd19 hct19), hsl19⟩)
    (yFc19 : PySem.W.codeIn K hcd19 "EmptyHistory.__init__" = true)
    (yFk19 : PySem.W.keepIn K (.ref h19) = true)
    (yK19 : PySem.W.keepIn K (.ref x19) = true)
    (yE19 : PySem.W.subIn K (.ref x19) (.type "BaseException") = some true)
    (yTy19 : PySem.W.typeIn K (.ref x19) = some (.type "type"))
    (yH19 : PySem.W.hasDictIn K x19 = true)
    (yC20 : PySem.W.nsIn K mainGlobals "UnknownCell" = some (some (.ref x20)))
    (yL20 : K.lookup x20 = some (excClassObj nm20 qn20 x20 N20 bs20 (.ref xM :: [.type "LookupError", .type "Exception", .type "BaseException", .type "object"]) true sn20 su20 ab20 co20 dd20 m020 m120 m220 m320 m520 "LookupError.__new__"))
    (ySa20 : PySem.W.findIn K (.ref x20) "__setattr__" = some (some (.builtin "object.__setattr__")))
    (yGa20 : PySem.W.findIn K (.ref x20) "__getattribute__" = some (some (.builtin "BaseException.__getattribute__")))
    (yGg20 : PySem.W.findIn K (.ref x20) "__getattr__" = some none)
    (yGc20 : PySem.W.findIn K (.ref x20) "__class__" = some (some (.builtin "object.__class__")))
    (yM20 : PySem.W.mroIn K x20 (.type "object") = some true)
    (yN220 : PySem.W.findIn K (.ref x20) "code" = some none)
    (yN120 : PySem.W.findIn K (.ref x20) "name" = some none)
    (yI20 : PySem.W.findIn K (.ref x20) "__init__" = some (some (.ref h20)))
    (yT20 : PySem.W.typeIn K (.ref h20) = some (.type "function"))
    (yF20 : K.lookup h20 = some ⟨hoc20, hod20, .func (PySem.W.fnOf "__init__" "UnknownCell.__init__" (defArgs s_UnknownCell__init) (defBody s_UnknownCell__init) (defScope s_UnknownCell__init) .none hkV20 hdc20 hpm20 han20 hcd20 hct20), hsl20⟩)
    (yFc20 : PySem.W.codeIn K hcd20 "UnknownCell.__init__" = true)
    (yFk20 : PySem.W.keepIn K (.ref h20) = true)
    (yK20 : PySem.W.keepIn K (.ref x20) = true)
    (yE20 : PySem.W.subIn K (.ref x20) (.type "BaseException") = some true)
    (yTy20 : PySem.W.typeIn K (.ref x20) = some (.type "type"))
    (yH20 : PySem.W.hasDictIn K x20 = true)
    (yC21 : PySem.W.nsIn K mainGlobals "UnknownKind" = some (some (.ref x21)))
    (yL21 : K.lookup x21 = some (excClassObj nm21 qn21 x21 N21 bs21 (.ref xM :: [.type "LookupError", .type "Exception", .type "BaseException", .type "object"]) true sn21 su21 ab21 co21 dd21 m021 m121 m221 m321 m521 "LookupError.__new__"))
    (ySa21 : PySem.W.findIn K (.ref x21) "__setattr__" = some (some (.builtin "object.__setattr__")))
    (yGa21 : PySem.W.findIn K (.ref x21) "__getattribute__" = some (some (.builtin "BaseException.__getattribute__")))
    (yGg21 : PySem.W.findIn K (.ref x21) "__getattr__" = some none)
    (yGc21 : PySem.W.findIn K (.ref x21) "__class__" = some (some (.builtin "object.__class__")))
    (yM21 : PySem.W.mroIn K x21 (.type "object") = some true)
    (yN221 : PySem.W.findIn K (.ref x21) "code" = some none)
    (yN121 : PySem.W.findIn K (.ref x21) "name" = some none)
    (yI21 : PySem.W.findIn K (.ref x21) "__init__" = some (some (.ref h21)))
    (yT21 : PySem.W.typeIn K (.ref h21) = some (.type "function"))
    (yF21 : K.lookup h21 = some ⟨hoc21, hod21, .func (PySem.W.fnOf "__init__" "UnknownKind.__init__" (defArgs s_UnknownKind__init) (defBody s_UnknownKind__init) (defScope s_UnknownKind__init) .none hkV21 hdc21 hpm21 han21 hcd21 hct21), hsl21⟩)
    (yFc21 : PySem.W.codeIn K hcd21 "UnknownKind.__init__" = true)
    (yFk21 : PySem.W.keepIn K (.ref h21) = true)
    (yK21 : PySem.W.keepIn K (.ref x21) = true)
    (yE21 : PySem.W.subIn K (.ref x21) (.type "BaseException") = some true)
    (yTy21 : PySem.W.typeIn K (.ref x21) = some (.type "type"))
    (yH21 : PySem.W.hasDictIn K x21 = true)
    (yC22 : PySem.W.nsIn K mainGlobals "UnknownTie" = some (some (.ref x22)))
    (yL22 : K.lookup x22 = some (excClassObj nm22 qn22 x22 N22 bs22 (.ref xM :: [.type "LookupError", .type "Exception", .type "BaseException", .type "object"]) true sn22 su22 ab22 co22 dd22 m022 m122 m222 m322 m522 "LookupError.__new__"))
    (ySa22 : PySem.W.findIn K (.ref x22) "__setattr__" = some (some (.builtin "object.__setattr__")))
    (yGa22 : PySem.W.findIn K (.ref x22) "__getattribute__" = some (some (.builtin "BaseException.__getattribute__")))
    (yGg22 : PySem.W.findIn K (.ref x22) "__getattr__" = some none)
    (yGc22 : PySem.W.findIn K (.ref x22) "__class__" = some (some (.builtin "object.__class__")))
    (yM22 : PySem.W.mroIn K x22 (.type "object") = some true)
    (yN222 : PySem.W.findIn K (.ref x22) "code" = some none)
    (yN122 : PySem.W.findIn K (.ref x22) "name" = some none)
    (yI22 : PySem.W.findIn K (.ref x22) "__init__" = some (some (.ref h22)))
    (yT22 : PySem.W.typeIn K (.ref h22) = some (.type "function"))
    (yF22 : K.lookup h22 = some ⟨hoc22, hod22, .func (PySem.W.fnOf "__init__" "UnknownTie.__init__" (defArgs s_UnknownTie__init) (defBody s_UnknownTie__init) (defScope s_UnknownTie__init) .none hkV22 hdc22 hpm22 han22 hcd22 hct22), hsl22⟩)
    (yFc22 : PySem.W.codeIn K hcd22 "UnknownTie.__init__" = true)
    (yFk22 : PySem.W.keepIn K (.ref h22) = true)
    (yK22 : PySem.W.keepIn K (.ref x22) = true)
    (yE22 : PySem.W.subIn K (.ref x22) (.type "BaseException") = some true)
    (yTy22 : PySem.W.typeIn K (.ref x22) = some (.type "type"))
    (yH22 : PySem.W.hasDictIn K x22 = true)
    (yC23 : PySem.W.nsIn K mainGlobals "UnknownField" = some (some (.ref x23)))
    (yL23 : K.lookup x23 = some (excClassObj nm23 qn23 x23 N23 bs23 (.ref xM :: [.type "LookupError", .type "Exception", .type "BaseException", .type "object"]) true sn23 su23 ab23 co23 dd23 m023 m123 m223 m323 m523 "LookupError.__new__"))
    (ySa23 : PySem.W.findIn K (.ref x23) "__setattr__" = some (some (.builtin "object.__setattr__")))
    (yGa23 : PySem.W.findIn K (.ref x23) "__getattribute__" = some (some (.builtin "BaseException.__getattribute__")))
    (yGg23 : PySem.W.findIn K (.ref x23) "__getattr__" = some none)
    (yGc23 : PySem.W.findIn K (.ref x23) "__class__" = some (some (.builtin "object.__class__")))
    (yM23 : PySem.W.mroIn K x23 (.type "object") = some true)
    (yN223 : PySem.W.findIn K (.ref x23) "code" = some none)
    (yN123 : PySem.W.findIn K (.ref x23) "name" = some none)
    (yI23 : PySem.W.findIn K (.ref x23) "__init__" = some (some (.ref h23)))
    (yT23 : PySem.W.typeIn K (.ref h23) = some (.type "function"))
    (yF23 : K.lookup h23 = some ⟨hoc23, hod23, .func (PySem.W.fnOf "__init__" "UnknownField.__init__" (defArgs s_UnknownField__init) (defBody s_UnknownField__init) (defScope s_UnknownField__init) .none hkV23 hdc23 hpm23 han23 hcd23 hct23), hsl23⟩)
    (yFc23 : PySem.W.codeIn K hcd23 "UnknownField.__init__" = true)
    (yFk23 : PySem.W.keepIn K (.ref h23) = true)
    (yK23 : PySem.W.keepIn K (.ref x23) = true)
    (yE23 : PySem.W.subIn K (.ref x23) (.type "BaseException") = some true)
    (yTy23 : PySem.W.typeIn K (.ref x23) = some (.type "type"))
    (yH23 : PySem.W.hasDictIn K x23 = true)
    (yC24 : PySem.W.nsIn K mainGlobals "MissingTie" = some (some (.ref x24)))
    (yL24 : K.lookup x24 = some (excClassObj nm24 qn24 x24 N24 bs24 (.ref xM :: [.type "LookupError", .type "Exception", .type "BaseException", .type "object"]) true sn24 su24 ab24 co24 dd24 m024 m124 m224 m324 m524 "LookupError.__new__"))
    (ySa24 : PySem.W.findIn K (.ref x24) "__setattr__" = some (some (.builtin "object.__setattr__")))
    (yGa24 : PySem.W.findIn K (.ref x24) "__getattribute__" = some (some (.builtin "BaseException.__getattribute__")))
    (yGg24 : PySem.W.findIn K (.ref x24) "__getattr__" = some none)
    (yGc24 : PySem.W.findIn K (.ref x24) "__class__" = some (some (.builtin "object.__class__")))
    (yM24 : PySem.W.mroIn K x24 (.type "object") = some true)
    (yN224 : PySem.W.findIn K (.ref x24) "code" = some none)
    (yN124 : PySem.W.findIn K (.ref x24) "tie" = some none)
    (yI24 : PySem.W.findIn K (.ref x24) "__init__" = some (some (.ref h24)))
    (yT24 : PySem.W.typeIn K (.ref h24) = some (.type "function"))
    (yF24 : K.lookup h24 = some ⟨hoc24, hod24, .func (PySem.W.fnOf "__init__" "MissingTie.__init__" (defArgs s_MissingTie__init) (defBody s_MissingTie__init) (defScope s_MissingTie__init) .none hkV24 hdc24 hpm24 han24 hcd24 hct24), hsl24⟩)
    (yFc24 : PySem.W.codeIn K hcd24 "MissingTie.__init__" = true)
    (yFk24 : PySem.W.keepIn K (.ref h24) = true)
    (yK24 : PySem.W.keepIn K (.ref x24) = true)
    (yE24 : PySem.W.subIn K (.ref x24) (.type "BaseException") = some true)
    (yTy24 : PySem.W.typeIn K (.ref x24) = some (.type "type"))
    (yH24 : PySem.W.hasDictIn K x24 = true)
    (yC25 : PySem.W.nsIn K mainGlobals "UnknownMoment" = some (some (.ref x25)))
    (yL25 : K.lookup x25 = some (excClassObj nm25 qn25 x25 N25 bs25 (.ref xM :: [.type "LookupError", .type "Exception", .type "BaseException", .type "object"]) true sn25 su25 ab25 co25 dd25 m025 m125 m225 m325 m525 "LookupError.__new__"))
    (ySa25 : PySem.W.findIn K (.ref x25) "__setattr__" = some (some (.builtin "object.__setattr__")))
    (yGa25 : PySem.W.findIn K (.ref x25) "__getattribute__" = some (some (.builtin "BaseException.__getattribute__")))
    (yGg25 : PySem.W.findIn K (.ref x25) "__getattr__" = some none)
    (yGc25 : PySem.W.findIn K (.ref x25) "__class__" = some (some (.builtin "object.__class__")))
    (yM25 : PySem.W.mroIn K x25 (.type "object") = some true)
    (yN225 : PySem.W.findIn K (.ref x25) "code" = some none)
    (yN125 : PySem.W.findIn K (.ref x25) "given" = some none)
    (yI25 : PySem.W.findIn K (.ref x25) "__init__" = some (some (.ref h25)))
    (yT25 : PySem.W.typeIn K (.ref h25) = some (.type "function"))
    (yF25 : K.lookup h25 = some ⟨hoc25, hod25, .func (PySem.W.fnOf "__init__" "UnknownMoment.__init__" (defArgs s_UnknownMoment__init) (defBody s_UnknownMoment__init) (defScope s_UnknownMoment__init) .none hkV25 hdc25 hpm25 han25 hcd25 hct25), hsl25⟩)
    (yFc25 : PySem.W.codeIn K hcd25 "UnknownMoment.__init__" = true)
    (yFk25 : PySem.W.keepIn K (.ref h25) = true)
    (yK25 : PySem.W.keepIn K (.ref x25) = true)
    (yE25 : PySem.W.subIn K (.ref x25) (.type "BaseException") = some true)
    (yTy25 : PySem.W.typeIn K (.ref x25) = some (.type "type"))
    (yH25 : PySem.W.hasDictIn K x25 = true)
    (kt : kitTab K [x0, x1, x2, x3, x4, x5, x6, x7, x8, x9, x10, x11, x12, x13, x14, x15, x16, x17, x18, x19, x20, x21, x22, x23, x24, x25] [.ref x0, .ref x1, .ref x2, .ref x3, .ref x4, .ref x5, .ref x6, .ref x7, .ref x8, .ref x9, .ref x10, .ref x11, .ref x12, .ref x13, .ref x14, .ref x15, .ref x16, .ref x17, .ref x18, .ref x19, .ref x20, .ref x21, .ref x22, .ref x23, .ref x24, .ref x25, .ref xB, .type "ValueError", .ref xM, .type "LookupError"] = true) : Top K mg :=
  {
    a_copy_of := f0, fd_copy_of := _, d_copy_of := ⟨fun_mk (st := s_copy_of) l0 c0 k0, PySem.W.mg_of X G a0, (fun_mk (st := s_copy_of) l0 c0 k0).binds (ps := ["value"]) fun _ _ _ _ _ _ us hl => match us, hl with | [_], _ => rfl⟩,
    a_l_bag := f1, fd_l_bag := _, d_l_bag := ⟨fun_mk (st := s_l_bag) l1 c1 k1, PySem.W.mg_of X G a1, (fun_mk (st := s_l_bag) l1 c1 k1).binds (ps := ["_law_script"]) fun _ _ _ _ _ _ us hl => match us, hl with | [_], _ => rfl⟩,
    a_l_draw := f2, fd_l_draw := _, d_l_draw := ⟨fun_mk (st := s_l_draw) l2 c2 k2, PySem.W.mg_of X G a2, (fun_mk (st := s_l_draw) l2 c2 k2).binds (ps := ["_law_bag_here", "_law_many"]) fun _ _ _ _ _ _ us hl => match us, hl with | [_, _], _ => rfl⟩,
    a_l_any := f3, fd_l_any := _, d_l_any := ⟨fun_mk (st := s_l_any) l3 c3 k3, PySem.W.mg_of X G a3, (fun_mk (st := s_l_any) l3 c3 k3).binds (ps := ["_law_bag_here", "_law_row"]) fun _ _ _ _ _ _ us hl => match us, hl with | [_, _], _ => rfl⟩,
    a_l_mixed := f4, fd_l_mixed := _, d_l_mixed := ⟨fun_mk (st := s_l_mixed) l4 c4 k4, PySem.W.mg_of X G a4, (fun_mk (st := s_l_mixed) l4 c4 k4).binds (ps := ["_law_bag_here", "_law_row"]) fun _ _ _ _ _ _ us hl => match us, hl with | [_, _], _ => rfl⟩,
    a_l_like := f5, fd_l_like := _, d_l_like := ⟨fun_mk (st := s_l_like) l5 c5 k5, PySem.W.mg_of X G a5, (fun_mk (st := s_l_like) l5 c5 k5).binds (ps := ["_law_found", "_law_due"]) fun _ _ _ _ _ _ us hl => match us, hl with | [_, _], _ => rfl⟩,
    a_l_given := f6, fd_l_given := _, d_l_given := ⟨fun_mk (st := s_l_given) l6 c6 k6, PySem.W.mg_of X G a6, (fun_mk (st := s_l_given) l6 c6 k6).binds (ps := ["_law_e"]) fun _ _ _ _ _ _ us hl => match us, hl with | [_], _ => rfl⟩,
    a_l_made_errors := f7, fd_l_made_errors := _, d_l_made_errors := ⟨fun_mk (st := s_l_made_errors) l7 c7 k7, PySem.W.mg_of X G a7, (fun_mk (st := s_l_made_errors) l7 c7 k7).binds (ps := ["_law_given_here"]) fun _ _ _ _ _ _ us hl => match us, hl with | [_], _ => rfl⟩,
    a_l_flags := f8, fd_l_flags := _, d_l_flags := ⟨fun_mk (st := s_l_flags) l8 c8 k8, PySem.W.mg_of X G a8, (fun_mk (st := s_l_flags) l8 c8 k8).binds (ps := ["_law_e"]) fun _ _ _ _ _ _ us hl => match us, hl with | [_], _ => rfl⟩,
    b_all := PySem.W.mg_none_of X G z_all,
    b_dict := PySem.W.mg_none_of X G z_dict,
    b_isinstance := PySem.W.mg_none_of X G z_isinstance,
    b_len := PySem.W.mg_none_of X G z_len,
    b_list := PySem.W.mg_none_of X G z_list,
    b_max := PySem.W.mg_none_of X G z_max,
    b_min := PySem.W.mg_none_of X G z_min,
    b_range := PySem.W.mg_none_of X G z_range,
    b_sorted := PySem.W.mg_none_of X G z_sorted,
    b_tuple := PySem.W.mg_none_of X G z_tuple,
    b_int := PySem.W.mg_none_of X G z_int,
    b_zip := PySem.W.mg_none_of X G z_zip,
    b_bool := PySem.W.mg_none_of X G z_bool,
    b_str := PySem.W.mg_none_of X G z_str,
    r_InvalidField := { c := x0, f := h0, fd := _, F := (fun_mk (st := s_InvalidField__init) yF0 yFc0 yFk0), b := (fun_mk (st := s_InvalidField__init) yF0 yFc0 yFk0).binds (ps := ["self", "position"]) fun _ _ _ _ _ _ us hl => match us, hl with | [_, _], _ => rfl, g := PySem.W.mg_of X G yC0, e := ⟨fam_ValueError yL0, ySa0, yE0, yTy0, yK0, yH0⟩, i := yI0, t := yT0, n := no_of yN20 yN10, x := ⟨yGa0, yGg0, yE0, yH0⟩, k := ⟨yGa0, yGg0, yE0, yH0, yGc0, yhn, yht, yM0⟩ },
    r_InvalidTie := { c := x1, f := h1, fd := _, F := (fun_mk (st := s_InvalidTie__init) yF1 yFc1 yFk1), b := (fun_mk (st := s_InvalidTie__init) yF1 yFc1 yFk1).binds (ps := ["self", "position"]) fun _ _ _ _ _ _ us hl => match us, hl with | [_, _], _ => rfl, g := PySem.W.mg_of X G yC1, e := ⟨fam_ValueError yL1, ySa1, yE1, yTy1, yK1, yH1⟩, i := yI1, t := yT1, n := no_of yN21 yN11, x := ⟨yGa1, yGg1, yE1, yH1⟩, k := ⟨yGa1, yGg1, yE1, yH1, yGc1, yhn, yht, yM1⟩ },
    r_InvalidKind := { c := x2, f := h2, fd := _, F := (fun_mk (st := s_InvalidKind__init) yF2 yFc2 yFk2), b := (fun_mk (st := s_InvalidKind__init) yF2 yFc2 yFk2).binds (ps := ["self", "position"]) fun _ _ _ _ _ _ us hl => match us, hl with | [_, _], _ => rfl, g := PySem.W.mg_of X G yC2, e := ⟨fam_ValueError yL2, ySa2, yE2, yTy2, yK2, yH2⟩, i := yI2, t := yT2, n := no_of yN22 yN12, x := ⟨yGa2, yGg2, yE2, yH2⟩, k := ⟨yGa2, yGg2, yE2, yH2, yGc2, yhn, yht, yM2⟩ },
    r_InvalidHolding := { c := x3, f := h3, fd := _, F := (fun_mk (st := s_InvalidHolding__init) yF3 yFc3 yFk3), b := (fun_mk (st := s_InvalidHolding__init) yF3 yFc3 yFk3).binds (ps := ["self", "given"]) fun _ _ _ _ _ _ us hl => match us, hl with | [_, _], _ => rfl, g := PySem.W.mg_of X G yC3, e := ⟨fam_ValueError yL3, ySa3, yE3, yTy3, yK3, yH3⟩, i := yI3, t := yT3, n := no_of yN23 yN13, x := ⟨yGa3, yGg3, yE3, yH3⟩, k := ⟨yGa3, yGg3, yE3, yH3, yGc3, yhn, yht, yM3⟩ },
    r_InvalidRulebook := { c := x4, f := h4, fd := _, F := (fun_mk (st := s_InvalidRulebook__init) yF4 yFc4 yFk4), b := (fun_mk (st := s_InvalidRulebook__init) yF4 yFc4 yFk4).binds (ps := ["self", "line"]) fun _ _ _ _ _ _ us hl => match us, hl with | [_, _], _ => rfl, g := PySem.W.mg_of X G yC4, e := ⟨fam_ValueError yL4, ySa4, yE4, yTy4, yK4, yH4⟩, i := yI4, t := yT4, n := no_of yN24 yN14, x := ⟨yGa4, yGg4, yE4, yH4⟩, k := ⟨yGa4, yGg4, yE4, yH4, yGc4, yhn, yht, yM4⟩ },
    r_InvalidName := { c := x5, f := h5, fd := _, F := (fun_mk (st := s_InvalidName__init) yF5 yFc5 yFk5), b := (fun_mk (st := s_InvalidName__init) yF5 yFc5 yFk5).binds (ps := ["self", "given"]) fun _ _ _ _ _ _ us hl => match us, hl with | [_, _], _ => rfl, g := PySem.W.mg_of X G yC5, e := ⟨fam_ValueError yL5, ySa5, yE5, yTy5, yK5, yH5⟩, i := yI5, t := yT5, n := no_of yN25 yN15, x := ⟨yGa5, yGg5, yE5, yH5⟩, k := ⟨yGa5, yGg5, yE5, yH5, yGc5, yhn, yht, yM5⟩ },
    r_InvalidNetwork := { c := x6, f := h6, fd := _, F := (fun_mk (st := s_InvalidNetwork__init) yF6 yFc6 yFk6), b := (fun_mk (st := s_InvalidNetwork__init) yF6 yFc6 yFk6).binds (ps := ["self", "line"]) fun _ _ _ _ _ _ us hl => match us, hl with | [_, _], _ => rfl, g := PySem.W.mg_of X G yC6, e := ⟨fam_ValueError yL6, ySa6, yE6, yTy6, yK6, yH6⟩, i := yI6, t := yT6, n := no_of yN26 yN16, x := ⟨yGa6, yGg6, yE6, yH6⟩, k := ⟨yGa6, yGg6, yE6, yH6, yGc6, yhn, yht, yM6⟩ },
    r_InvalidState := { c := x7, f := h7, fd := _, F := (fun_mk (st := s_InvalidState__init) yF7 yFc7 yFk7), b := (fun_mk (st := s_InvalidState__init) yF7 yFc7 yFk7).binds (ps := ["self", "cell"]) fun _ _ _ _ _ _ us hl => match us, hl with | [_, _], _ => rfl, g := PySem.W.mg_of X G yC7, e := ⟨fam_ValueError yL7, ySa7, yE7, yTy7, yK7, yH7⟩, i := yI7, t := yT7, n := no_of yN27 yN17, x := ⟨yGa7, yGg7, yE7, yH7⟩, k := ⟨yGa7, yGg7, yE7, yH7, yGc7, yhn, yht, yM7⟩ },
    r_InvalidLook := { c := x8, f := h8, fd := _, F := (fun_mk (st := s_InvalidLook__init) yF8 yFc8 yFk8), b := (fun_mk (st := s_InvalidLook__init) yF8 yFc8 yFk8).binds (ps := ["self", "cell"]) fun _ _ _ _ _ _ us hl => match us, hl with | [_, _], _ => rfl, g := PySem.W.mg_of X G yC8, e := ⟨fam_ValueError yL8, ySa8, yE8, yTy8, yK8, yH8⟩, i := yI8, t := yT8, n := no_of yN28 yN18, x := ⟨yGa8, yGg8, yE8, yH8⟩, k := ⟨yGa8, yGg8, yE8, yH8, yGc8, yhn, yht, yM8⟩ },
    r_InvalidCount := { c := x9, f := h9, fd := _, F := (fun_mk (st := s_InvalidCount__init) yF9 yFc9 yFk9), b := (fun_mk (st := s_InvalidCount__init) yF9 yFc9 yFk9).binds (ps := ["self", "given"]) fun _ _ _ _ _ _ us hl => match us, hl with | [_, _], _ => rfl, g := PySem.W.mg_of X G yC9, e := ⟨fam_ValueError yL9, ySa9, yE9, yTy9, yK9, yH9⟩, i := yI9, t := yT9, n := no_of yN29 yN19, x := ⟨yGa9, yGg9, yE9, yH9⟩, k := ⟨yGa9, yGg9, yE9, yH9, yGc9, yhn, yht, yM9⟩ },
    r_InvalidCommand := { c := x10, f := h10, fd := _, F := (fun_mk (st := s_InvalidCommand__init) yF10 yFc10 yFk10), b := (fun_mk (st := s_InvalidCommand__init) yF10 yFc10 yFk10).binds (ps := ["self", "word"]) fun _ _ _ _ _ _ us hl => match us, hl with | [_, _], _ => rfl, g := PySem.W.mg_of X G yC10, e := ⟨fam_ValueError yL10, ySa10, yE10, yTy10, yK10, yH10⟩, i := yI10, t := yT10, n := no_of yN210 yN110, x := ⟨yGa10, yGg10, yE10, yH10⟩, k := ⟨yGa10, yGg10, yE10, yH10, yGc10, yhn, yht, yM10⟩ },
    r_InvalidLimit := { c := x11, f := h11, fd := _, F := (fun_mk (st := s_InvalidLimit__init) yF11 yFc11 yFk11), b := (fun_mk (st := s_InvalidLimit__init) yF11 yFc11 yFk11).binds (ps := ["self", "given"]) fun _ _ _ _ _ _ us hl => match us, hl with | [_, _], _ => rfl, g := PySem.W.mg_of X G yC11, e := ⟨fam_ValueError yL11, ySa11, yE11, yTy11, yK11, yH11⟩, i := yI11, t := yT11, n := no_of yN211 yN111, x := ⟨yGa11, yGg11, yE11, yH11⟩, k := ⟨yGa11, yGg11, yE11, yH11, yGc11, yhn, yht, yM11⟩ },
    r_InvalidPage := { c := x12, f := h12, fd := _, F := (fun_mk (st := s_InvalidPage__init) yF12 yFc12 yFk12), b := (fun_mk (st := s_InvalidPage__init) yF12 yFc12 yFk12).binds (ps := ["self", "line"]) fun _ _ _ _ _ _ us hl => match us, hl with | [_, _], _ => rfl, g := PySem.W.mg_of X G yC12, e := ⟨fam_ValueError yL12, ySa12, yE12, yTy12, yK12, yH12⟩, i := yI12, t := yT12, n := no_of yN212 yN112, x := ⟨yGa12, yGg12, yE12, yH12⟩, k := ⟨yGa12, yGg12, yE12, yH12, yGc12, yhn, yht, yM12⟩ },
    r_DuplicateCell := { c := x13, f := h13, fd := _, F := (fun_mk (st := s_DuplicateCell__init) yF13 yFc13 yFk13), b := (fun_mk (st := s_DuplicateCell__init) yF13 yFc13 yFk13).binds (ps := ["self", "name"]) fun _ _ _ _ _ _ us hl => match us, hl with | [_, _], _ => rfl, g := PySem.W.mg_of X G yC13, e := ⟨fam_ValueError yL13, ySa13, yE13, yTy13, yK13, yH13⟩, i := yI13, t := yT13, n := no_of yN213 yN113, x := ⟨yGa13, yGg13, yE13, yH13⟩, k := ⟨yGa13, yGg13, yE13, yH13, yGc13, yhn, yht, yM13⟩ },
    r_DuplicateTie := { c := x14, f := h14, fd := _, F := (fun_mk (st := s_DuplicateTie__init) yF14 yFc14 yFk14), b := (fun_mk (st := s_DuplicateTie__init) yF14 yFc14 yFk14).binds (ps := ["self", "tie"]) fun _ _ _ _ _ _ us hl => match us, hl with | [_, _], _ => rfl, g := PySem.W.mg_of X G yC14, e := ⟨fam_ValueError yL14, ySa14, yE14, yTy14, yK14, yH14⟩, i := yI14, t := yT14, n := no_of yN214 yN114, x := ⟨yGa14, yGg14, yE14, yH14⟩, k := ⟨yGa14, yGg14, yE14, yH14, yGc14, yhn, yht, yM14⟩ },
    r_KindsDiffer := { c := x15, f := h15, fd := _, F := (fun_mk (st := s_KindsDiffer__init) yF15 yFc15 yFk15), b := (fun_mk (st := s_KindsDiffer__init) yF15 yFc15 yFk15).binds (ps := ["self", "name"]) fun _ _ _ _ _ _ us hl => match us, hl with | [_, _], _ => rfl, g := PySem.W.mg_of X G yC15, e := ⟨fam_ValueError yL15, ySa15, yE15, yTy15, yK15, yH15⟩, i := yI15, t := yT15, n := no_of yN215 yN115, x := ⟨yGa15, yGg15, yE15, yH15⟩, k := ⟨yGa15, yGg15, yE15, yH15, yGc15, yhn, yht, yM15⟩ },
    r_BooksDiffer := { c := x16, f := h16, fd := _, F := (fun_mk (st := s_BooksDiffer__init) yF16 yFc16 yFk16), b := (fun_mk (st := s_BooksDiffer__init) yF16 yFc16 yFk16).binds (ps := ["self"]) fun _ _ _ _ _ _ us hl => match us, hl with | [_], _ => rfl, g := PySem.W.mg_of X G yC16, e := ⟨fam_ValueError yL16, ySa16, yE16, yTy16, yK16, yH16⟩, i := yI16, t := yT16, n := no_of0 yN216, x := ⟨yGa16, yGg16, yE16, yH16⟩, k := ⟨yGa16, yGg16, yE16, yH16, yGc16, yhn, yht, yM16⟩ },
    r_Unsettled := { c := x17, f := h17, fd := _, F := (fun_mk (st := s_Unsettled__init) yF17 yFc17 yFk17), b := (fun_mk (st := s_Unsettled__init) yF17 yFc17 yFk17).binds (ps := ["self"]) fun _ _ _ _ _ _ us hl => match us, hl with | [_], _ => rfl, g := PySem.W.mg_of X G yC17, e := ⟨fam_ValueError yL17, ySa17, yE17, yTy17, yK17, yH17⟩, i := yI17, t := yT17, n := no_of0 yN217, x := ⟨yGa17, yGg17, yE17, yH17⟩, k := ⟨yGa17, yGg17, yE17, yH17, yGc17, yhn, yht, yM17⟩ },
    r_Full := { c := x18, f := h18, fd := _, F := (fun_mk (st := s_Full__init) yF18 yFc18 yFk18), b := (fun_mk (st := s_Full__init) yF18 yFc18 yFk18).binds (ps := ["self", "limit"]) fun _ _ _ _ _ _ us hl => match us, hl with | [_, _], _ => rfl, g := PySem.W.mg_of X G yC18, e := ⟨fam_ValueError yL18, ySa18, yE18, yTy18, yK18, yH18⟩, i := yI18, t := yT18, n := no_of yN218 yN118, x := ⟨yGa18, yGg18, yE18, yH18⟩, k := ⟨yGa18, yGg18, yE18, yH18, yGc18, yhn, yht, yM18⟩ },
    r_EmptyHistory := { c := x19, f := h19, fd := _, F := (fun_mk (st := s_EmptyHistory__init) yF19 yFc19 yFk19), b := (fun_mk (st := s_EmptyHistory__init) yF19 yFc19 yFk19).binds (ps := ["self"]) fun _ _ _ _ _ _ us hl => match us, hl with | [_], _ => rfl, g := PySem.W.mg_of X G yC19, e := ⟨fam_ValueError yL19, ySa19, yE19, yTy19, yK19, yH19⟩, i := yI19, t := yT19, n := no_of0 yN219, x := ⟨yGa19, yGg19, yE19, yH19⟩, k := ⟨yGa19, yGg19, yE19, yH19, yGc19, yhn, yht, yM19⟩ },
    r_UnknownCell := { c := x20, f := h20, fd := _, F := (fun_mk (st := s_UnknownCell__init) yF20 yFc20 yFk20), b := (fun_mk (st := s_UnknownCell__init) yF20 yFc20 yFk20).binds (ps := ["self", "name"]) fun _ _ _ _ _ _ us hl => match us, hl with | [_, _], _ => rfl, g := PySem.W.mg_of X G yC20, e := ⟨fam_LookupError yL20, ySa20, yE20, yTy20, yK20, yH20⟩, i := yI20, t := yT20, n := no_of yN220 yN120, x := ⟨yGa20, yGg20, yE20, yH20⟩, k := ⟨yGa20, yGg20, yE20, yH20, yGc20, yhn, yht, yM20⟩ },
    r_UnknownKind := { c := x21, f := h21, fd := _, F := (fun_mk (st := s_UnknownKind__init) yF21 yFc21 yFk21), b := (fun_mk (st := s_UnknownKind__init) yF21 yFc21 yFk21).binds (ps := ["self", "name"]) fun _ _ _ _ _ _ us hl => match us, hl with | [_, _], _ => rfl, g := PySem.W.mg_of X G yC21, e := ⟨fam_LookupError yL21, ySa21, yE21, yTy21, yK21, yH21⟩, i := yI21, t := yT21, n := no_of yN221 yN121, x := ⟨yGa21, yGg21, yE21, yH21⟩, k := ⟨yGa21, yGg21, yE21, yH21, yGc21, yhn, yht, yM21⟩ },
    r_UnknownTie := { c := x22, f := h22, fd := _, F := (fun_mk (st := s_UnknownTie__init) yF22 yFc22 yFk22), b := (fun_mk (st := s_UnknownTie__init) yF22 yFc22 yFk22).binds (ps := ["self", "name"]) fun _ _ _ _ _ _ us hl => match us, hl with | [_, _], _ => rfl, g := PySem.W.mg_of X G yC22, e := ⟨fam_LookupError yL22, ySa22, yE22, yTy22, yK22, yH22⟩, i := yI22, t := yT22, n := no_of yN222 yN122, x := ⟨yGa22, yGg22, yE22, yH22⟩, k := ⟨yGa22, yGg22, yE22, yH22, yGc22, yhn, yht, yM22⟩ },
    r_UnknownField := { c := x23, f := h23, fd := _, F := (fun_mk (st := s_UnknownField__init) yF23 yFc23 yFk23), b := (fun_mk (st := s_UnknownField__init) yF23 yFc23 yFk23).binds (ps := ["self", "name"]) fun _ _ _ _ _ _ us hl => match us, hl with | [_, _], _ => rfl, g := PySem.W.mg_of X G yC23, e := ⟨fam_LookupError yL23, ySa23, yE23, yTy23, yK23, yH23⟩, i := yI23, t := yT23, n := no_of yN223 yN123, x := ⟨yGa23, yGg23, yE23, yH23⟩, k := ⟨yGa23, yGg23, yE23, yH23, yGc23, yhn, yht, yM23⟩ },
    r_MissingTie := { c := x24, f := h24, fd := _, F := (fun_mk (st := s_MissingTie__init) yF24 yFc24 yFk24), b := (fun_mk (st := s_MissingTie__init) yF24 yFc24 yFk24).binds (ps := ["self", "tie"]) fun _ _ _ _ _ _ us hl => match us, hl with | [_, _], _ => rfl, g := PySem.W.mg_of X G yC24, e := ⟨fam_LookupError yL24, ySa24, yE24, yTy24, yK24, yH24⟩, i := yI24, t := yT24, n := no_of yN224 yN124, x := ⟨yGa24, yGg24, yE24, yH24⟩, k := ⟨yGa24, yGg24, yE24, yH24, yGc24, yhn, yht, yM24⟩ },
    r_UnknownMoment := { c := x25, f := h25, fd := _, F := (fun_mk (st := s_UnknownMoment__init) yF25 yFc25 yFk25), b := (fun_mk (st := s_UnknownMoment__init) yF25 yFc25 yFk25).binds (ps := ["self", "given"]) fun _ _ _ _ _ _ us hl => match us, hl with | [_, _], _ => rfl, g := PySem.W.mg_of X G yC25, e := ⟨fam_LookupError yL25, ySa25, yE25, yTy25, yK25, yH25⟩, i := yI25, t := yT25, n := no_of yN225 yN125, x := ⟨yGa25, yGg25, yE25, yH25⟩, k := ⟨yGa25, yGg25, yE25, yH25, yGc25, yhn, yht, yM25⟩ },
    cBE := xB, cMS := xM, gBE := PySem.W.mg_of X G yxB, gMS := PySem.W.mg_of X G yxM, z_VE := PySem.W.mg_none_of X G z_ValueError, z_LE := PySem.W.mg_none_of X G z_LookupError, kt := kt }
theorem all_mk {l : PySem.W.OpenLaw} {w : World} {K : PySem.W.Frag} {h : Heap} {mg : Str → Option Value} {fa : Addr} (X : K.In h) (G : h.Ns mainGlobals mg) (hfa : mg "law" = some (.ref fa))
    {f0 : Addr} {od0 an0 : Option Addr} {sl0 : Array (Option Value)} {oc0 kV0 dc0 pm0 cd0 ct0 : Value}
    {f1 : Addr} {od1 an1 : Option Addr} {sl1 : Array (Option Value)} {oc1 kV1 dc1 pm1 cd1 ct1 : Value}
    {f2 : Addr} {od2 an2 : Option Addr} {sl2 : Array (Option Value)} {oc2 kV2 dc2 pm2 cd2 ct2 : Value}
    {f3 : Addr} {od3 an3 : Option Addr} {sl3 : Array (Option Value)} {oc3 kV3 dc3 pm3 cd3 ct3 : Value}
    {f4 : Addr} {od4 an4 : Option Addr} {sl4 : Array (Option Value)} {oc4 kV4 dc4 pm4 cd4 ct4 : Value}
    {f5 : Addr} {od5 an5 : Option Addr} {sl5 : Array (Option Value)} {oc5 kV5 dc5 pm5 cd5 ct5 : Value}
    {f6 : Addr} {od6 an6 : Option Addr} {sl6 : Array (Option Value)} {oc6 kV6 dc6 pm6 cd6 ct6 : Value}
    {f7 : Addr} {od7 an7 : Option Addr} {sl7 : Array (Option Value)} {oc7 kV7 dc7 pm7 cd7 ct7 : Value}
    {f8 : Addr} {od8 an8 : Option Addr} {sl8 : Array (Option Value)} {oc8 kV8 dc8 pm8 cd8 ct8 : Value}
    {f9 : Addr} {od9 an9 : Option Addr} {sl9 : Array (Option Value)} {oc9 kV9 dc9 pm9 cd9 ct9 : Value}
    {xB xM : Addr}
    {x0 h0 : Addr} {nm0 qn0 : Str} {N0 : Addr} {bs0 : List Value} {sn0 : List Str} {su0 : List Value} {ab0 : Bool} {co0 : Option Bool} {dd0 : Option Addr} {m00 m10 m20 m30 m50 : Option Value} {hod0 han0 : Option Addr} {hsl0 : Array (Option Value)} {hoc0 hkV0 hdc0 hpm0 hcd0 hct0 : Value}
    {x1 h1 : Addr} {nm1 qn1 : Str} {N1 : Addr} {bs1 : List Value} {sn1 : List Str} {su1 : List Value} {ab1 : Bool} {co1 : Option Bool} {dd1 : Option Addr} {m01 m11 m21 m31 m51 : Option Value} {hod1 han1 : Option Addr} {hsl1 : Array (Option Value)} {hoc1 hkV1 hdc1 hpm1 hcd1 hct1 : Value}
    {x2 h2 : Addr} {nm2 qn2 : Str} {N2 : Addr} {bs2 : List Value} {sn2 : List Str} {su2 : List Value} {ab2 : Bool} {co2 : Option Bool} {dd2 : Option Addr} {m02 m12 m22 m32 m52 : Option Value} {hod2 han2 : Option Addr} {hsl2 : Array (Option Value)} {hoc2 hkV2 hdc2 hpm2 hcd2 hct2 : Value}
    {x3 h3 : Addr} {nm3 qn3 : Str} {N3 : Addr} {bs3 : List Value} {sn3 : List Str} {su3 : List Value} {ab3 : Bool} {co3 : Option Bool} {dd3 : Option Addr} {m03 m13 m23 m33 m53 : Option Value} {hod3 han3 : Option Addr} {hsl3 : Array (Option Value)} {hoc3 hkV3 hdc3 hpm3 hcd3 hct3 : Value}
    {x4 h4 : Addr} {nm4 qn4 : Str} {N4 : Addr} {bs4 : List Value} {sn4 : List Str} {su4 : List Value} {ab4 : Bool} {co4 : Option Bool} {dd4 : Option Addr} {m04 m14 m24 m34 m54 : Option Value} {hod4 han4 : Option Addr} {hsl4 : Array (Option Value)} {hoc4 hkV4 hdc4 hpm4 hcd4 hct4 : Value}
    {x5 h5 : Addr} {nm5 qn5 : Str} {N5 : Addr} {bs5 : List Value} {sn5 : List Str} {su5 : List Value} {ab5 : Bool} {co5 : Option Bool} {dd5 : Option Addr} {m05 m15 m25 m35 m55 : Option Value} {hod5 han5 : Option Addr} {hsl5 : Array (Option Value)} {hoc5 hkV5 hdc5 hpm5 hcd5 hct5 : Value}
    {x6 h6 : Addr} {nm6 qn6 : Str} {N6 : Addr} {bs6 : List Value} {sn6 : List Str} {su6 : List Value} {ab6 : Bool} {co6 : Option Bool} {dd6 : Option Addr} {m06 m16 m26 m36 m56 : Option Value} {hod6 han6 : Option Addr} {hsl6 : Array (Option Value)} {hoc6 hkV6 hdc6 hpm6 hcd6 hct6 : Value}
    {x7 h7 : Addr} {nm7 qn7 : Str} {N7 : Addr} {bs7 : List Value} {sn7 : List Str} {su7 : List Value} {ab7 : Bool} {co7 : Option Bool} {dd7 : Option Addr} {m07 m17 m27 m37 m57 : Option Value} {hod7 han7 : Option Addr} {hsl7 : Array (Option Value)} {hoc7 hkV7 hdc7 hpm7 hcd7 hct7 : Value}
    {x8 h8 : Addr} {nm8 qn8 : Str} {N8 : Addr} {bs8 : List Value} {sn8 : List Str} {su8 : List Value} {ab8 : Bool} {co8 : Option Bool} {dd8 : Option Addr} {m08 m18 m28 m38 m58 : Option Value} {hod8 han8 : Option Addr} {hsl8 : Array (Option Value)} {hoc8 hkV8 hdc8 hpm8 hcd8 hct8 : Value}
    {x9 h9 : Addr} {nm9 qn9 : Str} {N9 : Addr} {bs9 : List Value} {sn9 : List Str} {su9 : List Value} {ab9 : Bool} {co9 : Option Bool} {dd9 : Option Addr} {m09 m19 m29 m39 m59 : Option Value} {hod9 han9 : Option Addr} {hsl9 : Array (Option Value)} {hoc9 hkV9 hdc9 hpm9 hcd9 hct9 : Value}
    {x10 h10 : Addr} {nm10 qn10 : Str} {N10 : Addr} {bs10 : List Value} {sn10 : List Str} {su10 : List Value} {ab10 : Bool} {co10 : Option Bool} {dd10 : Option Addr} {m010 m110 m210 m310 m510 : Option Value} {hod10 han10 : Option Addr} {hsl10 : Array (Option Value)} {hoc10 hkV10 hdc10 hpm10 hcd10 hct10 : Value}
    {x11 h11 : Addr} {nm11 qn11 : Str} {N11 : Addr} {bs11 : List Value} {sn11 : List Str} {su11 : List Value} {ab11 : Bool} {co11 : Option Bool} {dd11 : Option Addr} {m011 m111 m211 m311 m511 : Option Value} {hod11 han11 : Option Addr} {hsl11 : Array (Option Value)} {hoc11 hkV11 hdc11 hpm11 hcd11 hct11 : Value}
    {x12 h12 : Addr} {nm12 qn12 : Str} {N12 : Addr} {bs12 : List Value} {sn12 : List Str} {su12 : List Value} {ab12 : Bool} {co12 : Option Bool} {dd12 : Option Addr} {m012 m112 m212 m312 m512 : Option Value} {hod12 han12 : Option Addr} {hsl12 : Array (Option Value)} {hoc12 hkV12 hdc12 hpm12 hcd12 hct12 : Value}
    {x13 h13 : Addr} {nm13 qn13 : Str} {N13 : Addr} {bs13 : List Value} {sn13 : List Str} {su13 : List Value} {ab13 : Bool} {co13 : Option Bool} {dd13 : Option Addr} {m013 m113 m213 m313 m513 : Option Value} {hod13 han13 : Option Addr} {hsl13 : Array (Option Value)} {hoc13 hkV13 hdc13 hpm13 hcd13 hct13 : Value}
    {x14 h14 : Addr} {nm14 qn14 : Str} {N14 : Addr} {bs14 : List Value} {sn14 : List Str} {su14 : List Value} {ab14 : Bool} {co14 : Option Bool} {dd14 : Option Addr} {m014 m114 m214 m314 m514 : Option Value} {hod14 han14 : Option Addr} {hsl14 : Array (Option Value)} {hoc14 hkV14 hdc14 hpm14 hcd14 hct14 : Value}
    {x15 h15 : Addr} {nm15 qn15 : Str} {N15 : Addr} {bs15 : List Value} {sn15 : List Str} {su15 : List Value} {ab15 : Bool} {co15 : Option Bool} {dd15 : Option Addr} {m015 m115 m215 m315 m515 : Option Value} {hod15 han15 : Option Addr} {hsl15 : Array (Option Value)} {hoc15 hkV15 hdc15 hpm15 hcd15 hct15 : Value}
    {x16 h16 : Addr} {nm16 qn16 : Str} {N16 : Addr} {bs16 : List Value} {sn16 : List Str} {su16 : List Value} {ab16 : Bool} {co16 : Option Bool} {dd16 : Option Addr} {m016 m116 m216 m316 m516 : Option Value} {hod16 han16 : Option Addr} {hsl16 : Array (Option Value)} {hoc16 hkV16 hdc16 hpm16 hcd16 hct16 : Value}
    {x17 h17 : Addr} {nm17 qn17 : Str} {N17 : Addr} {bs17 : List Value} {sn17 : List Str} {su17 : List Value} {ab17 : Bool} {co17 : Option Bool} {dd17 : Option Addr} {m017 m117 m217 m317 m517 : Option Value} {hod17 han17 : Option Addr} {hsl17 : Array (Option Value)} {hoc17 hkV17 hdc17 hpm17 hcd17 hct17 : Value}
    {x18 h18 : Addr} {nm18 qn18 : Str} {N18 : Addr} {bs18 : List Value} {sn18 : List Str} {su18 : List Value} {ab18 : Bool} {co18 : Option Bool} {dd18 : Option Addr} {m018 m118 m218 m318 m518 : Option Value} {hod18 han18 : Option Addr} {hsl18 : Array (Option Value)} {hoc18 hkV18 hdc18 hpm18 hcd18 hct18 : Value}
    {x19 h19 : Addr} {nm19 qn19 : Str} {N19 : Addr} {bs19 : List Value} {sn19 : List Str} {su19 : List Value} {ab19 : Bool} {co19 : Option Bool} {dd19 : Option Addr} {m019 m119 m219 m319 m519 : Option Value} {hod19 han19 : Option Addr} {hsl19 : Array (Option Value)} {hoc19 hkV19 hdc19 hpm19 hcd19 hct19 : Value}
    {x20 h20 : Addr} {nm20 qn20 : Str} {N20 : Addr} {bs20 : List Value} {sn20 : List Str} {su20 : List Value} {ab20 : Bool} {co20 : Option Bool} {dd20 : Option Addr} {m020 m120 m220 m320 m520 : Option Value} {hod20 han20 : Option Addr} {hsl20 : Array (Option Value)} {hoc20 hkV20 hdc20 hpm20 hcd20 hct20 : Value}
    {x21 h21 : Addr} {nm21 qn21 : Str} {N21 : Addr} {bs21 : List Value} {sn21 : List Str} {su21 : List Value} {ab21 : Bool} {co21 : Option Bool} {dd21 : Option Addr} {m021 m121 m221 m321 m521 : Option Value} {hod21 han21 : Option Addr} {hsl21 : Array (Option Value)} {hoc21 hkV21 hdc21 hpm21 hcd21 hct21 : Value}
    {x22 h22 : Addr} {nm22 qn22 : Str} {N22 : Addr} {bs22 : List Value} {sn22 : List Str} {su22 : List Value} {ab22 : Bool} {co22 : Option Bool} {dd22 : Option Addr} {m022 m122 m222 m322 m522 : Option Value} {hod22 han22 : Option Addr} {hsl22 : Array (Option Value)} {hoc22 hkV22 hdc22 hpm22 hcd22 hct22 : Value}
    {x23 h23 : Addr} {nm23 qn23 : Str} {N23 : Addr} {bs23 : List Value} {sn23 : List Str} {su23 : List Value} {ab23 : Bool} {co23 : Option Bool} {dd23 : Option Addr} {m023 m123 m223 m323 m523 : Option Value} {hod23 han23 : Option Addr} {hsl23 : Array (Option Value)} {hoc23 hkV23 hdc23 hpm23 hcd23 hct23 : Value}
    {x24 h24 : Addr} {nm24 qn24 : Str} {N24 : Addr} {bs24 : List Value} {sn24 : List Str} {su24 : List Value} {ab24 : Bool} {co24 : Option Bool} {dd24 : Option Addr} {m024 m124 m224 m324 m524 : Option Value} {hod24 han24 : Option Addr} {hsl24 : Array (Option Value)} {hoc24 hkV24 hdc24 hpm24 hcd24 hct24 : Value}
    {x25 h25 : Addr} {nm25 qn25 : Str} {N25 : Addr} {bs25 : List Value} {sn25 : List Str} {su25 : List Value} {ab25 : Bool} {co25 : Option Bool} {dd25 : Option Addr} {m025 m125 m225 m325 m525 : Option Value} {hod25 han25 : Option Addr} {hsl25 : Array (Option Value)} {hoc25 hkV25 hdc25 hpm25 hcd25 hct25 : Value}
    (a0 : PySem.W.nsIn K mainGlobals "copy_of" = some (some (.ref f0))) (l0 : K.lookup f0 = some ⟨oc0, od0, .func (PySem.W.fnOf "copy_of" "copy_of" (defArgs s_copy_of) (defBody s_copy_of) (defScope s_copy_of) .none kV0 dc0 pm0 an0 cd0 ct0), sl0⟩) (c0 : PySem.W.codeIn K cd0 "copy_of" = true) (k0 : PySem.W.keepIn K (.ref f0) = true)
    (a1 : PySem.W.nsIn K mainGlobals "_law_bag" = some (some (.ref f1))) (l1 : K.lookup f1 = some ⟨oc1, od1, .func (PySem.W.fnOf "_law_bag" "_law_bag" (defArgs s_l_bag) (defBody s_l_bag) (defScope s_l_bag) .none kV1 dc1 pm1 an1 cd1 ct1), sl1⟩) (c1 : PySem.W.codeIn K cd1 "_law_bag" = true) (k1 : PySem.W.keepIn K (.ref f1) = true)
    (a2 : PySem.W.nsIn K mainGlobals "_law_draw" = some (some (.ref f2))) (l2 : K.lookup f2 = some ⟨oc2, od2, .func (PySem.W.fnOf "_law_draw" "_law_draw" (defArgs s_l_draw) (defBody s_l_draw) (defScope s_l_draw) .none kV2 dc2 pm2 an2 cd2 ct2), sl2⟩) (c2 : PySem.W.codeIn K cd2 "_law_draw" = true) (k2 : PySem.W.keepIn K (.ref f2) = true)
    (a3 : PySem.W.nsIn K mainGlobals "_law_any" = some (some (.ref f3))) (l3 : K.lookup f3 = some ⟨oc3, od3, .func (PySem.W.fnOf "_law_any" "_law_any" (defArgs s_l_any) (defBody s_l_any) (defScope s_l_any) .none kV3 dc3 pm3 an3 cd3 ct3), sl3⟩) (c3 : PySem.W.codeIn K cd3 "_law_any" = true) (k3 : PySem.W.keepIn K (.ref f3) = true)
    (a4 : PySem.W.nsIn K mainGlobals "_law_mixed" = some (some (.ref f4))) (l4 : K.lookup f4 = some ⟨oc4, od4, .func (PySem.W.fnOf "_law_mixed" "_law_mixed" (defArgs s_l_mixed) (defBody s_l_mixed) (defScope s_l_mixed) .none kV4 dc4 pm4 an4 cd4 ct4), sl4⟩) (c4 : PySem.W.codeIn K cd4 "_law_mixed" = true) (k4 : PySem.W.keepIn K (.ref f4) = true)
    (a5 : PySem.W.nsIn K mainGlobals "_law_like" = some (some (.ref f5))) (l5 : K.lookup f5 = some ⟨oc5, od5, .func (PySem.W.fnOf "_law_like" "_law_like" (defArgs s_l_like) (defBody s_l_like) (defScope s_l_like) .none kV5 dc5 pm5 an5 cd5 ct5), sl5⟩) (c5 : PySem.W.codeIn K cd5 "_law_like" = true) (k5 : PySem.W.keepIn K (.ref f5) = true)
    (a6 : PySem.W.nsIn K mainGlobals "_law_given" = some (some (.ref f6))) (l6 : K.lookup f6 = some ⟨oc6, od6, .func (PySem.W.fnOf "_law_given" "_law_given" (defArgs s_l_given) (defBody s_l_given) (defScope s_l_given) .none kV6 dc6 pm6 an6 cd6 ct6), sl6⟩) (c6 : PySem.W.codeIn K cd6 "_law_given" = true) (k6 : PySem.W.keepIn K (.ref f6) = true)
    (a7 : PySem.W.nsIn K mainGlobals "_law_made_errors" = some (some (.ref f7))) (l7 : K.lookup f7 = some ⟨oc7, od7, .func (PySem.W.fnOf "_law_made_errors" "_law_made_errors" (defArgs s_l_made_errors) (defBody s_l_made_errors) (defScope s_l_made_errors) .none kV7 dc7 pm7 an7 cd7 ct7), sl7⟩) (c7 : PySem.W.codeIn K cd7 "_law_made_errors" = true) (k7 : PySem.W.keepIn K (.ref f7) = true)
    (a8 : PySem.W.nsIn K mainGlobals "_law_flags" = some (some (.ref f8))) (l8 : K.lookup f8 = some ⟨oc8, od8, .func (PySem.W.fnOf "_law_flags" "_law_flags" (defArgs s_l_flags) (defBody s_l_flags) (defScope s_l_flags) .none kV8 dc8 pm8 an8 cd8 ct8), sl8⟩) (c8 : PySem.W.codeIn K cd8 "_law_flags" = true) (k8 : PySem.W.keepIn K (.ref f8) = true)
    (a9 : PySem.W.nsIn K mainGlobals "law" = some (some (.ref f9))) (l9 : K.lookup f9 = some ⟨oc9, od9, .func (PySem.W.fnOf "law" "law" (defArgs s_law) (defBody s_law) (defScope s_law) .none kV9 dc9 pm9 an9 cd9 ct9), sl9⟩) (c9 : PySem.W.codeIn K cd9 "law" = true) (k9 : PySem.W.keepIn K (.ref f9) = true)
    (z_all : PySem.W.nsIn K mainGlobals "all" = some none)
    (z_dict : PySem.W.nsIn K mainGlobals "dict" = some none)
    (z_isinstance : PySem.W.nsIn K mainGlobals "isinstance" = some none)
    (z_len : PySem.W.nsIn K mainGlobals "len" = some none)
    (z_list : PySem.W.nsIn K mainGlobals "list" = some none)
    (z_max : PySem.W.nsIn K mainGlobals "max" = some none)
    (z_min : PySem.W.nsIn K mainGlobals "min" = some none)
    (z_range : PySem.W.nsIn K mainGlobals "range" = some none)
    (z_sorted : PySem.W.nsIn K mainGlobals "sorted" = some none)
    (z_tuple : PySem.W.nsIn K mainGlobals "tuple" = some none)
    (z_int : PySem.W.nsIn K mainGlobals "int" = some none)
    (z_zip : PySem.W.nsIn K mainGlobals "zip" = some none)
    (z_bool : PySem.W.nsIn K mainGlobals "bool" = some none)
    (z_str : PySem.W.nsIn K mainGlobals "str" = some none)
    (yxB : PySem.W.nsIn K mainGlobals "BestError" = some (some (.ref xB)))
    (yxM : PySem.W.nsIn K mainGlobals "Missing" = some (some (.ref xM)))
    (z_ValueError : PySem.W.nsIn K mainGlobals "ValueError" = some none)
    (z_LookupError : PySem.W.nsIn K mainGlobals "LookupError" = some none)
    (yhn : PySem.W.specialIn K (.builtin "object.__class__") "__get__" = some (some (.builtin "getset_descriptor.__get__"))) (yht : PySem.W.takesIn K (.builtin "object.__class__") = some true)
    (yC0 : PySem.W.nsIn K mainGlobals "InvalidField" = some (some (.ref x0)))
    (yL0 : K.lookup x0 = some (excClassObj nm0 qn0 x0 N0 bs0 (.ref xB :: [.type "ValueError", .type "Exception", .type "BaseException", .type "object"]) true sn0 su0 ab0 co0 dd0 m00 m10 m20 m30 m50 "ValueError.__new__"))
    (ySa0 : PySem.W.findIn K (.ref x0) "__setattr__" = some (some (.builtin "object.__setattr__")))
    (yGa0 : PySem.W.findIn K (.ref x0) "__getattribute__" = some (some (.builtin "BaseException.__getattribute__")))
    (yGg0 : PySem.W.findIn K (.ref x0) "__getattr__" = some none)
    (yGc0 : PySem.W.findIn K (.ref x0) "__class__" = some (some (.builtin "object.__class__")))
    (yM0 : PySem.W.mroIn K x0 (.type "object") = some true)
    (yN20 : PySem.W.findIn K (.ref x0) "code" = some none)
    (yN10 : PySem.W.findIn K (.ref x0) "position" = some none)
    (yI0 : PySem.W.findIn K (.ref x0) "__init__" = some (some (.ref h0)))
    (yT0 : PySem.W.typeIn K (.ref h0) = some (.type "function"))
    (yF0 : K.lookup h0 = some ⟨hoc0, hod0, .func (PySem.W.fnOf "__init__" "InvalidField.__init__" (defArgs s_InvalidField__init) (defBody s_InvalidField__init) (defScope s_InvalidField__init) .none hkV0 hdc0 hpm0 han0 hcd0 hct0), hsl0⟩)
    (yFc0 : PySem.W.codeIn K hcd0 "InvalidField.__init__" = true)
    (yFk0 : PySem.W.keepIn K (.ref h0) = true)
    (yK0 : PySem.W.keepIn K (.ref x0) = true)
    (yE0 : PySem.W.subIn K (.ref x0) (.type "BaseException") = some true)
    (yTy0 : PySem.W.typeIn K (.ref x0) = some (.type "type"))
    (yH0 : PySem.W.hasDictIn K x0 = true)
    (yC1 : PySem.W.nsIn K mainGlobals "InvalidTie" = some (some (.ref x1)))
    (yL1 : K.lookup x1 = some (excClassObj nm1 qn1 x1 N1 bs1 (.ref xB :: [.type "ValueError", .type "Exception", .type "BaseException", .type "object"]) true sn1 su1 ab1 co1 dd1 m01 m11 m21 m31 m51 "ValueError.__new__"))
    (ySa1 : PySem.W.findIn K (.ref x1) "__setattr__" = some (some (.builtin "object.__setattr__")))
    (yGa1 : PySem.W.findIn K (.ref x1) "__getattribute__" = some (some (.builtin "BaseException.__getattribute__")))
    (yGg1 : PySem.W.findIn K (.ref x1) "__getattr__" = some none)
    (yGc1 : PySem.W.findIn K (.ref x1) "__class__" = some (some (.builtin "object.__class__")))
    (yM1 : PySem.W.mroIn K x1 (.type "object") = some true)
    (yN21 : PySem.W.findIn K (.ref x1) "code" = some none)
    (yN11 : PySem.W.findIn K (.ref x1) "position" = some none)
    (yI1 : PySem.W.findIn K (.ref x1) "__init__" = some (some (.ref h1)))
    (yT1 : PySem.W.typeIn K (.ref h1) = some (.type "function"))
    (yF1 : K.lookup h1 = some ⟨hoc1, hod1, .func (PySem.W.fnOf "__init__" "InvalidTie.__init__" (defArgs s_InvalidTie__init) (defBody s_InvalidTie__init) (defScope s_InvalidTie__init) .none hkV1 hdc1 hpm1 han1 hcd1 hct1), hsl1⟩)
    (yFc1 : PySem.W.codeIn K hcd1 "InvalidTie.__init__" = true)
    (yFk1 : PySem.W.keepIn K (.ref h1) = true)
    (yK1 : PySem.W.keepIn K (.ref x1) = true)
    (yE1 : PySem.W.subIn K (.ref x1) (.type "BaseException") = some true)
    (yTy1 : PySem.W.typeIn K (.ref x1) = some (.type "type"))
    (yH1 : PySem.W.hasDictIn K x1 = true)
    (yC2 : PySem.W.nsIn K mainGlobals "InvalidKind" = some (some (.ref x2)))
    (yL2 : K.lookup x2 = some (excClassObj nm2 qn2 x2 N2 bs2 (.ref xB :: [.type "ValueError", .type "Exception", .type "BaseException", .type "object"]) true sn2 su2 ab2 co2 dd2 m02 m12 m22 m32 m52 "ValueError.__new__"))
    (ySa2 : PySem.W.findIn K (.ref x2) "__setattr__" = some (some (.builtin "object.__setattr__")))
    (yGa2 : PySem.W.findIn K (.ref x2) "__getattribute__" = some (some (.builtin "BaseException.__getattribute__")))
    (yGg2 : PySem.W.findIn K (.ref x2) "__getattr__" = some none)
    (yGc2 : PySem.W.findIn K (.ref x2) "__class__" = some (some (.builtin "object.__class__")))
    (yM2 : PySem.W.mroIn K x2 (.type "object") = some true)
    (yN22 : PySem.W.findIn K (.ref x2) "code" = some none)
    (yN12 : PySem.W.findIn K (.ref x2) "position" = some none)
    (yI2 : PySem.W.findIn K (.ref x2) "__init__" = some (some (.ref h2)))
    (yT2 : PySem.W.typeIn K (.ref h2) = some (.type "function"))
    (yF2 : K.lookup h2 = some ⟨hoc2, hod2, .func (PySem.W.fnOf "__init__" "InvalidKind.__init__" (defArgs s_InvalidKind__init) (defBody s_InvalidKind__init) (defScope s_InvalidKind__init) .none hkV2 hdc2 hpm2 han2 hcd2 hct2), hsl2⟩)
    (yFc2 : PySem.W.codeIn K hcd2 "InvalidKind.__init__" = true)
    (yFk2 : PySem.W.keepIn K (.ref h2) = true)
    (yK2 : PySem.W.keepIn K (.ref x2) = true)
    (yE2 : PySem.W.subIn K (.ref x2) (.type "BaseException") = some true)
    (yTy2 : PySem.W.typeIn K (.ref x2) = some (.type "type"))
    (yH2 : PySem.W.hasDictIn K x2 = true)
    (yC3 : PySem.W.nsIn K mainGlobals "InvalidHolding" = some (some (.ref x3)))
    (yL3 : K.lookup x3 = some (excClassObj nm3 qn3 x3 N3 bs3 (.ref xB :: [.type "ValueError", .type "Exception", .type "BaseException", .type "object"]) true sn3 su3 ab3 co3 dd3 m03 m13 m23 m33 m53 "ValueError.__new__"))
    (ySa3 : PySem.W.findIn K (.ref x3) "__setattr__" = some (some (.builtin "object.__setattr__")))
    (yGa3 : PySem.W.findIn K (.ref x3) "__getattribute__" = some (some (.builtin "BaseException.__getattribute__")))
    (yGg3 : PySem.W.findIn K (.ref x3) "__getattr__" = some none)
    (yGc3 : PySem.W.findIn K (.ref x3) "__class__" = some (some (.builtin "object.__class__")))
    (yM3 : PySem.W.mroIn K x3 (.type "object") = some true)
    (yN23 : PySem.W.findIn K (.ref x3) "code" = some none)
    (yN13 : PySem.W.findIn K (.ref x3) "given" = some none)
    (yI3 : PySem.W.findIn K (.ref x3) "__init__" = some (some (.ref h3)))
    (yT3 : PySem.W.typeIn K (.ref h3) = some (.type "function"))
    (yF3 : K.lookup h3 = some ⟨hoc3, hod3, .func (PySem.W.fnOf "__init__" "InvalidHolding.__init__" (defArgs s_InvalidHolding__init) (defBody s_InvalidHolding__init) (defScope s_InvalidHolding__init) .none hkV3 hdc3 hpm3 han3 hcd3 hct3), hsl3⟩)
    (yFc3 : PySem.W.codeIn K hcd3 "InvalidHolding.__init__" = true)
    (yFk3 : PySem.W.keepIn K (.ref h3) = true)
    (yK3 : PySem.W.keepIn K (.ref x3) = true)
    (yE3 : PySem.W.subIn K (.ref x3) (.type "BaseException") = some true)
    (yTy3 : PySem.W.typeIn K (.ref x3) = some (.type "type"))
    (yH3 : PySem.W.hasDictIn K x3 = true)
    (yC4 : PySem.W.nsIn K mainGlobals "InvalidRulebook" = some (some (.ref x4)))
    (yL4 : K.lookup x4 = some (excClassObj nm4 qn4 x4 N4 bs4 (.ref xB :: [.type "ValueError", .type "Exception", .type "BaseException", .type "object"]) true sn4 su4 ab4 co4 dd4 m04 m14 m24 m34 m54 "ValueError.__new__"))
    (ySa4 : PySem.W.findIn K (.ref x4) "__setattr__" = some (some (.builtin "object.__setattr__")))
    (yGa4 : PySem.W.findIn K (.ref x4) "__getattribute__" = some (some (.builtin "BaseException.__getattribute__")))
    (yGg4 : PySem.W.findIn K (.ref x4) "__getattr__" = some none)
    (yGc4 : PySem.W.findIn K (.ref x4) "__class__" = some (some (.builtin "object.__class__")))
    (yM4 : PySem.W.mroIn K x4 (.type "object") = some true)
    (yN24 : PySem.W.findIn K (.ref x4) "code" = some none)
    (yN14 : PySem.W.findIn K (.ref x4) "line" = some none)
    (yI4 : PySem.W.findIn K (.ref x4) "__init__" = some (some (.ref h4)))
    (yT4 : PySem.W.typeIn K (.ref h4) = some (.type "function"))
    (yF4 : K.lookup h4 = some ⟨hoc4, hod4, .func (PySem.W.fnOf "__init__" "InvalidRulebook.__init__" (defArgs s_InvalidRulebook__init) (defBody s_InvalidRulebook__init) (defScope s_InvalidRulebook__init) .none hkV4 hdc4 hpm4 han4 hcd4 hct4), hsl4⟩)
    (yFc4 : PySem.W.codeIn K hcd4 "InvalidRulebook.__init__" = true)
    (yFk4 : PySem.W.keepIn K (.ref h4) = true)
    (yK4 : PySem.W.keepIn K (.ref x4) = true)
    (yE4 : PySem.W.subIn K (.ref x4) (.type "BaseException") = some true)
    (yTy4 : PySem.W.typeIn K (.ref x4) = some (.type "type"))
    (yH4 : PySem.W.hasDictIn K x4 = true)
    (yC5 : PySem.W.nsIn K mainGlobals "InvalidName" = some (some (.ref x5)))
    (yL5 : K.lookup x5 = some (excClassObj nm5 qn5 x5 N5 bs5 (.ref xB :: [.type "ValueError", .type "Exception", .type "BaseException", .type "object"]) true sn5 su5 ab5 co5 dd5 m05 m15 m25 m35 m55 "ValueError.__new__"))
    (ySa5 : PySem.W.findIn K (.ref x5) "__setattr__" = some (some (.builtin "object.__setattr__")))
    (yGa5 : PySem.W.findIn K (.ref x5) "__getattribute__" = some (some (.builtin "BaseException.__getattribute__")))
    (yGg5 : PySem.W.findIn K (.ref x5) "__getattr__" = some none)
    (yGc5 : PySem.W.findIn K (.ref x5) "__class__" = some (some (.builtin "object.__class__")))
    (yM5 : PySem.W.mroIn K x5 (.type "object") = some true)
    (yN25 : PySem.W.findIn K (.ref x5) "code" = some none)
    (yN15 : PySem.W.findIn K (.ref x5) "given" = some none)
    (yI5 : PySem.W.findIn K (.ref x5) "__init__" = some (some (.ref h5)))
    (yT5 : PySem.W.typeIn K (.ref h5) = some (.type "function"))
    (yF5 : K.lookup h5 = some ⟨hoc5, hod5, .func (PySem.W.fnOf "__init__" "InvalidName.__init__" (defArgs s_InvalidName__init) (defBody s_InvalidName__init) (defScope s_InvalidName__init) .none hkV5 hdc5 hpm5 han5 hcd5 hct5), hsl5⟩)
    (yFc5 : PySem.W.codeIn K hcd5 "InvalidName.__init__" = true)
    (yFk5 : PySem.W.keepIn K (.ref h5) = true)
    (yK5 : PySem.W.keepIn K (.ref x5) = true)
    (yE5 : PySem.W.subIn K (.ref x5) (.type "BaseException") = some true)
    (yTy5 : PySem.W.typeIn K (.ref x5) = some (.type "type"))
    (yH5 : PySem.W.hasDictIn K x5 = true)
    (yC6 : PySem.W.nsIn K mainGlobals "InvalidNetwork" = some (some (.ref x6)))
    (yL6 : K.lookup x6 = some (excClassObj nm6 qn6 x6 N6 bs6 (.ref xB :: [.type "ValueError", .type "Exception", .type "BaseException", .type "object"]) true sn6 su6 ab6 co6 dd6 m06 m16 m26 m36 m56 "ValueError.__new__"))
    (ySa6 : PySem.W.findIn K (.ref x6) "__setattr__" = some (some (.builtin "object.__setattr__")))
    (yGa6 : PySem.W.findIn K (.ref x6) "__getattribute__" = some (some (.builtin "BaseException.__getattribute__")))
    (yGg6 : PySem.W.findIn K (.ref x6) "__getattr__" = some none)
    (yGc6 : PySem.W.findIn K (.ref x6) "__class__" = some (some (.builtin "object.__class__")))
    (yM6 : PySem.W.mroIn K x6 (.type "object") = some true)
    (yN26 : PySem.W.findIn K (.ref x6) "code" = some none)
    (yN16 : PySem.W.findIn K (.ref x6) "line" = some none)
    (yI6 : PySem.W.findIn K (.ref x6) "__init__" = some (some (.ref h6)))
    (yT6 : PySem.W.typeIn K (.ref h6) = some (.type "function"))
    (yF6 : K.lookup h6 = some ⟨hoc6, hod6, .func (PySem.W.fnOf "__init__" "InvalidNetwork.__init__" (defArgs s_InvalidNetwork__init) (defBody s_InvalidNetwork__init) (defScope s_InvalidNetwork__init) .none hkV6 hdc6 hpm6 han6 hcd6 hct6), hsl6⟩)
    (yFc6 : PySem.W.codeIn K hcd6 "InvalidNetwork.__init__" = true)
    (yFk6 : PySem.W.keepIn K (.ref h6) = true)
    (yK6 : PySem.W.keepIn K (.ref x6) = true)
    (yE6 : PySem.W.subIn K (.ref x6) (.type "BaseException") = some true)
    (yTy6 : PySem.W.typeIn K (.ref x6) = some (.type "type"))
    (yH6 : PySem.W.hasDictIn K x6 = true)
    (yC7 : PySem.W.nsIn K mainGlobals "InvalidState" = some (some (.ref x7)))
    (yL7 : K.lookup x7 = some (excClassObj nm7 qn7 x7 N7 bs7 (.ref xB :: [.type "ValueError", .type "Exception", .type "BaseException", .type "object"]) true sn7 su7 ab7 co7 dd7 m07 m17 m27 m37 m57 "ValueError.__new__"))
    (ySa7 : PySem.W.findIn K (.ref x7) "__setattr__" = some (some (.builtin "object.__setattr__")))
    (yGa7 : PySem.W.findIn K (.ref x7) "__getattribute__" = some (some (.builtin "BaseException.__getattribute__")))
    (yGg7 : PySem.W.findIn K (.ref x7) "__getattr__" = some none)
    (yGc7 : PySem.W.findIn K (.ref x7) "__class__" = some (some (.builtin "object.__class__")))
    (yM7 : PySem.W.mroIn K x7 (.type "object") = some true)
    (yN27 : PySem.W.findIn K (.ref x7) "code" = some none)
    (yN17 : PySem.W.findIn K (.ref x7) "cell" = some none)
    (yI7 : PySem.W.findIn K (.ref x7) "__init__" = some (some (.ref h7)))
    (yT7 : PySem.W.typeIn K (.ref h7) = some (.type "function"))
    (yF7 : K.lookup h7 = some ⟨hoc7, hod7, .func (PySem.W.fnOf "__init__" "InvalidState.__init__" (defArgs s_InvalidState__init) (defBody s_InvalidState__init) (defScope s_InvalidState__init) .none hkV7 hdc7 hpm7 han7 hcd7 hct7), hsl7⟩)
    (yFc7 : PySem.W.codeIn K hcd7 "InvalidState.__init__" = true)
    (yFk7 : PySem.W.keepIn K (.ref h7) = true)
    (yK7 : PySem.W.keepIn K (.ref x7) = true)
    (yE7 : PySem.W.subIn K (.ref x7) (.type "BaseException") = some true)
    (yTy7 : PySem.W.typeIn K (.ref x7) = some (.type "type"))
    (yH7 : PySem.W.hasDictIn K x7 = true)
    (yC8 : PySem.W.nsIn K mainGlobals "InvalidLook" = some (some (.ref x8)))
    (yL8 : K.lookup x8 = some (excClassObj nm8 qn8 x8 N8 bs8 (.ref xB :: [.type "ValueError", .type "Exception", .type "BaseException", .type "object"]) true sn8 su8 ab8 co8 dd8 m08 m18 m28 m38 m58 "ValueError.__new__"))
    (ySa8 : PySem.W.findIn K (.ref x8) "__setattr__" = some (some (.builtin "object.__setattr__")))
    (yGa8 : PySem.W.findIn K (.ref x8) "__getattribute__" = some (some (.builtin "BaseException.__getattribute__")))
    (yGg8 : PySem.W.findIn K (.ref x8) "__getattr__" = some none)
    (yGc8 : PySem.W.findIn K (.ref x8) "__class__" = some (some (.builtin "object.__class__")))
    (yM8 : PySem.W.mroIn K x8 (.type "object") = some true)
    (yN28 : PySem.W.findIn K (.ref x8) "code" = some none)
    (yN18 : PySem.W.findIn K (.ref x8) "cell" = some none)
    (yI8 : PySem.W.findIn K (.ref x8) "__init__" = some (some (.ref h8)))
    (yT8 : PySem.W.typeIn K (.ref h8) = some (.type "function"))
    (yF8 : K.lookup h8 = some ⟨hoc8, hod8, .func (PySem.W.fnOf "__init__" "InvalidLook.__init__" (defArgs s_InvalidLook__init) (defBody s_InvalidLook__init) (defScope s_InvalidLook__init) .none hkV8 hdc8 hpm8 han8 hcd8 hct8), hsl8⟩)
    (yFc8 : PySem.W.codeIn K hcd8 "InvalidLook.__init__" = true)
    (yFk8 : PySem.W.keepIn K (.ref h8) = true)
    (yK8 : PySem.W.keepIn K (.ref x8) = true)
    (yE8 : PySem.W.subIn K (.ref x8) (.type "BaseException") = some true)
    (yTy8 : PySem.W.typeIn K (.ref x8) = some (.type "type"))
    (yH8 : PySem.W.hasDictIn K x8 = true)
    (yC9 : PySem.W.nsIn K mainGlobals "InvalidCount" = some (some (.ref x9)))
    (yL9 : K.lookup x9 = some (excClassObj nm9 qn9 x9 N9 bs9 (.ref xB :: [.type "ValueError", .type "Exception", .type "BaseException", .type "object"]) true sn9 su9 ab9 co9 dd9 m09 m19 m29 m39 m59 "ValueError.__new__"))
    (ySa9 : PySem.W.findIn K (.ref x9) "__setattr__" = some (some (.builtin "object.__setattr__")))
    (yGa9 : PySem.W.findIn K (.ref x9) "__getattribute__" = some (some (.builtin "BaseException.__getattribute__")))
    (yGg9 : PySem.W.findIn K (.ref x9) "__getattr__" = some none)
    (yGc9 : PySem.W.findIn K (.ref x9) "__class__" = some (some (.builtin "object.__class__")))
    (yM9 : PySem.W.mroIn K x9 (.type "object") = some true)
    (yN29 : PySem.W.findIn K (.ref x9) "code" = some none)
    (yN19 : PySem.W.findIn K (.ref x9) "given" = some none)
    (yI9 : PySem.W.findIn K (.ref x9) "__init__" = some (some (.ref h9)))
    (yT9 : PySem.W.typeIn K (.ref h9) = some (.type "function"))
    (yF9 : K.lookup h9 = some ⟨hoc9, hod9, .func (PySem.W.fnOf "__init__" "InvalidCount.__init__" (defArgs s_InvalidCount__init) (defBody s_InvalidCount__init) (defScope s_InvalidCount__init) .none hkV9 hdc9 hpm9 han9 hcd9 hct9), hsl9⟩)
    (yFc9 : PySem.W.codeIn K hcd9 "InvalidCount.__init__" = true)
    (yFk9 : PySem.W.keepIn K (.ref h9) = true)
    (yK9 : PySem.W.keepIn K (.ref x9) = true)
    (yE9 : PySem.W.subIn K (.ref x9) (.type "BaseException") = some true)
    (yTy9 : PySem.W.typeIn K (.ref x9) = some (.type "type"))
    (yH9 : PySem.W.hasDictIn K x9 = true)
    (yC10 : PySem.W.nsIn K mainGlobals "InvalidCommand" = some (some (.ref x10)))
    (yL10 : K.lookup x10 = some (excClassObj nm10 qn10 x10 N10 bs10 (.ref xB :: [.type "ValueError", .type "Exception", .type "BaseException", .type "object"]) true sn10 su10 ab10 co10 dd10 m010 m110 m210 m310 m510 "ValueError.__new__"))
    (ySa10 : PySem.W.findIn K (.ref x10) "__setattr__" = some (some (.builtin "object.__setattr__")))
    (yGa10 : PySem.W.findIn K (.ref x10) "__getattribute__" = some (some (.builtin "BaseException.__getattribute__")))
    (yGg10 : PySem.W.findIn K (.ref x10) "__getattr__" = some none)
    (yGc10 : PySem.W.findIn K (.ref x10) "__class__" = some (some (.builtin "object.__class__")))
    (yM10 : PySem.W.mroIn K x10 (.type "object") = some true)
    (yN210 : PySem.W.findIn K (.ref x10) "code" = some none)
    (yN110 : PySem.W.findIn K (.ref x10) "word" = some none)
    (yI10 : PySem.W.findIn K (.ref x10) "__init__" = some (some (.ref h10)))
    (yT10 : PySem.W.typeIn K (.ref h10) = some (.type "function"))
    (yF10 : K.lookup h10 = some ⟨hoc10, hod10, .func (PySem.W.fnOf "__init__" "InvalidCommand.__init__" (defArgs s_InvalidCommand__init) (defBody s_InvalidCommand__init) (defScope s_InvalidCommand__init) .none hkV10 hdc10 hpm10 han10 hcd10 hct10), hsl10⟩)
    (yFc10 : PySem.W.codeIn K hcd10 "InvalidCommand.__init__" = true)
    (yFk10 : PySem.W.keepIn K (.ref h10) = true)
    (yK10 : PySem.W.keepIn K (.ref x10) = true)
    (yE10 : PySem.W.subIn K (.ref x10) (.type "BaseException") = some true)
    (yTy10 : PySem.W.typeIn K (.ref x10) = some (.type "type"))
    (yH10 : PySem.W.hasDictIn K x10 = true)
    (yC11 : PySem.W.nsIn K mainGlobals "InvalidLimit" = some (some (.ref x11)))
    (yL11 : K.lookup x11 = some (excClassObj nm11 qn11 x11 N11 bs11 (.ref xB :: [.type "ValueError", .type "Exception", .type "BaseException", .type "object"]) true sn11 su11 ab11 co11 dd11 m011 m111 m211 m311 m511 "ValueError.__new__"))
    (ySa11 : PySem.W.findIn K (.ref x11) "__setattr__" = some (some (.builtin "object.__setattr__")))
    (yGa11 : PySem.W.findIn K (.ref x11) "__getattribute__" = some (some (.builtin "BaseException.__getattribute__")))
    (yGg11 : PySem.W.findIn K (.ref x11) "__getattr__" = some none)
    (yGc11 : PySem.W.findIn K (.ref x11) "__class__" = some (some (.builtin "object.__class__")))
    (yM11 : PySem.W.mroIn K x11 (.type "object") = some true)
    (yN211 : PySem.W.findIn K (.ref x11) "code" = some none)
    (yN111 : PySem.W.findIn K (.ref x11) "given" = some none)
    (yI11 : PySem.W.findIn K (.ref x11) "__init__" = some (some (.ref h11)))
    (yT11 : PySem.W.typeIn K (.ref h11) = some (.type "function"))
    (yF11 : K.lookup h11 = some ⟨hoc11, hod11, .func (PySem.W.fnOf "__init__" "InvalidLimit.__init__" (defArgs s_InvalidLimit__init) (defBody s_InvalidLimit__init) (defScope s_InvalidLimit__init) .none hkV11 hdc11 hpm11 han11 hcd11 hct11), hsl11⟩)
    (yFc11 : PySem.W.codeIn K hcd11 "InvalidLimit.__init__" = true)
    (yFk11 : PySem.W.keepIn K (.ref h11) = true)
    (yK11 : PySem.W.keepIn K (.ref x11) = true)
    (yE11 : PySem.W.subIn K (.ref x11) (.type "BaseException") = some true)
    (yTy11 : PySem.W.typeIn K (.ref x11) = some (.type "type"))
    (yH11 : PySem.W.hasDictIn K x11 = true)
    (yC12 : PySem.W.nsIn K mainGlobals "InvalidPage" = some (some (.ref x12)))
    (yL12 : K.lookup x12 = some (excClassObj nm12 qn12 x12 N12 bs12 (.ref xB :: [.type "ValueError", .type "Exception", .type "BaseException", .type "object"]) true sn12 su12 ab12 co12 dd12 m012 m112 m212 m312 m512 "ValueError.__new__"))
    (ySa12 : PySem.W.findIn K (.ref x12) "__setattr__" = some (some (.builtin "object.__setattr__")))
    (yGa12 : PySem.W.findIn K (.ref x12) "__getattribute__" = some (some (.builtin "BaseException.__getattribute__")))
    (yGg12 : PySem.W.findIn K (.ref x12) "__getattr__" = some none)
    (yGc12 : PySem.W.findIn K (.ref x12) "__class__" = some (some (.builtin "object.__class__")))
    (yM12 : PySem.W.mroIn K x12 (.type "object") = some true)
    (yN212 : PySem.W.findIn K (.ref x12) "code" = some none)
    (yN112 : PySem.W.findIn K (.ref x12) "line" = some none)
    (yI12 : PySem.W.findIn K (.ref x12) "__init__" = some (some (.ref h12)))
    (yT12 : PySem.W.typeIn K (.ref h12) = some (.type "function"))
    (yF12 : K.lookup h12 = some ⟨hoc12, hod12, .func (PySem.W.fnOf "__init__" "InvalidPage.__init__" (defArgs s_InvalidPage__init) (defBody s_InvalidPage__init) (defScope s_InvalidPage__init) .none hkV12 hdc12 hpm12 han12 hcd12 hct12), hsl12⟩)
    (yFc12 : PySem.W.codeIn K hcd12 "InvalidPage.__init__" = true)
    (yFk12 : PySem.W.keepIn K (.ref h12) = true)
    (yK12 : PySem.W.keepIn K (.ref x12) = true)
    (yE12 : PySem.W.subIn K (.ref x12) (.type "BaseException") = some true)
    (yTy12 : PySem.W.typeIn K (.ref x12) = some (.type "type"))
    (yH12 : PySem.W.hasDictIn K x12 = true)
    (yC13 : PySem.W.nsIn K mainGlobals "DuplicateCell" = some (some (.ref x13)))
    (yL13 : K.lookup x13 = some (excClassObj nm13 qn13 x13 N13 bs13 (.ref xB :: [.type "ValueError", .type "Exception", .type "BaseException", .type "object"]) true sn13 su13 ab13 co13 dd13 m013 m113 m213 m313 m513 "ValueError.__new__"))
    (ySa13 : PySem.W.findIn K (.ref x13) "__setattr__" = some (some (.builtin "object.__setattr__")))
    (yGa13 : PySem.W.findIn K (.ref x13) "__getattribute__" = some (some (.builtin "BaseException.__getattribute__")))
    (yGg13 : PySem.W.findIn K (.ref x13) "__getattr__" = some none)
    (yGc13 : PySem.W.findIn K (.ref x13) "__class__" = some (some (.builtin "object.__class__")))
    (yM13 : PySem.W.mroIn K x13 (.type "object") = some true)
    (yN213 : PySem.W.findIn K (.ref x13) "code" = some none)
    (yN113 : PySem.W.findIn K (.ref x13) "name" = some none)
    (yI13 : PySem.W.findIn K (.ref x13) "__init__" = some (some (.ref h13)))
    (yT13 : PySem.W.typeIn K (.ref h13) = some (.type "function"))
    (yF13 : K.lookup h13 = some ⟨hoc13, hod13, .func (PySem.W.fnOf "__init__" "DuplicateCell.__init__" (defArgs s_DuplicateCell__init) (defBody s_DuplicateCell__init) (defScope s_DuplicateCell__init) .none hkV13 hdc13 hpm13 han13 hcd13 hct13), hsl13⟩)
    (yFc13 : PySem.W.codeIn K hcd13 "DuplicateCell.__init__" = true)
    (yFk13 : PySem.W.keepIn K (.ref h13) = true)
    (yK13 : PySem.W.keepIn K (.ref x13) = true)
    (yE13 : PySem.W.subIn K (.ref x13) (.type "BaseException") = some true)
    (yTy13 : PySem.W.typeIn K (.ref x13) = some (.type "type"))
    (yH13 : PySem.W.hasDictIn K x13 = true)
    (yC14 : PySem.W.nsIn K mainGlobals "DuplicateTie" = some (some (.ref x14)))
    (yL14 : K.lookup x14 = some (excClassObj nm14 qn14 x14 N14 bs14 (.ref xB :: [.type "ValueError", .type "Exception", .type "BaseException", .type "object"]) true sn14 su14 ab14 co14 dd14 m014 m114 m214 m314 m514 "ValueError.__new__"))
    (ySa14 : PySem.W.findIn K (.ref x14) "__setattr__" = some (some (.builtin "object.__setattr__")))
    (yGa14 : PySem.W.findIn K (.ref x14) "__getattribute__" = some (some (.builtin "BaseException.__getattribute__")))
    (yGg14 : PySem.W.findIn K (.ref x14) "__getattr__" = some none)
    (yGc14 : PySem.W.findIn K (.ref x14) "__class__" = some (some (.builtin "object.__class__")))
    (yM14 : PySem.W.mroIn K x14 (.type "object") = some true)
    (yN214 : PySem.W.findIn K (.ref x14) "code" = some none)
    (yN114 : PySem.W.findIn K (.ref x14) "tie" = some none)
    (yI14 : PySem.W.findIn K (.ref x14) "__init__" = some (some (.ref h14)))
    (yT14 : PySem.W.typeIn K (.ref h14) = some (.type "function"))
    (yF14 : K.lookup h14 = some ⟨hoc14, hod14, .func (PySem.W.fnOf "__init__" "DuplicateTie.__init__" (defArgs s_DuplicateTie__init) (defBody s_DuplicateTie__init) (defScope s_DuplicateTie__init) .none hkV14 hdc14 hpm14 han14 hcd14 hct14), hsl14⟩)
    (yFc14 : PySem.W.codeIn K hcd14 "DuplicateTie.__init__" = true)
    (yFk14 : PySem.W.keepIn K (.ref h14) = true)
    (yK14 : PySem.W.keepIn K (.ref x14) = true)
    (yE14 : PySem.W.subIn K (.ref x14) (.type "BaseException") = some true)
    (yTy14 : PySem.W.typeIn K (.ref x14) = some (.type "type"))
    (yH14 : PySem.W.hasDictIn K x14 = true)
    (yC15 : PySem.W.nsIn K mainGlobals "KindsDiffer" = some (some (.ref x15)))
    (yL15 : K.lookup x15 = some (excClassObj nm15 qn15 x15 N15 bs15 (.ref xB :: [.type "ValueError", .type "Exception", .type "BaseException", .type "object"]) true sn15 su15 ab15 co15 dd15 m015 m115 m215 m315 m515 "ValueError.__new__"))
    (ySa15 : PySem.W.findIn K (.ref x15) "__setattr__" = some (some (.builtin "object.__setattr__")))
    (yGa15 : PySem.W.findIn K (.ref x15) "__getattribute__" = some (some (.builtin "BaseException.__getattribute__")))
    (yGg15 : PySem.W.findIn K (.ref x15) "__getattr__" = some none)
    (yGc15 : PySem.W.findIn K (.ref x15) "__class__" = some (some (.builtin "object.__class__")))
    (yM15 : PySem.W.mroIn K x15 (.type "object") = some true)
    (yN215 : PySem.W.findIn K (.ref x15) "code" = some none)
    (yN115 : PySem.W.findIn K (.ref x15) "name" = some none)
    (yI15 : PySem.W.findIn K (.ref x15) "__init__" = some (some (.ref h15)))
    (yT15 : PySem.W.typeIn K (.ref h15) = some (.type "function"))
    (yF15 : K.lookup h15 = some ⟨hoc15, hod15, .func (PySem.W.fnOf "__init__" "KindsDiffer.__init__" (defArgs s_KindsDiffer__init) (defBody s_KindsDiffer__init) (defScope s_KindsDiffer__init) .none hkV15 hdc15 hpm15 han15 hcd15 hct15), hsl15⟩)
    (yFc15 : PySem.W.codeIn K hcd15 "KindsDiffer.__init__" = true)
    (yFk15 : PySem.W.keepIn K (.ref h15) = true)
    (yK15 : PySem.W.keepIn K (.ref x15) = true)
    (yE15 : PySem.W.subIn K (.ref x15) (.type "BaseException") = some true)
    (yTy15 : PySem.W.typeIn K (.ref x15) = some (.type "type"))
    (yH15 : PySem.W.hasDictIn K x15 = true)
    (yC16 : PySem.W.nsIn K mainGlobals "BooksDiffer" = some (some (.ref x16)))
    (yL16 : K.lookup x16 = some (excClassObj nm16 qn16 x16 N16 bs16 (.ref xB :: [.type "ValueError", .type "Exception", .type "BaseException", .type "object"]) true sn16 su16 ab16 co16 dd16 m016 m116 m216 m316 m516 "ValueError.__new__"))
    (ySa16 : PySem.W.findIn K (.ref x16) "__setattr__" = some (some (.builtin "object.__setattr__")))
    (yGa16 : PySem.W.findIn K (.ref x16) "__getattribute__" = some (some (.builtin "BaseException.__getattribute__")))
    (yGg16 : PySem.W.findIn K (.ref x16) "__getattr__" = some none)
    (yGc16 : PySem.W.findIn K (.ref x16) "__class__" = some (some (.builtin "object.__class__")))
    (yM16 : PySem.W.mroIn K x16 (.type "object") = some true)
    (yN216 : PySem.W.findIn K (.ref x16) "code" = some none)
    (yI16 : PySem.W.findIn K (.ref x16) "__init__" = some (some (.ref h16)))
    (yT16 : PySem.W.typeIn K (.ref h16) = some (.type "function"))
    (yF16 : K.lookup h16 = some ⟨hoc16, hod16, .func (PySem.W.fnOf "__init__" "BooksDiffer.__init__" (defArgs s_BooksDiffer__init) (defBody s_BooksDiffer__init) (defScope s_BooksDiffer__init) .none hkV16 hdc16 hpm16 han16 hcd16 hct16), hsl16⟩)
    (yFc16 : PySem.W.codeIn K hcd16 "BooksDiffer.__init__" = true)
    (yFk16 : PySem.W.keepIn K (.ref h16) = true)
    (yK16 : PySem.W.keepIn K (.ref x16) = true)
    (yE16 : PySem.W.subIn K (.ref x16) (.type "BaseException") = some true)
    (yTy16 : PySem.W.typeIn K (.ref x16) = some (.type "type"))
    (yH16 : PySem.W.hasDictIn K x16 = true)
    (yC17 : PySem.W.nsIn K mainGlobals "Unsettled" = some (some (.ref x17)))
    (yL17 : K.lookup x17 = some (excClassObj nm17 qn17 x17 N17 bs17 (.ref xB :: [.type "ValueError", .type "Exception", .type "BaseException", .type "object"]) true sn17 su17 ab17 co17 dd17 m017 m117 m217 m317 m517 "ValueError.__new__"))
    (ySa17 : PySem.W.findIn K (.ref x17) "__setattr__" = some (some (.builtin "object.__setattr__")))
    (yGa17 : PySem.W.findIn K (.ref x17) "__getattribute__" = some (some (.builtin "BaseException.__getattribute__")))
    (yGg17 : PySem.W.findIn K (.ref x17) "__getattr__" = some none)
    (yGc17 : PySem.W.findIn K (.ref x17) "__class__" = some (some (.builtin "object.__class__")))
    (yM17 : PySem.W.mroIn K x17 (.type "object") = some true)
    (yN217 : PySem.W.findIn K (.ref x17) "code" = some none)
    (yI17 : PySem.W.findIn K (.ref x17) "__init__" = some (some (.ref h17)))
    (yT17 : PySem.W.typeIn K (.ref h17) = some (.type "function"))
    (yF17 : K.lookup h17 = some ⟨hoc17, hod17, .func (PySem.W.fnOf "__init__" "Unsettled.__init__" (defArgs s_Unsettled__init) (defBody s_Unsettled__init) (defScope s_Unsettled__init) .none hkV17 hdc17 hpm17 han17 hcd17 hct17), hsl17⟩)
    (yFc17 : PySem.W.codeIn K hcd17 "Unsettled.__init__" = true)
    (yFk17 : PySem.W.keepIn K (.ref h17) = true)
    (yK17 : PySem.W.keepIn K (.ref x17) = true)
    (yE17 : PySem.W.subIn K (.ref x17) (.type "BaseException") = some true)
    (yTy17 : PySem.W.typeIn K (.ref x17) = some (.type "type"))
    (yH17 : PySem.W.hasDictIn K x17 = true)
    (yC18 : PySem.W.nsIn K mainGlobals "Full" = some (some (.ref x18)))
    (yL18 : K.lookup x18 = some (excClassObj nm18 qn18 x18 N18 bs18 (.ref xB :: [.type "ValueError", .type "Exception", .type "BaseException", .type "object"]) true sn18 su18 ab18 co18 dd18 m018 m118 m218 m318 m518 "ValueError.__new__"))
    (ySa18 : PySem.W.findIn K (.ref x18) "__setattr__" = some (some (.builtin "object.__setattr__")))
    (yGa18 : PySem.W.findIn K (.ref x18) "__getattribute__" = some (some (.builtin "BaseException.__getattribute__")))
    (yGg18 : PySem.W.findIn K (.ref x18) "__getattr__" = some none)
    (yGc18 : PySem.W.findIn K (.ref x18) "__class__" = some (some (.builtin "object.__class__")))
    (yM18 : PySem.W.mroIn K x18 (.type "object") = some true)
    (yN218 : PySem.W.findIn K (.ref x18) "code" = some none)
    (yN118 : PySem.W.findIn K (.ref x18) "limit" = some none)
    (yI18 : PySem.W.findIn K (.ref x18) "__init__" = some (some (.ref h18)))
    (yT18 : PySem.W.typeIn K (.ref h18) = some (.type "function"))
    (yF18 : K.lookup h18 = some ⟨hoc18, hod18, .func (PySem.W.fnOf "__init__" "Full.__init__" (defArgs s_Full__init) (defBody s_Full__init) (defScope s_Full__init) .none hkV18 hdc18 hpm18 han18 hcd18 hct18), hsl18⟩)
    (yFc18 : PySem.W.codeIn K hcd18 "Full.__init__" = true)
    (yFk18 : PySem.W.keepIn K (.ref h18) = true)
    (yK18 : PySem.W.keepIn K (.ref x18) = true)
    (yE18 : PySem.W.subIn K (.ref x18) (.type "BaseException") = some true)
    (yTy18 : PySem.W.typeIn K (.ref x18) = some (.type "type"))
    (yH18 : PySem.W.hasDictIn K x18 = true)
    (yC19 : PySem.W.nsIn K mainGlobals "EmptyHistory" = some (some (.ref x19)))
    (yL19 : K.lookup x19 = some (excClassObj nm19 qn19 x19 N19 bs19 (.ref xB :: [.type "ValueError", .type "Exception", .type "BaseException", .type "object"]) true sn19 su19 ab19 co19 dd19 m019 m119 m219 m319 m519 "ValueError.__new__"))
    (ySa19 : PySem.W.findIn K (.ref x19) "__setattr__" = some (some (.builtin "object.__setattr__")))
    (yGa19 : PySem.W.findIn K (.ref x19) "__getattribute__" = some (some (.builtin "BaseException.__getattribute__")))
    (yGg19 : PySem.W.findIn K (.ref x19) "__getattr__" = some none)
    (yGc19 : PySem.W.findIn K (.ref x19) "__class__" = some (some (.builtin "object.__class__")))
    (yM19 : PySem.W.mroIn K x19 (.type "object") = some true)
    (yN219 : PySem.W.findIn K (.ref x19) "code" = some none)
    (yI19 : PySem.W.findIn K (.ref x19) "__init__" = some (some (.ref h19)))
    (yT19 : PySem.W.typeIn K (.ref h19) = some (.type "function"))
    (yF19 : K.lookup h19 = some ⟨hoc19, hod19, .func (PySem.W.fnOf "__init__" "EmptyHistory.__init__" (defArgs s_EmptyHistory__init) (defBody s_EmptyHistory__init) (defScope s_EmptyHistory__init) .none hkV19 hdc19 hpm19 han19 hcd19 hct19), hsl19⟩)
    (yFc19 : PySem.W.codeIn K hcd19 "EmptyHistory.__init__" = true)
    (yFk19 : PySem.W.keepIn K (.ref h19) = true)
    (yK19 : PySem.W.keepIn K (.ref x19) = true)
    (yE19 : PySem.W.subIn K (.ref x19) (.type "BaseException") = some true)
    (yTy19 : PySem.W.typeIn K (.ref x19) = some (.type "type"))
    (yH19 : PySem.W.hasDictIn K x19 = true)
    (yC20 : PySem.W.nsIn K mainGlobals "UnknownCell" = some (some (.ref x20)))
    (yL20 : K.lookup x20 = some (excClassObj nm20 qn20 x20 N20 bs20 (.ref xM :: [.type "LookupError", .type "Exception", .type "BaseException", .type "object"]) true sn20 su20 ab20 co20 dd20 m020 m120 m220 m320 m520 "LookupError.__new__"))
    (ySa20 : PySem.W.findIn K (.ref x20) "__setattr__" = some (some (.builtin "object.__setattr__")))
    (yGa20 : PySem.W.findIn K (.ref x20) "__getattribute__" = some (some (.builtin "BaseException.__getattribute__")))
    (yGg20 : PySem.W.findIn K (.ref x20) "__getattr__" = some none)
    (yGc20 : PySem.W.findIn K (.ref x20) "__class__" = some (some (.builtin "object.__class__")))
    (yM20 : PySem.W.mroIn K x20 (.type "object") = some true)
    (yN220 : PySem.W.findIn K (.ref x20) "code" = some none)
    (yN120 : PySem.W.findIn K (.ref x20) "name" = some none)
    (yI20 : PySem.W.findIn K (.ref x20) "__init__" = some (some (.ref h20)))
    (yT20 : PySem.W.typeIn K (.ref h20) = some (.type "function"))
    (yF20 : K.lookup h20 = some ⟨hoc20, hod20, .func (PySem.W.fnOf "__init__" "UnknownCell.__init__" (defArgs s_UnknownCell__init) (defBody s_UnknownCell__init) (defScope s_UnknownCell__init) .none hkV20 hdc20 hpm20 han20 hcd20 hct20), hsl20⟩)
    (yFc20 : PySem.W.codeIn K hcd20 "UnknownCell.__init__" = true)
    (yFk20 : PySem.W.keepIn K (.ref h20) = true)
    (yK20 : PySem.W.keepIn K (.ref x20) = true)
    (yE20 : PySem.W.subIn K (.ref x20) (.type "BaseException") = some true)
    (yTy20 : PySem.W.typeIn K (.ref x20) = some (.type "type"))
    (yH20 : PySem.W.hasDictIn K x20 = true)
    (yC21 : PySem.W.nsIn K mainGlobals "UnknownKind" = some (some (.ref x21)))
    (yL21 : K.lookup x21 = some (excClassObj nm21 qn21 x21 N21 bs21 (.ref xM :: [.type "LookupError", .type "Exception", .type "BaseException", .type "object"]) true sn21 su21 ab21 co21 dd21 m021 m121 m221 m321 m521 "LookupError.__new__"))
    (ySa21 : PySem.W.findIn K (.ref x21) "__setattr__" = some (some (.builtin "object.__setattr__")))
    (yGa21 : PySem.W.findIn K (.ref x21) "__getattribute__" = some (some (.builtin "BaseException.__getattribute__")))
    (yGg21 : PySem.W.findIn K (.ref x21) "__getattr__" = some none)
    (yGc21 : PySem.W.findIn K (.ref x21) "__class__" = some (some (.builtin "object.__class__")))
    (yM21 : PySem.W.mroIn K x21 (.type "object") = some true)
    (yN221 : PySem.W.findIn K (.ref x21) "code" = some none)
    (yN121 : PySem.W.findIn K (.ref x21) "name" = some none)
    (yI21 : PySem.W.findIn K (.ref x21) "__init__" = some (some (.ref h21)))
    (yT21 : PySem.W.typeIn K (.ref h21) = some (.type "function"))
    (yF21 : K.lookup h21 = some ⟨hoc21, hod21, .func (PySem.W.fnOf "__init__" "UnknownKind.__init__" (defArgs s_UnknownKind__init) (defBody s_UnknownKind__init) (defScope s_UnknownKind__init) .none hkV21 hdc21 hpm21 han21 hcd21 hct21), hsl21⟩)
    (yFc21 : PySem.W.codeIn K hcd21 "UnknownKind.__init__" = true)
    (yFk21 : PySem.W.keepIn K (.ref h21) = true)
    (yK21 : PySem.W.keepIn K (.ref x21) = true)
    (yE21 : PySem.W.subIn K (.ref x21) (.type "BaseException") = some true)
    (yTy21 : PySem.W.typeIn K (.ref x21) = some (.type "type"))
    (yH21 : PySem.W.hasDictIn K x21 = true)
    (yC22 : PySem.W.nsIn K mainGlobals "UnknownTie" = some (some (.ref x22)))
    (yL22 : K.lookup x22 = some (excClassObj nm22 qn22 x22 N22 bs22 (.ref xM :: [.type "LookupError", .type "Exception", .type "BaseException", .type "object"]) true sn22 su22 ab22 co22 dd22 m022 m122 m222 m322 m522 "LookupError.__new__"))
    (ySa22 : PySem.W.findIn K (.ref x22) "__setattr__" = some (some (.builtin "object.__setattr__")))
    (yGa22 : PySem.W.findIn K (.ref x22) "__getattribute__" = some (some (.builtin "BaseException.__getattribute__")))
    (yGg22 : PySem.W.findIn K (.ref x22) "__getattr__" = some none)
    (yGc22 : PySem.W.findIn K (.ref x22) "__class__" = some (some (.builtin "object.__class__")))
    (yM22 : PySem.W.mroIn K x22 (.type "object") = some true)
    (yN222 : PySem.W.findIn K (.ref x22) "code" = some none)
    (yN122 : PySem.W.findIn K (.ref x22) "name" = some none)
    (yI22 : PySem.W.findIn K (.ref x22) "__init__" = some (some (.ref h22)))
    (yT22 : PySem.W.typeIn K (.ref h22) = some (.type "function"))
    (yF22 : K.lookup h22 = some ⟨hoc22, hod22, .func (PySem.W.fnOf "__init__" "UnknownTie.__init__" (defArgs s_UnknownTie__init) (defBody s_UnknownTie__init) (defScope s_UnknownTie__init) .none hkV22 hdc22 hpm22 han22 hcd22 hct22), hsl22⟩)
    (yFc22 : PySem.W.codeIn K hcd22 "UnknownTie.__init__" = true)
    (yFk22 : PySem.W.keepIn K (.ref h22) = true)
    (yK22 : PySem.W.keepIn K (.ref x22) = true)
    (yE22 : PySem.W.subIn K (.ref x22) (.type "BaseException") = some true)
    (yTy22 : PySem.W.typeIn K (.ref x22) = some (.type "type"))
    (yH22 : PySem.W.hasDictIn K x22 = true)
    (yC23 : PySem.W.nsIn K mainGlobals "UnknownField" = some (some (.ref x23)))
    (yL23 : K.lookup x23 = some (excClassObj nm23 qn23 x23 N23 bs23 (.ref xM :: [.type "LookupError", .type "Exception", .type "BaseException", .type "object"]) true sn23 su23 ab23 co23 dd23 m023 m123 m223 m323 m523 "LookupError.__new__"))
    (ySa23 : PySem.W.findIn K (.ref x23) "__setattr__" = some (some (.builtin "object.__setattr__")))
    (yGa23 : PySem.W.findIn K (.ref x23) "__getattribute__" = some (some (.builtin "BaseException.__getattribute__")))
    (yGg23 : PySem.W.findIn K (.ref x23) "__getattr__" = some none)
    (yGc23 : PySem.W.findIn K (.ref x23) "__class__" = some (some (.builtin "object.__class__")))
    (yM23 : PySem.W.mroIn K x23 (.type "object") = some true)
    (yN223 : PySem.W.findIn K (.ref x23) "code" = some none)
    (yN123 : PySem.W.findIn K (.ref x23) "name" = some none)
    (yI23 : PySem.W.findIn K (.ref x23) "__init__" = some (some (.ref h23)))
    (yT23 : PySem.W.typeIn K (.ref h23) = some (.type "function"))
    (yF23 : K.lookup h23 = some ⟨hoc23, hod23, .func (PySem.W.fnOf "__init__" "UnknownField.__init__" (defArgs s_UnknownField__init) (defBody s_UnknownField__init) (defScope s_UnknownField__init) .none hkV23 hdc23 hpm23 han23 hcd23 hct23), hsl23⟩)
    (yFc23 : PySem.W.codeIn K hcd23 "UnknownField.__init__" = true)
    (yFk23 : PySem.W.keepIn K (.ref h23) = true)
    (yK23 : PySem.W.keepIn K (.ref x23) = true)
    (yE23 : PySem.W.subIn K (.ref x23) (.type "BaseException") = some true)
    (yTy23 : PySem.W.typeIn K (.ref x23) = some (.type "type"))
    (yH23 : PySem.W.hasDictIn K x23 = true)
    (yC24 : PySem.W.nsIn K mainGlobals "MissingTie" = some (some (.ref x24)))
    (yL24 : K.lookup x24 = some (excClassObj nm24 qn24 x24 N24 bs24 (.ref xM :: [.type "LookupError", .type "Exception", .type "BaseException", .type "object"]) true sn24 su24 ab24 co24 dd24 m024 m124 m224 m324 m524 "LookupError.__new__"))
    (ySa24 : PySem.W.findIn K (.ref x24) "__setattr__" = some (some (.builtin "object.__setattr__")))
    (yGa24 : PySem.W.findIn K (.ref x24) "__getattribute__" = some (some (.builtin "BaseException.__getattribute__")))
    (yGg24 : PySem.W.findIn K (.ref x24) "__getattr__" = some none)
    (yGc24 : PySem.W.findIn K (.ref x24) "__class__" = some (some (.builtin "object.__class__")))
    (yM24 : PySem.W.mroIn K x24 (.type "object") = some true)
    (yN224 : PySem.W.findIn K (.ref x24) "code" = some none)
    (yN124 : PySem.W.findIn K (.ref x24) "tie" = some none)
    (yI24 : PySem.W.findIn K (.ref x24) "__init__" = some (some (.ref h24)))
    (yT24 : PySem.W.typeIn K (.ref h24) = some (.type "function"))
    (yF24 : K.lookup h24 = some ⟨hoc24, hod24, .func (PySem.W.fnOf "__init__" "MissingTie.__init__" (defArgs s_MissingTie__init) (defBody s_MissingTie__init) (defScope s_MissingTie__init) .none hkV24 hdc24 hpm24 han24 hcd24 hct24), hsl24⟩)
    (yFc24 : PySem.W.codeIn K hcd24 "MissingTie.__init__" = true)
    (yFk24 : PySem.W.keepIn K (.ref h24) = true)
    (yK24 : PySem.W.keepIn K (.ref x24) = true)
    (yE24 : PySem.W.subIn K (.ref x24) (.type "BaseException") = some true)
    (yTy24 : PySem.W.typeIn K (.ref x24) = some (.type "type"))
    (yH24 : PySem.W.hasDictIn K x24 = true)
    (yC25 : PySem.W.nsIn K mainGlobals "UnknownMoment" = some (some (.ref x25)))
    (yL25 : K.lookup x25 = some (excClassObj nm25 qn25 x25 N25 bs25 (.ref xM :: [.type "LookupError", .type "Exception", .type "BaseException", .type "object"]) true sn25 su25 ab25 co25 dd25 m025 m125 m225 m325 m525 "LookupError.__new__"))
    (ySa25 : PySem.W.findIn K (.ref x25) "__setattr__" = some (some (.builtin "object.__setattr__")))
    (yGa25 : PySem.W.findIn K (.ref x25) "__getattribute__" = some (some (.builtin "BaseException.__getattribute__")))
    (yGg25 : PySem.W.findIn K (.ref x25) "__getattr__" = some none)
    (yGc25 : PySem.W.findIn K (.ref x25) "__class__" = some (some (.builtin "object.__class__")))
    (yM25 : PySem.W.mroIn K x25 (.type "object") = some true)
    (yN225 : PySem.W.findIn K (.ref x25) "code" = some none)
    (yN125 : PySem.W.findIn K (.ref x25) "given" = some none)
    (yI25 : PySem.W.findIn K (.ref x25) "__init__" = some (some (.ref h25)))
    (yT25 : PySem.W.typeIn K (.ref h25) = some (.type "function"))
    (yF25 : K.lookup h25 = some ⟨hoc25, hod25, .func (PySem.W.fnOf "__init__" "UnknownMoment.__init__" (defArgs s_UnknownMoment__init) (defBody s_UnknownMoment__init) (defScope s_UnknownMoment__init) .none hkV25 hdc25 hpm25 han25 hcd25 hct25), hsl25⟩)
    (yFc25 : PySem.W.codeIn K hcd25 "UnknownMoment.__init__" = true)
    (yFk25 : PySem.W.keepIn K (.ref h25) = true)
    (yK25 : PySem.W.keepIn K (.ref x25) = true)
    (yE25 : PySem.W.subIn K (.ref x25) (.type "BaseException") = some true)
    (yTy25 : PySem.W.typeIn K (.ref x25) = some (.type "type"))
    (yH25 : PySem.W.hasDictIn K x25 = true)
    (kt : kitTab K [x0, x1, x2, x3, x4, x5, x6, x7, x8, x9, x10, x11, x12, x13, x14, x15, x16, x17, x18, x19, x20, x21, x22, x23, x24, x25] [.ref x0, .ref x1, .ref x2, .ref x3, .ref x4, .ref x5, .ref x6, .ref x7, .ref x8, .ref x9, .ref x10, .ref x11, .ref x12, .ref x13, .ref x14, .ref x15, .ref x16, .ref x17, .ref x18, .ref x19, .ref x20, .ref x21, .ref x22, .ref x23, .ref x24, .ref x25, .ref xB, .type "ValueError", .ref xM, .type "LookupError"] = true) :
    ∃ fd : FuncData, (∀ (s : Shared) (v : Value), BindsTo s fd ⟨[v], []⟩ [("_law_script", v)]) ∧ ∀ base : Heap, K.In base → base.Ns mainGlobals mg → FnOk l.prog w K mg base CX0 9 fa fd ["_law_script"] (spLaw K) := by
  have e := hfa.symm.trans (PySem.W.mg_of X G a9)
  cases e
  have T : Top K mg := mkTop X G a0 l0 c0 k0 a1 l1 c1 k1 a2 l2 c2 k2 a3 l3 c3 k3 a4 l4 c4 k4 a5 l5 c5 k5 a6 l6 c6 k6 a7 l7 c7 k7 a8 l8 c8 k8 a9 l9 c9 k9 z_all z_dict z_isinstance z_len z_list z_max z_min z_range z_sorted z_tuple z_int z_zip z_bool z_str yxB yxM z_ValueError z_LookupError yhn yht yC0 yL0 ySa0 yGa0 yGg0 yGc0 yM0 yN20 yN10 yI0 yT0 yF0 yFc0 yFk0 yK0 yE0 yTy0 yH0 yC1 yL1 ySa1 yGa1 yGg1 yGc1 yM1 yN21 yN11 yI1 yT1 yF1 yFc1 yFk1 yK1 yE1 yTy1 yH1 yC2 yL2 ySa2 yGa2 yGg2 yGc2 yM2 yN22 yN12 yI2 yT2 yF2 yFc2 yFk2 yK2 yE2 yTy2 yH2 yC3 yL3 ySa3 yGa3 yGg3 yGc3 yM3 yN23 yN13 yI3 yT3 yF3 yFc3 yFk3 yK3 yE3 yTy3 yH3 yC4 yL4 ySa4 yGa4 yGg4 yGc4 yM4 yN24 yN14 yI4 yT4 yF4 yFc4 yFk4 yK4 yE4 yTy4 yH4 yC5 yL5 ySa5 yGa5 yGg5 yGc5 yM5 yN25 yN15 yI5 yT5 yF5 yFc5 yFk5 yK5 yE5 yTy5 yH5 yC6 yL6 ySa6 yGa6 yGg6 yGc6 yM6 yN26 yN16 yI6 yT6 yF6 yFc6 yFk6 yK6 yE6 yTy6 yH6 yC7 yL7 ySa7 yGa7 yGg7 yGc7 yM7 yN27 yN17 yI7 yT7 yF7 yFc7 yFk7 yK7 yE7 yTy7 yH7 yC8 yL8 ySa8 yGa8 yGg8 yGc8 yM8 yN28 yN18 yI8 yT8 yF8 yFc8 yFk8 yK8 yE8 yTy8 yH8 yC9 yL9 ySa9 yGa9 yGg9 yGc9 yM9 yN29 yN19 yI9 yT9 yF9 yFc9 yFk9 yK9 yE9 yTy9 yH9 yC10 yL10 ySa10 yGa10 yGg10 yGc10 yM10 yN210 yN110 yI10 yT10 yF10 yFc10 yFk10 yK10 yE10 yTy10 yH10 yC11 yL11 ySa11 yGa11 yGg11 yGc11 yM11 yN211 yN111 yI11 yT11 yF11 yFc11 yFk11 yK11 yE11 yTy11 yH11 yC12 yL12 ySa12 yGa12 yGg12 yGc12 yM12 yN212 yN112 yI12 yT12 yF12 yFc12 yFk12 yK12 yE12 yTy12 yH12 yC13 yL13 ySa13 yGa13 yGg13 yGc13 yM13 yN213 yN113 yI13 yT13 yF13 yFc13 yFk13 yK13 yE13 yTy13 yH13 yC14 yL14 ySa14 yGa14 yGg14 yGc14 yM14 yN214 yN114 yI14 yT14 yF14 yFc14 yFk14 yK14 yE14 yTy14 yH14 yC15 yL15 ySa15 yGa15 yGg15 yGc15 yM15 yN215 yN115 yI15 yT15 yF15 yFc15 yFk15 yK15 yE15 yTy15 yH15 yC16 yL16 ySa16 yGa16 yGg16 yGc16 yM16 yN216 yI16 yT16 yF16 yFc16 yFk16 yK16 yE16 yTy16 yH16 yC17 yL17 ySa17 yGa17 yGg17 yGc17 yM17 yN217 yI17 yT17 yF17 yFc17 yFk17 yK17 yE17 yTy17 yH17 yC18 yL18 ySa18 yGa18 yGg18 yGc18 yM18 yN218 yN118 yI18 yT18 yF18 yFc18 yFk18 yK18 yE18 yTy18 yH18 yC19 yL19 ySa19 yGa19 yGg19 yGc19 yM19 yN219 yI19 yT19 yF19 yFc19 yFk19 yK19 yE19 yTy19 yH19 yC20 yL20 ySa20 yGa20 yGg20 yGc20 yM20 yN220 yN120 yI20 yT20 yF20 yFc20 yFk20 yK20 yE20 yTy20 yH20 yC21 yL21 ySa21 yGa21 yGg21 yGc21 yM21 yN221 yN121 yI21 yT21 yF21 yFc21 yFk21 yK21 yE21 yTy21 yH21 yC22 yL22 ySa22 yGa22 yGg22 yGc22 yM22 yN222 yN122 yI22 yT22 yF22 yFc22 yFk22 yK22 yE22 yTy22 yH22 yC23 yL23 ySa23 yGa23 yGg23 yGc23 yM23 yN223 yN123 yI23 yT23 yF23 yFc23 yFk23 yK23 yE23 yTy23 yH23 yC24 yL24 ySa24 yGa24 yGg24 yGc24 yM24 yN224 yN124 yI24 yT24 yF24 yFc24 yFk24 yK24 yE24 yTy24 yH24 yC25 yL25 ySa25 yGa25 yGg25 yGc25 yM25 yN225 yN125 yI25 yT25 yF25 yFc25 yFk25 yK25 yE25 yTy25 yH25 kt
  exact ⟨PySem.W.fnOf "law" "law" (defArgs s_law) (defBody s_law) (defScope s_law) .none kV9 dc9 pm9 an9 cd9 ct9, fun s v => .of_eq rfl, fun base _ _ => ok_law T (fun_mk (st := s_law) l9 c9 k9)⟩
theorem walk {l : PySem.W.OpenLaw} {q : Program} {loose : List Str} {XP : (Str → Option Value) → Heap → Prop} {YP : World → Heap → Prop} {d : DefRec} {K : Params → PySem.W.Frag} (hn : l.most = some 63) (hdf : d.params.defaults = [])
    (hY : ∀ (w : World) (h : Heap), YP w h → (K w.params).In h)
    (F : ∀ (w : World) (mg : Str → Option Value) (fa : Addr) (h : Heap), (K w.params).In h → h.Ns mainGlobals mg → mg d.name = some (.ref fa) →
      ∃ fd : FuncData, (∀ (s : Shared) (u : Value), BindsTo s fd ⟨[u], []⟩ [("_law_script", u)]) ∧ ∀ base : Heap, (K w.params).In base → base.Ns mainGlobals mg → FnOk l.prog w (K w.params) mg base CX0 9 fa fd ["_law_script"] (spLaw (K w.params))) :
    PySem.W.WalkO q loose XP YP l.row.toRowW d [] (fun f vs => PySem.call f vs) :=
  L2.walk_of (n := 63) (k := 9) (x := "_law_script") (CX := fun _ => CX0) (sp := fun w => spLaw (K w.params)) hn (by decide) hdf ⟨rfl, by decide, by decide⟩ hY F (fun _ _ a ns hl _ hS => ⟨a, ns, rfl, hS, hl, fun _ => rfl⟩) fun _ _ _ _ _ z => z
end Bh
open PySem PySem.W PyProof.Rows in
set_option maxRecDepth 100000 in
set_option maxHeartbeats 0 in
theorem PySem.Challenge.cw_bestheard_k01_errors_by_themselves_holds : PySem.Challenge.rw_bestheard_k01_errors_by_themselves.Holds := by
  w_on; o_law; k_head; (case hw => w_witness2)
  k_fill
  refine Bh.walk (l := PySem.Challenge.rw_bestheard_k01_errors_by_themselves) rfl rfl (fun w h Y => PySem.W.kIn_of Y) ?F
  case F =>
    intro w mg fa h KX G hmg
    refine' Bh.all_mk KX G hmg ?a0 ?l0 ?c0 ?k0 ?a1 ?l1 ?c1 ?k1 ?a2 ?l2 ?c2 ?k2 ?a3 ?l3 ?c3 ?k3 ?a4 ?l4 ?c4 ?k4 ?a5 ?l5 ?c5 ?k5 ?a6 ?l6 ?c6 ?k6 ?a7 ?l7 ?c7 ?k7 ?a8 ?l8 ?c8 ?k8 ?a9 ?l9 ?c9 ?k9 ?z_all ?z_dict ?z_isinstance ?z_len ?z_list ?z_max ?z_min ?z_range ?z_sorted ?z_tuple ?z_int ?z_zip ?z_bool ?z_str ?yxB ?yxM ?z_ValueError ?z_LookupError ?yhn ?yht ?yC0 ?yL0 ?ySa0 ?yGa0 ?yGg0 ?yGc0 ?yM0 ?yN20 ?yN10 ?yI0 ?yT0 ?yF0 ?yFc0 ?yFk0 ?yK0 ?yE0 ?yTy0 ?yH0 ?yC1 ?yL1 ?ySa1 ?yGa1 ?yGg1 ?yGc1 ?yM1 ?yN21 ?yN11 ?yI1 ?yT1 ?yF1 ?yFc1 ?yFk1 ?yK1 ?yE1 ?yTy1 ?yH1 ?yC2 ?yL2 ?ySa2 ?yGa2 ?yGg2 ?yGc2 ?yM2 ?yN22 ?yN12 ?yI2 ?yT2 ?yF2 ?yFc2 ?yFk2 ?yK2 ?yE2 ?yTy2 ?yH2 ?yC3 ?yL3 ?ySa3 ?yGa3 ?yGg3 ?yGc3 ?yM3 ?yN23 ?yN13 ?yI3 ?yT3 ?yF3 ?yFc3 ?yFk3 ?yK3 ?yE3 ?yTy3 ?yH3 ?yC4 ?yL4 ?ySa4 ?yGa4 ?yGg4 ?yGc4 ?yM4 ?yN24 ?yN14 ?yI4 ?yT4 ?yF4 ?yFc4 ?yFk4 ?yK4 ?yE4 ?yTy4 ?yH4 ?yC5 ?yL5 ?ySa5 ?yGa5 ?yGg5 ?yGc5 ?yM5 ?yN25 ?yN15 ?yI5 ?yT5 ?yF5 ?yFc5 ?yFk5 ?yK5 ?yE5 ?yTy5 ?yH5 ?yC6 ?yL6 ?ySa6 ?yGa6 ?yGg6 ?yGc6 ?yM6 ?yN26 ?yN16 ?yI6 ?yT6 ?yF6 ?yFc6 ?yFk6 ?yK6 ?yE6 ?yTy6 ?yH6 ?yC7 ?yL7 ?ySa7 ?yGa7 ?yGg7 ?yGc7 ?yM7 ?yN27 ?yN17 ?yI7 ?yT7 ?yF7 ?yFc7 ?yFk7 ?yK7 ?yE7 ?yTy7 ?yH7 ?yC8 ?yL8 ?ySa8 ?yGa8 ?yGg8 ?yGc8 ?yM8 ?yN28 ?yN18 ?yI8 ?yT8 ?yF8 ?yFc8 ?yFk8 ?yK8 ?yE8 ?yTy8 ?yH8 ?yC9 ?yL9 ?ySa9 ?yGa9 ?yGg9 ?yGc9 ?yM9 ?yN29 ?yN19 ?yI9 ?yT9 ?yF9 ?yFc9 ?yFk9 ?yK9 ?yE9 ?yTy9 ?yH9 ?yC10 ?yL10 ?ySa10 ?yGa10 ?yGg10 ?yGc10 ?yM10 ?yN210 ?yN110 ?yI10 ?yT10 ?yF10 ?yFc10 ?yFk10 ?yK10 ?yE10 ?yTy10 ?yH10 ?yC11 ?yL11 ?ySa11 ?yGa11 ?yGg11 ?yGc11 ?yM11 ?yN211 ?yN111 ?yI11 ?yT11 ?yF11 ?yFc11 ?yFk11 ?yK11 ?yE11 ?yTy11 ?yH11 ?yC12 ?yL12 ?ySa12 ?yGa12 ?yGg12 ?yGc12 ?yM12 ?yN212 ?yN112 ?yI12 ?yT12 ?yF12 ?yFc12 ?yFk12 ?yK12 ?yE12 ?yTy12 ?yH12 ?yC13 ?yL13 ?ySa13 ?yGa13 ?yGg13 ?yGc13 ?yM13 ?yN213 ?yN113 ?yI13 ?yT13 ?yF13 ?yFc13 ?yFk13 ?yK13 ?yE13 ?yTy13 ?yH13 ?yC14 ?yL14 ?ySa14 ?yGa14 ?yGg14 ?yGc14 ?yM14 ?yN214 ?yN114 ?yI14 ?yT14 ?yF14 ?yFc14 ?yFk14 ?yK14 ?yE14 ?yTy14 ?yH14 ?yC15 ?yL15 ?ySa15 ?yGa15 ?yGg15 ?yGc15 ?yM15 ?yN215 ?yN115 ?yI15 ?yT15 ?yF15 ?yFc15 ?yFk15 ?yK15 ?yE15 ?yTy15 ?yH15 ?yC16 ?yL16 ?ySa16 ?yGa16 ?yGg16 ?yGc16 ?yM16 ?yN216 ?yI16 ?yT16 ?yF16 ?yFc16 ?yFk16 ?yK16 ?yE16 ?yTy16 ?yH16 ?yC17 ?yL17 ?ySa17 ?yGa17 ?yGg17 ?yGc17 ?yM17 ?yN217 ?yI17 ?yT17 ?yF17 ?yFc17 ?yFk17 ?yK17 ?yE17 ?yTy17 ?yH17 ?yC18 ?yL18 ?ySa18 ?yGa18 ?yGg18 ?yGc18 ?yM18 ?yN218 ?yN118 ?yI18 ?yT18 ?yF18 ?yFc18 ?yFk18 ?yK18 ?yE18 ?yTy18 ?yH18 ?yC19 ?yL19 ?ySa19 ?yGa19 ?yGg19 ?yGc19 ?yM19 ?yN219 ?yI19 ?yT19 ?yF19 ?yFc19 ?yFk19 ?yK19 ?yE19 ?yTy19 ?yH19 ?yC20 ?yL20 ?ySa20 ?yGa20 ?yGg20 ?yGc20 ?yM20 ?yN220 ?yN120 ?yI20 ?yT20 ?yF20 ?yFc20 ?yFk20 ?yK20 ?yE20 ?yTy20 ?yH20 ?yC21 ?yL21 ?ySa21 ?yGa21 ?yGg21 ?yGc21 ?yM21 ?yN221 ?yN121 ?yI21 ?yT21 ?yF21 ?yFc21 ?yFk21 ?yK21 ?yE21 ?yTy21 ?yH21 ?yC22 ?yL22 ?ySa22 ?yGa22 ?yGg22 ?yGc22 ?yM22 ?yN222 ?yN122 ?yI22 ?yT22 ?yF22 ?yFc22 ?yFk22 ?yK22 ?yE22 ?yTy22 ?yH22 ?yC23 ?yL23 ?ySa23 ?yGa23 ?yGg23 ?yGc23 ?yM23 ?yN223 ?yN123 ?yI23 ?yT23 ?yF23 ?yFc23 ?yFk23 ?yK23 ?yE23 ?yTy23 ?yH23 ?yC24 ?yL24 ?ySa24 ?yGa24 ?yGg24 ?yGc24 ?yM24 ?yN224 ?yN124 ?yI24 ?yT24 ?yF24 ?yFc24 ?yFk24 ?yK24 ?yE24 ?yTy24 ?yH24 ?yC25 ?yL25 ?ySa25 ?yGa25 ?yGg25 ?yGc25 ?yM25 ?yN225 ?yN125 ?yI25 ?yT25 ?yF25 ?yFc25 ?yFk25 ?yK25 ?yE25 ?yTy25 ?yH25 ?kt
    (case a0 => k_is)
    (case l0 => k_is)
    (case c0 => k_is)
    (case k0 => k_is)
    (case a1 => k_is)
    (case l1 => k_is)
    (case c1 => k_is)
    (case k1 => k_is)
    (case a2 => k_is)
    (case l2 => k_is)
    (case c2 => k_is)
    (case k2 => k_is)
    (case a3 => k_is)
    (case l3 => k_is)
    (case c3 => k_is)
    (case k3 => k_is)
    (case a4 => k_is)
    (case l4 => k_is)
    (case c4 => k_is)
    (case k4 => k_is)
    (case a5 => k_is)
    (case l5 => k_is)
    (case c5 => k_is)
    (case k5 => k_is)
    (case a6 => k_is)
    (case l6 => k_is)
    (case c6 => k_is)
    (case k6 => k_is)
    (case a7 => k_is)
    (case l7 => k_is)
    (case c7 => k_is)
    (case k7 => k_is)
    (case a8 => k_is)
    (case l8 => k_is)
    (case c8 => k_is)
    (case k8 => k_is)
    (case a9 => k_is)
    (case l9 => k_is)
    (case c9 => k_is)
    (case k9 => k_is)
    (case z_all => k_is)
    (case z_dict => k_is)
    (case z_isinstance => k_is)
    (case z_len => k_is)
    (case z_list => k_is)
    (case z_max => k_is)
    (case z_min => k_is)
    (case z_range => k_is)
    (case z_sorted => k_is)
    (case z_tuple => k_is)
    (case z_int => k_is)
    (case z_zip => k_is)
    (case z_bool => k_is)
    (case z_str => k_is)
    (case yxB => k_is)
    (case yxM => k_is)
    (case z_ValueError => k_is)
    (case z_LookupError => k_is)
    (case yhn => k_is)
    (case yht => k_is)
    (case yC0 => k_is)
    (case yL0 => k_is)
    (case ySa0 => k_is)
    (case yGa0 => k_is)
    (case yGg0 => k_is)
    (case yGc0 => k_is)
    (case yM0 => k_is)
    (case yN20 => k_is)
    (case yN10 => k_is)
    (case yI0 => k_is)
    (case yT0 => k_is)
    (case yF0 => k_is)
    (case yFc0 => k_is)
    (case yFk0 => k_is)
    (case yK0 => k_is)
    (case yE0 => k_is)
    (case yTy0 => k_is)
    (case yH0 => k_is)
    (case yC1 => k_is)
    (case yL1 => k_is)
    (case ySa1 => k_is)
    (case yGa1 => k_is)
    (case yGg1 => k_is)
    (case yGc1 => k_is)
    (case yM1 => k_is)
    (case yN21 => k_is)
    (case yN11 => k_is)
    (case yI1 => k_is)
    (case yT1 => k_is)
    (case yF1 => k_is)
    (case yFc1 => k_is)
    (case yFk1 => k_is)
    (case yK1 => k_is)
    (case yE1 => k_is)
    (case yTy1 => k_is)
    (case yH1 => k_is)
    (case yC2 => k_is)
    (case yL2 => k_is)
    (case ySa2 => k_is)
    (case yGa2 => k_is)
    (case yGg2 => k_is)
    (case yGc2 => k_is)
    (case yM2 => k_is)
    (case yN22 => k_is)
    (case yN12 => k_is)
    (case yI2 => k_is)
    (case yT2 => k_is)
    (case yF2 => k_is)
    (case yFc2 => k_is)
    (case yFk2 => k_is)
    (case yK2 => k_is)
    (case yE2 => k_is)
    (case yTy2 => k_is)
    (case yH2 => k_is)
    (case yC3 => k_is)
    (case yL3 => k_is)
    (case ySa3 => k_is)
    (case yGa3 => k_is)
    (case yGg3 => k_is)
    (case yGc3 => k_is)
    (case yM3 => k_is)
    (case yN23 => k_is)
    (case yN13 => k_is)
    (case yI3 => k_is)
    (case yT3 => k_is)
    (case yF3 => k_is)
    (case yFc3 => k_is)
    (case yFk3 => k_is)
    (case yK3 => k_is)
    (case yE3 => k_is)
    (case yTy3 => k_is)
    (case yH3 => k_is)
    (case yC4 => k_is)
    (case yL4 => k_is)
    (case ySa4 => k_is)
    (case yGa4 => k_is)
    (case yGg4 => k_is)
    (case yGc4 => k_is)
    (case yM4 => k_is)
    (case yN24 => k_is)
    (case yN14 => k_is)
    (case yI4 => k_is)
    (case yT4 => k_is)
    (case yF4 => k_is)
    (case yFc4 => k_is)
    (case yFk4 => k_is)
    (case yK4 => k_is)
    (case yE4 => k_is)
    (case yTy4 => k_is)
    (case yH4 => k_is)
    (case yC5 => k_is)
    (case yL5 => k_is)
    (case ySa5 => k_is)
    (case yGa5 => k_is)
    (case yGg5 => k_is)
    (case yGc5 => k_is)
    (case yM5 => k_is)
    (case yN25 => k_is)
    (case yN15 => k_is)
    (case yI5 => k_is)
    (case yT5 => k_is)
    (case yF5 => k_is)
    (case yFc5 => k_is)
    (case yFk5 => k_is)
    (case yK5 => k_is)
    (case yE5 => k_is)
    (case yTy5 => k_is)
    (case yH5 => k_is)
    (case yC6 => k_is)
    (case yL6 => k_is)
    (case ySa6 => k_is)
    (case yGa6 => k_is)
    (case yGg6 => k_is)
    (case yGc6 => k_is)
    (case yM6 => k_is)
    (case yN26 => k_is)
    (case yN16 => k_is)
    (case yI6 => k_is)
    (case yT6 => k_is)
    (case yF6 => k_is)
    (case yFc6 => k_is)
    (case yFk6 => k_is)
    (case yK6 => k_is)
    (case yE6 => k_is)
    (case yTy6 => k_is)
    (case yH6 => k_is)
    (case yC7 => k_is)
    (case yL7 => k_is)
    (case ySa7 => k_is)
    (case yGa7 => k_is)
    (case yGg7 => k_is)
    (case yGc7 => k_is)
    (case yM7 => k_is)
    (case yN27 => k_is)
    (case yN17 => k_is)
    (case yI7 => k_is)
    (case yT7 => k_is)
    (case yF7 => k_is)
    (case yFc7 => k_is)
    (case yFk7 => k_is)
    (case yK7 => k_is)
    (case yE7 => k_is)
    (case yTy7 => k_is)
    (case yH7 => k_is)
    (case yC8 => k_is)
    (case yL8 => k_is)
    (case ySa8 => k_is)
    (case yGa8 => k_is)
    (case yGg8 => k_is)
    (case yGc8 => k_is)
    (case yM8 => k_is)
    (case yN28 => k_is)
    (case yN18 => k_is)
    (case yI8 => k_is)
    (case yT8 => k_is)
    (case yF8 => k_is)
    (case yFc8 => k_is)
    (case yFk8 => k_is)
    (case yK8 => k_is)
    (case yE8 => k_is)
    (case yTy8 => k_is)
    (case yH8 => k_is)
    (case yC9 => k_is)
    (case yL9 => k_is)
    (case ySa9 => k_is)
    (case yGa9 => k_is)
    (case yGg9 => k_is)
    (case yGc9 => k_is)
    (case yM9 => k_is)
    (case yN29 => k_is)
    (case yN19 => k_is)
    (case yI9 => k_is)
    (case yT9 => k_is)
    (case yF9 => k_is)
    (case yFc9 => k_is)
    (case yFk9 => k_is)
    (case yK9 => k_is)
    (case yE9 => k_is)
    (case yTy9 => k_is)
    (case yH9 => k_is)
    (case yC10 => k_is)
    (case yL10 => k_is)
    (case ySa10 => k_is)
    (case yGa10 => k_is)
    (case yGg10 => k_is)
    (case yGc10 => k_is)
    (case yM10 => k_is)
    (case yN210 => k_is)
    (case yN110 => k_is)
    (case yI10 => k_is)
    (case yT10 => k_is)
    (case yF10 => k_is)
    (case yFc10 => k_is)
    (case yFk10 => k_is)
    (case yK10 => k_is)
    (case yE10 => k_is)
    (case yTy10 => k_is)
    (case yH10 => k_is)
    (case yC11 => k_is)
    (case yL11 => k_is)
    (case ySa11 => k_is)
    (case yGa11 => k_is)
    (case yGg11 => k_is)
    (case yGc11 => k_is)
    (case yM11 => k_is)
    (case yN211 => k_is)
    (case yN111 => k_is)
    (case yI11 => k_is)
    (case yT11 => k_is)
    (case yF11 => k_is)
    (case yFc11 => k_is)
    (case yFk11 => k_is)
    (case yK11 => k_is)
    (case yE11 => k_is)
    (case yTy11 => k_is)
    (case yH11 => k_is)
    (case yC12 => k_is)
    (case yL12 => k_is)
    (case ySa12 => k_is)
    (case yGa12 => k_is)
    (case yGg12 => k_is)
    (case yGc12 => k_is)
    (case yM12 => k_is)
    (case yN212 => k_is)
    (case yN112 => k_is)
    (case yI12 => k_is)
    (case yT12 => k_is)
    (case yF12 => k_is)
    (case yFc12 => k_is)
    (case yFk12 => k_is)
    (case yK12 => k_is)
    (case yE12 => k_is)
    (case yTy12 => k_is)
    (case yH12 => k_is)
    (case yC13 => k_is)
    (case yL13 => k_is)
    (case ySa13 => k_is)
    (case yGa13 => k_is)
    (case yGg13 => k_is)
    (case yGc13 => k_is)
    (case yM13 => k_is)
    (case yN213 => k_is)
    (case yN113 => k_is)
    (case yI13 => k_is)
    (case yT13 => k_is)
    (case yF13 => k_is)
    (case yFc13 => k_is)
    (case yFk13 => k_is)
    (case yK13 => k_is)
    (case yE13 => k_is)
    (case yTy13 => k_is)
    (case yH13 => k_is)
    (case yC14 => k_is)
    (case yL14 => k_is)
    (case ySa14 => k_is)
    (case yGa14 => k_is)
    (case yGg14 => k_is)
    (case yGc14 => k_is)
    (case yM14 => k_is)
    (case yN214 => k_is)
    (case yN114 => k_is)
    (case yI14 => k_is)
    (case yT14 => k_is)
    (case yF14 => k_is)
    (case yFc14 => k_is)
    (case yFk14 => k_is)
    (case yK14 => k_is)
    (case yE14 => k_is)
    (case yTy14 => k_is)
    (case yH14 => k_is)
    (case yC15 => k_is)
    (case yL15 => k_is)
    (case ySa15 => k_is)
    (case yGa15 => k_is)
    (case yGg15 => k_is)
    (case yGc15 => k_is)
    (case yM15 => k_is)
    (case yN215 => k_is)
    (case yN115 => k_is)
    (case yI15 => k_is)
    (case yT15 => k_is)
    (case yF15 => k_is)
    (case yFc15 => k_is)
    (case yFk15 => k_is)
    (case yK15 => k_is)
    (case yE15 => k_is)
    (case yTy15 => k_is)
    (case yH15 => k_is)
    (case yC16 => k_is)
    (case yL16 => k_is)
    (case ySa16 => k_is)
    (case yGa16 => k_is)
    (case yGg16 => k_is)
    (case yGc16 => k_is)
    (case yM16 => k_is)
    (case yN216 => k_is)
    (case yI16 => k_is)
    (case yT16 => k_is)
    (case yF16 => k_is)
    (case yFc16 => k_is)
    (case yFk16 => k_is)
    (case yK16 => k_is)
    (case yE16 => k_is)
    (case yTy16 => k_is)
    (case yH16 => k_is)
    (case yC17 => k_is)
    (case yL17 => k_is)
    (case ySa17 => k_is)
    (case yGa17 => k_is)
    (case yGg17 => k_is)
    (case yGc17 => k_is)
    (case yM17 => k_is)
    (case yN217 => k_is)
    (case yI17 => k_is)
    (case yT17 => k_is)
    (case yF17 => k_is)
    (case yFc17 => k_is)
    (case yFk17 => k_is)
    (case yK17 => k_is)
    (case yE17 => k_is)
    (case yTy17 => k_is)
    (case yH17 => k_is)
    (case yC18 => k_is)
    (case yL18 => k_is)
    (case ySa18 => k_is)
    (case yGa18 => k_is)
    (case yGg18 => k_is)
    (case yGc18 => k_is)
    (case yM18 => k_is)
    (case yN218 => k_is)
    (case yN118 => k_is)
    (case yI18 => k_is)
    (case yT18 => k_is)
    (case yF18 => k_is)
    (case yFc18 => k_is)
    (case yFk18 => k_is)
    (case yK18 => k_is)
    (case yE18 => k_is)
    (case yTy18 => k_is)
    (case yH18 => k_is)
    (case yC19 => k_is)
    (case yL19 => k_is)
    (case ySa19 => k_is)
    (case yGa19 => k_is)
    (case yGg19 => k_is)
    (case yGc19 => k_is)
    (case yM19 => k_is)
    (case yN219 => k_is)
    (case yI19 => k_is)
    (case yT19 => k_is)
    (case yF19 => k_is)
    (case yFc19 => k_is)
    (case yFk19 => k_is)
    (case yK19 => k_is)
    (case yE19 => k_is)
    (case yTy19 => k_is)
    (case yH19 => k_is)
    (case yC20 => k_is)
    (case yL20 => k_is)
    (case ySa20 => k_is)
    (case yGa20 => k_is)
    (case yGg20 => k_is)
    (case yGc20 => k_is)
    (case yM20 => k_is)
    (case yN220 => k_is)
    (case yN120 => k_is)
    (case yI20 => k_is)
    (case yT20 => k_is)
    (case yF20 => k_is)
    (case yFc20 => k_is)
    (case yFk20 => k_is)
    (case yK20 => k_is)
    (case yE20 => k_is)
    (case yTy20 => k_is)
    (case yH20 => k_is)
    (case yC21 => k_is)
    (case yL21 => k_is)
    (case ySa21 => k_is)
    (case yGa21 => k_is)
    (case yGg21 => k_is)
    (case yGc21 => k_is)
    (case yM21 => k_is)
    (case yN221 => k_is)
    (case yN121 => k_is)
    (case yI21 => k_is)
    (case yT21 => k_is)
    (case yF21 => k_is)
    (case yFc21 => k_is)
    (case yFk21 => k_is)
    (case yK21 => k_is)
    (case yE21 => k_is)
    (case yTy21 => k_is)
    (case yH21 => k_is)
    (case yC22 => k_is)
    (case yL22 => k_is)
    (case ySa22 => k_is)
    (case yGa22 => k_is)
    (case yGg22 => k_is)
    (case yGc22 => k_is)
    (case yM22 => k_is)
    (case yN222 => k_is)
    (case yN122 => k_is)
    (case yI22 => k_is)
    (case yT22 => k_is)
    (case yF22 => k_is)
    (case yFc22 => k_is)
    (case yFk22 => k_is)
    (case yK22 => k_is)
    (case yE22 => k_is)
    (case yTy22 => k_is)
    (case yH22 => k_is)
    (case yC23 => k_is)
    (case yL23 => k_is)
    (case ySa23 => k_is)
    (case yGa23 => k_is)
    (case yGg23 => k_is)
    (case yGc23 => k_is)
    (case yM23 => k_is)
    (case yN223 => k_is)
    (case yN123 => k_is)
    (case yI23 => k_is)
    (case yT23 => k_is)
    (case yF23 => k_is)
    (case yFc23 => k_is)
    (case yFk23 => k_is)
    (case yK23 => k_is)
    (case yE23 => k_is)
    (case yTy23 => k_is)
    (case yH23 => k_is)
    (case yC24 => k_is)
    (case yL24 => k_is)
    (case ySa24 => k_is)
    (case yGa24 => k_is)
    (case yGg24 => k_is)
    (case yGc24 => k_is)
    (case yM24 => k_is)
    (case yN224 => k_is)
    (case yN124 => k_is)
    (case yI24 => k_is)
    (case yT24 => k_is)
    (case yF24 => k_is)
    (case yFc24 => k_is)
    (case yFk24 => k_is)
    (case yK24 => k_is)
    (case yE24 => k_is)
    (case yTy24 => k_is)
    (case yH24 => k_is)
    (case yC25 => k_is)
    (case yL25 => k_is)
    (case ySa25 => k_is)
    (case yGa25 => k_is)
    (case yGg25 => k_is)
    (case yGc25 => k_is)
    (case yM25 => k_is)
    (case yN225 => k_is)
    (case yN125 => k_is)
    (case yI25 => k_is)
    (case yT25 => k_is)
    (case yF25 => k_is)
    (case yFc25 => k_is)
    (case yFk25 => k_is)
    (case yK25 => k_is)
    (case yE25 => k_is)
    (case yTy25 => k_is)
    (case yH25 => k_is)
    (case kt => first | kernel_rfl | k_is | rfl)
