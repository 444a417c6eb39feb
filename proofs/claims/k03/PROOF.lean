import PyProof.Rows.All
import Wide.All
import OpenK.AllK
import Wide.FinOn
import HandS.ForMost
import HandS.Walk
import HandS.IsInst
import HandS.Deep
import HandS.Defaults
import HandS.Evl
import HandS.Steps
import HandS.More
import HandS.Zip
import HandS.Strs
import HandS.TupAny
import HandS.TupMul
import HandS.StrMore
import HandS.Style
import KE.DataEq
import PySem.Challenge.RW_bestheard_k03_programs_applied
set_option Elab.async false
set_option linter.all false
set_option maxRecDepth 100000
namespace Bh
open PySem PySem.Spec PyProof.Rows L2
/-! ### what the laws of this set have in common: constants, defs of the top, the drawing bag -/
section
variable {X : Cx} {x z : Str} {i : Int} {a : Addr} {pos : Pos}
theorem pe_gS (hg : Gl X x) (hm : ∃ t, X.mg x = some (.str z t)) (hd : (x == ("__debug__" : Str)) = false := by decide) : PE X (.Name x pos) (tC (.str z)) := by
  obtain ⟨t, hm⟩ := hm
  exact pe_glob hg hm ⟨t, rfl⟩ hd
theorem pe_gI (hg : Gl X x) (hm : ∃ t, X.mg x = some (.int i t)) (hd : (x == ("__debug__" : Str)) = false := by decide) : PE X (.Name x pos) (tC (.int i)) := by
  obtain ⟨t, hm⟩ := hm
  exact pe_glob hg hm ⟨t, rfl⟩ hd
theorem pe_gR (hg : Gl X x) (hm : X.mg x = some (.ref a)) (hd : (x == ("__debug__" : Str)) = false := by decide) : PE X (.Name x pos) (tC (.ref a)) :=
  pe_glob hg hm rfl hd
end
theorem pe_tyN {X : Cx} {x : Str} {pos : Pos} (n : String) (hg : Gl X x) (hm : X.mg x = none) (hv : bootBuiltins x = some (.type n)) (hnn : x ≠ "__name__" := by decide) (hdb : (x == ("__debug__" : Str)) = false := by decide) : PE X (.Name x pos) (tC (.ty n)) := pe_bltn hg hm hv rfl hnn hdb
/-- a def of the top: where it stands, what its name holds, how it binds -/
structure Df (K : PySem.W.Frag) (mg : Str → Option Value) (x : Str) (st : Stmt) (ps : List Str) (f : Addr) (fd : FuncData) : Prop where
  F : Fun K x x st f fd
  g : mg x = some (.ref f)
  b : Binds K fd ps []
theorem Df.kp {K : PySem.W.Frag} {mg : Str → Option Value} {x : Str} {st : Stmt} {ps : List Str} {f : Addr} {fd : FuncData} (d : Df K mg x st ps f fd) : PySem.W.keepIn K (.ref f) = true := d.F.kp
theorem same_new {H : Hp} {p : Addr} {o : HO} (h : H p = none) : Same H (upd H p o) := fun b u e => by
  rw [upd_ne (ne_of_none e h)]
  exact e
theorem Same.tup {K : PySem.W.Frag} {H H' : Hp} {a : Addr} {xs : List V} (e : Same H H') (h : SqT K H a xs) : SqT K H' a xs := by
  rcases h with (h | ⟨o, h⟩) | h
  · exact .inl (.inl (e _ _ h))
  · exact .inl (.inr ⟨o, e _ _ h⟩)
  · exact .inr h
/-- the bag of a law: the script's ints at l, how many are taken, what is left of a great one, the seed -/
def BagAt (b l : Addr) (H : Hp) : Prop := ∃ (ns : List Int) (i c s : Int), H b = some (.lst [.ref l, .int i, .int c, .int s]) ∧ H l = some (.lst (ns.map V.int)) ∧ ns.length ≤ 63 ∧ 0 ≤ i ∧ i ≤ (ns.length : Int) ∧ 0 ≤ c ∧ 0 ≤ s ∧ s < 2147483647
/-- G: all that is known apart from the bag at b, l -/
structure Wd (b l : Addr) (G H : Hp) : Prop where
  nb : G b = none
  nl : G l = none
  sm : Same G H
  bag : BagAt b l H
section
variable {b l p q : Addr} {G G' H H' : Hp} {o o' : HO}
theorem BagAt.b_some (h : BagAt b l H) : ∃ o, H b = some o := by
  obtain ⟨_, _, _, _, h, _⟩ := h
  exact ⟨_, h⟩
theorem BagAt.l_some (h : BagAt b l H) : ∃ o, H l = some o := by
  obtain ⟨_, _, _, _, _, h, _⟩ := h
  exact ⟨_, h⟩
theorem BagAt.same (h : BagAt b l H) (e : Same H H') : BagAt b l H' := by
  obtain ⟨ns, i, c, s, h1, h2, r⟩ := h
  exact ⟨ns, i, c, s, e _ _ h1, e _ _ h2, r⟩
theorem Wd.b_ne (w : Wd b l G H) (hp : H p = none) : p ≠ b := fun z => by
  obtain ⟨o, e⟩ := w.bag.b_some
  rw [← z, hp] at e
  cases e
theorem Wd.l_ne (w : Wd b l G H) (hp : H p = none) : p ≠ l := fun z => by
  obtain ⟨o, e⟩ := w.bag.l_some
  rw [← z, hp] at e
  cases e
theorem Wd.same (w : Wd b l G H) (e : Same H H') : Wd b l G H' := ⟨w.nb, w.nl, w.sm.trans e, w.bag.same e⟩
/-- a new object -/
theorem Wd.new (w : Wd b l G H) (hp : H p = none) : Wd b l (upd G p o) (upd H p o) := by
  refine ⟨?_, ?_, fun a u e => ?_, w.bag.same (same_new hp)⟩
  · rw [upd_ne (w.b_ne hp).symm]
    exact w.nb
  · rw [upd_ne (w.l_ne hp).symm]
    exact w.nl
  · by_cases h : a = p
    · rw [h, upd_same] at e ⊢
      exact e
    · rw [upd_ne h] at e ⊢
      exact w.sm _ _ e
theorem Wd.free (w : Wd b l G H) (hp : H p = none) : G p = none := w.sm.free hp
theorem Wd.sameG (w : Wd b l G H) (hp : H p = none) : Same G (upd G p o) := same_new (w.free hp)
/-- an object that is known changes -/
theorem Wd.mut (w : Wd b l G H) (hq : G q = some o) : Wd b l (upd G q o') (upd H q o') := by
  have nb : q ≠ b := fun z => by
    rw [z, w.nb] at hq
    cases hq
  have nl : q ≠ l := fun z => by
    rw [z, w.nl] at hq
    cases hq
  obtain ⟨ns, i, c, s, h1, h2, r⟩ := w.bag
  refine ⟨?_, ?_, fun a u e => ?_, ns, i, c, s, ?_, ?_, r⟩
  · rw [upd_ne nb.symm]
    exact w.nb
  · rw [upd_ne nl.symm]
    exact w.nl
  · by_cases h : a = q
    · rw [h, upd_same] at e ⊢
      exact e
    · rw [upd_ne h] at e ⊢
      exact w.sm _ _ e
  · rw [upd_ne nb.symm]
    exact h1
  · rw [upd_ne nl.symm]
    exact h2
/-- what a def leaves that knows nothing of the bag: G' has more, new things -/
theorem Wd.grow (w : Wd b l G H) (e : Same H H') (g : Same G' H') (n : ∀ a o, G' a = some o → G a = none → H a = none) : Wd b l G' H' := by
  have key : ∀ a, G a = none → (∃ o, H a = some o) → G' a = none := fun a ha ⟨o, ho⟩ => by
    cases q : G' a with
    | none => rfl
    | some u =>
      have z := n a u q ha
      rw [ho] at z
      cases z
  exact ⟨key _ w.nb w.bag.b_some, key _ w.nl w.bag.l_some, g, w.bag.same e⟩
/-- the bag alone changes -/
theorem Wd.bagged (w : Wd b l G H) (h : BagAt b l (upd H b o)) : Wd b l G (upd H b o) := by
  refine ⟨w.nb, w.nl, fun a u e => ?_, h⟩
  rw [upd_ne (ne_of_none e w.nb)]
  exact w.sm _ _ e
end
theorem p31 : (0 : Int) < 2147483647 := by decide
theorem p8117 : (0 : Int) < 8117 := by decide
/-! ### the promises of the bag's defs -/
def spBag (K : PySem.W.Frag) : Sp := fun vs H Q _ => ∃ (a : Addr) (ns : List Int), vs = [.ref a] ∧ SqL K H a (ns.map V.int) ∧ ns.length ≤ 63 ∧ ∀ (b l : Addr) (H' : Hp), H b = none → H l = none → Same H H' → BagAt b l H' → Q (.ref b) H'
def spDraw : Sp := fun vs H Q _ => ∃ (b l : Addr) (G : Hp) (n : Int), vs = [.ref b, .int n] ∧ 0 < n ∧ n < 1073741824 ∧ Wd b l G H ∧ ∀ (r : Int) (H' : Hp), 0 ≤ r → r < n → Wd b l G H' → Q (.int r) H'
/-- the same, by what any def that draws may lean on -/
theorem wd_start {b l : Addr} {H H' : Hp} (hb : H b = none) (hl : H l = none) (e : Same H H') (h : BagAt b l H') : Wd b l H H' := ⟨hb, hl, e, h⟩
theorem get_map {ns : List Int} {i : Nat} {v : V} (h : (ns.map V.int)[i]? = some v) : ∃ z, ns[i]? = some z ∧ v = .int z := by
  rw [List.getElem?_map] at h
  cases e : ns[i]? with
  | none =>
    rw [e] at h
    cases h
  | some z =>
    rw [e] at h
    exact ⟨z, rfl, (Option.some.inj h).symm⟩
theorem at_nn {α : Type} {xs : List α} {i : Int} {v : α} (h0 : 0 ≤ i) (h : xs[i.toNat]? = some v) : atI xs i = some v := by
  have e : i = ((i.toNat : Nat) : Int) := by omega
  rw [e]
  exact atI_nat h
theorem at_lt {α : Type} {xs : List α} {i : Int} (h0 : 0 ≤ i) (h1 : i < (xs.length : Int)) : ∃ v, atI xs i = some v ∧ v ∈ xs := by
  have h : i.toNat < xs.length := by omega
  exact ⟨xs[i.toNat], at_nn h0 (List.getElem?_eq_getElem h), List.getElem_mem h⟩
end Bh

set_option Elab.async false
set_option linter.all false
set_option maxRecDepth 100000
namespace Bh
open PySem PySem.Spec PyProof.Rows L2
/-! ### one of two rules -/
section
variable {X : Cx}
theorem pe_or {e : Expr} {t u : TE} (h1 : PE X e t) (h2 : PE X e u) : PE X e (fun σ H Q => t σ H Q ∨ u σ H Q) :=
  ⟨fun pins s σ H Q I h => h.elim (h1.run pins s σ H Q I) (h2.run pins s σ H Q I)⟩
theorem pi_or {tg it : Expr} {w v : TI} (h1 : PI X tg it w) (h2 : PI X tg it v) : PI X tg it (fun σ H R => w σ H R ∨ v σ H R) :=
  ⟨fun pins s σ H R I h => h.elim (h1.run pins s σ H R I) (h2.run pins s σ H R I)⟩
/-- a list or a tuple -/
theorem pi_seq {tg l : Expr} {tl : TE} (hl : PE X l tl) : PI X tg l (fun σ H R => iList X.K tl σ H R ∨ iTup X.K tl σ H R) := pi_or (pi_list hl) (pi_tup hl)
/-- f(k = v, ..) -/
theorem pe_callN0 {CX : CXT} {k : Nat} {f : Addr} {fd : FuncData} {ps ks : List Str} {sp : Sp} {E : XK} {x : Str} {p pos : Pos} {kws : List Keyword} {tk : TA} {g : List Value → List Value → List Value} {gV : List V → List V → List V}
    (F : FnOk X.prog X.w X.K X.mg X.base CX k f fd ps sp) (hr : Room k X.A) (hg : Gl X x) (hm : X.mg x = some (.ref f)) (hk : PySem.W.keepIn X.K (.ref f) = true) (hb : KBn X.K fd ps 0 ks g gV) (hx : Passes CX X E)
    (hkw : PK X kws tk) (hall : (backToKw pos (keywordEach kws X.env)).all (·.1.isSome) = true := by rfl) (hks : (backToKw pos (keywordEach kws X.env)).filterMap (·.1) = ks := by rfl)
    (hdb : (x == ("__debug__" : Str)) = false := by decide) (hpl : ((backTo pos (starEach [] X.env)).any (·.1) || (backToKw pos (keywordEach kws X.env)).any (·.1.isNone)) = false := by rfl) :
    PE X (.Call (.Name x p) [] kws pos) (tCallN 0 ks.length sp gV E tNil tk) := by
  refine ⟨fun pins s σ H Q I h => ?_⟩
  refine wpAny_Call_Name_kw (ld_glob I hg hm ?_ hdb)
  refine PySem.W.callWith_KW0 (h₀ := X.base) I.ok.mod.kin hk hall ?_ hpl
  refine thn (hkw.run pos pins s σ H _ I h) fun ws s2 ⟨zs, H2, I2, rz, l1, l2, q2⟩ => ⟨I2.kIn, ?_⟩
  rw [hks]
  exact run_fnN (us := []) (vs := []) F hr hb hx I2 .nil rz rfl l2 q2
end
/-! ### data of any depth -/
section
variable {K : PySem.W.Frag} {H H' : Hp} {v x y : V} {xs ys : List V} {d e : PyData} {ds es : List PyData} {a : Addr}
mutual
theorem Dp.mono (g : Same H H') : ∀ {v : V} {d : PyData}, Dp K H v d → Dp K H' v d
  | _, _, .non => .non
  | _, _, .bl b => .bl b
  | _, _, .int i => .int i
  | _, _, .str x => .str x
  | _, _, .lst h all => .lst (g.seq h) (DpAll.mono g all)
  | _, _, .tup h all => .tup (Same.tup g h) (DpAll.mono g all)
theorem DpAll.mono (g : Same H H') : ∀ {vs : List V} {ds : List PyData}, DpAll K H vs ds → DpAll K H' vs ds
  | _, _, .nil => .nil
  | _, _, .cons h t => .cons (Dp.mono g h) (DpAll.mono g t)
end
theorem DpAll.length : ∀ {xs : List V} {ds : List PyData}, DpAll K H xs ds → xs.length = ds.length
  | _, _, .nil => rfl
  | _, _, .cons _ t => congrArg Nat.succ (DpAll.length t)
theorem DpAll.get : ∀ {xs : List V} {ds : List PyData} {i : Nat} {x : V}, DpAll K H xs ds → xs[i]? = some x → ∃ d, ds[i]? = some d ∧ Dp K H x d
  | _, _, _, _, .nil, e => by simp at e
  | _, _, 0, _, .cons h _, e => by
    simp at e
    subst e
    exact ⟨_, rfl, h⟩
  | _, _, i + 1, x, .cons _ t, e => by
    obtain ⟨d, h1, h2⟩ := DpAll.get (i := i) (x := x) t (by simpa using e)
    exact ⟨d, by simpa using h1, h2⟩
theorem DpAll.getD : ∀ {xs : List V} {ds : List PyData} {i : Nat} {d : PyData}, DpAll K H xs ds → ds[i]? = some d → ∃ x, xs[i]? = some x ∧ Dp K H x d
  | _, _, _, _, .nil, e => by simp at e
  | _, _, 0, _, .cons h _, e => by
    simp at e
    subst e
    exact ⟨_, rfl, h⟩
  | _, _, i + 1, x, .cons _ t, e => by
    obtain ⟨d, h1, h2⟩ := DpAll.getD (i := i) (d := x) t (by simpa using e)
    exact ⟨d, by simpa using h1, h2⟩
theorem DpAll.append : ∀ {xs ys : List V} {ds es : List PyData}, DpAll K H xs ds → DpAll K H ys es → DpAll K H (xs ++ ys) (ds ++ es)
  | _, _, _, _, .nil, k => k
  | _, _, _, _, .cons h t, k => .cons h (DpAll.append t k)
theorem DpAll.take : ∀ {xs : List V} {ds : List PyData} (n : Nat), DpAll K H xs ds → DpAll K H (xs.take n) (ds.take n)
  | _, _, 0, _ => .nil
  | _, _, _ + 1, .nil => .nil
  | _, _, n + 1, .cons h t => .cons h (DpAll.take n t)
theorem DpAll.drop : ∀ {xs : List V} {ds : List PyData} (n : Nat), DpAll K H xs ds → DpAll K H (xs.drop n) (ds.drop n)
  | _, _, 0, h => h
  | _, _, _ + 1, .nil => .nil
  | _, _, n + 1, .cons _ t => DpAll.drop n t
theorem dp_strs : ∀ {xs : List V} {zs : List Str}, DpAll K H xs (zs.map PyData.str) → xs = zs.map V.str
  | _, [], .nil => rfl
  | _, z :: zs, .cons h t => by
    cases h
    rw [dp_strs t]
    rfl
theorem strs_dp : ∀ (zs : List Str), DpAll K H (zs.map V.str) (zs.map PyData.str)
  | [] => .nil
  | z :: zs => .cons (.str z) (strs_dp zs)
theorem dp_str {z : Str} (h : Dp K H v (.str z)) : v = .str z := by
  cases h
  rfl
theorem dp_non (h : Dp K H v .none) : v = .non := by
  cases h
  rfl
theorem dp_tup (h : Dp K H v (.tuple ds)) : ∃ a xs, v = .ref a ∧ SqT K H a xs ∧ DpAll K H xs ds := by
  cases h with
  | tup h1 h2 => exact ⟨_, _, rfl, h1, h2⟩
theorem dp_lst (h : Dp K H v (.list ds)) : ∃ a xs, v = .ref a ∧ SqL K H a xs ∧ DpAll K H xs ds := by
  cases h with
  | lst h1 h2 => exact ⟨_, _, rfl, h1, h2⟩
theorem dpa_cons (h : DpAll K H xs (d :: ds)) : ∃ x r, xs = x :: r ∧ Dp K H x d ∧ DpAll K H r ds := by
  cases h with
  | cons h1 h2 => exact ⟨_, _, rfl, h1, h2⟩
theorem dpa_nil (h : DpAll K H xs []) : xs = [] := by
  cases h
  rfl
/-- a list or a tuple of these -/
def DpS (K : PySem.W.Frag) (H : Hp) (v : V) (ds : List PyData) : Prop := ∃ a xs, v = .ref a ∧ (SqL K H a xs ∨ SqT K H a xs) ∧ DpAll K H xs ds
theorem DpS.mono (g : Same H H') (h : DpS K H v ds) : DpS K H' v ds := by
  obtain ⟨a, xs, e, h1, h2⟩ := h
  exact ⟨a, xs, e, h1.imp g.seq (Same.tup g), DpAll.mono g h2⟩
theorem DpS.ofT (h : Dp K H v (.tuple ds)) : DpS K H v ds := by
  obtain ⟨a, xs, e, h1, h2⟩ := dp_tup h
  exact ⟨a, xs, e, .inr h1, h2⟩
theorem DpS.ofL (h : Dp K H v (.list ds)) : DpS K H v ds := by
  obtain ⟨a, xs, e, h1, h2⟩ := dp_lst h
  exact ⟨a, xs, e, .inl h1, h2⟩
/-- how deep data are -/
inductive Sh : Nat → PyData → Prop
  | non {n : Nat} : Sh n .none
  | bl {n : Nat} {b : Bool} : Sh n (.bool b)
  | int {n : Nat} {i : Int} : Sh n (.int i)
  | str {n : Nat} {z : Str} : Sh n (.str z)
  | lst {n : Nat} {ds : List PyData} (hl : ds.length ≤ 100000) (h : ∀ d ∈ ds, Sh n d) : Sh (n + 1) (.list ds)
  | tup {n : Nat} {ds : List PyData} (hl : ds.length ≤ 100000) (h : ∀ d ∈ ds, Sh n d) : Sh (n + 1) (.tuple ds)
theorem tyL (h : SqL K H a xs) : TyX K H (.ref a) (.type "list") := by
  rcases h with (h | ⟨o, h⟩) | ⟨o, its, n, h1, h2, _⟩
  · exact .base (.lst h)
  · exact .base (.frz h)
  · exact .kList h1 h2
theorem tyT (h : SqT K H a xs) : TyX K H (.ref a) (.type "tuple") := by
  rcases h with (h | ⟨o, h⟩) | ⟨o, its, n, h1, h2, _⟩
  · exact .base (.tup h)
  · exact .fTuple h
  · exact .kTuple h1 h2
/-- the type of data, by its name -/
def tyN : PyData → String
  | .none => "NoneType"
  | .bool _ => "bool"
  | .int _ => "int"
  | .str _ => "str"
  | .list _ => "list"
  | .tuple _ => "tuple"
  | .dict _ => "dict"
theorem tyD (h : Dp K H v d) : TyX K H v (.type (tyN d)) := by
  cases h with
  | non => exact .base .non
  | bl b => exact .base (.bl b)
  | int i => exact .base (.int i)
  | str x => exact .base (.str x)
  | lst h1 h2 => exact tyL h1
  | tup h1 h2 => exact tyT h1
end
/-! ### zip of two tuples, as a walk -/
theorem walk_zipT {K : PySem.W.Frag} {a b : Addr} {xs ys : List V} {n : Nat} (hn : n = min xs.length ys.length) : Walk (RZ.ItzT K a b) n (fun H => SqT K H a xs ∧ SqT K H b ys) (YPair (fun i => xs[i]?) (fun i => ys[i]?)) := by
  subst hn
  refine ⟨fun i _ hi q => ?_, fun _ q => ⟨xs, ys, q.1, q.2, by omega⟩, fun i H v H' _ q y => ?_⟩
  · have h1 : i < xs.length := by omega
    have h2 : i < ys.length := by omega
    exact ⟨xs, ys, xs[i], ys[i], q.1, q.2, by simp [h1], by simp [h2]⟩
  · obtain ⟨T, x, z, h1, h2, h3, h4, h5⟩ := y
    exact ⟨T, x, z, h1, h2, h3, h4 xs q.1, h5 ys q.2⟩
end Bh
namespace Bh
open PySem PySem.Spec PyProof.Rows L2
theorem iteN {p A B : Prop} [Decidable p] (h : ¬ p) (b : B) : if decide p = true then A else B := by
  rw [decide_eq_false h]
  exact iteF b
theorem iteY {p A B : Prop} [Decidable p] (h : p) (a : A) : if decide p = true then A else B := by
  rw [decide_eq_true h]
  exact iteT a
theorem ite3 {p A B : Prop} [Decidable p] (h1 : p → A) (h2 : ¬ p → B) : if decide p = true then A else B := by
  by_cases h : p
  · exact iteY h (h1 h)
  · exact iteN h (h2 h)
/-- the promise of the laws' comparison: both sides are the same data (n: how deep, one more) -/
def spLk (K : PySem.W.Frag) : Nat → Sp
  | 0 => fun _ _ _ _ => False
  | n + 1 => fun vs H Q _ => ∃ (x y : V) (d : PyData), vs = [x, y] ∧ Dp K H x d ∧ Dp K H y d ∧ Sh n d ∧ ∀ H', Same H H' → Q (.bl true) H'
theorem bls_true (n : Nat) : (List.replicate n true).all id = true := by
  induction n with
  | zero => rfl
  | succ n ih => rw [List.replicate_succ, List.all_cons, ih]; rfl
end Bh

set_option Elab.async false
set_option linter.all false
set_option maxRecDepth 100000
namespace Bh
open PySem PySem.Spec PyProof.Rows L2
/-! ### the rules that lean on the written part, told over a named one -/
def rLenS (K : PySem.W.Frag) : List V → Hp → VK → Prop := fun xs H Q => ∃ p ys, xs = [.ref p] ∧ (SqL K H p ys ∨ SqT K H p ys) ∧ Q (.int ys.length) H
def rListOf (K : PySem.W.Frag) : List V → Hp → VK → Prop := fun xs H Q => ∃ p ys, xs = [.ref p] ∧ (SqL K H p ys ∨ SqT K H p ys) ∧ ∀ l, H l = none → Q (.ref l) (upd H l (.lst ys))
def rTupOf (K : PySem.W.Frag) : List V → Hp → VK → Prop := fun xs H Q => ∃ p ys, xs = [.ref p] ∧ ((SqL K H p ys ∧ ∀ l, H l = none → Q (.ref l) (upd H l (.tup ys))) ∨ (SqT K H p ys ∧ Q (.ref p) H))
def rTupIx (K : PySem.W.Frag) : V → List V → Hp → VK → Prop := fun x xs H Q => ∃ p, ∃ ys : List Str, ∃ z j, x = .ref p ∧ xs = [.str z] ∧ SqT K H p (ys.map V.str) ∧ ys[j]? = some z ∧ (∀ m, m < j → ys[m]? ≠ some z) ∧ Q (.int (j : Nat)) H
def rJoin (K : PySem.W.Frag) : V → List V → Hp → VK → Prop := fun x xs H Q => ∃ a p, ∃ ys : List Str, x = .str a ∧ xs = [.ref p] ∧ (SqL K H p (ys.map V.str) ∨ SqT K H p (ys.map V.str)) ∧ (ys.map (·.length)).sum + ys.length * a.length ≤ 16777216 ∧ Q (.str (Txt.join a ys)) H
def iSeq (K : PySem.W.Frag) (tl : TE) : TI := fun σ H R => iList K tl σ H R ∨ iTup K tl σ H R
section
variable {X : Cx} {K : PySem.W.Frag} (hK : X.K = K)
include hK
theorem pg_tup_K {es : List Expr} {k : Nat} {t : TGs} {n : Nat} {pos : Pos} (hc : X.calm = true) (h : PGs X es t) (hn : (assignEach es X.env).length = n := by rfl) (hst : (assignEach es X.env).findIdx? (·.1) = none := by rfl) : PG X (.Tuple es k pos) (gTup K n t) := by
  subst hK
  exact pg_tup hc h hn hst
theorem pi_list_K {tg l : Expr} {tl : TE} (hl : PE X l tl) : PI X tg l (iList K tl) := by subst hK; exact pi_list hl
theorem pi_tup_K {tg l : Expr} {tl : TE} (hl : PE X l tl) : PI X tg l (iTup K tl) := by subst hK; exact pi_tup hl
theorem pi_seq_K {tg l : Expr} {tl : TE} (hl : PE X l tl) : PI X tg l (iSeq K tl) := by subst hK; exact pi_seq hl
theorem pi_zipA_K {e e2 : Expr} {ta : TA} {p pos tpos : Pos} {elts : List Expr} {kk : Nat} (hg : Gl X "zip") (hm : X.mg "zip" = none) (ha : PA X [e, e2] ta)
    (hs : starEach [e, e2] X.env = (false, eval e X.env) :: starEach [e2] X.env := by rfl) (hpl : (backTo pos (starEach [e2] X.env)).any (·.1) = false := by rfl) :
    PI X (.Tuple elts kk tpos) (.Call (.Name "zip" p) [e, e2] [] pos) (RZ.iZipA K ta) := by subst hK; exact RZ.pi_zipA hg hm ha hs hpl
theorem call_len_seq_K : CallR X (.builtin "len") (rLenS K) := by subst hK; exact call_len_seq
theorem call_list_of_K : CallR X (.type "list") (rListOf K) := by subst hK; exact call_list_of
theorem call_tuple_of_K : CallR X (.type "tuple") (rTupOf K) := by subst hK; exact call_tuple_of
theorem ix_list_K : IxR X (rIxL K) := by subst hK; exact ix_list
theorem ix_tup_K : IxR X (rIxT K) := by subst hK; exact ix_tup
theorem ix_seq_K : IxR X (rIx K) := by subst hK; exact ix_seq
theorem sl_list_K : SlR X (rSlL K) := by subst hK; exact sl_list
theorem sl_tupA_K : SlR X (rSlA K) := by subst hK; exact sl_tupA
theorem cr_all_K (hc : X.calm = true) : CallR X (.builtin "all") (rAll K) := by subst hK; exact cr_all hc
theorem cr_any_K (hc : X.calm = true) : CallR X (.builtin "any") (rAny K) := by subst hK; exact cr_any hc
theorem op_in_seq_K : OpR X (compareOp .In) (rIn K false) := by subst hK; exact op_in_seq
theorem op_notIn_seq_K : OpR X (compareOp .NotIn) (rIn K true) := by subst hK; exact op_notIn_seq
theorem op_catA_K : OpR X (binaryOp .Add) (rCatA K) := by subst hK; exact op_catA
theorem op_repT_K : OpR X (binaryOp .Mult) (rRepT K) := by subst hK; exact op_repT
theorem mt_index_K : MtR X "list.index" (rIndex K) := by subst hK; exact mt_index
theorem mt_tup_index_K : MtR X "tuple.index" (rTupIx K) := by subst hK; exact mt_tup_index
theorem mt_join_K : MtR X "str.join" (rJoin K) := by subst hK; exact mt_join
theorem call_isi_K : CallR X (.builtin "isinstance") (rIsi K) := by subst hK; exact call_isi
theorem call_isiT_K : CallR X (.builtin "isinstance") (rIsiT K) := by subst hK; exact call_isiT
theorem op_eqD_K (hu : X.A.units + 64 < cLine) : OpR X (compareOp .Eq) (rEqD K) := by subst hK; exact op_eqD hu
theorem op_neD_K (hu : X.A.units + 64 < cLine) : OpR X (compareOp .NotEq) (rNeD K) := by subst hK; exact op_neD hu
theorem pe_bm_K {o e : Expr} {es : List Expr} {to : TE} {t : TA} {name : Str} {apos cpos : Pos} {T id : String} {r : V → List V → Hp → VK → Prop}
    (pa : PlainAttrs T) (slot : Slot T name id) (hty : typeOf (.builtin id) = pure (.type "method_descriptor")) (hm : MtR X id r) (ho : PE X o to) (ha : PA X (e :: es) t)
    (hbase : attributeBase o name X.env (eval o X.env) = eval o X.env := by rfl)
    (hfew : ((backTo cpos (starEach (e :: es) X.env)).all (fun x => !x.1) && (backToKw cpos (keywordEach [] X.env)).all (fun x => x.1.isSome)
      && decide ((e :: es).length + ([] : List Keyword).length + (if ([] : List Keyword).isEmpty then 0 else 1) < 30)) = true := by rfl)
    (hline : (apos.endLine == cpos.line) = true := by rfl) (hs : starEach (e :: es) X.env = (false, eval e X.env) :: starEach es X.env := by rfl) (hplain : (backTo cpos (starEach es X.env)).any (·.1) = false := by rfl) :
    PE X (.Call (.Attribute o name apos) (e :: es) [] cpos) (tBM K T r to t) := by subst hK; exact pe_bm pa slot hty hm ho ha hbase hfew hline hs hplain
end
section
variable {X : Cx} {K : PySem.W.Frag} {o e : Expr} {to te : TE}
theorem pe_join_K (hK : X.K = K) {apos pos : Pos} (ho : PE X o to) (he : PE X e te) (hs : starEach [e] X.env = [(false, eval e X.env)] := by rfl) (hbase : attributeBase o "join" X.env (eval o X.env) = eval o X.env := by rfl) (hline : (apos.endLine == pos.line) = true := by rfl) :
    PE X (.Call (.Attribute o "join" apos) [e] [] pos) (tM1 (rJoin K) to te) := pe_m1 PySem.F.slot_str_join PySem.F.type_str_join (mt_join_K hK) ho he hs hbase hline
end
end Bh
namespace Bh
open PySem PySem.Spec PyProof.Rows L2
theorem q_eq {x : V} {Q : VK} {H : Hp} (h : Q (.bl true) H) : Q (.bl (decide (x = x))) H := by
  rw [decide_eq_true rfl]
  exact h
theorem dpa_at {K : PySem.W.Frag} {H : Hp} {xs ys : List V} {ds : List PyData} {i : Nat} {x y : V} (hx : DpAll K H xs ds) (hy : DpAll K H ys ds) (ex : xs[i]? = some x) (ey : ys[i]? = some y) : ∃ d ∈ ds, Dp K H x d ∧ Dp K H y d := by
  obtain ⟨d, h1, h2⟩ := DpAll.get hx ex
  obtain ⟨e, h3, h4⟩ := DpAll.get hy ey
  rw [h1] at h3
  cases h3
  exact ⟨d, List.mem_of_getElem? h1, h2, h4⟩
theorem rep_snoc (n : Nat) (v : V) : List.replicate n v ++ [v] = List.replicate (n + 1) v := List.replicate_succ'.symm
theorem lt_line {n : Nat} (h : n ≤ 100000) : n < sizeLine := Nat.lt_of_le_of_lt h (by decide)
theorem le_line {n : Nat} (h : n ≤ 100000) : n ≤ sizeLine := Nat.le_of_lt (lt_line h)
end Bh
namespace Bh
open PySem PySem.Spec PyProof.Rows L2
/-! ### tuples without a dict of their own: their methods -/
def SqP (K : PySem.W.Frag) (H : Hp) (a : Addr) (xs : List V) : Prop := (∃ o : Obj, H a = some (.frz o (.tup xs)) ∧ o.dict = none) ∨
  ∃ (o : Obj) (its : Array Value) (n : Nat), K.lookup a = some o ∧ o.cls = .type "tuple" ∧ o.dict = none ∧ o.data = .seq its n ∧ its.size ≤ sizeLine ∧ Vals xs its.toList
section
variable {K : PySem.W.Frag} {H H' : Hp} {a : Addr} {xs : List V}
theorem SqP.sqT (h : SqP K H a xs) : SqT K H a xs := by
  rcases h with ⟨o, h, _⟩ | ⟨o, its, n, h1, h2, _, h3, h4, h5⟩
  · exact .inl (.inr ⟨o, h⟩)
  · exact .inr ⟨o, its, n, h1, h2, h3, h4, h5⟩
theorem SqP.mono (e : Same H H') (h : SqP K H a xs) : SqP K H' a xs := by
  rcases h with ⟨o, h, h2⟩ | h
  · exact .inl ⟨o, e _ _ h, h2⟩
  · exact .inr h
theorem SqP.new {o : Obj} (h : o.dict = none) : SqP K (upd H a (.frz o (.tup xs))) a xs := .inl ⟨o, upd_same, h⟩
end
def rTupOfP (K : PySem.W.Frag) : List V → Hp → VK → Prop := fun xs H Q => ∃ p ys, xs = [.ref p] ∧ ((SqL K H p ys ∧ ∀ (l : Addr) (o : Obj), H l = none → o.dict = none → Q (.ref l) (upd H l (.frz o (.tup ys)))) ∨ (SqT K H p ys ∧ Q (.ref p) H))
section
variable {X : Cx} {K : PySem.W.Frag}
theorem call_tuple_of_P (hK : X.K = K) : CallR X (.type "tuple") (rTupOfP K) := by
  subst hK
  intro pins s σ H xs us Q I r h
  obtain ⟨p, ys, rfl, h⟩ := h
  obtain ⟨u, rfl, rx⟩ := vals1 r
  cases rx
  rcases h with ⟨hq, q⟩ | ⟨hq, q⟩
  · obtain ⟨its, r', pl, hz⟩ := I.list hq
    have hlen := r'.length
    refine call_tuple_list pl.isList (fun h' kp => ?_) (by simp only [List.size_toArray] <;> omega)
    have I1 : Inv X pins σ H { s with heap := h' } := I.kept (t' := s.toks) kp
    have I2 : Inv X pins σ (upd H h'.objs.size (.frz { cls := .type "tuple", data := .seq its.toArray } (.tup ys))) { s with heap := h'.push { cls := .type "tuple", data := .seq its.toArray } } :=
      I1.laid (t' := s.toks) (fun b o e => Heap.get?_push_of_some _ e) (Nat.le_refl _) (show ObjOk X.prog X.w _ _ _ (.frz { cls := .type "tuple", data := .seq its.toArray } (.tup ys)) from ⟨Heap.get?_push_size _ rfl, hz, its, r', IsTup.new _ _⟩)
    exact ⟨.ref h'.objs.size, _, I2, rfl, q _ _ (I1.hok.fresh (Nat.le_refl _)) rfl⟩
  · obtain ⟨its, r', pl, hz⟩ := I.tuple hq
    exact call_tuple_same pl ⟨.ref p, H, I, rfl, q⟩
def tBMP (K : PySem.W.Frag) (r : V → List V → Hp → VK → Prop) (to : TE) (t : TA) : TE := fun σ H Q => to σ H fun x H1 => (∃ a xs, x = .ref a ∧ SqP K H1 a xs) ∧ t σ H1 fun xs H2 => r x xs H2 Q
theorem pe_bm_P (hK : X.K = K) {o e : Expr} {es : List Expr} {to : TE} {t : TA} {name : Str} {apos cpos : Pos} {id : String} {r : V → List V → Hp → VK → Prop}
    (pa : PlainAttrs "tuple") (slot : Slot "tuple" name id) (hty : typeOf (.builtin id) = pure (.type "method_descriptor")) (hm : MtR X id r) (ho : PE X o to) (ha : PA X (e :: es) t)
    (hbase : attributeBase o name X.env (eval o X.env) = eval o X.env := by rfl)
    (hfew : ((backTo cpos (starEach (e :: es) X.env)).all (fun x => !x.1) && (backToKw cpos (keywordEach [] X.env)).all (fun x => x.1.isSome)
      && decide ((e :: es).length + ([] : List Keyword).length + (if ([] : List Keyword).isEmpty then 0 else 1) < 30)) = true := by rfl)
    (hline : (apos.endLine == cpos.line) = true := by rfl) (hs : starEach (e :: es) X.env = (false, eval e X.env) :: starEach es X.env := by rfl) (hplain : (backTo cpos (starEach es X.env)).any (·.1) = false := by rfl) :
    PE X (.Call (.Attribute o name apos) (e :: es) [] cpos) (tBMP K r to t) := by
  subst hK
  refine ⟨fun pins s σ H Q I h => ?_⟩
  refine wpAny_Call_method_late hbase hfew hline rfl (thn (ho.run pins s σ H _ I h) fun v s1 ⟨x, H1, I1, r1, ty, q1⟩ => ?_)
  have hty2 : s1.TypeIs v "tuple" ∧ ∀ a, v = .ref a → ∃ ob, s1.heap.get? a = some ob ∧ ob.dict = none := by
    obtain ⟨a, xs, rfl, hP⟩ := ty
    cases r1
    obtain ⟨its, _, pl, _⟩ := I1.tuple hP.sqT
    refine ⟨pl.typeIs, fun b e => ?_⟩
    cases e
    rcases hP with ⟨ob, hb, hd⟩ | ⟨ob, its, n, hk, hc, hd, _⟩
    · exact ⟨ob, (I1.hok a _ hb).1, hd⟩
    · exact ⟨ob, I1.kIn a ob hk, hd⟩
  obtain ⟨h1, h2⟩ := hty2
  refine ⟨"tuple", id, pa, slot, hty, h1, h2, ?_⟩
  have hA := ha.run cpos pins s1 σ H1 _ I1 q1
  rw [hs] at hA ⊢
  refine Calls.callWith_builtin (by show (false || (backTo cpos (starEach es X.env)).any (·.1)) = false; rw [hplain] <;> rfl) (Calls.evalArgs_plain ?_)
  exact thn hA fun us s2 ⟨vs, H2, I2, r2, q2⟩ => hm pins s2 σ H2 x vs v us Q I2 r1 r2 q2
end
end Bh
namespace Bh
open PySem PySem.Spec PyProof.Rows L2
/-! ### == and != of data of any texts -/
mutual
theorem Dp.plain {K : PySem.W.Frag} {H : Hp} : ∀ {v : V} {d : PyData}, Dp K H v d → d.plain = true
  | _, _, .non => rfl
  | _, _, .bl _ => rfl
  | _, _, .int _ => rfl
  | _, _, .str _ => rfl
  | _, _, .lst _ all => DpAll.plain all
  | _, _, .tup _ all => DpAll.plain all
theorem DpAll.plain {K : PySem.W.Frag} {H : Hp} : ∀ {vs : List V} {ds : List PyData}, DpAll K H vs ds → PyData.plainAll ds = true
  | _, _, .nil => rfl
  | _, _, .cons h t => by
    show (_ && _) = true
    rw [Dp.plain h, DpAll.plain t]
    rfl
end
def rEqP (K : PySem.W.Frag) : R2 := fun x y H Q => ∃ d e, Dp K H x d ∧ Dp K H y e ∧ min d.depth e.depth ≤ 64 ∧ Q (.bl (PyData.eqv d e)) H
def rNeP (K : PySem.W.Frag) : R2 := fun x y H Q => ∃ d e, Dp K H x d ∧ Dp K H y e ∧ min d.depth e.depth ≤ 64 ∧ Q (.bl (!PyData.eqv d e)) H
section
variable {X : Cx} {K : PySem.W.Frag}
theorem op_eqP (hK : X.K = K) (hu : X.A.units + 64 < cLine) : OpR X (compareOp .Eq) (rEqP K) := by
  subst hK
  intro pins s σ H x y v u Q I rx ry h
  obtain ⟨d, e, hd, he, hz, q⟩ := h
  obtain ⟨as, r1⟩ := Dp.reads I d x v hd rx
  obtain ⟨bs, r2⟩ := Dp.reads I e y u he ry
  exact SeqAt.eq_plain r1 r2 (Dp.plain hd) (Dp.plain he) (by omega) ⟨.bl _, H, I, rfl, q⟩
theorem op_neP (hK : X.K = K) (hu : X.A.units + 64 < cLine) : OpR X (compareOp .NotEq) (rNeP K) := by
  subst hK
  intro pins s σ H x y v u Q I rx ry h
  obtain ⟨d, e, hd, he, hz, q⟩ := h
  obtain ⟨as, r1⟩ := Dp.reads I d x v hd rx
  obtain ⟨bs, r2⟩ := Dp.reads I e y u he ry
  exact SeqAt.ne_plain r1 r2 (Dp.plain hd) (Dp.plain he) (by omega) ⟨.bl _, H, I, rfl, q⟩
end
theorem depth_all {n : Nat} : ∀ {ds : List PyData}, (∀ d ∈ ds, d.depth ≤ n) → PyData.depthAll ds ≤ n
  | [], _ => Nat.zero_le _
  | d :: ds, h => Nat.max_le.mpr ⟨h d (List.mem_cons_self ..), depth_all fun e he => h e (List.mem_cons_of_mem _ he)⟩
theorem Sh.depth {n : Nat} {d : PyData} (h : Sh n d) : d.depth ≤ n := by
  induction h with
  | non => exact Nat.zero_le _
  | bl => exact Nat.zero_le _
  | int => exact Nat.zero_le _
  | str => exact Nat.zero_le _
  | lst _ _ ih => exact Nat.succ_le_succ (depth_all ih)
  | tup _ _ ih => exact Nat.succ_le_succ (depth_all ih)
end Bh
namespace Bh
open PySem PySem.Spec PyProof.Rows L2
theorem seq_mono {K : PySem.W.Frag} {H H' : Hp} {a : Addr} {xs : List V} (e : Same H H') (h : SqL K H a xs ∨ SqT K H a xs) : SqL K H' a xs ∨ SqT K H' a xs := h.imp e.seq (Same.tup e)
/-- a new thing, changed since -/
theorem same_mut {H H' : Hp} {p : Addr} {o : HO} (e : Same H H') (h : H p = none) : Same H (upd H' p o) := fun b u k => by
  rw [upd_ne (ne_of_none k h)]
  exact e _ _ k
theorem Wd.sameH {b l : Addr} {G H : Hp} (w : Wd b l G H) : Same G H := w.sm
end Bh
namespace Bh
open PySem PySem.Spec PyProof.Rows L2
/-! ### a heap without one address -/
def hid (p : Addr) (G : Hp) : Hp := fun a => if a = p then none else G a
section
variable {p q : Addr} {G G' : Hp} {o : HO}
theorem hid_ne (h : q ≠ p) : hid p G q = G q := if_neg h
theorem hid_le : Same (hid p G) G := fun a u e => by
  by_cases h : a = p
  · rw [h] at e
    unfold hid at e
    rw [if_pos rfl] at e
    cases e
  · rw [hid_ne h] at e
    exact e
theorem hid_same (e : Same G G') : Same (hid p G) (hid p G') := fun a u k => by
  by_cases h : a = p
  · rw [h] at k
    unfold hid at k
    rw [if_pos rfl] at k
    cases k
  · rw [hid_ne h] at k ⊢
    exact e _ _ k
theorem hid_upd : hid p (upd G p o) = hid p G := by
  funext a
  by_cases h : a = p
  · unfold hid
    rw [if_pos h, if_pos h]
  · rw [hid_ne h, hid_ne h, upd_ne h]
theorem hid_of (e : Same G G') (h : G p = none) : Same G (hid p G') := fun a u k => by
  rw [hid_ne (ne_of_none k h)]
  exact e _ _ k
theorem hid_comm : hid p (hid q G) = hid q (hid p G) := by
  funext a
  unfold hid
  split <;> split <;> rfl
end
end Bh
namespace Bh
open PySem PySem.Spec PyProof.Rows L2
/-! ### what is no list stays where lists alone change -/
def Imm (H H' : Hp) : Prop := ∀ a u, H a = some u → (∀ xs, u ≠ .lst xs) → H' a = some u
section
variable {H H' H1 : Hp} {a p : Addr} {o : HO} {xs ys : List V} {K : PySem.W.Frag}
theorem Same.imm (e : Same H H') : Imm H H' := fun a u h _ => e a u h
theorem Imm.trans (e : Imm H H1) (f : Imm H1 H') : Imm H H' := fun a u h n => f a u (e a u h n) n
theorem imm_upd (h : H p = some (.lst ys)) : Imm H (upd H p o) := fun a u e n => by
  rw [upd_ne (fun z => by rw [z, h] at e; exact n _ (Option.some.inj e).symm)]
  exact e
theorem Imm.tup (e : Imm H H') (h : SqT K H a xs) : SqT K H' a xs := by
  rcases h with (h | ⟨o, h⟩) | h
  · exact .inl (.inl (e _ _ h (fun _ z => by cases z)))
  · exact .inl (.inr ⟨o, e _ _ h (fun _ z => by cases z)⟩)
  · exact .inr h
theorem Imm.sqp (e : Imm H H') (h : SqP K H a xs) : SqP K H' a xs := by
  rcases h with ⟨o, h, d⟩ | h
  · exact .inl ⟨o, e _ _ h (fun _ z => by cases z), d⟩
  · exact .inr h
end
mutual
def noL : PyData → Bool
  | .none | .bool _ | .int _ | .str _ => true
  | .tuple xs => noLs xs
  | .list _ | .dict _ => false
def noLs : List PyData → Bool
  | [] => true
  | d :: ds => noL d && noLs ds
end
mutual
theorem Dp.imm {K : PySem.W.Frag} {H H' : Hp} (e : Imm H H') : ∀ {v : V} {d : PyData}, noL d = true → Dp K H v d → Dp K H' v d
  | _, _, _, .non => .non
  | _, _, _, .bl b => .bl b
  | _, _, _, .int i => .int i
  | _, _, _, .str x => .str x
  | _, _, n, .lst _ _ => nomatch n
  | _, _, n, .tup h all => .tup (e.tup h) (DpAll.imm e n all)
theorem DpAll.imm {K : PySem.W.Frag} {H H' : Hp} (e : Imm H H') : ∀ {vs : List V} {ds : List PyData}, noLs ds = true → DpAll K H vs ds → DpAll K H' vs ds
  | _, _, _, .nil => .nil
  | _, _, n, .cons h t => .cons (Dp.imm e (Bool.and_eq_true_iff.mp n).1 h) (DpAll.imm e (Bool.and_eq_true_iff.mp n).2 t)
end
theorem noLs_map {α : Type} {f : α → PyData} (h : ∀ x, noL (f x) = true) : ∀ l : List α, noLs (l.map f) = true
  | [] => rfl
  | x :: l => by
    show (noL (f x) && noLs (l.map f)) = true
    rw [h x, noLs_map h l]
    rfl
end Bh

set_option Elab.async false
set_option linter.all false
set_option maxRecDepth 100000
namespace Bh
open PySem PySem.Spec PyProof.Rows L2
/-! ### the mirror of programs applied -/
def ix : List Str → Str → Nat
  | [], _ => 0
  | y :: r, x => if y = x then 0 else ix r x + 1
theorem ix_get : ∀ {l : List Str} {x : Str}, x ∈ l → l[ix l x]? = some x
  | y :: r, x, h => by
    unfold ix
    by_cases e : y = x
    · rw [if_pos e, e]
      rfl
    · rw [if_neg e]
      rcases List.mem_cons.mp h with z | z
      · exact absurd z.symm e
      · simpa using ix_get z
theorem ix_first : ∀ {l : List Str} {x : Str} {m : Nat}, m < ix l x → l[m]? ≠ some x
  | [], _, _, h => absurd h (Nat.not_lt_zero _)
  | y :: r, x, m, h => by
    unfold ix at h
    by_cases e : y = x
    · rw [if_pos e] at h
      exact absurd h (Nat.not_lt_zero _)
    · rw [if_neg e] at h
      cases m with
      | zero =>
        intro z
        exact e (Option.some.inj z)
      | succ m =>
        have q := ix_first (l := r) (x := x) (m := m) (by omega)
        simpa using q
theorem ix_lt {l : List Str} {x : Str} (h : x ∈ l) : ix l x < l.length := (List.getElem?_eq_some_iff.mp (ix_get h)).1
/-- the place of an item of different ones -/
theorem ix_at : ∀ {l : List Str} {i : Nat} {x : Str}, l.Nodup → l[i]? = some x → ix l x = i
  | [], _, _, _, h => by simp at h
  | y :: r, 0, x, _, h => by
    have e : y = x := Option.some.inj h
    unfold ix
    rw [if_pos e]
  | y :: r, i + 1, x, nd, h => by
    have hr : r[i]? = some x := by simpa using h
    have hm : x ∈ r := List.mem_of_getElem? hr
    have nd' := List.nodup_cons.mp nd
    have ne : ¬ y = x := fun z => nd'.1 (z ▸ hm)
    unfold ix
    rw [if_neg ne, ix_at nd'.2 hr]
theorem flat_strs (l : List Str) : (l.map V.str).all flatV = true := by
  rw [List.all_map]
  exact List.all_eq_true.mpr fun _ _ => rfl
theorem eqV_str {a b : Str} : eqV (.str a) (.str b) = decide (a = b) := rfl
theorem ixs_at {l : List Str} {x : Str} (h : x ∈ l) : (l.map V.str)[ix l x]? = some (.str x) := by
  rw [List.getElem?_map, ix_get h]
  rfl
theorem ixs_no {l : List Str} {x : Str} : ∀ (m : Nat) (z : V), m < ix l x → (l.map V.str)[m]? = some z → eqV z (.str x) = false := fun m z hm hz => by
  rw [List.getElem?_map] at hz
  cases e : l[m]? with
  | none =>
    rw [e] at hz
    cases hz
  | some y =>
    rw [e] at hz
    cases hz
    rw [eqV_str]
    refine decide_eq_false fun q => ix_first hm ?_
    rw [e, q]
abbrev Fld := Str × List Str
abbrev Tst := Str × Str × Str
abbrev Stp := Str × Str
abbrev Cas := List Tst × Option (List Stp)
def posOf (fs : List Fld) (x : Str) : Nat := ix (fs.map (·.1)) x
def optsOf (fs : List Fld) (x : Str) : List Str := ((fs[posOf fs x]?).map (·.2)).getD []
def nextO (os : List Str) (o : Str) : Str := os.getD (min (ix os o + 1) (os.length - 1)) o
def holdsT (fs : List Fld) (v : List Str) (t : Tst) : Bool :=
  if t.2.1 = "=" then decide (ix (optsOf fs t.1) (v.getD (posOf fs t.1) Str.empty) = ix (optsOf fs t.1) t.2.2)
  else if t.2.1 = "!" then !decide (ix (optsOf fs t.1) (v.getD (posOf fs t.1) Str.empty) = ix (optsOf fs t.1) t.2.2)
  else if t.2.1 = "<" then decide (ix (optsOf fs t.1) (v.getD (posOf fs t.1) Str.empty) < ix (optsOf fs t.1) t.2.2)
  else decide (ix (optsOf fs t.1) t.2.2 < ix (optsOf fs t.1) (v.getD (posOf fs t.1) Str.empty))
def stepO (fs : List Fld) (v : List Str) (s : Stp) : List Str :=
  v.set (posOf fs s.1) (if s.2 = "+" then nextO (optsOf fs s.1) (v.getD (posOf fs s.1) Str.empty) else s.2)
def stepped (fs : List Fld) (ss : List Stp) (v : List Str) : List Str := ss.foldl (stepO fs) v
def applyP (fs : List Fld) : List Cas → List Str → Option (List Str)
  | [], _ => none
  | c :: r, v => if c.1.all (holdsT fs v) = true then c.2.map (fun ss => stepped fs ss v) else applyP fs r v
def applyH (fs : List Fld) (p : List Cas) : Option (List Str) → Option (List Str)
  | none => none
  | some v => applyP fs p v
/-! what fits -/
def FitV (fs : List Fld) (v : List Str) : Prop := v.length = fs.length ∧ ∀ (i : Nat) (f : Fld) (o : Str), fs[i]? = some f → v[i]? = some o → o ∈ f.2
def FitT (fs : List Fld) (t : Tst) : Prop := t.1 ∈ fs.map (·.1) ∧ t.2.2 ∈ optsOf fs t.1
def FitS (fs : List Fld) (s : Stp) : Prop := s.1 ∈ fs.map (·.1) ∧ (s.2 ≠ "+" → s.2 ∈ optsOf fs s.1)
structure FitC (fs : List Fld) (c : Cas) : Prop where
  t : ∀ t ∈ c.1, FitT fs t
  s : ∀ ss, c.2 = some ss → ∀ s ∈ ss, FitS fs s
  lt : c.1.length ≤ 1000
  ls : ∀ ss, c.2 = some ss → ss.length ≤ 1000
theorem pos_at {fs : List Fld} {x : Str} (h : x ∈ fs.map (·.1)) : ∃ f, fs[posOf fs x]? = some f ∧ f.1 = x ∧ f.2 = optsOf fs x := by
  have q := ix_get h
  rw [List.getElem?_map] at q
  unfold optsOf
  show ∃ f, fs[posOf fs x]? = some f ∧ _
  have q' : (fs[posOf fs x]?).map (·.1) = some x := q
  cases e : fs[posOf fs x]? with
  | none =>
    rw [e] at q'
    cases q'
  | some f =>
    rw [e] at q'
    exact ⟨f, rfl, Option.some.inj q', rfl⟩
theorem fit_at {fs : List Fld} {v : List Str} {x : Str} (hv : FitV fs v) (h : x ∈ fs.map (·.1)) : ∃ o, v[posOf fs x]? = some o ∧ o ∈ optsOf fs x ∧ v.getD (posOf fs x) Str.empty = o := by
  obtain ⟨f, h1, h2, h3⟩ := pos_at h
  have hl : posOf fs x < v.length := by
    rw [hv.1]
    exact (List.getElem?_eq_some_iff.mp h1).1
  refine ⟨v[posOf fs x], List.getElem?_eq_getElem hl, ?_, ?_⟩
  · rw [← h3]
    exact hv.2 _ _ _ h1 (List.getElem?_eq_getElem hl)
  · rw [List.getD_eq_getElem?_getD, List.getElem?_eq_getElem hl]
    rfl
theorem next_mem {os : List Str} {o : Str} (h : o ∈ os) : os[min (ix os o + 1) (os.length - 1)]? = some (nextO os o) ∧ nextO os o ∈ os := by
  have hl := ix_lt h
  have hm : min (ix os o + 1) (os.length - 1) < os.length := by omega
  have e : os[min (ix os o + 1) (os.length - 1)]? = some (nextO os o) := by
    unfold nextO
    rw [List.getD_eq_getElem?_getD, List.getElem?_eq_getElem hm]
    rfl
  exact ⟨e, List.mem_of_getElem? e⟩
theorem step_fit {fs : List Fld} {v : List Str} {s : Stp} (hv : FitV fs v) (hs : FitS fs s) : FitV fs (stepO fs v s) := by
  refine ⟨by unfold stepO; rw [List.length_set]; exact hv.1, fun i f o hf ho => ?_⟩
  unfold stepO at ho
  obtain ⟨f', h1, h2, h3⟩ := pos_at hs.1
  obtain ⟨o', g1, g2, g3⟩ := fit_at hv hs.1
  rw [List.getElem?_set] at ho
  by_cases e : posOf fs s.1 = i
  · rw [if_pos e] at ho
    have hl : i < v.length := by
      rw [hv.1]
      exact (List.getElem?_eq_some_iff.mp hf).1
    rw [if_pos (e ▸ hl)] at ho
    have ho' := Option.some.inj ho
    rw [e, hf] at h1
    cases h1
    rw [← ho', h3]
    by_cases z : s.2 = "+"
    · rw [if_pos z, g3]
      exact (next_mem g2).2
    · rw [if_neg z]
      exact hs.2 z
  · rw [if_neg e] at ho
    exact hv.2 i f o hf ho
theorem stepped_fit {fs : List Fld} : ∀ {ss : List Stp} {v : List Str}, (∀ s ∈ ss, FitS fs s) → FitV fs v → FitV fs (stepped fs ss v)
  | [], _, _, hv => hv
  | s :: ss, v, h, hv => stepped_fit (ss := ss) (v := stepO fs v s) (fun s' hs' => h s' (List.mem_cons_of_mem _ hs')) (step_fit hv (h s (List.mem_cons_self ..)))
theorem stepped_take {fs : List Fld} {ss : List Stp} {v : List Str} {i : Nat} {s : Stp} (h : ss[i]? = some s) : stepped fs (ss.take (i + 1)) v = stepO fs (stepped fs (ss.take i) v) s := by
  unfold stepped
  rw [List.take_add_one, h, List.foldl_append]
  rfl
/-! as data -/
def dF (f : Fld) : PyData := .tuple [.str f.1, .tuple (f.2.map PyData.str)]
def dT (t : Tst) : PyData := .tuple [.str t.1, .str t.2.1, .str t.2.2]
def dS (s : Stp) : PyData := .tuple [.str s.1, .str s.2]
def dO : Option (List Stp) → PyData
  | none => .none
  | some ss => .tuple (ss.map dS)
def dC (c : Cas) : PyData := .tuple [.tuple (c.1.map dT), dO c.2]
def dV (v : List Str) : PyData := .tuple (v.map PyData.str)
def dH : Option (List Str) → PyData
  | none => .none
  | some v => dV v
section
variable {K : PySem.W.Frag} {H : Hp} {v : V}
theorem dp_dF {f : Fld} (h : Dp K H v (dF f)) : ∃ a o, v = .ref a ∧ SqT K H a [.str f.1, .ref o] ∧ SqT K H o (f.2.map V.str) := by
  obtain ⟨a, xs, rfl, h1, h2⟩ := dp_tup h
  obtain ⟨x, r, rfl, k1, k2⟩ := dpa_cons h2
  obtain ⟨y, r', rfl, k3, k4⟩ := dpa_cons k2
  cases dpa_nil k4
  cases dp_str k1
  obtain ⟨o, ys, rfl, m1, m2⟩ := dp_tup k3
  rw [dp_strs m2] at m1
  exact ⟨a, o, rfl, h1, m1⟩
theorem dp_dT {t : Tst} (h : Dp K H v (dT t)) : ∃ a, v = .ref a ∧ SqT K H a [.str t.1, .str t.2.1, .str t.2.2] := by
  obtain ⟨a, xs, rfl, h1, h2⟩ := dp_tup h
  obtain ⟨x, r, rfl, k1, k2⟩ := dpa_cons h2
  obtain ⟨y, r', rfl, k3, k4⟩ := dpa_cons k2
  obtain ⟨z, r'', rfl, k5, k6⟩ := dpa_cons k4
  cases dpa_nil k6
  cases dp_str k1
  cases dp_str k3
  cases dp_str k5
  exact ⟨a, rfl, h1⟩
theorem dp_dS {s : Stp} (h : Dp K H v (dS s)) : ∃ a, v = .ref a ∧ SqT K H a [.str s.1, .str s.2] := by
  obtain ⟨a, xs, rfl, h1, h2⟩ := dp_tup h
  obtain ⟨x, r, rfl, k1, k2⟩ := dpa_cons h2
  obtain ⟨y, r', rfl, k3, k4⟩ := dpa_cons k2
  cases dpa_nil k4
  cases dp_str k1
  cases dp_str k3
  exact ⟨a, rfl, h1⟩
theorem dp_dC {c : Cas} (h : Dp K H v (dC c)) : ∃ a t y, v = .ref a ∧ SqT K H a [.ref t, y] ∧ Dp K H (.ref t) (.tuple (c.1.map dT)) ∧ Dp K H y (dO c.2) := by
  obtain ⟨a, xs, rfl, h1, h2⟩ := dp_tup h
  obtain ⟨x, r, rfl, k1, k2⟩ := dpa_cons h2
  obtain ⟨y, r', rfl, k3, k4⟩ := dpa_cons k2
  cases dpa_nil k4
  obtain ⟨t, ys, rfl, m1, m2⟩ := dp_tup k1
  exact ⟨a, t, y, rfl, h1, .tup m1 m2, k3⟩
theorem dp_dV {w : List Str} (h : Dp K H v (dV w)) : ∃ a, v = .ref a ∧ SqT K H a (w.map V.str) := by
  obtain ⟨a, xs, rfl, h1, h2⟩ := dp_tup h
  rw [dp_strs h2] at h1
  exact ⟨a, rfl, h1⟩
theorem dV_dp {w : List Str} {a : Addr} (h : SqT K H a (w.map V.str)) : Dp K H (.ref a) (dV w) := .tup h (strs_dp w)
end
/-! fields as they stand: the options are tuples of which .index is asked -/
def FdAt (K : PySem.W.Frag) (H : Hp) (v : V) (f : Fld) : Prop := ∃ a o, v = .ref a ∧ SqT K H a [.str f.1, .ref o] ∧ SqP K H o (f.2.map V.str)
def FsAt (K : PySem.W.Frag) (H : Hp) (v : V) (fs : List Fld) : Prop := ∃ a xs, v = .ref a ∧ (SqL K H a xs ∨ SqT K H a xs) ∧ Paired (FdAt K H) xs fs
section
variable {K : PySem.W.Frag} {H H' : Hp} {v : V} {f : Fld} {fs : List Fld} {xs : List V}
theorem FdAt.mono (e : Same H H') (h : FdAt K H v f) : FdAt K H' v f := by
  obtain ⟨a, o, h1, h2, h3⟩ := h
  exact ⟨a, o, h1, Same.tup e h2, h3.mono e⟩
theorem fds_mono (e : Same H H') : ∀ {xs : List V} {fs : List Fld}, Paired (FdAt K H) xs fs → Paired (FdAt K H') xs fs
  | _, _, .nil => .nil
  | _, _, .cons h t => .cons (h.mono e) (fds_mono e t)
theorem FsAt.mono (e : Same H H') (h : FsAt K H v fs) : FsAt K H' v fs := by
  obtain ⟨a, xs, h1, h2, h3⟩ := h
  exact ⟨a, xs, h1, h2.imp e.seq (Same.tup e), fds_mono e h3⟩
theorem FdAt.dp (h : FdAt K H v f) : Dp K H v (dF f) := by
  obtain ⟨a, o, rfl, h2, h3⟩ := h
  exact .tup h2 (.cons (.str _) (.cons (.tup h3.sqT (strs_dp _)) .nil))
theorem fds_dp : ∀ {xs : List V} {fs : List Fld}, Paired (FdAt K H) xs fs → DpAll K H xs (fs.map dF)
  | _, _, .nil => .nil
  | _, _, .cons h t => .cons h.dp (fds_dp t)
theorem FsAt.dpS (h : FsAt K H v fs) : DpS K H v (fs.map dF) := by
  obtain ⟨a, xs, h1, h2, h3⟩ := h
  exact ⟨a, xs, h1, h2, fds_dp h3⟩
theorem fds_get : ∀ {xs : List V} {fs : List Fld} {i : Nat} {f : Fld}, Paired (FdAt K H) xs fs → fs[i]? = some f → ∃ x, xs[i]? = some x ∧ FdAt K H x f
  | _, _, _, _, .nil, e => by simp at e
  | _, _, 0, _, .cons h _, e => by
    simp at e
    subst e
    exact ⟨_, rfl, h⟩
  | _, _, i + 1, f, .cons _ t, e => by
    obtain ⟨x, h1, h2⟩ := fds_get (i := i) (f := f) t (by simpa using e)
    exact ⟨x, by simpa using h1, h2⟩
/-- fields[i][1], for the place i of a field x -/
theorem FsAt.opts {x : Str} (h : FsAt K H v fs) (hx : x ∈ fs.map (·.1)) : ∃ a xs t o, v = .ref a ∧ (SqL K H a xs ∨ SqT K H a xs) ∧ atI xs ((posOf fs x : Nat) : Int) = some (.ref t) ∧ SqT K H t [.str x, .ref o] ∧ SqP K H o ((optsOf fs x).map V.str) := by
  obtain ⟨a, xs, h1, h2, h3⟩ := h
  obtain ⟨f, k1, k2, k3⟩ := pos_at hx
  obtain ⟨y, m1, t, o, rfl, m2, m3⟩ := fds_get h3 k1
  rw [k2] at m2
  rw [k3] at m3
  exact ⟨a, xs, t, o, h1, h2, atI_nat m1, m2, m3⟩
end
/-! ### walks over a list or a tuple at a name -/
theorem iSeqV {K : PySem.W.Frag} {σ : L2.St} {H : Hp} {i : Nat} {a : Addr} {xs : List V} {R : It → Hp → Prop} (hσ : σ[i]? = some (some (.ref a))) (h : SqL K H a xs ∨ SqT K H a xs)
    (k : ∀ (J : It) (G : Hp → Prop), Walk J xs.length G (YAt xs) → (∀ H', Same H H' → G H') → R J H) : iSeq K (tVar i) σ H R := by
  rcases h with h | h
  · exact .inl ⟨.ref a, hσ, a, rfl, ⟨xs, h⟩, k _ _ walk_list fun H' e => e.seq h⟩
  · exact .inr ⟨.ref a, hσ, a, rfl, ⟨xs, h⟩, k _ _ walk_tup fun H' e => Same.tup e h⟩
end Bh
namespace Bh
open PySem PySem.Spec PyProof.Rows L2
theorem rIx_go {K : PySem.W.Frag} {H : Hp} {a : Addr} {xs : List V} {i : Int} {v : V} {Q : VK} (h : SqL K H a xs ∨ SqT K H a xs) (e : atI xs i = some v) (q : Q v H) : rIx K (.ref a) (.int i) H Q := by
  rcases h with h | h
  · exact .inl ⟨a, xs, i, v, rfl, rfl, h, e, q⟩
  · exact .inr (.inl ⟨a, xs, i, v, rfl, rfl, h, e, q⟩)
theorem dec_int {m n : Nat} : decide (V.int (m : Int) = V.int (n : Int)) = decide (m = n) := by
  refine decide_eq_decide.mpr ⟨fun h => ?_, fun h => by rw [h]⟩
  have e := V.int.inj h
  omega
theorem dec_lt {m n : Nat} : decide ((m : Int) < (n : Int)) = decide (m < n) := decide_eq_decide.mpr ⟨fun h => by omega, fun h => by omega⟩
theorem str_ne {a b : Str} (h : ¬ V.str a = V.str b) : a ≠ b := fun e => h (by rw [e])
end Bh

set_option Elab.async false
set_option linter.all false
set_option maxRecDepth 100000
namespace Bh
open PySem PySem.Spec PyProof.Rows L2
/-! ### what is drawn: names, options, fields, cases, programs -/
def pool : List Str := ["0", "1", "2", "10", "a", "b", "far", "x9", "zzzzzzzz", "7up"]
def tails : List Str := ["", "a", "qq", "xyz", "mmmmmmm"]
def letters : Str := "abcdefghijklmnopqrstuvwxyz"
theorem pool_nodup : pool.Nodup := by decide +kernel
theorem perm_strs {l : List Str} {ys : List V} (h : ys.Perm (l.map V.str)) : ∃ zs : List Str, zs.Perm l ∧ ys = zs.map V.str := by
  let g : V → Str := fun v => match v with
    | .str z => z
    | _ => Str.empty
  refine ⟨ys.map g, ?_, ?_⟩
  · have q := h.map g
    rw [List.map_map] at q
    have e : (g ∘ V.str) = id := by
      funext z
      rfl
    rw [e, List.map_id] at q
    exact q
  · rw [List.map_map]
    have q : ∀ v ∈ ys, (V.str ∘ g) v = v := fun v hv => by
      obtain ⟨z, _, rfl⟩ := List.mem_map.mp (h.mem_iff.mp hv)
      rfl
    rw [List.map_congr_left q, List.map_id']
/-- a name: one to eight lowercase letters -/
structure IsNm (w : Str) : Prop where
  lo : 1 ≤ w.length
  hi : w.length ≤ 8
  az : ∀ c ∈ w.cps.toList, 97 ≤ c ∧ c ≤ 122
def wordK (z : Str) (k c : Nat) : Str := cutS z none (some (k : Int)) ++ ⟨#[c]⟩ ++ cutS z (some (k : Int)) none
theorem cut_lo (z : Str) (k : Nat) : (cutS z none (some (k : Int))).cps.toList = z.cps.toList.take k := by
  unfold cutS
  rw [HT.sIx_none, HT.sIx_nat]
  show ((z.cps.toList.drop 0).take (min k z.length - 0)) = _
  rw [List.drop_zero, Nat.sub_zero]
  have e1 : z.cps.toList.length = z.cps.size := by simp
  have e2 : z.length = z.cps.size := rfl
  by_cases h : k ≤ z.length
  · rw [Nat.min_eq_left h]
  · rw [Nat.min_eq_right (by omega), List.take_of_length_le (by omega), List.take_of_length_le (by omega)]
theorem cut_hi (z : Str) (k : Nat) (h : k ≤ z.length) : (cutS z (some (k : Int)) none).cps.toList = z.cps.toList.drop k := by
  unfold cutS
  rw [HT.sIx_none, HT.sIx_nat, Nat.min_eq_left h]
  show ((z.cps.toList.drop k).take (z.length - k)) = _
  refine List.take_of_length_le ?_
  rw [List.length_drop]
  have : z.cps.toList.length = z.cps.size := by simp
  have : z.length = z.cps.size := rfl
  omega
theorem wordK_cps (z : Str) (k c : Nat) (h : k ≤ z.length) : (wordK z k c).cps.toList = z.cps.toList.take k ++ (c :: z.cps.toList.drop k) := by
  have e : (wordK z k c).cps = (cutS z none (some (k : Int))).cps ++ #[c] ++ (cutS z (some (k : Int)) none).cps := rfl
  rw [e, Array.toList_append, Array.toList_append, cut_lo, cut_hi z k h]
  simp
theorem wordK_length (z : Str) (k c : Nat) (h : k ≤ z.length) : (wordK z k c).length = z.length + 1 := by
  have e : (wordK z k c).length = (wordK z k c).cps.toList.length := by
    show (wordK z k c).cps.size = _
    simp
  rw [e, wordK_cps z k c h, List.length_append, List.length_take, List.length_cons, List.length_drop]
  have : z.cps.toList.length = z.cps.size := by simp
  have : z.length = z.cps.size := rfl
  omega
theorem wordK_inj {z : Str} {k c d : Nat} (h : k ≤ z.length) (e : wordK z k c = wordK z k d) : c = d := by
  have q := congrArg (fun s : Str => s.cps.toList) e
  simp only [wordK_cps z k _ h] at q
  have q2 := List.append_cancel_left q
  exact (List.cons.inj q2).1
theorem tails_ok : ∀ z ∈ tails, z.length ≤ 7 ∧ ∀ c ∈ z.cps.toList, 97 ≤ c ∧ c ≤ 122 := by
  decide +kernel
theorem wordK_nm {z : Str} (hz : z ∈ tails) {k c : Nat} (h : k ≤ z.length) (h1 : 97 ≤ c) (h2 : c ≤ 122) : IsNm (wordK z k c) := by
  obtain ⟨t1, t2⟩ := tails_ok z hz
  refine ⟨by rw [wordK_length z k c h]; omega, by rw [wordK_length z k c h]; omega, fun d hd => ?_⟩
  rw [wordK_cps z k c h] at hd
  rcases List.mem_append.mp hd with q | q
  · exact t2 d (List.mem_of_mem_take q)
  · rcases List.mem_cons.mp q with q | q
    · rw [q]
      exact ⟨h1, h2⟩
    · exact t2 d (List.mem_of_mem_drop q)
theorem letters_at {j : Int} (h0 : 0 ≤ j) (h1 : j < 26) : atI letters.cps.toList j = some (97 + j.toNat) := by
  have key : ∀ k : _root_.Fin 26, letters.cps.toList[k.val]? = some (97 + k.val) := by decide +kernel
  exact at_nn h0 (key ⟨j.toNat, by omega⟩)
def wordsOf (z : Str) (k : Nat) (s : Int) (n : Nat) : List Str := (List.range n).map fun (i : Nat) => wordK z k (97 + ((s + 5 * (i : Int)) % 26).toNat)
theorem wordsOf_nodup {z : Str} {k : Nat} {s : Int} {n : Nat} (h : k ≤ z.length) (hn : n ≤ 3) : (wordsOf z k s n).Nodup := by
  unfold wordsOf
  refine List.pairwise_map.mpr ((List.pairwise_lt_range (n := n)).imp_of_mem fun {a b} ha hb hab e => ?_)
  have h2 := List.mem_range.mp hb
  have q := wordK_inj h e
  omega
theorem wordsOf_nm {z : Str} (hz : z ∈ tails) {k : Nat} {s : Int} {n : Nat} (h : k ≤ z.length) : ∀ w ∈ wordsOf z k s n, IsNm w := fun w hw => by
  obtain ⟨i, _, rfl⟩ := List.mem_map.mp hw
  exact wordK_nm hz h (by omega) (by omega)
theorem wordsOf_len {z : Str} {k : Nat} {s : Int} {n : Nat} : (wordsOf z k s n).length = n := by
  unfold wordsOf
  rw [List.length_map, List.length_range]
/-- fields as the laws draw them -/
structure FsOk (fs : List Fld) : Prop where
  ne : 1 ≤ fs.length
  le : fs.length ≤ 3
  nd : (fs.map (·.1)).Nodup
  nm : ∀ f ∈ fs, IsNm f.1
  os : ∀ f ∈ fs, f.2.Nodup ∧ 2 ≤ f.2.length ∧ f.2.length ≤ 6 ∧ ∀ o ∈ f.2, o ∈ pool
theorem opts_of {fs : List Fld} (nd : (fs.map (·.1)).Nodup) {f : Fld} (h : f ∈ fs) : optsOf fs f.1 = f.2 := by
  obtain ⟨i, hi⟩ := List.mem_iff_getElem?.mp h
  have e : ix (fs.map (·.1)) f.1 = i := ix_at nd (by rw [List.getElem?_map, hi]; rfl)
  unfold optsOf posOf
  rw [e, hi]
  rfl
/-- signs of tests -/
def signs : List Str := ["=", "!", "<", ">"]
/-! ### promises of the defs that draw -/
def spAny (K : PySem.W.Frag) : Sp := fun vs H Q _ => ∃ (b l a : Addr) (G : Hp) (xs : List V), vs = [.ref b, .ref a] ∧ (SqL K G a xs ∨ SqT K G a xs) ∧ xs ≠ [] ∧ xs.length ≤ 100000 ∧ Wd b l G H ∧ ∀ x H', x ∈ xs → Wd b l G H' → Q x H'
def spMixed (K : PySem.W.Frag) : Sp := fun vs H Q _ => ∃ (b l a : Addr) (G : Hp) (xs : List V), vs = [.ref b, .ref a] ∧ SqL K G a xs ∧ xs.length ≤ 1000 ∧ Wd b l G H ∧
  ∀ (G' H' : Hp) (p : Addr) (ys : List V), Same G G' → Wd b l G' H' → G' p = some (.lst ys) → ys.Perm xs → Q (.ref p) H'
def spWords : Sp := fun vs H Q _ => ∃ (b l : Addr) (G : Hp) (n : Int), vs = [.ref b, .int n] ∧ 0 ≤ n ∧ n ≤ 3 ∧ Wd b l G H ∧
  ∀ (G' H' : Hp) (p : Addr) (ws : List Str), Same G G' → Wd b l G' H' → G' p = some (.lst (ws.map V.str)) → ws.length = n.toNat → ws.Nodup → (∀ w ∈ ws, IsNm w) → Q (.ref p) H'
def spOptions (K : PySem.W.Frag) : Sp := fun vs H Q _ => ∃ (b l : Addr) (G : Hp) (n : Int), vs = [.ref b, .int n] ∧ 2 ≤ n ∧ n ≤ 6 ∧ Wd b l G H ∧
  ∀ (G' H' : Hp) (p : Addr) (os : List Str), Same G G' → Wd b l G' H' → SqP K G' p (os.map V.str) → os.length = n.toNat → os.Nodup → (∀ o ∈ os, o ∈ pool) → Q (.ref p) H'
def spFields (K : PySem.W.Frag) : Sp := fun vs H Q _ => ∃ (b l : Addr) (G : Hp), vs = [.ref b, .int 24] ∧ Wd b l G H ∧
  ∀ (G' H' : Hp) (p : Addr) (xs : List V) (fs : List Fld), Same G G' → Wd b l G' H' → G' p = some (.lst xs) → Paired (FdAt K G') xs fs → FsOk fs → Q (.ref p) H'
def spCase (K : PySem.W.Frag) : Sp := fun vs H Q _ => ∃ (b l a : Addr) (G : Hp) (xs : List V) (fs : List Fld), vs = [.ref b, .ref a] ∧ SqL K G a xs ∧ Paired (FdAt K G) xs fs ∧ FsOk fs ∧ Wd b l G H ∧
  ∀ (G' H' : Hp) (y : V) (c : Cas), Same G G' → Wd b l G' H' → Dp K G' y (dC c) → FitC fs c → c.1.length ≤ 2 → (∀ ss, c.2 = some ss → ss.length ≤ 2) → (∀ t ∈ c.1, t.2.1 ∈ signs) → Q y H'
end Bh
namespace Bh
open PySem PySem.Spec PyProof.Rows L2
theorem cutV_take (xs : List V) {n : Int} (h : 0 ≤ n) : cutV xs none (some n) = xs.take n.toNat := by
  obtain ⟨k, rfl⟩ : ∃ m : Nat, n = (m : Int) := ⟨n.toNat, by omega⟩
  unfold cutV
  rw [HT.sIx_none, show HT.sIx xs.length xs.length (some (k : Int)) = min k xs.length from HT.sIx_nat _ _ k]
  show List.take (min k xs.length - 0) (List.drop 0 xs) = xs.take k
  rw [List.drop_zero, Nat.sub_zero]
  by_cases hk : k ≤ xs.length
  · rw [Nat.min_eq_left hk]
  · rw [Nat.min_eq_right (by omega), List.take_of_length_le (Nat.le_refl _), List.take_of_length_le (by omega)]
theorem fds_mem {K : PySem.W.Frag} {H : Hp} : ∀ {xs : List V} {fs : List Fld} {x : V}, Paired (FdAt K H) xs fs → x ∈ xs → ∃ f ∈ fs, FdAt K H x f
  | _, _, _, .nil, h => by cases h
  | _, _, x, .cons h t, hx => by
    rcases List.mem_cons.mp hx with e | hx
    · rw [e]
      exact ⟨_, List.mem_cons_self .., h⟩
    · obtain ⟨f, h1, h2⟩ := fds_mem t hx
      exact ⟨f, List.mem_cons_of_mem _ h1, h2⟩
theorem fds_len {K : PySem.W.Frag} {H : Hp} : ∀ {xs : List V} {fs : List Fld}, Paired (FdAt K H) xs fs → xs.length = fs.length
  | _, _, .nil => rfl
  | _, _, .cons _ t => congrArg Nat.succ (fds_len t)
theorem fds_snoc {K : PySem.W.Frag} {H : Hp} {x : V} {f : Fld} : ∀ {xs : List V} {fs : List Fld}, Paired (FdAt K H) xs fs → FdAt K H x f → Paired (FdAt K H) (xs ++ [x]) (fs ++ [f])
  | _, _, .nil, h => .cons h .nil
  | _, _, .cons k t, h => .cons k (fds_snoc t h)
theorem min_max_bound (z : Int) : 0 < (if (if z > 1 then z else 1) < 5 then (if z > 1 then z else 1) else 5) ∧ (if (if z > 1 then z else 1) < 5 then (if z > 1 then z else 1) else 5) ≤ (5 : Int) := by
  split <;> split <;> omega
end Bh
namespace Bh
open PySem PySem.Spec PyProof.Rows L2
theorem dpa_snoc {K : PySem.W.Frag} {H : Hp} {x : V} {d : PyData} {xs : List V} {ds : List PyData} (h : DpAll K H xs ds) (k : Dp K H x d) : DpAll K H (xs ++ [x]) (ds ++ [d]) := DpAll.append h (.cons k .nil)
end Bh
namespace Bh
open PySem PySem.Spec PyProof.Rows L2
theorem noL_dV (v : List Str) : noL (dV v) = true := noLs_map (fun _ => rfl) v
theorem noL_dT (t : Tst) : noL (dT t) = true := rfl
theorem noL_dS (s : Stp) : noL (dS s) = true := rfl
theorem noL_dO : ∀ o : Option (List Stp), noL (dO o) = true
  | none => rfl
  | some ss => noLs_map noL_dS ss
theorem noL_dC (c : Cas) : noL (dC c) = true := by
  show (noLs (c.1.map dT) && (noL (dO c.2) && true)) = true
  rw [noLs_map noL_dT, noL_dO]
  rfl
theorem FdAt.imm {K : PySem.W.Frag} {H H' : Hp} {v : V} {f : Fld} (e : Imm H H') (h : FdAt K H v f) : FdAt K H' v f := by
  obtain ⟨a, o, h1, h2, h3⟩ := h
  exact ⟨a, o, h1, e.tup h2, e.sqp h3⟩
theorem fds_imm {K : PySem.W.Frag} {H H' : Hp} (e : Imm H H') : ∀ {xs : List V} {fs : List Fld}, Paired (FdAt K H) xs fs → Paired (FdAt K H') xs fs
  | _, _, .nil => .nil
  | _, _, .cons h t => .cons (h.imm e) (fds_imm e t)
def spProg (K : PySem.W.Frag) : Sp := fun vs H Q _ => ∃ (b l a : Addr) (G : Hp) (n : Int) (xs : List V) (fs : List Fld), vs = [.ref b, .ref a, .int n] ∧ SqL K G a xs ∧ Paired (FdAt K G) xs fs ∧ FsOk fs ∧ 0 < n ∧ n ≤ 8 ∧ Wd b l G H ∧
  ∀ (G' H' : Hp) (y : V) (p : List Cas), Same G G' → Wd b l G' H' → Dp K G' y (.tuple (p.map dC)) → (∀ c ∈ p, FitC fs c ∧ c.1.length ≤ 2 ∧ (∀ ss, c.2 = some ss → ss.length ≤ 2) ∧ ∀ t ∈ c.1, t.2.1 ∈ signs) → 1 ≤ p.length → p.length ≤ 8 → Q y H'
/-! all values -/
def ext1 (acc : List (List Str)) (f : Fld) : List (List Str) := acc.flatMap fun v => f.2.map fun o => v ++ [o]
def vals (fs : List Fld) : List (List Str) := fs.foldl ext1 [[]]
theorem flat_len (os : List Str) : ∀ acc : List (List Str), (acc.flatMap fun v => os.map fun o => v ++ [o]).length = acc.length * os.length
  | [] => by simp
  | v :: r => by
    rw [List.flatMap_cons, List.length_append, List.length_map, flat_len os r, List.length_cons, Nat.succ_mul]
    omega
theorem vals_take {fs : List Fld} {i : Nat} {f : Fld} (h : fs[i]? = some f) : vals (fs.take (i + 1)) = ext1 (vals (fs.take i)) f := by
  unfold vals
  rw [List.take_add_one, h, List.foldl_append]
  rfl
theorem vals_len {fs : List Fld} (h : ∀ f ∈ fs, f.2.length ≤ 6) : ∀ i : Nat, (vals (fs.take i)).length ≤ 6 ^ i
  | 0 => by
    rw [List.take_zero]
    exact Nat.le_refl 1
  | i + 1 => by
    cases e : fs[i]? with
    | none =>
      have hl : fs.length ≤ i := List.getElem?_eq_none_iff.mp e
      rw [List.take_of_length_le (by omega), show fs = fs.take i from (List.take_of_length_le hl).symm]
      refine Nat.le_trans (vals_len h i) ?_
      rw [Nat.pow_succ]
      exact Nat.le_mul_of_pos_right _ (by decide)
    | some f =>
      rw [vals_take e]
      unfold ext1
      rw [flat_len, Nat.pow_succ]
      exact Nat.mul_le_mul (vals_len h i) (h f (List.mem_of_getElem? e))
theorem vals_fit : ∀ (fs done : List Fld) (acc : List (List Str)), (∀ v ∈ acc, FitV done v) → ∀ v ∈ fs.foldl ext1 acc, FitV (done ++ fs) v
  | [], done, acc, h, v, hv => by
    rw [List.append_nil]
    exact h v hv
  | f :: r, done, acc, h, v, hv => by
    have e : done ++ f :: r = (done ++ [f]) ++ r := by simp
    rw [e]
    refine vals_fit r (done ++ [f]) (ext1 acc f) (fun w hw => ?_) v hv
    obtain ⟨u, hu, hw2⟩ := List.mem_flatMap.mp hw
    obtain ⟨o, ho, rfl⟩ := List.mem_map.mp hw2
    obtain ⟨l1, l2⟩ := h u hu
    refine ⟨by rw [List.length_append, List.length_append, l1]; rfl, fun i g o' hg ho' => ?_⟩
    by_cases hi : i < done.length
    · rw [List.getElem?_append_left hi] at hg
      rw [List.getElem?_append_left (by omega)] at ho'
      exact l2 i g o' hg ho'
    · rw [List.getElem?_append_right (by omega)] at hg
      rw [List.getElem?_append_right (by omega), l1] at ho'
      have hz : i - done.length = 0 := by
        have := (List.getElem?_eq_some_iff.mp hg).1
        simp at this
        omega
      rw [hz] at hg ho'
      cases hg
      cases ho'
      exact ho
theorem vals_ok {fs : List Fld} : ∀ v ∈ vals fs, FitV fs v := by
  have q := vals_fit fs [] [[]] (fun v hv => by
    cases List.mem_singleton.mp hv
    exact ⟨rfl, fun i f o h => by simp at h⟩)
  show ∀ v ∈ fs.foldl ext1 [[]], FitV fs v
  simpa using q
def spVals (K : PySem.W.Frag) : Sp := fun vs H Q _ => ∃ (a : Addr) (xs : List V) (fs : List Fld), vs = [.ref a] ∧ SqL K H a xs ∧ Paired (FdAt K H) xs fs ∧ FsOk fs ∧
  ∀ (H' : Hp) (p : Addr) (ys : List V), Same H H' → H' p = some (.lst ys) → DpAll K H' ys ((vals fs).map dV) → Q (.ref p) H'
end Bh

set_option Elab.async false
set_option linter.all false
set_option maxRecDepth 100000
namespace Bh
open PySem PySem.Spec PyProof.Rows L2
/-! ### ends of the law of programs -/
theorem at_last {α : Type} {xs : List α} {v : α} (h : xs.getLast? = some v) : atI xs (-1) = some v := by
  cases xs with
  | nil => cases h
  | cons x r =>
    have e : (x :: r).getLast? = (x :: r)[(x :: r).length - 1]? := List.getLast?_eq_getElem?
    unfold atI ixN
    rw [if_neg (by decide), if_pos (by rw [List.length_cons]; omega)]
    show (x :: r)[(-1 + ((x :: r).length : Int)).toNat]? = some v
    rw [show (-1 + ((x :: r).length : Int)).toNat = (x :: r).length - 1 by rw [List.length_cons]; omega, ← e]
    exact h
theorem vals_first : ∀ (fs : List Fld) (acc : List (List Str)) (h : List Str), acc[0]? = some h → (∀ f ∈ fs, f.2 ≠ []) → ∃ t : List Str, (fs.foldl ext1 acc)[0]? = some (h ++ t) ∧ ∀ f r, fs = f :: r → t[0]? = f.2[0]?
  | [], acc, h, h0, _ => ⟨[], by rw [List.append_nil]; exact h0, fun f r e => by cases e⟩
  | f :: r, acc, h, h0, hn => by
    cases ho : f.2 with
    | nil => exact absurd ho (hn f (List.mem_cons_self ..))
    | cons o os =>
      cases acc with
      | nil => cases h0
      | cons a as =>
        have eh : a = h := Option.some.inj h0
        subst eh
        have e1 : (ext1 (a :: as) f)[0]? = some (a ++ [o]) := by
          unfold ext1
          rw [List.flatMap_cons, ho]
          rfl
        obtain ⟨t, e2, _⟩ := vals_first r (ext1 (a :: as) f) (a ++ [o]) e1 (fun g hg => hn g (List.mem_cons_of_mem _ hg))
        refine ⟨o :: t, ?_, fun g r' e => ?_⟩
        · show (r.foldl ext1 (ext1 (a :: as) f))[0]? = _
          rw [e2, List.append_assoc]
          rfl
        · cases e
          rw [ho]
          rfl
theorem vals_zero {f : Fld} {r : List Fld} (hn : ∀ g ∈ f :: r, g.2 ≠ []) : ∃ v : List Str, (vals (f :: r))[0]? = some v ∧ v[0]? = f.2[0]? := by
  obtain ⟨t, e1, e2⟩ := vals_first (f :: r) [[]] [] rfl hn
  exact ⟨t, e1, e2 f r rfl⟩
theorem plus_steps {f : Fld} {r : List Fld} (nd : f.2.Nodup) : ∀ (m k : Nat) (v : List Str) (o : Str), v[0]? = some o → f.2[k]? = some o → (stepped (f :: r) (List.replicate m ((f.1, "+") : Stp)) v)[0]? = f.2[min (k + m) (f.2.length - 1)]?
  | 0, k, v, o, hv, hk => by
    have hl := (List.getElem?_eq_some_iff.mp hk).1
    show v[0]? = _
    rw [hv, Nat.add_zero, show min k (f.2.length - 1) = k by omega, hk]
  | m + 1, k, v, o, hv, hk => by
    have hl := (List.getElem?_eq_some_iff.mp hk).1
    have hp : posOf (f :: r) f.1 = 0 := by
      show ix (f.1 :: r.map (·.1)) f.1 = 0
      unfold ix
      rw [if_pos rfl]
    have ho : optsOf (f :: r) f.1 = f.2 := by
      unfold optsOf
      rw [hp]
      rfl
    have hlv : 0 < v.length := (List.getElem?_eq_some_iff.mp hv).1
    have hk2 : f.2[min (k + 1) (f.2.length - 1)]? = some (nextO f.2 o) := by
      have q := (next_mem (List.mem_of_getElem? hk)).1
      rw [ix_at nd hk] at q
      exact q
    have hv2 : (stepO (f :: r) v ((f.1, "+") : Stp))[0]? = some (nextO f.2 o) := by
      unfold stepO
      show (v.set (posOf (f :: r) f.1) _)[0]? = _
      rw [hp, List.getElem?_set_self hlv, if_pos rfl, ho, List.getD_eq_getElem?_getD, hv]
      rfl
    rw [List.replicate_succ]
    show (stepped (f :: r) (List.replicate m ((f.1, "+") : Stp)) (stepO (f :: r) v ((f.1, "+") : Stp)))[0]? = _
    rw [plus_steps nd m _ _ _ hv2 hk2]
    congr 1
    omega
def perm3 {α : Type} : List α → List α
  | [a, b, c] => [a, c, b]
  | _ => []
theorem perm3_rel {vs : List V} {us : List Value} (h : Vals vs us) : Vals (perm3 vs) (perm3 us) := by
  cases h with
  | nil => exact .nil
  | cons a h =>
    cases h with
    | nil => exact .nil
    | cons b h =>
      cases h with
      | nil => exact .nil
      | cons c h =>
        cases h with
        | nil => exact .cons a (.cons c (.cons b .nil))
        | cons d h => exact .nil
theorem Sh.strs (n : Nat) (zs : List Str) (h : zs.length ≤ 100000) : Sh (n + 1) (.tuple (zs.map PyData.str)) :=
  .tup (by rw [List.length_map]; exact h) fun d hd => by
    obtain ⟨z, _, rfl⟩ := List.mem_map.mp hd
    exact .str
end Bh

set_option Elab.async false
set_option linter.all false
set_option maxRecDepth 100000
set_option maxHeartbeats 1000000
namespace Bh
open PySem PySem.Spec PyProof.Rows L2
def topS (i : Nat) : Stmt := PySem.Challenge.pw_bestheard_k03_programs_applied.main.body.getD i (.Pass ⟨0, 0, 0, 0⟩)
abbrev s_applied : Stmt := topS 2
theorem sc_applied : FnScope ["fields", "program", "holding", "tests", "steps", "test"] ["fields", "program", "holding"] (defScope s_applied) := ⟨rfl, rfl, rfl, by decide +kernel, rfl, by decide +kernel, by decide +kernel⟩
abbrev s_test_holds : Stmt := topS 3
theorem sc_test_holds : FnScope ["fields", "test", "value", "field", "sign", "option", "position", "options", "present", "asked"] ["fields", "test", "value"] (defScope s_test_holds) := ⟨rfl, rfl, rfl, by decide +kernel, rfl, by decide +kernel, by decide +kernel⟩
abbrev s_after_steps : Stmt := topS 4
theorem sc_after_steps : FnScope ["fields", "steps", "value", "chosen", "field", "option", "position"] ["fields", "steps", "value"] (defScope s_after_steps) := ⟨rfl, rfl, rfl, by decide +kernel, rfl, by decide +kernel, by decide +kernel⟩
abbrev s_next_option : Stmt := topS 5
theorem sc_next_option : FnScope ["options", "option", "behind"] ["options", "option"] (defScope s_next_option) := ⟨rfl, rfl, rfl, by decide +kernel, rfl, by decide +kernel, by decide +kernel⟩
abbrev s_position : Stmt := topS 6
theorem sc_position : FnScope ["fields", "field", "name", "options"] ["fields", "field"] (defScope s_position) := ⟨rfl, rfl, rfl, by decide +kernel, rfl, by decide +kernel, by decide +kernel⟩
abbrev s_l_bag : Stmt := topS 8
theorem sc_l_bag : FnScope ["_law_script", "_law_seed", "_law_cell"] ["_law_script"] (defScope s_l_bag) := ⟨rfl, rfl, rfl, by decide +kernel, rfl, by decide +kernel, by decide +kernel⟩
abbrev s_l_draw : Stmt := topS 9
theorem sc_l_draw : FnScope ["_law_bag_here", "_law_many", "_law_cell", "_law_found", "_law_old"] ["_law_bag_here", "_law_many"] (defScope s_l_draw) := ⟨rfl, rfl, rfl, by decide +kernel, rfl, by decide +kernel, by decide +kernel⟩
abbrev s_l_any : Stmt := topS 10
theorem sc_l_any : FnScope ["_law_bag_here", "_law_row"] ["_law_bag_here", "_law_row"] (defScope s_l_any) := ⟨rfl, rfl, rfl, by decide +kernel, rfl, by decide +kernel, by decide +kernel⟩
abbrev s_l_mixed : Stmt := topS 11
theorem sc_l_mixed : FnScope ["_law_bag_here", "_law_row", "_law_found", "_law_item"] ["_law_bag_here", "_law_row"] (defScope s_l_mixed) := ⟨rfl, rfl, rfl, by decide +kernel, rfl, by decide +kernel, by decide +kernel⟩
abbrev s_l_like : Stmt := topS 12
theorem sc_l_like : FnScope ["_law_found", "_law_due", "_law_key", "_law_one", "_law_other"] ["_law_found", "_law_due"] (defScope s_l_like) := ⟨rfl, rfl, rfl, by decide +kernel, rfl, by decide +kernel, by decide +kernel⟩
abbrev s_l_words : Stmt := topS 13
theorem sc_l_words : FnScope ["_law_bag_here", "_law_many", "_law_tail", "_law_at_here", "_law_start", "_law_letters", "_law_k"] ["_law_bag_here", "_law_many"] (defScope s_l_words) := ⟨rfl, rfl, rfl, by decide +kernel, rfl, by decide +kernel, by decide +kernel⟩
abbrev s_l_options : Stmt := topS 14
theorem sc_l_options : FnScope ["_law_bag_here", "_law_many", "_law_pool"] ["_law_bag_here", "_law_many"] (defScope s_l_options) := ⟨rfl, rfl, rfl, by decide +kernel, rfl, by decide +kernel, by decide +kernel⟩
abbrev s_l_fields : Stmt := topS 15
theorem sc_l_fields : FnScope ["_law_bag_here", "_law_room", "_law_names", "_law_found", "_law_left", "_law_k", "_law_many"] ["_law_bag_here", "_law_room"] (defScope s_l_fields) := ⟨rfl, rfl, rfl, by decide +kernel, rfl, by decide +kernel, by decide +kernel⟩
abbrev s_l_case : Stmt := topS 16
theorem sc_l_case : FnScope ["_law_bag_here", "_law_fields_z", "_law_tests", "_law_steps", "_law_k", "_law_name", "_law_options_here"] ["_law_bag_here", "_law_fields_z"] (defScope s_l_case) := ⟨rfl, rfl, rfl, by decide +kernel, rfl, by decide +kernel, by decide +kernel⟩
abbrev s_l_program : Stmt := topS 17
theorem sc_l_program : FnScope ["_law_bag_here", "_law_fields_z", "_law_most", "_law_k"] ["_law_bag_here", "_law_fields_z", "_law_most"] (defScope s_l_program) := ⟨rfl, rfl, rfl, by decide +kernel, rfl, by decide +kernel, by decide +kernel⟩
abbrev s_l_values : Stmt := topS 18
theorem sc_l_values : FnScope ["_law_fields_z", "_law_found", "_law_name", "_law_options_here", "_law_longer", "_law_value", "_law_option"] ["_law_fields_z"] (defScope s_l_values) := ⟨rfl, rfl, rfl, by decide +kernel, rfl, by decide +kernel, by decide +kernel⟩
abbrev s_l_at : Stmt := topS 19
theorem sc_l_at : FnScope ["_law_fields_z", "_law_name", "_law_field"] ["_law_fields_z", "_law_name"] (defScope s_l_at) := ⟨rfl, rfl, rfl, by decide +kernel, rfl, by decide +kernel, by decide +kernel⟩
abbrev s_l_holds : Stmt := topS 20
theorem sc_l_holds : FnScope ["_law_fields_z", "_law_test", "_law_value", "_law_at_here", "_law_options_here", "_law_here", "_law_there"] ["_law_fields_z", "_law_test", "_law_value"] (defScope s_l_holds) := ⟨rfl, rfl, rfl, by decide +kernel, rfl, by decide +kernel, by decide +kernel⟩
abbrev s_l_stepped : Stmt := topS 21
theorem sc_l_stepped : FnScope ["_law_fields_z", "_law_steps", "_law_value", "_law_found", "_law_name", "_law_option", "_law_at_here", "_law_options_here"] ["_law_fields_z", "_law_steps", "_law_value"] (defScope s_l_stepped) := ⟨rfl, rfl, rfl, by decide +kernel, rfl, by decide +kernel, by decide +kernel⟩
abbrev s_l_applied : Stmt := topS 22
theorem sc_l_applied : FnScope ["_law_fields_z", "_law_program_z", "_law_holding_z", "_law_tests", "_law_steps", "_law_test"] ["_law_fields_z", "_law_program_z", "_law_holding_z"] (defScope s_l_applied) := ⟨rfl, rfl, rfl, by decide +kernel, rfl, by decide +kernel, by decide +kernel⟩
abbrev s_law : Stmt := topS 23
theorem sc_law : FnScope ["_law_script", "_law_bag_here", "_law_fields_z", "_law_program_z", "_law_handed", "_law_value", "_law_due", "_law_name", "_law_options_here", "_law_every", "_law_step", "_law_rows", "_law_told", "_law_last"] ["_law_script"] (defScope s_law) := ⟨rfl, rfl, rfl, by decide +kernel, rfl, by decide +kernel, by decide +kernel⟩
structure Top (K : PySem.W.Frag) (mg : Str → Option Value) : Type where
  a_applied : Addr
  fd_applied : FuncData
  d_applied : Df K mg "applied" s_applied ["fields", "program", "holding"] a_applied fd_applied
  a_test_holds : Addr
  fd_test_holds : FuncData
  d_test_holds : Df K mg "_test_holds" s_test_holds ["fields", "test", "value"] a_test_holds fd_test_holds
  a_after_steps : Addr
  fd_after_steps : FuncData
  d_after_steps : Df K mg "_after_steps" s_after_steps ["fields", "steps", "value"] a_after_steps fd_after_steps
  a_next_option : Addr
  fd_next_option : FuncData
  d_next_option : Df K mg "_next_option" s_next_option ["options", "option"] a_next_option fd_next_option
  a_position : Addr
  fd_position : FuncData
  d_position : Df K mg "_position" s_position ["fields", "field"] a_position fd_position
  a_l_bag : Addr
  fd_l_bag : FuncData
  d_l_bag : Df K mg "_law_bag" s_l_bag ["_law_script"] a_l_bag fd_l_bag
  a_l_draw : Addr
  fd_l_draw : FuncData
  d_l_draw : Df K mg "_law_draw" s_l_draw ["_law_bag_here", "_law_many"] a_l_draw fd_l_draw
  a_l_any : Addr
  fd_l_any : FuncData
  d_l_any : Df K mg "_law_any" s_l_any ["_law_bag_here", "_law_row"] a_l_any fd_l_any
  a_l_mixed : Addr
  fd_l_mixed : FuncData
  d_l_mixed : Df K mg "_law_mixed" s_l_mixed ["_law_bag_here", "_law_row"] a_l_mixed fd_l_mixed
  a_l_like : Addr
  fd_l_like : FuncData
  d_l_like : Df K mg "_law_like" s_l_like ["_law_found", "_law_due"] a_l_like fd_l_like
  a_l_words : Addr
  fd_l_words : FuncData
  d_l_words : Df K mg "_law_words" s_l_words ["_law_bag_here", "_law_many"] a_l_words fd_l_words
  a_l_options : Addr
  fd_l_options : FuncData
  d_l_options : Df K mg "_law_options" s_l_options ["_law_bag_here", "_law_many"] a_l_options fd_l_options
  a_l_fields : Addr
  fd_l_fields : FuncData
  d_l_fields : Df K mg "_law_fields" s_l_fields ["_law_bag_here", "_law_room"] a_l_fields fd_l_fields
  a_l_case : Addr
  fd_l_case : FuncData
  d_l_case : Df K mg "_law_case" s_l_case ["_law_bag_here", "_law_fields_z"] a_l_case fd_l_case
  a_l_program : Addr
  fd_l_program : FuncData
  d_l_program : Df K mg "_law_program" s_l_program ["_law_bag_here", "_law_fields_z", "_law_most"] a_l_program fd_l_program
  a_l_values : Addr
  fd_l_values : FuncData
  d_l_values : Df K mg "_law_values" s_l_values ["_law_fields_z"] a_l_values fd_l_values
  a_l_at : Addr
  fd_l_at : FuncData
  d_l_at : Df K mg "_law_at" s_l_at ["_law_fields_z", "_law_name"] a_l_at fd_l_at
  a_l_holds : Addr
  fd_l_holds : FuncData
  d_l_holds : Df K mg "_law_holds" s_l_holds ["_law_fields_z", "_law_test", "_law_value"] a_l_holds fd_l_holds
  a_l_stepped : Addr
  fd_l_stepped : FuncData
  d_l_stepped : Df K mg "_law_stepped" s_l_stepped ["_law_fields_z", "_law_steps", "_law_value"] a_l_stepped fd_l_stepped
  a_l_applied : Addr
  fd_l_applied : FuncData
  d_l_applied : Df K mg "_law_applied" s_l_applied ["_law_fields_z", "_law_program_z", "_law_holding_z"] a_l_applied fd_l_applied
  b_all : mg "all" = none
  b_dict : mg "dict" = none
  b_isinstance : mg "isinstance" = none
  b_len : mg "len" = none
  b_list : mg "list" = none
  b_max : mg "max" = none
  b_min : mg "min" = none
  b_range : mg "range" = none
  b_sorted : mg "sorted" = none
  b_tuple : mg "tuple" = none
  b_int : mg "int" = none
  b_zip : mg "zip" = none
  b_bool : mg "bool" = none
  b_str : mg "str" = none
  g_NEXT : ∃ t, mg "NEXT" = some (Value.str "+" t)
section
variable {P : Program} {w : World} {K : PySem.W.Frag} {mg : Str → Option Value} {base : Heap}
theorem cut63 (ns : List Int) (h : ns.length ≤ 63) : cutV (ns.map V.int) none (some 63) = ns.map V.int := by
  unfold cutV
  rw [HT.sIx_none, show HT.sIx (ns.map V.int).length (ns.map V.int).length (some 63) = min 63 (ns.map V.int).length from HT.sIx_nat _ _ 63, List.length_map, Nat.min_eq_right h]
  show List.take (ns.length - 0) (List.drop 0 (ns.map V.int)) = _
  rw [List.drop_zero, Nat.sub_zero]
  exact List.take_of_length_le (by rw [List.length_map]; exact Nat.le_refl _)
theorem ok_bag (T : Top K mg) : FnOk P w K mg base CX0 1 T.a_l_bag T.fd_l_bag ["_law_script"] (spBag K) := by
  refine T.d_l_bag.F.ok sc_l_bag (fun vs H Q E h => ?_) (fun cdv A outer s H vs Q E hr h => ?_)
  · obtain ⟨a, ns, rfl, _⟩ := h
    rfl
  obtain ⟨a, ns, rfl, hS, h63, q⟩ := h
  refine ⟨_, (pss_cons (ps_set (i := 1) sc_l_bag.nd rfl (Or.inl rfl) (pe_op op_add pe_int (pe_op op_mul pe_int (pe_callB (call_len_seq_K (K := K) (by rfl)) (by rfl) T.b_len PySem.boot_len (pa_cons (pe_slice (sl_list_K (K := K) (by rfl)) (pv 0) po_none (po_some pe_int)) pa_nil)))))
    (pss_cons (ps_for PassesOwn.never rfl (pi_list_K (K := K) (by rfl) (pe_slice (sl_list_K (K := K) (by rfl)) (pv 0) po_none (po_some pe_int))) (pg_name (i := 2) sc_l_bag.nd rfl (Or.inl rfl))
      (pss_one (ps_set (i := 1) sc_l_bag.nd rfl (Or.inl rfl) (pe_op op_mod (pe_callTy call_int1 (by rfl) T.b_int (by decide +kernel) (pa_cons (pe_op op_add (pe_op op_add (pe_op op_mul (pv 1) pe_int) (pe_op op_mod (pe_callTy call_int1 (by rfl) T.b_int (by decide +kernel) (pa_cons (pv 2) pa_nil)) pe_int)) pe_int) pa_nil)) pe_int))))
    (pss_one (ps_ret (pe_lst (pa_cons (pe_callTy (call_list_of_K (K := K) (by rfl)) (by rfl) T.b_list (by decide +kernel) (pa_cons (pe_slice (sl_list_K (K := K) (by rfl)) (pv 0) po_none (po_some pe_int)) pa_nil)) (pa_cons pe_int (pa_cons pe_int (pa_cons (pv 1) pa_nil))))))))), ?_⟩
  refine ⟨_, rfl, _, rfl, _, _, rfl, hS, fun p1 n1 => ?_⟩
  rw [cut63 ns h63]
  refine ⟨_, _, rfl, .inl (SqL.of upd_same), _, _, rfl, rfl, .inl ⟨by decide, by decide⟩, _, _, rfl, rfl, ?_⟩
  have e1 : Same H (upd H p1 (.lst (ns.map V.int))) := same_new n1
  refine ⟨_, rfl, _, rfl, _, _, rfl, e1.seq hS, fun p2 n2 => ?_⟩
  rw [cut63 ns h63]
  have e2 := e1.trans (same_new (o := .lst (ns.map V.int)) n2)
  refine ⟨p2, rfl, ⟨_, SqL.of upd_same⟩, for_list (K := K) (a := p2) (xs := ns.map V.int) (fun i σ H' => ∃ (z : Int) (v : Option V), σ = [some (.ref a), some (.int z), v] ∧ (0 < i → 0 ≤ z ∧ z < 2147483647) ∧ (z < 100000 ∨ 0 < i) ∧ 0 ≤ z ∧ H' = (upd (upd H p1 (.lst (ns.map V.int))) p2 (.lst (ns.map V.int))))
    ⟨_, none, rfl, fun z => absurd z (Nat.lt_irrefl _), .inl ?_, ?_, rfl⟩ (fun i σ H' _ ⟨_, _, _, _, _, _, e⟩ => by rw [e]; exact SqL.of upd_same) ?_ ?_⟩
  · rw [List.length_map]
    omega
  · rw [List.length_map]
    omega
  · rintro i y σ H' hi ⟨z, v, rfl, z1, z2, z0, rfl⟩
    obtain ⟨u, _, rfl⟩ := get_map hi
    refine ⟨_, rfl, _, _, rfl, rfl, .inr ⟨by decide, by decide⟩, _, rfl, .inl ⟨_, rfl, _, _, rfl, rfl, p31, _, _, rfl, rfl, _, _, rfl, rfl, .inl ⟨_, rfl, _, _, rfl, rfl, p31, ?_⟩⟩⟩
    refine ⟨_, _, rfl, fun _ => ⟨?_, ?_⟩, .inr (Nat.succ_pos i), ?_, rfl⟩ <;> omega
  · rintro σ H' ⟨z, v, rfl, z1, z2, z0, rfl⟩
    refine ⟨_, rfl, _, rfl, _, _, rfl, e2.seq hS, fun p3 n3 => ?_⟩
    rw [cut63 ns h63]
    refine ⟨_, _, rfl, .inl (SqL.of upd_same), fun l nl => ?_⟩
    have e3 := e2.trans (same_new (o := .lst (ns.map V.int)) n3)
    have e4 := e3.trans (same_new (o := .lst (ns.map V.int)) nl)
    refine ⟨_, rfl, (by show 4 ≤ sizeLine; decide), fun b nb => ?_⟩
    have e5 := e4.trans (same_new (o := .lst [.ref l, .int 0, .int 0, .int z]) nb)
    refine q b l _ (e4.free nb) (e3.free nl) e5 ⟨ns, 0, 0, z, upd_same, ?_, h63, by omega, by omega, by omega, z0, by omega⟩
    rw [upd_ne (ne_of_none upd_same nb), upd_same]
theorem ok_draw (T : Top K mg) : FnOk P w K mg base CX0 1 T.a_l_draw T.fd_l_draw ["_law_bag_here", "_law_many"] spDraw := by
  refine T.d_l_draw.F.ok sc_l_draw (fun vs H Q E h => ?_) (fun cdv A outer s H vs Q E hr h => ?_)
  · obtain ⟨b, l, G, n, rfl, _⟩ := h
    rfl
  obtain ⟨b, l, G, n, rfl, n0, n1, wd, q⟩ := h
  refine ⟨_, (Evl.pss_cut (ps_if (PW.pt (pw_and (pt_cmpR op_eq (pe_ix (ix_list_K (K := K) (by rfl)) (pv 0) pe_int (fun _ _ => rfl)) pe_int (nomark _)) (pw_and1 (pt_cmpR op_lt (pe_ix (ix_list_K (K := K) (by rfl)) (pv 0) pe_int (fun _ _ => rfl)) (pe_callB (call_len_seq_K (K := K) (by rfl)) (by rfl) T.b_len PySem.boot_len (pa_cons (pe_ix (ix_list_K (K := K) (by rfl)) (pv 0) pe_int (fun _ _ => rfl)) pa_nil)) (nomark _))))) (pss_cons (ps_set (i := 2) sc_l_draw.nd rfl (Or.inl rfl) (pe_ix (ix_list_K (K := K) (by rfl)) (pe_ix (ix_list_K (K := K) (by rfl)) (pv 0) pe_int (fun _ _ => rfl)) (pe_ix (ix_list_K (K := K) (by rfl)) (pv 0) pe_int (fun _ _ => rfl)) (fun _ _ => rfl)))
      (pss_cons (ps_asg (pe_op op_add (pe_ix (ix_list_K (K := K) (by rfl)) (pv 0) pe_int (fun _ _ => rfl)) pe_int) (pg_sub (pv 0) pe_int set_list))
      (pss_one (ps_if (pt_cmpR op_ge (pv 2) (pe_op op_pow pe_int pe_int) (nomark _)) (pss_one (ps_asg (pv 2) (pg_sub (pv 0) pe_int set_list))) (pss_one (ps_asg (pe_op op_mod (pe_callTy call_int1 (by rfl) T.b_int (by decide +kernel) (pa_cons (pe_op op_add (pe_op op_add (pe_op op_mul (pe_ix (ix_list_K (K := K) (by rfl)) (pv 0) pe_int (fun _ _ => rfl)) pe_int) (pe_op op_mul (pe_op op_mod (pe_callTy call_int1 (by rfl) T.b_int (by decide +kernel) (pa_cons (pv 2) pa_nil)) pe_int) pe_int)) (pe_ix (ix_list_K (K := K) (by rfl)) (pv 0) pe_int (fun _ _ => rfl))) pa_nil)) pe_int) (pg_sub (pv 0) pe_int set_list))))))) pss_nil)
    (pss_cons (ps_if (pt_cmpR op_gt (pe_ix (ix_list_K (K := K) (by rfl)) (pv 0) pe_int (fun _ _ => rfl)) pe_int (nomark _)) (pss_cons (ps_set (i := 3) sc_l_draw.nd rfl (Or.inl rfl) (pe_op op_mod (pe_callTy call_int1 (by rfl) T.b_int (by decide +kernel) (pa_cons (pe_ix (ix_list_K (K := K) (by rfl)) (pv 0) pe_int (fun _ _ => rfl)) pa_nil)) (pv 1)))
      (pss_cons (ps_asg (pe_op op_fdiv (pe_ix (ix_list_K (K := K) (by rfl)) (pv 0) pe_int (fun _ _ => rfl)) (pv 1)) (pg_sub (pv 0) pe_int set_list))
      (pss_one (ps_ret (pv 3))))) pss_nil)
    (pss_cons (ps_set (i := 4) sc_l_draw.nd rfl (Or.inl rfl) (pe_ix (ix_list_K (K := K) (by rfl)) (pv 0) pe_int (fun _ _ => rfl)))
    (pss_cons (ps_asg (pe_op op_mod (pe_callTy call_int1 (by rfl) T.b_int (by decide +kernel) (pa_cons (pe_op op_add (pe_op op_add (pe_op op_mul (pv 4) (pv 4)) (pe_op op_mul (pv 4) pe_int)) pe_int) pa_nil)) pe_int) (pg_sub (pv 0) pe_int set_list))
    (pss_one (ps_ret (pe_op op_mod (pe_callTy call_int1 (by rfl) T.b_int (by decide +kernel) (pa_cons (pe_op op_add (pe_op op_fdiv (pe_ix (ix_list_K (K := K) (by rfl)) (pv 0) pe_int (fun _ _ => rfl)) pe_int) (pe_op op_mul (pe_op op_mod (pe_callTy call_int1 (by rfl) T.b_int (by decide +kernel) (pa_cons (pe_ix (ix_list_K (K := K) (by rfl)) (pv 0) pe_int (fun _ _ => rfl)) pa_nil)) pe_int) pe_int)) pa_nil)) (pv 1)))))))), ?_⟩
  obtain ⟨ns, i, c, s, hb, hl, h63, i0, i1, c0, s0, s1⟩ := id wd.bag
  have lb : l ≠ b := ne_of hl hb (by intro z; cases ns with | nil => cases z | cons x r => cases r with | nil => cases z | cons => cases z)
  have B := SqL.of (K := K) hb
  refine ⟨fun σ' H' => ∃ v, σ' = [some (.ref b), some (.int n), v, none, none] ∧ Wd b l G H', ?_, ?_⟩
  · refine ⟨_, rfl, _, _, _, _, rfl, rfl, B, rfl, rfl, _, rfl, ?_⟩
    refine ite2 (fun _ => ?_) (fun _ => ?_)
    · refine ⟨_, rfl, _, _, _, _, rfl, rfl, B, rfl, _, rfl, _, _, _, _, rfl, rfl, B, rfl, _, _, rfl, .inl (SqL.of hl), _, _, rfl, rfl, _, rfl, ?_⟩
      refine ite2 (fun c1 => ?_) (fun _ => ?_)
      · have c2 := of_decide_eq_true c1
        rw [List.length_map] at c2
        have c3 : i.toNat < ns.length := by omega
        refine ⟨_, rfl, _, _, _, _, rfl, rfl, B, rfl, _, rfl, _, _, _, _, rfl, rfl, B, rfl, _, _, _, .int ns[i.toNat], rfl, rfl, SqL.of hl, at_nn i0 (by rw [List.getElem?_map, List.getElem?_eq_getElem c3]; rfl), ?_⟩
        refine ⟨_, rfl, _, _, _, _, rfl, rfl, B, rfl, _, _, rfl, rfl, _, rfl, _, _, _, 1, rfl, rfl, hb, rfl, ?_⟩
        refine ⟨_, rfl, _, _, rfl, rfl, ⟨by decide, by decide, by decide⟩, _, _, rfl, rfl, _, rfl, ?_⟩
        refine ite2 (fun g1 => ?_) (fun _ => ?_)
        · have g2 := of_decide_eq_true g1
          refine ⟨_, rfl, _, rfl, _, _, _, 2, rfl, rfl, upd_same, rfl, ?_⟩
          refine ⟨_, rfl, ?_⟩
          rw [upd_upd]
          exact wd.bagged ⟨ns, i + 1, _, s, upd_same, by rw [upd_ne lb]; exact hl, h63, by omega, by omega, Int.le_trans (by decide) g2, s0, s1⟩
        · refine ⟨_, rfl, _, _, _, _, rfl, rfl, SqL.of upd_same, rfl, _, _, rfl, rfl, .inr ⟨by decide, by decide⟩, _, rfl, .inl ⟨_, rfl, _, _, rfl, rfl, p31, _, _, rfl, rfl, .inr ⟨by decide, by decide⟩, _, _, rfl, rfl, _, rfl, _, _, _, _, rfl, rfl, SqL.of upd_same, rfl, _, _, rfl, rfl, .inl ⟨_, rfl, _, _, rfl, rfl, p31, ?_⟩⟩⟩
          refine ⟨_, rfl, _, _, _, 3, rfl, rfl, upd_same, rfl, ?_⟩
          refine ⟨_, rfl, ?_⟩
          rw [upd_upd]
          exact wd.bagged ⟨ns, i + 1, c, _, upd_same, by rw [upd_ne lb]; exact hl, h63, by omega, by omega, c0, Int.emod_nonneg _ (by decide), Int.emod_lt_of_pos _ (by decide)⟩
      · exact ⟨_, rfl, wd⟩
    · exact ⟨_, rfl, wd⟩
  · rintro σ' H' ⟨v, rfl, wd⟩
    obtain ⟨ns, i, c, s, hb, hl, h63, i0, i1, c0, s0, s1⟩ := id wd.bag
    have lb : l ≠ b := ne_of hl hb (by intro z; cases ns with | nil => cases z | cons x r => cases r with | nil => cases z | cons => cases z)
    have B := SqL.of (K := K) hb
    refine ⟨_, rfl, _, _, _, _, rfl, rfl, B, rfl, _, _, rfl, rfl, _, rfl, ?_⟩
    refine ite2 (fun g1 => ?_) (fun _ => ?_)
    · refine ⟨_, rfl, _, _, _, _, rfl, rfl, B, rfl, .inl ⟨_, rfl, _, rfl, _, _, rfl, rfl, n0, ?_⟩⟩
      refine ⟨_, rfl, _, _, _, _, rfl, rfl, B, rfl, _, rfl, _, _, rfl, rfl, ⟨n0, n1⟩, _, rfl, _, _, _, 2, rfl, rfl, hb, rfl, ?_⟩
      refine ⟨_, rfl, ?_⟩
      exact q _ _ (Int.emod_nonneg _ (by omega)) (Int.emod_lt_of_pos _ n0) (wd.bagged ⟨ns, i, c / n, s, upd_same, by rw [upd_ne lb]; exact hl, h63, i0, i1, Int.ediv_nonneg c0 (by omega), s0, s1⟩)
    · refine ⟨_, rfl, _, _, _, _, rfl, rfl, B, rfl, ?_⟩
      refine ⟨_, rfl, _, rfl, _, _, rfl, rfl, .inl ⟨by omega, by omega⟩, _, rfl, _, _, rfl, rfl, .inr ⟨by decide, by decide⟩, _, _, rfl, rfl, _, _, rfl, rfl, .inl ⟨_, rfl, _, _, rfl, rfl, p31, ?_⟩⟩
      refine ⟨_, rfl, _, _, _, 3, rfl, rfl, hb, rfl, ?_⟩
      refine ⟨_, rfl, _, _, _, _, rfl, rfl, SqL.of upd_same, rfl, _, _, rfl, rfl, ⟨by decide, by decide⟩, _, rfl, _, _, _, _, rfl, rfl, SqL.of upd_same, rfl, .inl ⟨_, rfl, _, _, rfl, rfl, p8117, _, _, rfl, rfl, .inr ⟨by decide, by decide⟩, _, _, rfl, rfl, .inl ⟨_, rfl, _, rfl, _, _, rfl, rfl, n0, ?_⟩⟩⟩
      exact q _ _ (Int.emod_nonneg _ (by omega)) (Int.emod_lt_of_pos _ n0) (wd.bagged ⟨ns, i, c, _, upd_same, by rw [upd_ne lb]; exact hl, h63, i0, i1, c0, Int.emod_nonneg _ (by decide), Int.emod_lt_of_pos _ (by decide)⟩)
end
end Bh

set_option Elab.async false
set_option linter.all false
set_option maxRecDepth 100000
set_option maxHeartbeats 1000000
namespace Bh
open PySem PySem.Spec PyProof.Rows L2
section
variable {P : Program} {w : World} {K : PySem.W.Frag} {mg : Str → Option Value} {base : Heap}
theorem like_step (T : Top K mg) (n : Nat) (G_l_like : FnOk P w K mg base CX0 n T.a_l_like T.fd_l_like ["_law_found", "_law_due"] (spLk K n)) : FnOk P w K mg base CX0 (n + 1) T.a_l_like T.fd_l_like ["_law_found", "_law_due"] (spLk K (n + 1)) := by
  refine T.d_l_like.F.ok sc_l_like (fun vs H Q E h => ?_) (fun cdv A outer s H vs Q E hr h => ?_)
  · obtain ⟨x, y, d, rfl, _⟩ := h
    rfl
  obtain ⟨x, y, d, rfl, hx, hy, hs, q⟩ := h
  refine ⟨_, (pss_cons (ps_if (pt_cmpR op_isN (pv 1) pe_non (nomark _)) (pss_one (ps_ret (pe_cmpR op_isN (pv 0) pe_non (nomark _)))) pss_nil)
    (pss_cons (ps_if (pt_val (pe_callB (call_isi_K (K := K) (by rfl)) (by rfl) T.b_isinstance (by decide +kernel) (pa_cons (pv 1) (pa_cons (pe_tyN "dict" (by rfl) T.b_dict (by decide +kernel)) pa_nil)))) (pss_cons ps_never
      (pss_one ps_never)) pss_nil)
    (pss_cons (ps_if (pt_val (pe_callB (call_isiT_K (K := K) (by rfl)) (by rfl) T.b_isinstance (by decide +kernel) (pa_cons (pv 1) (pa_cons (pe_tup (pa_cons (pe_tyN "list" (by rfl) T.b_list (by decide +kernel)) (pa_cons (pe_tyN "tuple" (by rfl) T.b_tuple (by decide +kernel)) pa_nil))) pa_nil)))) (pss_cons (ps_if (PW.pt (pw_or (pt_cmpR op_ne (pe_callB (call_isi_K (K := K) (by rfl)) (by rfl) T.b_isinstance (by decide +kernel) (pa_cons (pv 0) (pa_cons (pe_tyN "list" (by rfl) T.b_list (by decide +kernel)) pa_nil))) (pe_callB (call_isi_K (K := K) (by rfl)) (by rfl) T.b_isinstance (by decide +kernel) (pa_cons (pv 1) (pa_cons (pe_tyN "list" (by rfl) T.b_list (by decide +kernel)) pa_nil))) (nomark _)) (pw_or1 (pt_cmpR op_ne (pe_callB (call_isi_K (K := K) (by rfl)) (by rfl) T.b_isinstance (by decide +kernel) (pa_cons (pv 0) (pa_cons (pe_tyN "tuple" (by rfl) T.b_tuple (by decide +kernel)) pa_nil))) (pe_callB (call_isi_K (K := K) (by rfl)) (by rfl) T.b_isinstance (by decide +kernel) (pa_cons (pv 1) (pa_cons (pe_tyN "tuple" (by rfl) T.b_tuple (by decide +kernel)) pa_nil))) (nomark _))))) (pss_one (ps_ret pe_bl)) pss_nil)
      (pss_one (ps_ret (pe_and (pe_cmpR op_eq (pe_callB (call_len_seq_K (K := K) (by rfl)) (by rfl) T.b_len PySem.boot_len (pa_cons (pv 0) pa_nil)) (pe_callB (call_len_seq_K (K := K) (by rfl)) (by rfl) T.b_len PySem.boot_len (pa_cons (pv 1) pa_nil)) (nomark _)) (pe_one (pe_callB (cr_all_K (K := K) (by rfl) rfl) (by rfl) T.b_all (by decide +kernel) (pa_cons (pe_lc (own := [("_law_one", 3), ("_law_other", 4)]) rfl sc_l_like.nd (pi_zipA_K (K := K) (by rfl) (by rfl) T.b_zip (pa_cons (pv 0) (pa_cons (pv 1) pa_nil))) (blkOk_by (own := [("_law_one", 3), ("_law_other", 4)]) (N := ["_law_found", "_law_due", "_law_key", "_law_one", "_law_other"]) (sc := defScope s_l_like) (by decide +kernel)) (fun _ _ _ _ _ => by exact (pg_tup_K (K := K) (by rfl) (n := 2) (by rfl) (pgs_cons (pg_name (i := 3) sc_l_like.nd rfl (Or.inl rfl)) (pgs_cons (pg_name (i := 4) sc_l_like.nd rfl (Or.inl rfl)) pgs_nil)))) (fun _ _ _ _ _ => by exact pts_nil) (fun _ _ _ _ _ => by exact (pe_call G_l_like hr (by rfl) T.d_l_like.g T.d_l_like.kp T.d_l_like.b .nil pass0 (pa_cons (pv 3) (pa_cons (pv 4) pa_nil))))) pa_nil))))))) pss_nil)
    (pss_cons (ps_if (PW.pt (pw_or (pt_cmpR op_ne (pe_callB (call_isi_K (K := K) (by rfl)) (by rfl) T.b_isinstance (by decide +kernel) (pa_cons (pv 0) (pa_cons (pe_tyN "bool" (by rfl) T.b_bool (by decide +kernel)) pa_nil))) (pe_callB (call_isi_K (K := K) (by rfl)) (by rfl) T.b_isinstance (by decide +kernel) (pa_cons (pv 1) (pa_cons (pe_tyN "bool" (by rfl) T.b_bool (by decide +kernel)) pa_nil))) (nomark _)) (pw_or1 (pt_cmpR op_ne (pe_callB (call_isi_K (K := K) (by rfl)) (by rfl) T.b_isinstance (by decide +kernel) (pa_cons (pv 0) (pa_cons (pe_tyN "int" (by rfl) T.b_int (by decide +kernel)) pa_nil))) (pe_callB (call_isi_K (K := K) (by rfl)) (by rfl) T.b_isinstance (by decide +kernel) (pa_cons (pv 1) (pa_cons (pe_tyN "int" (by rfl) T.b_int (by decide +kernel)) pa_nil))) (nomark _))))) (pss_one (ps_ret pe_bl)) pss_nil)
    (pss_one (ps_ret (pe_and (pe_cmpR op_eq (pe_callB (call_isi_K (K := K) (by rfl)) (by rfl) T.b_isinstance (by decide +kernel) (pa_cons (pv 0) (pa_cons (pe_tyN "str" (by rfl) T.b_str (by decide +kernel)) pa_nil))) (pe_callB (call_isi_K (K := K) (by rfl)) (by rfl) T.b_isinstance (by decide +kernel) (pa_cons (pv 1) (pa_cons (pe_tyN "str" (by rfl) T.b_str (by decide +kernel)) pa_nil))) (nomark _)) (pe_one (pe_cmpR op_eq (pv 0) (pv 1) (nomark _)))))))))), ?_⟩
  cases hx with
  | non =>
    cases hy
    refine ⟨_, rfl, rfl, _, rfl, iteY rfl ⟨_, rfl, rfl, ?_⟩⟩
    exact q _ (Same.refl _)
  | bl b =>
    cases hy
    refine ⟨_, rfl, rfl, _, rfl, iteN (by intro z; cases z) ?_⟩
    refine ⟨_, rfl, _, _, _, _, false, rfl, .ty _, .base (.bl b), kit_ty (by decide +kernel), _, rfl, iteF ?_⟩
    refine ⟨_, rfl, (by show 2 ≤ sizeLine; decide), fun p np => ⟨_, p, _, _, _, false, rfl, upd_same, .cons (.ty _) (.cons (.ty _) .nil), .base (.bl b), kitAny_cons (kit_ty (b := "list") (r := false) (by decide +kernel)) (fun _ => kitAny_cons (kit_ty (r := false) (by decide +kernel)) (fun _ => kitAny_nil) (fun z => nomatch z)) (fun z => nomatch z), _, rfl, iteF ?_⟩⟩
    refine ⟨_, rfl, _, _, _, _, true, rfl, .ty _, .base (.bl b), kit_ty (by decide +kernel), _, rfl, _, _, _, _, true, rfl, .ty _, .base (.bl b), kit_ty (by decide +kernel), rfl, _, rfl, iteNS rfl ?_⟩
    refine ⟨_, rfl, _, _, _, _, true, rfl, .ty _, .base (.bl b), kit_ty (by decide +kernel), _, rfl, _, _, _, _, true, rfl, .ty _, .base (.bl b), kit_ty (by decide +kernel), rfl, _, rfl, iteNS rfl ?_⟩
    refine ⟨_, rfl, _, _, _, _, false, rfl, .ty _, .base (.bl b), kit_ty (by decide +kernel), _, rfl, _, _, _, _, false, rfl, .ty _, .base (.bl b), kit_ty (by decide +kernel), rfl, _, rfl, iteY rfl ⟨_, rfl, _, rfl, rfl, q_eq (q _ (same_new np))⟩⟩
  | int i =>
    cases hy
    refine ⟨_, rfl, rfl, _, rfl, iteN (by intro z; cases z) ?_⟩
    refine ⟨_, rfl, _, _, _, _, false, rfl, .ty _, .base (.int i), kit_ty (by decide +kernel), _, rfl, iteF ?_⟩
    refine ⟨_, rfl, (by show 2 ≤ sizeLine; decide), fun p np => ⟨_, p, _, _, _, false, rfl, upd_same, .cons (.ty _) (.cons (.ty _) .nil), .base (.int i), kitAny_cons (kit_ty (b := "list") (r := false) (by decide +kernel)) (fun _ => kitAny_cons (kit_ty (r := false) (by decide +kernel)) (fun _ => kitAny_nil) (fun z => nomatch z)) (fun z => nomatch z), _, rfl, iteF ?_⟩⟩
    refine ⟨_, rfl, _, _, _, _, false, rfl, .ty _, .base (.int i), kit_ty (by decide +kernel), _, rfl, _, _, _, _, false, rfl, .ty _, .base (.int i), kit_ty (by decide +kernel), rfl, _, rfl, iteNS rfl ?_⟩
    refine ⟨_, rfl, _, _, _, _, true, rfl, .ty _, .base (.int i), kit_ty (by decide +kernel), _, rfl, _, _, _, _, true, rfl, .ty _, .base (.int i), kit_ty (by decide +kernel), rfl, _, rfl, iteNS rfl ?_⟩
    refine ⟨_, rfl, _, _, _, _, false, rfl, .ty _, .base (.int i), kit_ty (by decide +kernel), _, rfl, _, _, _, _, false, rfl, .ty _, .base (.int i), kit_ty (by decide +kernel), rfl, _, rfl, iteY rfl ⟨_, rfl, _, rfl, rfl, q_eq (q _ (same_new np))⟩⟩
  | str z =>
    cases hy
    refine ⟨_, rfl, rfl, _, rfl, iteN (by intro z; cases z) ?_⟩
    refine ⟨_, rfl, _, _, _, _, false, rfl, .ty _, .base (.str z), kit_ty (by decide +kernel), _, rfl, iteF ?_⟩
    refine ⟨_, rfl, (by show 2 ≤ sizeLine; decide), fun p np => ⟨_, p, _, _, _, false, rfl, upd_same, .cons (.ty _) (.cons (.ty _) .nil), .base (.str z), kitAny_cons (kit_ty (b := "list") (r := false) (by decide +kernel)) (fun _ => kitAny_cons (kit_ty (r := false) (by decide +kernel)) (fun _ => kitAny_nil) (fun z => nomatch z)) (fun z => nomatch z), _, rfl, iteF ?_⟩⟩
    refine ⟨_, rfl, _, _, _, _, false, rfl, .ty _, .base (.str z), kit_ty (by decide +kernel), _, rfl, _, _, _, _, false, rfl, .ty _, .base (.str z), kit_ty (by decide +kernel), rfl, _, rfl, iteNS rfl ?_⟩
    refine ⟨_, rfl, _, _, _, _, false, rfl, .ty _, .base (.str z), kit_ty (by decide +kernel), _, rfl, _, _, _, _, false, rfl, .ty _, .base (.str z), kit_ty (by decide +kernel), rfl, _, rfl, iteNS rfl ?_⟩
    refine ⟨_, rfl, _, _, _, _, true, rfl, .ty _, .base (.str z), kit_ty (by decide +kernel), _, rfl, _, _, _, _, true, rfl, .ty _, .base (.str z), kit_ty (by decide +kernel), rfl, _, rfl, iteY rfl ⟨_, rfl, _, rfl, rfl, q_eq (q _ (same_new np))⟩⟩
  | @lst a xs ds h1 h2 =>
    cases hy with
    | @lst b ys _ k1 k2 =>
    cases hs with
    | @lst m _ hl hall =>
    have lxy : xs.length = ys.length := (DpAll.length h2).trans (DpAll.length k2).symm
    refine ⟨_, rfl, rfl, _, rfl, iteN (by intro z; cases z) ?_⟩
    refine ⟨_, rfl, _, _, _, _, false, rfl, .ty _, tyL k1, kit_ty (by decide +kernel), _, rfl, iteF ?_⟩
    refine ⟨_, rfl, (by show 2 ≤ sizeLine; decide), fun p np => ⟨_, p, _, _, _, true, rfl, upd_same, .cons (.ty _) (.cons (.ty _) .nil), tyL ((same_new np).seq k1), kitAny_cons (kit_ty (b := "list") (r := true) (by decide +kernel)) (fun z => nomatch z) (fun _ => rfl), _, rfl, iteT ?_⟩⟩
    have e1 : Same H (upd H p (.tup [.ty "list", .ty "tuple"])) := same_new np
    have h1' := e1.seq h1
    have k1' := e1.seq k1
    refine ⟨_, rfl, _, _, _, _, true, rfl, .ty _, tyL h1', kit_ty (by decide +kernel), _, rfl, _, _, _, _, true, rfl, .ty _, tyL k1', kit_ty (by decide +kernel), rfl, _, rfl, iteNS rfl ?_⟩
    refine ⟨_, rfl, _, _, _, _, false, rfl, .ty _, tyL h1', kit_ty (by decide +kernel), _, rfl, _, _, _, _, false, rfl, .ty _, tyL k1', kit_ty (by decide +kernel), rfl, _, rfl, iteNS rfl ?_⟩
    refine ⟨_, rfl, a, xs, rfl, .inl h1', _, rfl, b, ys, rfl, .inl k1', rfl, _, rfl, iteY (by rw [lxy]) ?_⟩
    refine ⟨_, rfl, _, rfl, a, b, xs, ys, rfl, .inl ⟨h1', k1', fun D nD => ?_⟩⟩
    refine lc_it (walk_zip (n := xs.length) (by omega)) (fun i H' => Same (upd H p (.tup [.ty "list", .ty "tuple"])) H' ∧ H' D = some (.lst ((List.replicate i true).map V.bl))) ⟨same_new nD, upd_same⟩ (fun i H' _ p => ⟨p.1.seq h1', p.1.seq k1'⟩) ?_ ?_
    · rintro i v H' H'' hi ⟨s1, hD⟩ ⟨Tp, x', y', rfl, nT, rfl, ex, ey⟩
      refine ⟨Tp, [x', y'], rfl, .inl (.inl upd_same), rfl, x', [y'], rfl, y', [], rfl, rfl, rfl, ?_⟩
      obtain ⟨d', hm, hx', hy'⟩ := dpa_at h2 k2 ex ey
      have s2 := e1.trans (s1.trans (same_new (o := .tup [x', y']) nT))
      refine ⟨_, rfl, _, rfl, x', y', d', rfl, Dp.mono s2 hx', Dp.mono s2 hy', hall _ hm, fun H4 s4 => ?_⟩
      have lz : xs.length = ds.length := DpAll.length h2
      refine ⟨_, s4 _ _ ((upd_ne (ne_of_none hD nT)).trans hD), by rw [List.length_map, List.length_replicate]; exact lt_line (by omega), fun b' o e' => ?_, ?_⟩
      · have nb : b' ≠ D := ne_of_none e' nD
        rw [upd_ne nb]
        exact s4 _ _ (same_new nT _ _ (s1 _ _ e'))
      · rw [upd_same, List.replicate_succ', List.map_append]
        rfl
    · rintro H' ⟨s1, hD⟩
      refine ⟨D, List.replicate xs.length true, rfl, SqL.of hD, ?_⟩
      rw [bls_true]
      exact q _ (e1.trans s1)
  | @tup a xs ds h1 h2 =>
    cases hy with
    | @tup b ys _ k1 k2 =>
    cases hs with
    | @tup m _ hl hall =>
    have lxy : xs.length = ys.length := (DpAll.length h2).trans (DpAll.length k2).symm
    refine ⟨_, rfl, rfl, _, rfl, iteN (by intro z; cases z) ?_⟩
    refine ⟨_, rfl, _, _, _, _, false, rfl, .ty _, tyT k1, kit_ty (by decide +kernel), _, rfl, iteF ?_⟩
    refine ⟨_, rfl, (by show 2 ≤ sizeLine; decide), fun p np => ⟨_, p, _, _, _, true, rfl, upd_same, .cons (.ty _) (.cons (.ty _) .nil), tyT (Same.tup (same_new np) k1), kitAny_cons (kit_ty (b := "list") (r := false) (by decide +kernel)) (fun _ => kitAny_cons (kit_ty (r := true) (by decide +kernel)) (fun z => nomatch z) (fun _ => rfl)) (fun z => nomatch z), _, rfl, iteT ?_⟩⟩
    have e1 : Same H (upd H p (.tup [.ty "list", .ty "tuple"])) := same_new np
    have h1' := Same.tup e1 h1
    have k1' := Same.tup e1 k1
    refine ⟨_, rfl, _, _, _, _, false, rfl, .ty _, tyT h1', kit_ty (by decide +kernel), _, rfl, _, _, _, _, false, rfl, .ty _, tyT k1', kit_ty (by decide +kernel), rfl, _, rfl, iteNS rfl ?_⟩
    refine ⟨_, rfl, _, _, _, _, true, rfl, .ty _, tyT h1', kit_ty (by decide +kernel), _, rfl, _, _, _, _, true, rfl, .ty _, tyT k1', kit_ty (by decide +kernel), rfl, _, rfl, iteNS rfl ?_⟩
    refine ⟨_, rfl, a, xs, rfl, .inr h1', _, rfl, b, ys, rfl, .inr k1', rfl, _, rfl, iteY (by rw [lxy]) ?_⟩
    refine ⟨_, rfl, _, rfl, a, b, xs, ys, rfl, .inr ⟨h1', k1', fun D nD => ?_⟩⟩
    refine lc_it (walk_zipT (n := xs.length) (by omega)) (fun i H' => Same (upd H p (.tup [.ty "list", .ty "tuple"])) H' ∧ H' D = some (.lst ((List.replicate i true).map V.bl))) ⟨same_new nD, upd_same⟩ (fun i H' _ p => ⟨Same.tup p.1 h1', Same.tup p.1 k1'⟩) ?_ ?_
    · rintro i v H' H'' hi ⟨s1, hD⟩ ⟨Tp, x', y', rfl, nT, rfl, ex, ey⟩
      refine ⟨Tp, [x', y'], rfl, .inl (.inl upd_same), rfl, x', [y'], rfl, y', [], rfl, rfl, rfl, ?_⟩
      obtain ⟨d', hm, hx', hy'⟩ := dpa_at h2 k2 ex ey
      have s2 := e1.trans (s1.trans (same_new (o := .tup [x', y']) nT))
      refine ⟨_, rfl, _, rfl, x', y', d', rfl, Dp.mono s2 hx', Dp.mono s2 hy', hall _ hm, fun H4 s4 => ?_⟩
      have lz : xs.length = ds.length := DpAll.length h2
      refine ⟨_, s4 _ _ ((upd_ne (ne_of_none hD nT)).trans hD), by rw [List.length_map, List.length_replicate]; exact lt_line (by omega), fun b' o e' => ?_, ?_⟩
      · have nb : b' ≠ D := ne_of_none e' nD
        rw [upd_ne nb]
        exact s4 _ _ (same_new nT _ _ (s1 _ _ e'))
      · rw [upd_same, List.replicate_succ', List.map_append]
        rfl
    · rintro H' ⟨s1, hD⟩
      refine ⟨D, List.replicate xs.length true, rfl, SqL.of hD, ?_⟩
      rw [bls_true]
      exact q _ (e1.trans s1)
theorem ok_like (T : Top K mg) : ∀ n : Nat, FnOk P w K mg base CX0 n T.a_l_like T.fd_l_like ["_law_found", "_law_due"] (spLk K n)
  | 0 => ⟨fun _ _ _ _ h => h.elim, fun _ _ _ _ _ _ _ _ _ _ _ _ _ h => h.elim⟩
  | n + 1 => like_step T n (ok_like T n)
end
end Bh

set_option Elab.async false
set_option linter.all false
set_option maxRecDepth 100000
set_option maxHeartbeats 1000000
namespace Bh
open PySem PySem.Spec PyProof.Rows L2
def spPos (K : PySem.W.Frag) : Sp := fun vs H Q _ => ∃ (v : V) (fs : List Fld) (x : Str), vs = [v, .str x] ∧ DpS K H v (fs.map dF) ∧ x ∈ fs.map (·.1) ∧ fs.length ≤ 1000 ∧ ∀ H', Same H H' → Q (.int (posOf fs x : Nat)) H'
def spNext (K : PySem.W.Frag) : Sp := fun vs H Q _ => ∃ (a : Addr) (os : List Str) (o : Str), vs = [.ref a, .str o] ∧ SqP K H a (os.map V.str) ∧ o ∈ os ∧ Q (.str (nextO os o)) H
def spTest (K : PySem.W.Frag) : Sp := fun vs H Q _ => ∃ (v t y : V) (fs : List Fld) (c : Tst) (w : List Str), vs = [v, t, y] ∧ FsAt K H v fs ∧ fs.length ≤ 1000 ∧ Dp K H t (dT c) ∧ Dp K H y (dV w) ∧ FitT fs c ∧ FitV fs w ∧ ∀ H', Same H H' → Q (.bl (holdsT fs w c)) H'
def spAfter (K : PySem.W.Frag) : Sp := fun vs H Q _ => ∃ (v t y : V) (fs : List Fld) (ss : List Stp) (w : List Str), vs = [v, t, y] ∧ FsAt K H v fs ∧ fs.length ≤ 1000 ∧ Dp K H t (.tuple (ss.map dS)) ∧ ss.length ≤ 1000 ∧ Dp K H y (dV w) ∧ (∀ s ∈ ss, FitS fs s) ∧ FitV fs w ∧
  ∀ H' r, Same H H' → Dp K H' r (dV (stepped fs ss w)) → Q r H'
def spApply (K : PySem.W.Frag) : Sp := fun vs H Q _ => ∃ (v t y : V) (fs : List Fld) (p : List Cas) (h : Option (List Str)), vs = [v, t, y] ∧ FsAt K H v fs ∧ fs.length ≤ 1000 ∧ Dp K H t (.tuple (p.map dC)) ∧ Dp K H y (dH h) ∧ (∀ c ∈ p, FitC fs c) ∧ (∀ w, h = some w → FitV fs w) ∧
  ∀ H' r, Same H H' → Dp K H' r (dH (applyH fs p h)) → Q r H'
section
variable {P : Program} {w : World} {K : PySem.W.Frag} {mg : Str → Option Value} {base : Heap}
theorem ok_position (T : Top K mg) : FnOk P w K mg base CX0 1 T.a_position T.fd_position ["fields", "field"] (spPos K) := by
  refine T.d_position.F.ok sc_position (fun vs H Q E h => ?_) (fun cdv A outer s H vs Q E hr h => ?_)
  · obtain ⟨v, fs, x, rfl, _⟩ := h
    rfl
  obtain ⟨v, fs, x, rfl, ⟨a, xs, rfl, hS, hD⟩, hx, hl, q⟩ := h
  refine ⟨_, (pss_one (ps_ret (pe_bm_K (K := K) (by rfl) PySem.F.plainAttrs_list PySem.F.slot_list_index PySem.F.type_list_index (mt_index_K (K := K) (by rfl)) (pe_lc (own := [("name", 2), ("options", 3)]) rfl sc_position.nd (pi_seq_K (K := K) (by rfl) (pv 0)) (blkOk_by (own := [("name", 2), ("options", 3)]) (N := ["fields", "field", "name", "options"]) (sc := defScope s_position) (by decide +kernel)) (fun _ _ _ _ _ => by exact (pg_tup_K (K := K) (by rfl) (n := 2) (by rfl) (pgs_cons (pg_name (i := 2) sc_position.nd rfl (Or.inl rfl)) (pgs_cons (pg_name (i := 3) sc_position.nd rfl (Or.inl rfl)) pgs_nil)))) (fun _ _ _ _ _ => by exact pts_nil) (fun _ _ _ _ _ => by exact (pv 2))) (pa_cons (pv 1) pa_nil)))), ?_⟩
  have lx : xs.length = fs.length := by rw [DpAll.length hD, List.length_map]
  refine iSeqV rfl hS fun J G wk hG D nD => ?_
  refine lc_it wk (fun i H' => Same H H' ∧ H' D = some (.lst (((fs.map (·.1)).take i).map V.str))) ⟨same_new nD, upd_same⟩ (fun i H' _ p => hG H' p.1) ?_ ?_
  · rintro i y H' H'' hi ⟨s1, hDl⟩ ⟨rfl, ey⟩
    obtain ⟨d, e1, e2⟩ := DpAll.get hD ey
    rw [List.getElem?_map] at e1
    cases ef : fs[i]? with
    | none =>
      rw [ef] at e1
      cases e1
    | some f =>
      rw [ef] at e1
      cases e1
      obtain ⟨t, o, rfl, k1, k2⟩ := dp_dF (Dp.mono s1 e2)
      refine ⟨t, _, rfl, k1, rfl, _, _, rfl, _, _, rfl, rfl, rfl, ?_⟩
      refine ⟨_, rfl, _, hDl, ?_, ?_, ?_⟩
      · rw [List.length_map, List.length_take, List.length_map]
        exact lt_line (by omega)
      · exact fun b o' e' => by
          rw [upd_ne (ne_of_none e' nD)]
          exact s1 _ _ e'
      · rw [upd_same, List.take_add_one, List.getElem?_map, ef, List.map_append]
        rfl
  · rintro H' ⟨s1, hDl⟩
    rw [lx, List.take_of_length_le (by rw [List.length_map]; exact Nat.le_refl _)] at hDl
    refine ⟨.inl ⟨rfl, _, SqL.of hDl⟩, _, rfl, D, _, _, ix (fs.map (·.1)) x, _, rfl, rfl, SqL.of hDl, rfl, flat_strs _, ixs_at hx, by rw [eqV_str]; exact decide_eq_true rfl, ixs_no, ?_⟩
    exact q _ s1
theorem ok_next (T : Top K mg) : FnOk P w K mg base CX0 1 T.a_next_option T.fd_next_option ["options", "option"] (spNext K) := by
  refine T.d_next_option.F.ok sc_next_option (fun vs H Q E h => ?_) (fun cdv A outer s H vs Q E hr h => ?_)
  · obtain ⟨v, fs, x, rfl, _⟩ := h
    rfl
  obtain ⟨a, os, o, rfl, hS, ho, q⟩ := h
  refine ⟨_, (pss_cons (ps_set (i := 2) sc_next_option.nd rfl (Or.inl rfl) (pe_op op_add (pe_bm_P (K := K) (by rfl) PySem.F.plainAttrs_tuple PySem.F.slot_tuple_index PySem.F.type_tuple_index (mt_tup_index_K (K := K) (by rfl)) (pv 0) (pa_cons (pv 1) pa_nil)) pe_int))
    (pss_one (ps_ret (pe_ix (ix_tup_K (K := K) (by rfl)) (pv 0) (pe_callB (call_min2 rfl) (by rfl) T.b_min (by decide +kernel) (pa_cons (pv 2) (pa_cons (pe_op op_sub (pe_callB (call_len_seq_K (K := K) (by rfl)) (by rfl) T.b_len PySem.boot_len (pa_cons (pv 0) pa_nil)) pe_int) pa_nil))) (fun _ _ => rfl))))), ?_⟩
  have hl := ix_lt ho
  refine ⟨_, rfl, ⟨a, _, rfl, hS⟩, _, rfl, a, os, o, ix os o, rfl, rfl, hS.sqT, ix_get ho, fun m hm => ix_first hm, _, _, rfl, rfl, ?_⟩
  refine ⟨_, rfl, _, rfl, _, rfl, a, _, rfl, .inr hS.sqT, _, _, rfl, rfl, _, _, rfl, ?_⟩
  refine ⟨a, _, _, .str (nextO os o), rfl, rfl, hS.sqT, ?_, q⟩
  rw [List.length_map]
  have e : (if ((os.length : Int) - 1) < ((ix os o : Nat) : Int) + 1 then ((os.length : Int) - 1) else ((ix os o : Nat) : Int) + 1) = ((min (ix os o + 1) (os.length - 1) : Nat) : Int) := by
    split <;> omega
  rw [e]
  exact atI_nat (by rw [List.getElem?_map, (next_mem ho).1]; rfl)
theorem ok_test (T : Top K mg) : FnOk P w K mg base CX0 2 T.a_test_holds T.fd_test_holds ["fields", "test", "value"] (spTest K) := by
  have G_position := ok_position (P := P) (w := w) (base := base) T
  refine T.d_test_holds.F.ok sc_test_holds (fun vs H Q E h => ?_) (fun cdv A outer s H vs Q E hr h => ?_)
  · obtain ⟨v, t, y, fs, c, w, rfl, _⟩ := h
    rfl
  obtain ⟨v, t, y, fs, c, w, rfl, hF, hl, hT, hY, fT, fV, q⟩ := h
  refine ⟨_, (pss_cons (ps_asg (pv 1) (pg_tup_K (K := K) (by rfl) (n := 3) (by rfl) (pgs_cons (pg_name (i := 3) sc_test_holds.nd rfl (Or.inl rfl)) (pgs_cons (pg_name (i := 4) sc_test_holds.nd rfl (Or.inl rfl)) (pgs_cons (pg_name (i := 5) sc_test_holds.nd rfl (Or.inl rfl)) pgs_nil)))))
    (pss_cons (ps_set (i := 6) sc_test_holds.nd rfl (Or.inl rfl) (pe_call G_position (hr.mono (by decide)) (by rfl) T.d_position.g T.d_position.kp T.d_position.b .nil pass0 (pa_cons (pv 0) (pa_cons (pv 3) pa_nil))))
    (pss_cons (ps_set (i := 7) sc_test_holds.nd rfl (Or.inl rfl) (pe_ix (ix_tup_K (K := K) (by rfl)) (pe_ix (ix_seq_K (K := K) (by rfl)) (pv 0) (pv 6) (fun _ _ => rfl)) pe_int (fun _ _ => rfl)))
    (pss_cons (ps_par (i := 8) (j := 9) (by rfl) sc_test_holds.nd rfl rfl (by decide) rfl rfl (pa_cons (pe_bm_P (K := K) (by rfl) PySem.F.plainAttrs_tuple PySem.F.slot_tuple_index PySem.F.type_tuple_index (mt_tup_index_K (K := K) (by rfl)) (pv 7) (pa_cons (pe_ix (ix_tup_K (K := K) (by rfl)) (pv 2) (pv 6) (fun _ _ => rfl)) pa_nil)) (pa_cons (pe_bm_P (K := K) (by rfl) PySem.F.plainAttrs_tuple PySem.F.slot_tuple_index PySem.F.type_tuple_index (mt_tup_index_K (K := K) (by rfl)) (pv 7) (pa_cons (pv 5) pa_nil)) pa_nil)) (by rfl))
    (pss_cons (ps_if (pt_cmpR op_eq (pv 4) pe_str (nomark _)) (pss_one (ps_ret (pe_cmpR op_eq (pv 8) (pv 9) (nomark _)))) pss_nil)
    (pss_cons (ps_if (pt_cmpR op_eq (pv 4) pe_str (nomark _)) (pss_one (ps_ret (pe_cmpR op_ne (pv 8) (pv 9) (nomark _)))) pss_nil)
    (pss_cons (ps_if (pt_cmpR op_eq (pv 4) pe_str (nomark _)) (pss_one (ps_ret (pe_cmpR op_lt (pv 8) (pv 9) (nomark _)))) pss_nil)
    (pss_one (ps_ret (pe_cmpR op_gt (pv 8) (pv 9) (nomark _))))))))))), ?_⟩
  obtain ⟨a, rfl, hT'⟩ := dp_dT hT
  obtain ⟨b, rfl, hY'⟩ := dp_dV hY
  refine ⟨_, rfl, a, _, rfl, hT', rfl, _, _, rfl, _, _, rfl, _, _, rfl, rfl, ?_⟩
  refine ⟨_, rfl, _, rfl, v, fs, c.1, rfl, hF.dpS, fT.1, hl, fun H1 s1 => ?_⟩
  obtain ⟨a0, xs, t0, o, rfl, hS, hat, hT0, hP⟩ := (hF.mono s1).opts fT.1
  refine ⟨_, rfl, _, rfl, rIx_go hS hat ⟨_, _, _, _, rfl, rfl, hT0, rfl, ?_⟩⟩
  obtain ⟨z, g1, g2, g3⟩ := fit_at fV fT.1
  refine ⟨_, rfl, ⟨o, _, rfl, hP⟩, _, rfl, _, rfl, _, _, _, .str z, rfl, rfl, Same.tup s1 hY', atI_nat (by rw [List.getElem?_map, g1]; rfl), o, optsOf fs c.1, z, ix (optsOf fs c.1) z, rfl, rfl, hP.sqT, ix_get g2, fun m hm => ix_first hm, ?_⟩
  refine ⟨_, rfl, ⟨o, _, rfl, hP⟩, _, rfl, o, optsOf fs c.1, c.2.2, ix (optsOf fs c.1) c.2.2, rfl, rfl, hP.sqT, ix_get fT.2, fun m hm => ix_first hm, _, _, rfl, ?_⟩
  refine ⟨_, rfl, rfl, _, rfl, ite3 (fun e => ?_) (fun e1 => ?_)⟩
  · refine ⟨_, rfl, _, rfl, rfl, ?_⟩
    have k := q H1 s1
    unfold holdsT at k
    rw [if_pos (V.str.inj e), g3, ← dec_int] at k
    exact k
  refine ⟨_, rfl, rfl, _, rfl, ite3 (fun e => ?_) (fun e2 => ?_)⟩
  · refine ⟨_, rfl, _, rfl, rfl, ?_⟩
    have k := q H1 s1
    unfold holdsT at k
    rw [if_neg (str_ne e1), if_pos (V.str.inj e), g3, ← dec_int] at k
    exact k
  refine ⟨_, rfl, rfl, _, rfl, ite3 (fun e => ?_) (fun e3 => ?_)⟩
  · refine ⟨_, rfl, _, rfl, _, _, rfl, rfl, ?_⟩
    have k := q H1 s1
    unfold holdsT at k
    rw [if_neg (str_ne e1), if_neg (str_ne e2), if_pos (V.str.inj e), g3, ← dec_lt] at k
    exact k
  · refine ⟨_, rfl, _, rfl, _, _, rfl, rfl, ?_⟩
    have k := q H1 s1
    unfold holdsT at k
    rw [if_neg (str_ne e1), if_neg (str_ne e2), if_neg (str_ne e3), g3, ← dec_lt] at k
    exact k
theorem ok_after (T : Top K mg) : FnOk P w K mg base CX0 2 T.a_after_steps T.fd_after_steps ["fields", "steps", "value"] (spAfter K) := by
  have G_position := ok_position (P := P) (w := w) (base := base) T
  have G_next_option := ok_next (P := P) (w := w) (base := base) T
  refine T.d_after_steps.F.ok sc_after_steps (fun vs H Q E h => ?_) (fun cdv A outer s H vs Q E hr h => ?_)
  · obtain ⟨v, t, y, fs, ss, w, rfl, _⟩ := h
    rfl
  obtain ⟨v, t, y, fs, ss, w, rfl, hF, hl, hT, hls, hY, fS, fV, q⟩ := h
  refine ⟨_, (pss_cons (ps_set (i := 3) sc_after_steps.nd rfl (Or.inl rfl) (pe_callTy (call_list_of_K (K := K) (by rfl)) (by rfl) T.b_list (by decide +kernel) (pa_cons (pv 2) pa_nil)))
    (pss_cons (ps_for PassesOwn.never rfl (pi_tup_K (K := K) (by rfl) (pv 1)) (pg_tup_K (K := K) (by rfl) (n := 2) (by rfl) (pgs_cons (pg_name (i := 4) sc_after_steps.nd rfl (Or.inl rfl)) (pgs_cons (pg_name (i := 5) sc_after_steps.nd rfl (Or.inl rfl)) pgs_nil)))
      (pss_cons (ps_set (i := 6) sc_after_steps.nd rfl (Or.inl rfl) (pe_call G_position (hr.mono (by decide)) (by rfl) T.d_position.g T.d_position.kp T.d_position.b .nil pass0 (pa_cons (pv 0) (pa_cons (pv 4) pa_nil))))
      (pss_one (ps_if (pt_cmpR op_eq (pv 5) (pe_gS rfl T.g_NEXT) (nomark _)) (pss_one (ps_asg (pe_call G_next_option (hr.mono (by decide)) (by rfl) T.d_next_option.g T.d_next_option.kp T.d_next_option.b .nil pass0 (pa_cons (pe_ix (ix_tup_K (K := K) (by rfl)) (pe_ix (ix_seq_K (K := K) (by rfl)) (pv 0) (pv 6) (fun _ _ => rfl)) pe_int (fun _ _ => rfl)) (pa_cons (pe_ix (ix_list_K (K := K) (by rfl)) (pv 3) (pv 6) (fun _ _ => rfl)) pa_nil))) (pg_sub (pv 3) (pv 6) set_list))) (pss_one (ps_asg (pv 5) (pg_sub (pv 3) (pv 6) set_list)))))))
    (pss_one (ps_ret (pe_callTy (call_tuple_of_P (K := K) (by rfl)) (by rfl) T.b_tuple (by decide +kernel) (pa_cons (pv 3) pa_nil)))))), ?_⟩
  obtain ⟨a, xs, rfl, hT', hD⟩ := dp_tup hT
  obtain ⟨b, rfl, hY'⟩ := dp_dV hY
  have lx : xs.length = ss.length := by rw [DpAll.length hD, List.length_map]
  refine ⟨_, rfl, b, _, rfl, .inr hY', fun l nl => ?_⟩
  refine ⟨_, rfl, a, rfl, ⟨_, Same.tup (same_new nl) hT'⟩, for_it walk_tup (fun i σ H' => ∃ x4 x5 x6, σ = [some v, some (.ref a), some (.ref b), some (.ref l), x4, x5, x6] ∧ Same H H' ∧ H' l = some (.lst ((stepped fs (ss.take i) w).map V.str)))
    ⟨none, none, none, rfl, same_new nl, upd_same⟩ (fun i σ H' _ ⟨_, _, _, _, e, _⟩ => Same.tup e hT') ?_ ?_⟩
  · rintro i x σ H' H'' hi ⟨x4, x5, x6, rfl, s1, hL⟩ ⟨rfl, ex⟩
    obtain ⟨d, e1, e2⟩ := DpAll.get hD ex
    rw [List.getElem?_map] at e1
    cases es : ss[i]? with
    | none =>
      rw [es] at e1
      cases e1
    | some st =>
      rw [es] at e1
      cases e1
      have fs1 := fS st (List.mem_of_getElem? es)
      have fw : FitV fs (stepped fs (ss.take i) w) := stepped_fit (fun s' hs' => fS s' (List.mem_of_mem_take hs')) fV
      obtain ⟨c, rfl, hC⟩ := dp_dS (Dp.mono s1 e2)
      obtain ⟨z, g1, g2, g3⟩ := fit_at fw fs1.1
      have stp := stepped_take (fs := fs) (v := w) es
      refine ⟨c, _, rfl, hC, rfl, _, _, rfl, _, _, rfl, rfl, ?_⟩
      refine ⟨_, rfl, _, rfl, v, fs, st.1, rfl, (hF.mono s1).dpS, fs1.1, hl, fun H1 s2 => ?_⟩
      have hL1 := s2 _ _ hL
      have hj : posOf fs st.1 < (stepped fs (ss.take i) w).length := (List.getElem?_eq_some_iff.mp g1).1
      have hix : ixN ((stepped fs (ss.take i) w).map V.str).length ((posOf fs st.1 : Nat) : Int) = some (posOf fs st.1) := by
        unfold ixN
        rw [if_pos (by omega), List.length_map]
        simp [hj]
      have fin : ∀ (H2 : Hp) (o : Str), Same H1 H2 → H2 l = H1 l → stepO fs (stepped fs (ss.take i) w) st = (stepped fs (ss.take i) w).set (posOf fs st.1) o → Same H (upd H2 l (.lst (((stepped fs (ss.take i) w).map V.str).set (posOf fs st.1) (.str o)))) ∧ (upd H2 l (.lst (((stepped fs (ss.take i) w).map V.str).set (posOf fs st.1) (.str o)))) l = some (.lst ((stepped fs (ss.take (i + 1)) w).map V.str)) := fun H2 o s3 _ eo => by
        refine ⟨fun b' o' e' => ?_, ?_⟩
        · rw [upd_ne (ne_of_none e' nl)]
          exact s3 _ _ (s2 _ _ (s1 _ _ e'))
        · rw [upd_same, stp, eo, List.map_set]
      refine ⟨_, rfl, rfl, _, rfl, ite3 (fun e => ?_) (fun e => ?_)⟩
      · obtain ⟨a0, ys, t0, o, rfl, hS, hat, hT0, hP⟩ := (hF.mono (s1.trans s2)).opts fs1.1
        refine ⟨_, rfl, _, rfl, rIx_go hS hat ⟨_, _, _, _, rfl, rfl, hT0, rfl, ?_⟩⟩
        refine ⟨_, rfl, _, rfl, _, _, _, .str z, rfl, rfl, SqL.of hL1, atI_nat (by rw [List.getElem?_map, g1]; rfl), ?_⟩
        refine ⟨o, _, z, rfl, hP, g2, ?_⟩
        refine ⟨_, rfl, _, rfl, l, _, _, posOf fs st.1, rfl, rfl, hL1, hix, ?_⟩
        obtain ⟨f1, f2⟩ := fin H1 (nextO (optsOf fs st.1) z) (Same.refl _) rfl (by unfold stepO; rw [if_pos (V.str.inj e), g3])
        exact ⟨_, _, _, rfl, f1, f2⟩
      · refine ⟨_, rfl, _, rfl, _, rfl, l, _, _, posOf fs st.1, rfl, rfl, hL1, hix, ?_⟩
        obtain ⟨f1, f2⟩ := fin H1 st.2 (Same.refl _) rfl (by unfold stepO; rw [if_neg (str_ne e)])
        exact ⟨_, _, _, rfl, f1, f2⟩
  · rintro σ H' ⟨x4, x5, x6, rfl, s1, hL⟩
    rw [lx, List.take_length] at hL
    refine ⟨_, rfl, l, _, rfl, .inl ⟨SqL.of hL, fun p o np hd => ?_⟩⟩
    exact q _ _ (s1.trans (same_new np)) (dV_dp (SqP.new (K := K) hd).sqT)
theorem ok_applied (T : Top K mg) : FnOk P w K mg base CX0 3 T.a_applied T.fd_applied ["fields", "program", "holding"] (spApply K) := by
  have G_test_holds := ok_test (P := P) (w := w) (base := base) T
  have G_after_steps := ok_after (P := P) (w := w) (base := base) T
  refine T.d_applied.F.ok sc_applied (fun vs H Q E h => ?_) (fun cdv A outer s H vs Q E hr h => ?_)
  · obtain ⟨v, t, y, fs, p, h, rfl, _⟩ := h
    rfl
  obtain ⟨v, t, y, fs, p, ho, rfl, hF, hl, hP, hY, fC, fV, q⟩ := h
  refine ⟨_, (pss_cons (ps_if (pt_cmpR op_isN (pv 2) pe_non (nomark _)) (pss_one (ps_ret pe_non)) pss_nil)
    (pss_cons (ps_for PassesOwn.never rfl (pi_tup_K (K := K) (by rfl) (pv 1)) (pg_tup_K (K := K) (by rfl) (n := 2) (by rfl) (pgs_cons (pg_name (i := 3) sc_applied.nd rfl (Or.inl rfl)) (pgs_cons (pg_name (i := 4) sc_applied.nd rfl (Or.inl rfl)) pgs_nil)))
      (pss_one (ps_if (pt_val (pe_callB (cr_all_K (K := K) (by rfl) rfl) (by rfl) T.b_all (by decide +kernel) (pa_cons (pe_lc (own := [("test", 5)]) rfl sc_applied.nd (pi_tup_K (K := K) (by rfl) (pv 3)) (blkOk_by (own := [("test", 5)]) (N := ["fields", "program", "holding", "tests", "steps", "test"]) (sc := defScope s_applied) (by decide +kernel)) (fun _ _ _ _ _ => by exact (pg_name (i := 5) sc_applied.nd rfl (Or.inl rfl))) (fun _ _ _ _ _ => by exact pts_nil) (fun _ _ _ _ _ => by exact (pe_call G_test_holds (hr.mono (by decide)) (by rfl) T.d_test_holds.g T.d_test_holds.kp T.d_test_holds.b .nil pass0 (pa_cons (pv 0) (pa_cons (pv 5) (pa_cons (pv 2) pa_nil)))))) pa_nil))) (pss_one (ps_ret (pe_ifExp (pt_cmpR op_isN (pv 4) pe_non (nomark _)) pe_non (pe_call G_after_steps (hr.mono (by decide)) (by rfl) T.d_after_steps.g T.d_after_steps.kp T.d_after_steps.b .nil pass0 (pa_cons (pv 0) (pa_cons (pv 4) (pa_cons (pv 2) pa_nil))))))) pss_nil)))
    (pss_one (ps_ret pe_non)))), ?_⟩
  cases ho with
  | none =>
    cases dp_non hY
    exact ⟨_, rfl, rfl, _, rfl, iteY rfl (q _ _ (Same.refl _) .non)⟩
  | some w =>
  have fV := fV w rfl
  obtain ⟨b, rfl, hY'⟩ := dp_dV hY
  obtain ⟨a, xs, rfl, hP', hD⟩ := dp_tup hP
  have lx : xs.length = p.length := by rw [DpAll.length hD, List.length_map]
  refine ⟨_, rfl, rfl, _, rfl, iteN (by intro z; cases z) ?_⟩
  refine ⟨_, rfl, a, rfl, ⟨_, hP'⟩, for_it walk_tup (fun i σ H' => ∃ x3 x4 x5, σ = [some v, some (.ref a), some (.ref b), x3, x4, x5] ∧ Same H H' ∧ applyP fs p w = applyP fs (p.drop i) w)
    ⟨none, none, none, rfl, Same.refl _, rfl⟩ (fun i σ H' _ ⟨_, _, _, _, e, _⟩ => Same.tup e hP') ?_ ?_⟩
  · rintro i x σ H' H'' hi ⟨x3, x4, x5, rfl, s1, ed⟩ ⟨rfl, ex⟩
    obtain ⟨d, e1, e2⟩ := DpAll.get hD ex
    rw [List.getElem?_map] at e1
    cases es : p[i]? with
    | none =>
      rw [es] at e1
      cases e1
    | some c =>
      rw [es] at e1
      cases e1
      have fc := fC c (List.mem_of_getElem? es)
      have hi2 : i < p.length := (List.getElem?_eq_some_iff.mp es).1
      have dr : p.drop i = c :: p.drop (i + 1) := by
        rw [List.drop_eq_getElem_cons hi2, (List.getElem?_eq_some_iff.mp es).2]
      obtain ⟨cc, tt, yy, rfl, hC, hTs, hSt⟩ := dp_dC (Dp.mono s1 e2)
      obtain ⟨_, ts, hz, hTs', hDt⟩ := dp_tup hTs
      cases hz
      have lt : ts.length = c.1.length := by rw [DpAll.length hDt, List.length_map]
      refine ⟨cc, _, rfl, hC, rfl, _, _, rfl, _, _, rfl, rfl, ?_⟩
      refine ⟨_, rfl, tt, rfl, ⟨_, hTs'⟩, fun D nD => ?_⟩
      refine lc_it walk_tup (fun j H2 => Same H'' H2 ∧ H2 D = some (.lst (((c.1.map (holdsT fs w)).take j).map V.bl))) ⟨same_new nD, upd_same⟩ (fun j H2 _ p => Same.tup p.1 hTs') ?_ ?_
      · rintro j z H2 H3 hj ⟨s2, hDl⟩ ⟨rfl, ez⟩
        obtain ⟨d2, g1, g2⟩ := DpAll.get hDt ez
        rw [List.getElem?_map] at g1
        cases et : c.1[j]? with
        | none =>
          rw [et] at g1
          cases g1
        | some tst =>
          rw [et] at g1
          cases g1
          refine ⟨rfl, ?_⟩
          refine ⟨_, rfl, _, rfl, _, rfl, v, z, .ref b, fs, tst, w, rfl, hF.mono (s1.trans s2), hl, Dp.mono s2 g2, Dp.mono (s1.trans s2) hY, fc.t _ (List.mem_of_getElem? et), fV, fun H4 s4 => ⟨_, s4 _ _ hDl, ?_, ?_, ?_⟩⟩
          · rw [List.length_map, List.length_take, List.length_map]
            have := fc.lt
            exact lt_line (by omega)
          · exact fun b' o' e' => by
              rw [upd_ne (ne_of_none e' nD)]
              exact s4 _ _ (s2 _ _ e')
          · rw [upd_same, List.take_add_one, List.getElem?_map, et, List.map_append]
            rfl
      · rintro H2 ⟨s2, hDl⟩
        rw [lt, List.take_of_length_le (by rw [List.length_map]; exact Nat.le_refl _)] at hDl
        refine ⟨D, _, rfl, SqL.of hDl, _, rfl, ?_⟩
        have ea : (c.1.map (holdsT fs w)).all id = c.1.all (holdsT fs w) := by rw [List.all_map]; rfl
        rw [ea]
        have sH := s1.trans s2
        by_cases hall : c.1.all (holdsT fs w) = true
        · rw [hall]
          have res : applyH fs p (some w) = c.2.map (fun ss => stepped fs ss w) := by
            show applyP fs p w = _
            rw [ed, dr]
            show (if c.1.all (holdsT fs w) = true then c.2.map (fun ss => stepped fs ss w) else applyP fs (p.drop (i + 1)) w) = _
            rw [if_pos hall]
          cases e3 : c.2 with
          | none =>
            rw [e3] at hSt res
            cases dp_non hSt
            refine ⟨_, rfl, rfl, _, rfl, iteY rfl ?_⟩
            refine q _ _ sH ?_
            rw [res]
            exact .non
          | some ss =>
            rw [e3] at hSt res
            obtain ⟨sa, sxs, rfl, k1, k2⟩ := dp_tup hSt
            refine ⟨_, rfl, rfl, _, rfl, iteN (by intro z; cases z) ?_⟩
            refine ⟨_, rfl, _, rfl, _, rfl, v, .ref sa, .ref b, fs, ss, w, rfl, hF.mono sH, hl, Dp.mono s2 hSt, fc.ls ss e3, Dp.mono sH hY, fc.s ss e3, fV, fun H4 r s4 hr4 => ?_⟩
            refine q _ _ (sH.trans s4) ?_
            rw [res]
            exact hr4
        · rw [Bool.eq_false_iff.mpr hall]
          refine ⟨_, _, _, rfl, sH, ?_⟩
          rw [ed, dr]
          show (if c.1.all (holdsT fs w) = true then c.2.map (fun ss => stepped fs ss w) else applyP fs (p.drop (i + 1)) w) = _
          rw [if_neg hall]
  · rintro σ H' ⟨x3, x4, x5, rfl, s1, ed⟩
    refine q _ _ s1 ?_
    have res : applyH fs p (some w) = none := by
      show applyP fs p w = none
      rw [ed, lx, List.drop_length]
      rfl
    rw [res]
    exact .non
end
end Bh

set_option Elab.async false
set_option linter.all false
set_option maxRecDepth 100000
set_option maxHeartbeats 1000000
namespace Bh
open PySem PySem.Spec PyProof.Rows L2
section
variable {P : Program} {w : World} {K : PySem.W.Frag} {mg : Str → Option Value} {base : Heap}
theorem ok_lat (T : Top K mg) : FnOk P w K mg base CX0 1 T.a_l_at T.fd_l_at ["_law_fields_z", "_law_name"] (spPos K) := by
  refine T.d_l_at.F.ok sc_l_at (fun vs H Q E h => ?_) (fun cdv A outer s H vs Q E hr h => ?_)
  · obtain ⟨v, fs, x, rfl, _⟩ := h
    rfl
  obtain ⟨v, fs, x, rfl, ⟨a, xs, rfl, hS, hD⟩, hx, hl, q⟩ := h
  refine ⟨_, (pss_one (ps_ret (pe_bm_K (K := K) (by rfl) PySem.F.plainAttrs_list PySem.F.slot_list_index PySem.F.type_list_index (mt_index_K (K := K) (by rfl)) (pe_lc (own := [("_law_field", 2)]) rfl sc_l_at.nd (pi_seq_K (K := K) (by rfl) (pv 0)) (blkOk_by (own := [("_law_field", 2)]) (N := ["_law_fields_z", "_law_name", "_law_field"]) (sc := defScope s_l_at) (by decide +kernel)) (fun _ _ _ _ _ => by exact (pg_name (i := 2) sc_l_at.nd rfl (Or.inl rfl))) (fun _ _ _ _ _ => by exact pts_nil) (fun _ _ _ _ _ => by exact (pe_ix (ix_tup_K (K := K) (by rfl)) (pv 2) pe_int (fun _ _ => rfl)))) (pa_cons (pv 1) pa_nil)))), ?_⟩
  have lx : xs.length = fs.length := by rw [DpAll.length hD, List.length_map]
  refine iSeqV rfl hS fun J G wk hG D nD => ?_
  refine lc_it wk (fun i H' => Same H H' ∧ H' D = some (.lst (((fs.map (·.1)).take i).map V.str))) ⟨same_new nD, upd_same⟩ (fun i H' _ p => hG H' p.1) ?_ ?_
  · rintro i y H' H'' hi ⟨s1, hDl⟩ ⟨rfl, ey⟩
    obtain ⟨d, e1, e2⟩ := DpAll.get hD ey
    rw [List.getElem?_map] at e1
    cases ef : fs[i]? with
    | none =>
      rw [ef] at e1
      cases e1
    | some f =>
      rw [ef] at e1
      cases e1
      obtain ⟨t, o, rfl, k1, k2⟩ := dp_dF (Dp.mono s1 e2)
      refine ⟨rfl, ?_⟩
      refine ⟨_, rfl, _, _, _, _, rfl, rfl, k1, rfl, _, hDl, ?_, ?_, ?_⟩
      · rw [List.length_map, List.length_take, List.length_map]
        exact lt_line (by omega)
      · exact fun b o' e' => by
          rw [upd_ne (ne_of_none e' nD)]
          exact s1 _ _ e'
      · rw [upd_same, List.take_add_one, List.getElem?_map, ef, List.map_append]
        rfl
  · rintro H' ⟨s1, hDl⟩
    rw [lx, List.take_of_length_le (by rw [List.length_map]; exact Nat.le_refl _)] at hDl
    refine ⟨.inl ⟨rfl, _, SqL.of hDl⟩, _, rfl, D, _, _, ix (fs.map (·.1)) x, _, rfl, rfl, SqL.of hDl, rfl, flat_strs _, ixs_at hx, by rw [eqV_str]; exact decide_eq_true rfl, ixs_no, ?_⟩
    exact q _ s1
theorem ok_lholds (T : Top K mg) : FnOk P w K mg base CX0 2 T.a_l_holds T.fd_l_holds ["_law_fields_z", "_law_test", "_law_value"] (spTest K) := by
  have G_l_at := ok_lat (P := P) (w := w) (base := base) T
  refine T.d_l_holds.F.ok sc_l_holds (fun vs H Q E h => ?_) (fun cdv A outer s H vs Q E hr h => ?_)
  · obtain ⟨v, t, y, fs, c, w, rfl, _⟩ := h
    rfl
  obtain ⟨v, t, y, fs, c, w, rfl, hF, hl, hT, hY, fT, fV, q⟩ := h
  refine ⟨_, (pss_cons (ps_set (i := 3) sc_l_holds.nd rfl (Or.inl rfl) (pe_call G_l_at (hr.mono (by decide)) (by rfl) T.d_l_at.g T.d_l_at.kp T.d_l_at.b .nil pass0 (pa_cons (pv 0) (pa_cons (pe_ix (ix_tup_K (K := K) (by rfl)) (pv 1) pe_int (fun _ _ => rfl)) pa_nil))))
    (pss_cons (ps_set (i := 4) sc_l_holds.nd rfl (Or.inl rfl) (pe_ix (ix_tup_K (K := K) (by rfl)) (pe_ix (ix_seq_K (K := K) (by rfl)) (pv 0) (pv 3) (fun _ _ => rfl)) pe_int (fun _ _ => rfl)))
    (pss_cons (ps_set (i := 5) sc_l_holds.nd rfl (Or.inl rfl) (pe_bm_P (K := K) (by rfl) PySem.F.plainAttrs_tuple PySem.F.slot_tuple_index PySem.F.type_tuple_index (mt_tup_index_K (K := K) (by rfl)) (pv 4) (pa_cons (pe_ix (ix_tup_K (K := K) (by rfl)) (pv 2) (pv 3) (fun _ _ => rfl)) pa_nil)))
    (pss_cons (ps_set (i := 6) sc_l_holds.nd rfl (Or.inl rfl) (pe_bm_P (K := K) (by rfl) PySem.F.plainAttrs_tuple PySem.F.slot_tuple_index PySem.F.type_tuple_index (mt_tup_index_K (K := K) (by rfl)) (pv 4) (pa_cons (pe_ix (ix_tup_K (K := K) (by rfl)) (pv 1) pe_int (fun _ _ => rfl)) pa_nil)))
    (pss_cons (ps_if (pt_cmpR (op_in_seq_K (K := K) (by rfl)) (pe_ix (ix_tup_K (K := K) (by rfl)) (pv 1) pe_int (fun _ _ => rfl)) (pe_tup (pa_cons pe_str (pa_cons pe_str pa_nil))) (by rfl)) (pss_one (ps_ret (pe_cmpR op_eq (pe_cmpR op_eq (pv 5) (pv 6) (nomark _)) (pe_cmpR op_eq (pe_ix (ix_tup_K (K := K) (by rfl)) (pv 1) pe_int (fun _ _ => rfl)) pe_str (nomark _)) (nomark _)))) pss_nil)
    (pss_one (ps_ret (pe_ifExp (pt_cmpR op_eq (pe_ix (ix_tup_K (K := K) (by rfl)) (pv 1) pe_int (fun _ _ => rfl)) pe_str (nomark _)) (pe_cmpR op_lt (pv 5) (pv 6) (nomark _)) (pe_cmpR op_gt (pv 5) (pv 6) (nomark _)))))))))), ?_⟩
  obtain ⟨a, rfl, hT'⟩ := dp_dT hT
  obtain ⟨b, rfl, hY'⟩ := dp_dV hY
  refine ⟨_, rfl, _, rfl, _, _, _, _, rfl, rfl, hT', rfl, v, fs, c.1, rfl, hF.dpS, fT.1, hl, fun H1 s1 => ?_⟩
  obtain ⟨a0, xs, t0, o, rfl, hS, hat, hT0, hP⟩ := (hF.mono s1).opts fT.1
  have hT1 := Same.tup s1 hT'
  refine ⟨_, rfl, _, rfl, rIx_go hS hat ⟨_, _, _, _, rfl, rfl, hT0, rfl, ?_⟩⟩
  obtain ⟨z, g1, g2, g3⟩ := fit_at fV fT.1
  refine ⟨_, rfl, ⟨o, _, rfl, hP⟩, _, rfl, _, rfl, _, _, _, .str z, rfl, rfl, Same.tup s1 hY', atI_nat (by rw [List.getElem?_map, g1]; rfl), o, optsOf fs c.1, z, ix (optsOf fs c.1) z, rfl, rfl, hP.sqT, ix_get g2, fun m hm => ix_first hm, ?_⟩
  refine ⟨_, rfl, ⟨o, _, rfl, hP⟩, _, rfl, _, _, _, _, rfl, rfl, hT1, rfl, o, optsOf fs c.1, c.2.2, ix (optsOf fs c.1) c.2.2, rfl, rfl, hP.sqT, ix_get fT.2, fun m hm => ix_first hm, ?_⟩
  refine ⟨_, rfl, _, _, _, _, rfl, rfl, hT1, rfl, (by show 2 ≤ sizeLine; decide), fun p np => ?_⟩
  refine ⟨p, _, rfl, .inr (SqT.of upd_same), rfl, rfl, _, rfl, ?_⟩
  have s2 : Same H1 (upd H1 p (.tup [.str "=", .str "!"])) := same_new np
  have hT2 := Same.tup s2 hT1
  have k := q _ (s1.trans s2)
  unfold holdsT at k
  by_cases e1 : c.2.1 = "="
  · rw [if_pos e1, g3] at k
    have ei : inV (.str c.2.1) [.str "=", .str "!"] = true := by
      rw [e1]
      decide
    show if inV (.str c.2.1) [.str "=", .str "!"] = true then _ else _
    rw [if_pos ei]
    refine ⟨_, rfl, _, rfl, rfl, _, rfl, _, _, _, _, rfl, rfl, hT2, rfl, rfl, rfl, ?_⟩
    have e2 : decide (V.str c.2.1 = V.str "=") = true := decide_eq_true (by rw [e1])
    rw [e2, dec_int]
    cases hb : decide (ix (optsOf fs c.1) z = ix (optsOf fs c.1) c.2.2) with
    | true =>
      rw [hb] at k
      exact k
    | false =>
      rw [hb] at k
      exact k
  · by_cases e2 : c.2.1 = "!"
    · rw [if_neg e1, if_pos e2, g3] at k
      have ei : inV (.str c.2.1) [.str "=", .str "!"] = true := by
        rw [e2]
        decide
      show if inV (.str c.2.1) [.str "=", .str "!"] = true then _ else _
      rw [if_pos ei]
      refine ⟨_, rfl, _, rfl, rfl, _, rfl, _, _, _, _, rfl, rfl, hT2, rfl, rfl, rfl, ?_⟩
      have e3 : decide (V.str c.2.1 = V.str "=") = false := decide_eq_false (fun z => e1 (V.str.inj z))
      rw [e3, dec_int]
      cases hb : decide (ix (optsOf fs c.1) z = ix (optsOf fs c.1) c.2.2) with
      | true =>
        rw [hb] at k
        exact k
      | false =>
        rw [hb] at k
        exact k
    · have ei : inV (.str c.2.1) [.str "=", .str "!"] = false := by
        show (eqV (.str "=") (.str c.2.1) || (eqV (.str "!") (.str c.2.1) || false)) = false
        rw [eqV_str, eqV_str, decide_eq_false (fun z => e1 z.symm), decide_eq_false (fun z => e2 z.symm)]
        rfl
      show if inV (.str c.2.1) [.str "=", .str "!"] = true then _ else _
      rw [ei, if_neg Bool.false_ne_true]
      rw [if_neg e1, if_neg e2, g3] at k
      refine ⟨_, rfl, _, _, _, _, rfl, rfl, hT2, rfl, rfl, _, rfl, ite3 (fun e => ?_) (fun e3 => ?_)⟩
      · refine ⟨_, rfl, _, rfl, _, _, rfl, rfl, ?_⟩
        rw [if_pos (V.str.inj e), ← dec_lt] at k
        exact k
      · refine ⟨_, rfl, _, rfl, _, _, rfl, rfl, ?_⟩
        rw [if_neg (str_ne e3), ← dec_lt] at k
        exact k
theorem ok_lstepped (T : Top K mg) : FnOk P w K mg base CX0 2 T.a_l_stepped T.fd_l_stepped ["_law_fields_z", "_law_steps", "_law_value"] (spAfter K) := by
  have G_l_at := ok_lat (P := P) (w := w) (base := base) T
  refine T.d_l_stepped.F.ok sc_l_stepped (fun vs H Q E h => ?_) (fun cdv A outer s H vs Q E hr h => ?_)
  · obtain ⟨v, t, y, fs, ss, w, rfl, _⟩ := h
    rfl
  obtain ⟨v, t, y, fs, ss, w, rfl, hF, hl, hT, hls, hY, fS, fV, q⟩ := h
  refine ⟨_, (pss_cons (ps_set (i := 3) sc_l_stepped.nd rfl (Or.inl rfl) (pe_callTy (call_list_of_K (K := K) (by rfl)) (by rfl) T.b_list (by decide +kernel) (pa_cons (pv 2) pa_nil)))
    (pss_cons (ps_for PassesOwn.never rfl (pi_tup_K (K := K) (by rfl) (pv 1)) (pg_tup_K (K := K) (by rfl) (n := 2) (by rfl) (pgs_cons (pg_name (i := 4) sc_l_stepped.nd rfl (Or.inl rfl)) (pgs_cons (pg_name (i := 5) sc_l_stepped.nd rfl (Or.inl rfl)) pgs_nil)))
      (pss_cons (ps_set (i := 6) sc_l_stepped.nd rfl (Or.inl rfl) (pe_call G_l_at (hr.mono (by decide)) (by rfl) T.d_l_at.g T.d_l_at.kp T.d_l_at.b .nil pass0 (pa_cons (pv 0) (pa_cons (pv 4) pa_nil))))
      (pss_cons (ps_set (i := 7) sc_l_stepped.nd rfl (Or.inl rfl) (pe_ix (ix_tup_K (K := K) (by rfl)) (pe_ix (ix_seq_K (K := K) (by rfl)) (pv 0) (pv 6) (fun _ _ => rfl)) pe_int (fun _ _ => rfl)))
      (pss_one (ps_asg (pe_ifExp (pt_cmpR op_eq (pv 5) pe_str (nomark _)) (pe_ix (ix_tup_K (K := K) (by rfl)) (pv 7) (pe_callB (call_min2 rfl) (by rfl) T.b_min (by decide +kernel) (pa_cons (pe_op op_add (pe_bm_P (K := K) (by rfl) PySem.F.plainAttrs_tuple PySem.F.slot_tuple_index PySem.F.type_tuple_index (mt_tup_index_K (K := K) (by rfl)) (pv 7) (pa_cons (pe_ix (ix_list_K (K := K) (by rfl)) (pv 3) (pv 6) (fun _ _ => rfl)) pa_nil)) pe_int) (pa_cons (pe_op op_sub (pe_callB (call_len_seq_K (K := K) (by rfl)) (by rfl) T.b_len PySem.boot_len (pa_cons (pv 7) pa_nil)) pe_int) pa_nil))) (fun _ _ => rfl)) (pv 5)) (pg_sub (pv 3) (pv 6) set_list))))))
    (pss_one (ps_ret (pe_callTy (call_tuple_of_P (K := K) (by rfl)) (by rfl) T.b_tuple (by decide +kernel) (pa_cons (pv 3) pa_nil)))))), ?_⟩
  obtain ⟨a, xs, rfl, hT', hD⟩ := dp_tup hT
  obtain ⟨b, rfl, hY'⟩ := dp_dV hY
  have lx : xs.length = ss.length := by rw [DpAll.length hD, List.length_map]
  refine ⟨_, rfl, b, _, rfl, .inr hY', fun l nl => ?_⟩
  refine ⟨_, rfl, a, rfl, ⟨_, Same.tup (same_new nl) hT'⟩, for_it walk_tup (fun i σ H' => ∃ x4 x5 x6 x7, σ = [some v, some (.ref a), some (.ref b), some (.ref l), x4, x5, x6, x7] ∧ Same H H' ∧ H' l = some (.lst ((stepped fs (ss.take i) w).map V.str)))
    ⟨none, none, none, none, rfl, same_new nl, upd_same⟩ (fun i σ H' _ ⟨_, _, _, _, _, e, _⟩ => Same.tup e hT') ?_ ?_⟩
  · rintro i x σ H' H'' hi ⟨x4, x5, x6, x7, rfl, s1, hL⟩ ⟨rfl, ex⟩
    obtain ⟨d, e1, e2⟩ := DpAll.get hD ex
    rw [List.getElem?_map] at e1
    cases es : ss[i]? with
    | none =>
      rw [es] at e1
      cases e1
    | some st =>
      rw [es] at e1
      cases e1
      have fs1 := fS st (List.mem_of_getElem? es)
      have fw : FitV fs (stepped fs (ss.take i) w) := stepped_fit (fun s' hs' => fS s' (List.mem_of_mem_take hs')) fV
      obtain ⟨c, rfl, hC⟩ := dp_dS (Dp.mono s1 e2)
      obtain ⟨z, g1, g2, g3⟩ := fit_at fw fs1.1
      have stp := stepped_take (fs := fs) (v := w) es
      refine ⟨c, _, rfl, hC, rfl, _, _, rfl, _, _, rfl, rfl, ?_⟩
      refine ⟨_, rfl, _, rfl, v, fs, st.1, rfl, (hF.mono s1).dpS, fs1.1, hl, fun H1 s2 => ?_⟩
      have hL1 := s2 _ _ hL
      have hj : posOf fs st.1 < (stepped fs (ss.take i) w).length := (List.getElem?_eq_some_iff.mp g1).1
      have hix : ixN ((stepped fs (ss.take i) w).map V.str).length ((posOf fs st.1 : Nat) : Int) = some (posOf fs st.1) := by
        unfold ixN
        rw [if_pos (by omega), List.length_map]
        simp [hj]
      have fin : ∀ (H2 : Hp) (o : Str), Same H1 H2 → H2 l = H1 l → stepO fs (stepped fs (ss.take i) w) st = (stepped fs (ss.take i) w).set (posOf fs st.1) o → Same H (upd H2 l (.lst (((stepped fs (ss.take i) w).map V.str).set (posOf fs st.1) (.str o)))) ∧ (upd H2 l (.lst (((stepped fs (ss.take i) w).map V.str).set (posOf fs st.1) (.str o)))) l = some (.lst ((stepped fs (ss.take (i + 1)) w).map V.str)) := fun H2 o s3 _ eo => by
        refine ⟨fun b' o' e' => ?_, ?_⟩
        · rw [upd_ne (ne_of_none e' nl)]
          exact s3 _ _ (s2 _ _ (s1 _ _ e'))
        · rw [upd_same, stp, eo, List.map_set]
      obtain ⟨a0, ys, t0, o, rfl, hS, hat, hT0, hP⟩ := (hF.mono (s1.trans s2)).opts fs1.1
      refine ⟨_, rfl, _, rfl, rIx_go hS hat ⟨_, _, _, _, rfl, rfl, hT0, rfl, ?_⟩⟩
      have lo : ((optsOf fs st.1).map V.str).length = (optsOf fs st.1).length := List.length_map _
      refine ⟨_, rfl, rfl, _, rfl, ite3 (fun e => ?_) (fun e => ?_)⟩
      · refine ⟨_, rfl, _, rfl, ⟨o, _, rfl, hP⟩, _, rfl, _, rfl, _, _, _, .str z, rfl, rfl, SqL.of hL1, atI_nat (by rw [List.getElem?_map, g1]; rfl), o, optsOf fs st.1, z, ix (optsOf fs st.1) z, rfl, rfl, hP.sqT, ix_get g2, fun m hm => ix_first hm, _, _, rfl, rfl, ?_⟩
        refine ⟨_, rfl, o, _, rfl, .inr hP.sqT, _, _, rfl, rfl, _, _, rfl, ?_⟩
        refine ⟨o, _, _, .str (nextO (optsOf fs st.1) z), rfl, rfl, hP.sqT, ?_, ?_⟩
        · rw [List.length_map]
          have e : (if (((optsOf fs st.1).length : Int) - 1) < ((ix (optsOf fs st.1) z : Nat) : Int) + 1 then (((optsOf fs st.1).length : Int) - 1) else ((ix (optsOf fs st.1) z : Nat) : Int) + 1) = ((min (ix (optsOf fs st.1) z + 1) ((optsOf fs st.1).length - 1) : Nat) : Int) := by
            have := ix_lt g2
            split <;> omega
          rw [e]
          exact atI_nat (by rw [List.getElem?_map, (next_mem g2).1]; rfl)
        refine ⟨_, rfl, _, rfl, l, _, _, posOf fs st.1, rfl, rfl, hL1, hix, ?_⟩
        obtain ⟨f1, f2⟩ := fin H1 (nextO (optsOf fs st.1) z) (Same.refl _) rfl (by unfold stepO; rw [if_pos (V.str.inj e), g3])
        exact ⟨_, _, _, _, rfl, f1, f2⟩
      · refine ⟨_, rfl, _, rfl, _, rfl, l, _, _, posOf fs st.1, rfl, rfl, hL1, hix, ?_⟩
        obtain ⟨f1, f2⟩ := fin H1 st.2 (Same.refl _) rfl (by unfold stepO; rw [if_neg (str_ne e)])
        exact ⟨_, _, _, _, rfl, f1, f2⟩
  · rintro σ H' ⟨x4, x5, x6, x7, rfl, s1, hL⟩
    rw [lx, List.take_length] at hL
    refine ⟨_, rfl, l, _, rfl, .inl ⟨SqL.of hL, fun p o np hd => ?_⟩⟩
    exact q _ _ (s1.trans (same_new np)) (dV_dp (SqP.new (K := K) hd).sqT)
theorem ok_lapplied (T : Top K mg) : FnOk P w K mg base CX0 3 T.a_l_applied T.fd_l_applied ["_law_fields_z", "_law_program_z", "_law_holding_z"] (spApply K) := by
  have G_l_holds := ok_lholds (P := P) (w := w) (base := base) T
  have G_l_stepped := ok_lstepped (P := P) (w := w) (base := base) T
  refine T.d_l_applied.F.ok sc_l_applied (fun vs H Q E h => ?_) (fun cdv A outer s H vs Q E hr h => ?_)
  · obtain ⟨v, t, y, fs, p, h, rfl, _⟩ := h
    rfl
  obtain ⟨v, t, y, fs, p, ho, rfl, hF, hl, hP, hY, fC, fV, q⟩ := h
  refine ⟨_, (pss_cons (ps_if (pt_cmpR op_isN (pv 2) pe_non (nomark _)) (pss_one (ps_ret pe_non)) pss_nil)
    (pss_cons (ps_for PassesOwn.never rfl (pi_tup_K (K := K) (by rfl) (pv 1)) (pg_tup_K (K := K) (by rfl) (n := 2) (by rfl) (pgs_cons (pg_name (i := 3) sc_l_applied.nd rfl (Or.inl rfl)) (pgs_cons (pg_name (i := 4) sc_l_applied.nd rfl (Or.inl rfl)) pgs_nil)))
      (pss_one (ps_if (pt_val (pe_callB (cr_all_K (K := K) (by rfl) rfl) (by rfl) T.b_all (by decide +kernel) (pa_cons (pe_lc (own := [("_law_test", 5)]) rfl sc_l_applied.nd (pi_tup_K (K := K) (by rfl) (pv 3)) (blkOk_by (own := [("_law_test", 5)]) (N := ["_law_fields_z", "_law_program_z", "_law_holding_z", "_law_tests", "_law_steps", "_law_test"]) (sc := defScope s_l_applied) (by decide +kernel)) (fun _ _ _ _ _ => by exact (pg_name (i := 5) sc_l_applied.nd rfl (Or.inl rfl))) (fun _ _ _ _ _ => by exact pts_nil) (fun _ _ _ _ _ => by exact (pe_call G_l_holds (hr.mono (by decide)) (by rfl) T.d_l_holds.g T.d_l_holds.kp T.d_l_holds.b .nil pass0 (pa_cons (pv 0) (pa_cons (pv 5) (pa_cons (pv 2) pa_nil)))))) pa_nil))) (pss_one (ps_ret (pe_ifExp (pt_cmpR op_isN (pv 4) pe_non (nomark _)) pe_non (pe_call G_l_stepped (hr.mono (by decide)) (by rfl) T.d_l_stepped.g T.d_l_stepped.kp T.d_l_stepped.b .nil pass0 (pa_cons (pv 0) (pa_cons (pv 4) (pa_cons (pv 2) pa_nil))))))) pss_nil)))
    (pss_one (ps_ret pe_non)))), ?_⟩
  cases ho with
  | none =>
    cases dp_non hY
    exact ⟨_, rfl, rfl, _, rfl, iteY rfl (q _ _ (Same.refl _) .non)⟩
  | some w =>
  have fV := fV w rfl
  obtain ⟨b, rfl, hY'⟩ := dp_dV hY
  obtain ⟨a, xs, rfl, hP', hD⟩ := dp_tup hP
  have lx : xs.length = p.length := by rw [DpAll.length hD, List.length_map]
  refine ⟨_, rfl, rfl, _, rfl, iteN (by intro z; cases z) ?_⟩
  refine ⟨_, rfl, a, rfl, ⟨_, hP'⟩, for_it walk_tup (fun i σ H' => ∃ x3 x4 x5, σ = [some v, some (.ref a), some (.ref b), x3, x4, x5] ∧ Same H H' ∧ applyP fs p w = applyP fs (p.drop i) w)
    ⟨none, none, none, rfl, Same.refl _, rfl⟩ (fun i σ H' _ ⟨_, _, _, _, e, _⟩ => Same.tup e hP') ?_ ?_⟩
  · rintro i x σ H' H'' hi ⟨x3, x4, x5, rfl, s1, ed⟩ ⟨rfl, ex⟩
    obtain ⟨d, e1, e2⟩ := DpAll.get hD ex
    rw [List.getElem?_map] at e1
    cases es : p[i]? with
    | none =>
      rw [es] at e1
      cases e1
    | some c =>
      rw [es] at e1
      cases e1
      have fc := fC c (List.mem_of_getElem? es)
      have hi2 : i < p.length := (List.getElem?_eq_some_iff.mp es).1
      have dr : p.drop i = c :: p.drop (i + 1) := by
        rw [List.drop_eq_getElem_cons hi2, (List.getElem?_eq_some_iff.mp es).2]
      obtain ⟨cc, tt, yy, rfl, hC, hTs, hSt⟩ := dp_dC (Dp.mono s1 e2)
      obtain ⟨_, ts, hz, hTs', hDt⟩ := dp_tup hTs
      cases hz
      have lt : ts.length = c.1.length := by rw [DpAll.length hDt, List.length_map]
      refine ⟨cc, _, rfl, hC, rfl, _, _, rfl, _, _, rfl, rfl, ?_⟩
      refine ⟨_, rfl, tt, rfl, ⟨_, hTs'⟩, fun D nD => ?_⟩
      refine lc_it walk_tup (fun j H2 => Same H'' H2 ∧ H2 D = some (.lst (((c.1.map (holdsT fs w)).take j).map V.bl))) ⟨same_new nD, upd_same⟩ (fun j H2 _ p => Same.tup p.1 hTs') ?_ ?_
      · rintro j z H2 H3 hj ⟨s2, hDl⟩ ⟨rfl, ez⟩
        obtain ⟨d2, g1, g2⟩ := DpAll.get hDt ez
        rw [List.getElem?_map] at g1
        cases et : c.1[j]? with
        | none =>
          rw [et] at g1
          cases g1
        | some tst =>
          rw [et] at g1
          cases g1
          refine ⟨rfl, ?_⟩
          refine ⟨_, rfl, _, rfl, _, rfl, v, z, .ref b, fs, tst, w, rfl, hF.mono (s1.trans s2), hl, Dp.mono s2 g2, Dp.mono (s1.trans s2) hY, fc.t _ (List.mem_of_getElem? et), fV, fun H4 s4 => ⟨_, s4 _ _ hDl, ?_, ?_, ?_⟩⟩
          · rw [List.length_map, List.length_take, List.length_map]
            have := fc.lt
            exact lt_line (by omega)
          · exact fun b' o' e' => by
              rw [upd_ne (ne_of_none e' nD)]
              exact s4 _ _ (s2 _ _ e')
          · rw [upd_same, List.take_add_one, List.getElem?_map, et, List.map_append]
            rfl
      · rintro H2 ⟨s2, hDl⟩
        rw [lt, List.take_of_length_le (by rw [List.length_map]; exact Nat.le_refl _)] at hDl
        refine ⟨D, _, rfl, SqL.of hDl, _, rfl, ?_⟩
        have ea : (c.1.map (holdsT fs w)).all id = c.1.all (holdsT fs w) := by rw [List.all_map]; rfl
        rw [ea]
        have sH := s1.trans s2
        by_cases hall : c.1.all (holdsT fs w) = true
        · rw [hall]
          have res : applyH fs p (some w) = c.2.map (fun ss => stepped fs ss w) := by
            show applyP fs p w = _
            rw [ed, dr]
            show (if c.1.all (holdsT fs w) = true then c.2.map (fun ss => stepped fs ss w) else applyP fs (p.drop (i + 1)) w) = _
            rw [if_pos hall]
          cases e3 : c.2 with
          | none =>
            rw [e3] at hSt res
            cases dp_non hSt
            refine ⟨_, rfl, rfl, _, rfl, iteY rfl ?_⟩
            refine q _ _ sH ?_
            rw [res]
            exact .non
          | some ss =>
            rw [e3] at hSt res
            obtain ⟨sa, sxs, rfl, k1, k2⟩ := dp_tup hSt
            refine ⟨_, rfl, rfl, _, rfl, iteN (by intro z; cases z) ?_⟩
            refine ⟨_, rfl, _, rfl, _, rfl, v, .ref sa, .ref b, fs, ss, w, rfl, hF.mono sH, hl, Dp.mono s2 hSt, fc.ls ss e3, Dp.mono sH hY, fc.s ss e3, fV, fun H4 r s4 hr4 => ?_⟩
            refine q _ _ (sH.trans s4) ?_
            rw [res]
            exact hr4
        · rw [Bool.eq_false_iff.mpr hall]
          refine ⟨_, _, _, rfl, sH, ?_⟩
          rw [ed, dr]
          show (if c.1.all (holdsT fs w) = true then c.2.map (fun ss => stepped fs ss w) else applyP fs (p.drop (i + 1)) w) = _
          rw [if_neg hall]
  · rintro σ H' ⟨x3, x4, x5, rfl, s1, ed⟩
    refine q _ _ s1 ?_
    have res : applyH fs p (some w) = none := by
      show applyP fs p w = none
      rw [ed, lx, List.drop_length]
      rfl
    rw [res]
    exact .non
end
end Bh

set_option Elab.async false
set_option linter.all false
set_option maxRecDepth 100000
set_option maxHeartbeats 1000000
namespace Bh
open PySem PySem.Spec PyProof.Rows L2
section
variable {P : Program} {w : World} {K : PySem.W.Frag} {mg : Str → Option Value} {base : Heap}
theorem ok_any (T : Top K mg) : FnOk P w K mg base CX0 2 T.a_l_any T.fd_l_any ["_law_bag_here", "_law_row"] (spAny K) := by
  have G_l_draw := ok_draw (P := P) (w := w) (base := base) T
  refine T.d_l_any.F.ok sc_l_any (fun vs H Q E h => ?_) (fun cdv A outer s H vs Q E hr h => ?_)
  · obtain ⟨b, l, a, G, xs, rfl, _⟩ := h
    rfl
  obtain ⟨b, l, a, G, xs, rfl, hS, ne, hl, wd, q⟩ := h
  refine ⟨_, (pss_one (ps_ret (pe_ix (ix_seq_K (K := K) (by rfl)) (pv 1) (pe_call G_l_draw (hr.mono (by decide)) (by rfl) T.d_l_draw.g T.d_l_draw.kp T.d_l_draw.b .nil pass0 (pa_cons (pv 0) (pa_cons (pe_callB (call_len_seq_K (K := K) (by rfl)) (by rfl) T.b_len PySem.boot_len (pa_cons (pv 1) pa_nil)) pa_nil))) (fun _ _ => rfl)))), ?_⟩
  have hp : 0 < xs.length := List.length_pos_iff.mpr ne
  refine ⟨_, rfl, _, rfl, _, rfl, a, xs, rfl, seq_mono wd.sm hS, b, l, G, _, rfl, by omega, by omega, wd, fun r H1 r0 r1 w1 => ?_⟩
  obtain ⟨v, e, hm⟩ := at_lt r0 r1
  exact rIx_go (seq_mono w1.sm hS) e (q v H1 hm w1)
theorem ok_mixed (T : Top K mg) : FnOk P w K mg base CX0 2 T.a_l_mixed T.fd_l_mixed ["_law_bag_here", "_law_row"] (spMixed K) := by
  have G_l_draw := ok_draw (P := P) (w := w) (base := base) T
  refine T.d_l_mixed.F.ok sc_l_mixed (fun vs H Q E h => ?_) (fun cdv A outer s H vs Q E hr h => ?_)
  · obtain ⟨b, l, a, G, xs, rfl, _⟩ := h
    rfl
  obtain ⟨b, l, a, G, xs, rfl, hS, hl, wd, q⟩ := h
  refine ⟨_, (pss_cons (ps_set (i := 2) sc_l_mixed.nd rfl (Or.inl rfl) (pe_lst pa_nil))
    (pss_cons (ps_for PassesOwn.never rfl (pi_list_K (K := K) (by rfl) (pv 1)) (pg_name (i := 3) sc_l_mixed.nd rfl (Or.inl rfl))
      (pss_one (ps_expr (pe_bm_K (K := K) (by rfl) PySem.F.plainAttrs_list PySem.F.slot_list_insert PySem.F.type_list_insert mt_insert (pv 2) (pa_cons (pe_call G_l_draw (hr.mono (by decide)) (by rfl) T.d_l_draw.g T.d_l_draw.kp T.d_l_draw.b .nil pass0 (pa_cons (pv 0) (pa_cons (pe_op op_add (pe_callB (call_len_seq_K (K := K) (by rfl)) (by rfl) T.b_len PySem.boot_len (pa_cons (pv 2) pa_nil)) pe_int) pa_nil))) (pa_cons (pv 3) pa_nil))))))
    (pss_one (ps_ret (pv 2))))), ?_⟩
  refine ⟨Nat.zero_le _, fun p np => ?_⟩
  have gp : G p = none := wd.free np
  refine ⟨_, rfl, a, rfl, ⟨_, (wd.sm.trans (same_new np)).seq hS⟩, for_it walk_list (fun i σ H' => ∃ v3 G' ys, σ = [some (.ref b), some (.ref a), some (.ref p), v3] ∧ Same G G' ∧ Wd b l G' H' ∧ G' p = some (.lst ys) ∧ ys.Perm (xs.take i))
    ⟨none, _, [], rfl, same_new gp, wd.new np, upd_same, .nil⟩ (fun i σ H' _ ⟨_, _, _, _, e, w', _⟩ => (e.trans w'.sm).seq hS) ?_ ?_⟩
  · rintro i x σ H' H'' hi ⟨v3, G', ys, rfl, sg, w1, hp, pm⟩ ⟨rfl, ex⟩
    have ly : ys.length = i := by
      rw [pm.length_eq, List.length_take]
      omega
    refine ⟨_, rfl, .inl ⟨rfl, _, SqL.of (w1.sm _ _ hp)⟩, _, rfl, _, rfl, p, ys, rfl, .inl (SqL.of (w1.sm _ _ hp)), _, _, rfl, rfl, b, l, G', _, rfl, by omega, by omega, w1, fun r H1 r0 r1 w2 => ?_⟩
    refine ⟨_, rfl, p, ys, r, x, rfl, rfl, w2.sm _ _ hp, lt_line (by omega), r0, by omega, ?_⟩
    refine ⟨_, _, ys.take r.toNat ++ [x] ++ ys.drop r.toNat, rfl, same_mut sg gp, w2.mut hp, upd_same, ?_⟩
    have e : xs.take (i + 1) = xs.take i ++ [x] := by rw [List.take_add_one, ex]; rfl
    rw [e]
    have k : (ys.take r.toNat ++ [x] ++ ys.drop r.toNat).Perm (ys.take r.toNat ++ ys.drop r.toNat ++ [x]) := by
      rw [List.append_assoc, List.append_assoc]
      exact List.Perm.append_left _ List.perm_append_comm
    rw [List.take_append_drop] at k
    exact k.trans (pm.append_right [x])
  · rintro σ H' ⟨v3, G', ys, rfl, sg, w1, hp, pm⟩
    rw [List.take_length] at pm
    exact ⟨_, rfl, q G' H' p ys sg w1 hp pm⟩
theorem ok_words (T : Top K mg) : FnOk P w K mg base CX0 3 T.a_l_words T.fd_l_words ["_law_bag_here", "_law_many"] spWords := by
  have G_l_draw := ok_draw (P := P) (w := w) (base := base) T
  have G_l_any := ok_any (P := P) (w := w) (base := base) T
  refine T.d_l_words.F.ok sc_l_words (fun vs H Q E h => ?_) (fun cdv A outer s H vs Q E hr h => ?_)
  · obtain ⟨b, l, G, n, rfl, _⟩ := h
    rfl
  obtain ⟨b, l, G, n, rfl, n0, n3, wd, q⟩ := h
  refine ⟨_, (pss_cons (ps_set (i := 2) sc_l_words.nd rfl (Or.inr rfl) (pe_call G_l_any (hr.mono (by decide)) (by rfl) T.d_l_any.g T.d_l_any.kp T.d_l_any.b .nil pass0 (pa_cons (pv 0) (pa_cons (pe_lst (pa_cons pe_str (pa_cons pe_str (pa_cons pe_str (pa_cons pe_str (pa_cons pe_str pa_nil)))))) pa_nil))))
    (pss_cons (ps_asg (pe_tup (pa_cons (pe_call G_l_draw (hr.mono (by decide)) (by rfl) T.d_l_draw.g T.d_l_draw.kp T.d_l_draw.b .nil pass0 (pa_cons (pv 0) (pa_cons (pe_op op_add (pe_callB call_len_str (by rfl) T.b_len PySem.boot_len (pa_cons (pv 2) pa_nil)) pe_int) pa_nil))) (pa_cons (pe_call G_l_draw (hr.mono (by decide)) (by rfl) T.d_l_draw.g T.d_l_draw.kp T.d_l_draw.b .nil pass0 (pa_cons (pv 0) (pa_cons pe_int pa_nil))) pa_nil))) (pg_tup_K (K := K) (by rfl) (n := 2) (by rfl) (pgs_cons (pg_name (i := 3) sc_l_words.nd rfl (Or.inr rfl)) (pgs_cons (pg_name (i := 4) sc_l_words.nd rfl (Or.inr rfl)) pgs_nil))))
    (pss_cons (ps_set (i := 5) sc_l_words.nd rfl (Or.inr rfl) pe_str)
    (pss_one (ps_ret (pe_lc (own := [("_law_k", 6)]) rfl sc_l_words.nd (pi_range1 rfl T.b_range (pa_cons (pv 1) pa_nil)) (blkOk_by (own := [("_law_k", 6)]) (N := ["_law_bag_here", "_law_many", "_law_tail", "_law_at_here", "_law_start", "_law_letters", "_law_k"]) (sc := defScope s_l_words) (by decide +kernel)) (fun _ _ _ _ _ => by exact (pg_name (i := 6) sc_l_words.nd rfl (Or.inl rfl))) (fun _ _ _ _ _ => by exact pts_nil) (fun _ _ _ _ _ => by exact (pe_op op_add_str (pe_op op_add_str (pe_slice sl_str (pv 2) po_none (po_some (pv 3))) (pe_ix ix_str (pv 5) (pe_op op_mod (pe_callTy call_int1 (by rfl) T.b_int (by decide +kernel) (pa_cons (pe_op op_add (pv 4) (pe_op op_mul pe_int (pv 6))) pa_nil)) pe_int) (fun _ _ => rfl))) (pe_slice sl_str (pv 2) (po_some (pv 3)) po_none))))))))), ?_⟩
  refine ⟨_, rfl, (by show 5 ≤ sizeLine; decide), fun p np => ?_⟩
  refine ⟨b, l, p, upd G p (.lst (tails.map V.str)), tails.map V.str, rfl, .inl (SqL.of upd_same), (fun z => by cases z), by decide, wd.new np, fun x H1 hx w1 => ?_⟩
  have s1 : Same G (upd G p (.lst (tails.map V.str))) := wd.sameG np
  obtain ⟨z, hz, rfl⟩ := List.mem_map.mp hx
  obtain ⟨z1, z2⟩ := tails_ok z hz
  refine ⟨_, rfl, _, rfl, z, rfl, le_line (by omega), _, _, rfl, rfl, b, l, _, _, rfl, by omega, by omega, w1, fun k H2 k0 k1 w2 => ?_⟩
  refine ⟨_, rfl, b, l, _, 26, rfl, by decide, by decide, w2, fun st H3 t0 t1 w3 => ?_⟩
  refine ⟨(by show 2 ≤ sizeLine; decide), fun t nt => ?_⟩
  have w4 := w3.new (o := .tup [.int k, .int st]) nt
  have s2 := s1.trans (w3.sameG (o := .tup [.int k, .int st]) nt)
  refine ⟨t, _, rfl, .inl (.inl upd_same), rfl, _, _, rfl, _, _, rfl, rfl, ?_⟩
  obtain ⟨kn, rfl⟩ : ∃ m : Nat, k = (m : Int) := ⟨k.toNat, by omega⟩
  have hk : kn ≤ z.length := by omega
  refine ⟨_, rfl, n, rfl, by omega, by omega, fun D nD => ?_⟩
  have gD := w4.free nD
  refine lc_it walk_range (fun i H' => ∃ G', Same G G' ∧ Wd b l G' H' ∧ G' D = some (.lst ((wordsOf z kn st i).map V.str))) ⟨_, s2.trans (w4.sameG nD), w4.new nD, upd_same⟩ (fun _ _ _ _ => True.intro) ?_ ?_
  · rintro i v H' H'' hi ⟨G', sg, w5, hD⟩ ⟨rfl, rfl⟩
    refine ⟨rfl, ?_⟩
    have a0 : (0 : Int) + (i : Int) = (i : Int) := by omega
    have ln1 : (cutS z none (some (kn : Int))).length ≤ z.length := cutS_length z _ _
    have ln2 : (cutS z (some (kn : Int)) none).length ≤ z.length := cutS_length z _ _
    have m0 := Int.emod_nonneg (st + 5 * ((0 : Int) + (i : Int))) (show (26 : Int) ≠ 0 by decide)
    have m1 := Int.emod_lt_of_pos (st + 5 * ((0 : Int) + (i : Int))) (show (0 : Int) < 26 by decide)
    refine ⟨_, rfl, _, rfl, _, rfl, z, rfl, le_line (by omega), _, rfl, _, rfl, _, rfl, _, _, rfl, rfl, .inl ⟨by decide, by decide⟩, _, _, rfl, rfl, .inl ⟨_, rfl, _, _, rfl, rfl, (show (0 : Int) < 26 by decide), letters, _, _, rfl, rfl, le_line (by decide +kernel), letters_at m0 m1, ?_⟩⟩
    refine ⟨_, _, rfl, rfl, ?_, _, rfl, _, rfl, _, rfl, z, rfl, le_line (by omega), _, _, rfl, rfl, ?_, _, w5.sm _ _ hD, ?_, ?_⟩
    · exact le_line (by show _ + 1 ≤ _; omega)
    · refine le_line ?_
      have e : (cutS z none (some (kn : Int)) ++ (⟨#[97 + ((st + 5 * ((0 : Int) + (i : Int))) % 26).toNat]⟩ : Str)).length = (cutS z none (some (kn : Int))).length + 1 := by
        show ((cutS z none (some (kn : Int))).cps ++ #[_]).size = _
        rw [Array.size_append]
        rfl
      rw [e]
      omega
    · rw [List.length_map, wordsOf_len]
      exact lt_line (by omega)
    · refine ⟨_, same_mut sg (s2.free gD), w5.mut hD, ?_⟩
      rw [upd_same]
      have e : wordsOf z kn st (i + 1) = wordsOf z kn st i ++ [wordK z kn (97 + ((st + 5 * (i : Int)) % 26).toNat)] := by
        unfold wordsOf
        rw [List.range_succ, List.map_append]
        rfl
      rw [e, List.map_append, a0]
      rfl
  · rintro H' ⟨G', sg, w5, hD⟩
    exact q G' H' D _ sg w5 hD wordsOf_len (wordsOf_nodup hk (by omega)) (wordsOf_nm hz hk)
theorem ok_options (T : Top K mg) : FnOk P w K mg base CX0 3 T.a_l_options T.fd_l_options ["_law_bag_here", "_law_many"] (spOptions K) := by
  have G_l_mixed := ok_mixed (P := P) (w := w) (base := base) T
  refine T.d_l_options.F.ok sc_l_options (fun vs H Q E h => ?_) (fun cdv A outer s H vs Q E hr h => ?_)
  · obtain ⟨b, l, G, n, rfl, _⟩ := h
    rfl
  obtain ⟨b, l, G, n, rfl, n2, n6, wd, q⟩ := h
  refine ⟨_, (pss_cons (ps_set (i := 2) sc_l_options.nd rfl (Or.inl rfl) (pe_lst (pa_cons pe_str (pa_cons pe_str (pa_cons pe_str (pa_cons pe_str (pa_cons pe_str (pa_cons pe_str (pa_cons pe_str (pa_cons pe_str (pa_cons pe_str (pa_cons pe_str pa_nil))))))))))))
    (pss_one (ps_ret (pe_callTy (call_tuple_of_P (K := K) (by rfl)) (by rfl) T.b_tuple (by decide +kernel) (pa_cons (pe_slice (sl_list_K (K := K) (by rfl)) (pe_call G_l_mixed (hr.mono (by decide)) (by rfl) T.d_l_mixed.g T.d_l_mixed.kp T.d_l_mixed.b .nil pass0 (pa_cons (pv 0) (pa_cons (pv 2) pa_nil))) po_none (po_some (pv 1))) pa_nil))))), ?_⟩
  refine ⟨(by show 10 ≤ sizeLine; decide), fun p np => ?_⟩
  refine ⟨_, rfl, _, rfl, b, l, p, upd G p (.lst (pool.map V.str)), pool.map V.str, rfl, SqL.of upd_same, by decide, wd.new np, fun G1 H1 p1 ys s1 w1 h1 pm => ?_⟩
  have s0 := (wd.sameG (o := .lst (pool.map V.str)) np).trans s1
  obtain ⟨zs, pz, rfl⟩ := perm_strs pm
  refine ⟨_, rfl, _, rfl, _, _, rfl, SqL.of (w1.sm _ _ h1), fun c nc => ?_⟩
  rw [cutV_take _ (by omega), ← List.map_take]
  have w2 := w1.new (o := .lst ((zs.take n.toNat).map V.str)) nc
  refine ⟨c, _, rfl, .inl ⟨SqL.of upd_same, fun t o nt ho => ?_⟩⟩
  have w3 := w2.new (o := .frz o (.tup ((zs.take n.toNat).map V.str))) nt
  have lz : zs.length = 10 := pz.length_eq
  refine q _ _ t (zs.take n.toNat) ((s0.trans (w1.sameG nc)).trans (w2.sameG nt)) w3 (SqP.new ho) (by rw [List.length_take]; omega) ((pz.nodup_iff.mpr pool_nodup).sublist (List.take_sublist _ _)) fun o' h' => pz.mem_iff.mp (List.mem_of_mem_take h')
theorem ok_fields (T : Top K mg) : FnOk P w K mg base CX0 4 T.a_l_fields T.fd_l_fields ["_law_bag_here", "_law_room"] (spFields K) := by
  have G_l_draw := ok_draw (P := P) (w := w) (base := base) T
  have G_l_words := ok_words (P := P) (w := w) (base := base) T
  have G_l_options := ok_options (P := P) (w := w) (base := base) T
  refine T.d_l_fields.F.ok sc_l_fields (fun vs H Q E h => ?_) (fun cdv A outer s H vs Q E hr h => ?_)
  · obtain ⟨b, l, G, rfl, _⟩ := h
    rfl
  obtain ⟨b, l, G, rfl, wd, q⟩ := h
  refine ⟨_, (pss_cons (ps_par3 (i := 2) (j := 3) (l := 4) (by rfl) sc_l_fields.nd rfl rfl rfl (by decide) (by decide) (by decide) rfl rfl rfl (pa_cons (pe_call G_l_words (hr.mono (by decide)) (by rfl) T.d_l_words.g T.d_l_words.kp T.d_l_words.b .nil pass0 (pa_cons (pv 0) (pa_cons pe_int pa_nil))) (pa_cons (pe_lst pa_nil) (pa_cons (pv 1) pa_nil))) (by rfl))
    (pss_cons (ps_for PassesOwn.never rfl (pi_range1 rfl T.b_range (pa_cons (pe_op op_add pe_int (pe_call G_l_draw (hr.mono (by decide)) (by rfl) T.d_l_draw.g T.d_l_draw.kp T.d_l_draw.b .nil pass0 (pa_cons (pv 0) (pa_cons pe_int pa_nil)))) pa_nil)) (pg_name (i := 5) sc_l_fields.nd rfl (Or.inl rfl))
      (pss_one (ps_if (PW.pt (pw_or (pt_cmpR op_ge (pv 4) pe_int (nomark _)) (pw_or1 (pt_cmpR (op_eqP (K := K) (by rfl) hr.units) (pv 3) (pe_lst pa_nil) (nomark _))))) (pss_cons (ps_set (i := 6) sc_l_fields.nd rfl (Or.inl rfl) (pe_op op_add pe_int (pe_call G_l_draw (hr.mono (by decide)) (by rfl) T.d_l_draw.g T.d_l_draw.kp T.d_l_draw.b .nil pass0 (pa_cons (pv 0) (pa_cons (pe_callB (call_min2 rfl) (by rfl) T.b_min (by decide +kernel) (pa_cons pe_int (pa_cons (pe_callB (call_max2 rfl) (by rfl) T.b_max (by decide +kernel) (pa_cons pe_int (pa_cons (pe_op op_sub (pv 4) pe_int) pa_nil))) pa_nil))) pa_nil)))))
        (pss_cons (ps_expr (pe_bm_K (K := K) (by rfl) PySem.F.plainAttrs_list PySem.F.slot_list_append PySem.F.type_list_append mt_append (pv 3) (pa_cons (pe_tup (pa_cons (pe_ix (ix_list_K (K := K) (by rfl)) (pv 2) (pv 5) (fun _ _ => rfl)) (pa_cons (pe_call G_l_options (hr.mono (by decide)) (by rfl) T.d_l_options.g T.d_l_options.kp T.d_l_options.b .nil pass0 (pa_cons (pv 0) (pa_cons (pv 6) pa_nil))) pa_nil))) pa_nil)))
        (pss_one (ps_set (i := 4) sc_l_fields.nd rfl (Or.inl rfl) (pe_op op_fdiv (pv 4) (pv 6)))))) pss_nil)))
    (pss_one (ps_ret (pv 3))))), ?_⟩
  refine ⟨_, rfl, b, l, G, 3, rfl, by decide, by decide, wd, fun G1 H1 p ws s1 w1 h1 lw ndw nmw => ?_⟩
  refine ⟨Nat.zero_le _, fun pf nf => ?_⟩
  have g1f : G pf = none := s1.free (w1.free nf)
  have w2 := w1.new (o := .lst []) nf
  have s2 := s1.trans (w1.sameG (o := .lst []) nf)
  have h1' : (upd G1 pf (.lst [])) p = some (.lst (ws.map V.str)) := by
    rw [upd_ne (ne_of_none h1 (w1.free nf))]
    exact h1
  have hpf : p ≠ pf := ne_of_none h1 (w1.free nf)
  refine ⟨_, rfl, _, _, _, rfl, ?_⟩
  refine ⟨_, rfl, b, l, _, 3, rfl, by decide, by decide, w2, fun r H4 r0 r1 w4 => ?_⟩
  refine ⟨_, _, rfl, rfl, _, rfl, by omega, by omega, ?_⟩
  refine for_it walk_range (fun i σ H' => ∃ x5 x6 G' xs fs left, σ = [some (.ref b), some (.int 24), some (.ref p), some (.ref pf), some (.int left), x5, x6] ∧ Same G G' ∧ Wd b l G' H' ∧ G' pf = some (.lst xs) ∧ Paired (FdAt K G') xs fs ∧
      G' p = some (.lst (ws.map V.str)) ∧ fs.length ≤ i ∧ (0 < i → fs ≠ []) ∧ (fs ≠ [] ∨ 2 ≤ left) ∧ (∀ f ∈ fs, ∃ j, j < i ∧ ws[j]? = some f.1) ∧ (fs.map (·.1)).Nodup ∧ (∀ f ∈ fs, f.2.Nodup ∧ 2 ≤ f.2.length ∧ f.2.length ≤ 6 ∧ ∀ o ∈ f.2, o ∈ pool))
    ⟨none, none, _, [], [], 24, rfl, s2, w4, upd_same, .nil, h1', Nat.le_refl _, fun z => absurd z (Nat.lt_irrefl _), .inr (by decide), (fun f hf => by cases hf), .nil, (fun f hf => by cases hf)⟩ (fun _ _ _ _ _ => True.intro) ?_ ?_
  · rintro i v σ H' H'' hi ⟨x5, x6, G', xs, fs, left, rfl, sg, w5, hx, hp, hw, hl, hne, hor, hj, nd, hos⟩ ⟨rfl, rfl⟩
    have hi3 : i < 3 := by omega
    have lxs := fds_len hp
    have hwi : ws[i]? = some ws[i] := List.getElem?_eq_getElem (by rw [lw]; exact hi3)
    have body : 2 ≤ left → True := fun _ => True.intro
    refine ⟨_, rfl, _, _, rfl, rfl, _, rfl, ite3 (fun h2 => ?_) (fun h2 => ?_)⟩
    · refine ⟨_, rfl, _, rfl, _, _, rfl, rfl, _, _, rfl, _, _, rfl, b, l, G', _, rfl, (min_max_bound _).1, by have := (min_max_bound (left - 1)).2; omega, w5, fun r5 H5 r50 r51 w6 => ?_⟩
      have r6 := (min_max_bound (left - 1)).2
      refine ⟨_, _, rfl, rfl, ?_⟩
      refine ⟨_, rfl, .inl ⟨rfl, _, SqL.of (w6.sm _ _ hx)⟩, _, rfl, _, rfl, p, _, _, .str ws[i], rfl, rfl, SqL.of (w6.sm _ _ hw), at_nn (by omega) (by rw [show ((0 : Int) + (i : Int)).toNat = i by omega, List.getElem?_map, hwi]; rfl), ?_⟩
      refine ⟨_, rfl, _, rfl, b, l, G', 2 + r5, rfl, by omega, by omega, w6, fun G7 H7 po os s7 w7 hP7 lo ndo hpo => ?_⟩
      refine ⟨(by show 2 ≤ sizeLine; decide), fun t7 nt7 => ?_⟩
      have w8 := w7.new (o := .tup [.str ws[i], .ref po]) nt7
      have s8 := s7.trans (w7.sameG (o := .tup [.str ws[i], .ref po]) nt7)
      have hx8 := s8 _ _ hx
      refine ⟨pf, xs, _, rfl, rfl, w8.sm _ _ hx8, lt_line (by omega), ?_⟩
      refine ⟨_, rfl, _, rfl, _, _, rfl, rfl, ⟨by omega, by omega⟩, ?_⟩
      have hfd : FdAt K (upd (upd G7 t7 (.tup [.str ws[i], .ref po])) pf (.lst (xs ++ [.ref t7]))) (.ref t7) (ws[i], os) := by
        have nf7 : t7 ≠ pf := fun z => by
          have k := s7 _ _ hx
          rw [← z, w7.free nt7] at k
          cases k
        refine ⟨t7, po, rfl, .inl (.inl ?_), ?_⟩
        · rw [upd_ne nf7]
          exact upd_same
        · have k := hP7.mono (w7.sameG (o := .tup [.str ws[i], .ref po]) nt7)
          rcases k with ⟨o, k, ko⟩ | k
          · refine .inl ⟨o, ?_, ko⟩
            rw [upd_ne (ne_of k hx8 (by intro z; cases z))]
            exact k
          · exact .inr k
      have hp8 : Paired (FdAt K (upd (upd G7 t7 (.tup [.str ws[i], .ref po])) pf (.lst (xs ++ [.ref t7])))) xs fs := by
        have key : ∀ {ys : List V} {gs : List Fld}, Paired (FdAt K G') ys gs → Paired (FdAt K (upd (upd G7 t7 (.tup [.str ws[i], .ref po])) pf (.lst (xs ++ [.ref t7])))) ys gs := by
          intro ys gs k
          induction k with
          | nil => exact .nil
          | cons h _ ih =>
            refine .cons ?_ ih
            obtain ⟨a', o', e', k1, k2⟩ := h.mono s8
            refine ⟨a', o', e', ?_, ?_⟩
            · rcases k1 with (k1 | ⟨u, k1⟩) | k1
              · exact .inl (.inl (by rw [upd_ne (ne_of k1 hx8 (by intro z; cases z))]; exact k1))
              · exact .inl (.inr ⟨u, by rw [upd_ne (ne_of k1 hx8 (by intro z; cases z))]; exact k1⟩)
              · exact .inr k1
            · rcases k2 with ⟨u, k2, ku⟩ | k2
              · exact .inl ⟨u, by rw [upd_ne (ne_of k2 hx8 (by intro z; cases z))]; exact k2, ku⟩
              · exact .inr k2
        exact key hp
      refine ⟨_, _, _, _, fs ++ [(ws[i], os)], _, rfl, same_mut (sg.trans s8) g1f, w8.mut hx8, upd_same, fds_snoc hp8 hfd, ?_, ?_, fun _ z => by simp at z, .inl (by simp), ?_, ?_, ?_⟩
      · rw [upd_ne hpf]
        exact s8 _ _ hw
      · rw [List.length_append]
        exact Nat.succ_le_succ hl
      · intro f hf
        rcases List.mem_append.mp hf with hf | hf
        · obtain ⟨j, h1, h2⟩ := hj f hf
          exact ⟨j, by omega, h2⟩
        · cases List.mem_singleton.mp hf
          exact ⟨i, by omega, hwi⟩
      · rw [List.map_append]
        refine List.nodup_append.mpr ⟨nd, by simp, fun x hx1 y hy e => ?_⟩
        obtain ⟨f, hf, rfl⟩ := List.mem_map.mp hx1
        have ey : y = ws[i] := by simpa using hy
        obtain ⟨j, h1, h2⟩ := hj f hf
        rw [e, ey] at h2
        have := nd_ix ndw h2 hwi
        omega
      · intro f hf
        rcases List.mem_append.mp hf with hf | hf
        · exact hos f hf
        · cases List.mem_singleton.mp hf
          exact ⟨ndo, by rw [lo]; omega, by rw [lo]; omega, hpo⟩
    · have hnn : fs ≠ [] := hor.resolve_right h2
      refine ⟨_, rfl, Nat.zero_le _, fun e ne => ?_⟩
      have w6 := w5.new (o := .lst []) ne
      have s6 := w5.sameG (o := .lst []) ne
      refine ⟨.list (fs.map dF), .list [], .lst (SqL.of (w6.sm _ _ (s6 _ _ hx))) (DpAll.mono (s6.trans w6.sm) (fds_dp hp)), .lst (SqL.of upd_same) .nil, ?_, _, rfl, ?_⟩
      · exact Nat.le_trans (Nat.min_le_right _ _) (by decide)
      have ev : PyData.eqv (.list (fs.map dF)) (.list []) = false := by
        cases fs with
        | nil => exact absurd rfl hnn
        | cons f r => rfl
      rw [ev]
      exact ⟨_, _, _, _, fs, left, rfl, sg.trans s6, w6, s6 _ _ hx, fds_mono s6 hp, s6 _ _ hw, by omega, fun _ => hnn, .inl hnn, (fun f hf => by obtain ⟨j, h1, h2⟩ := hj f hf; exact ⟨j, by omega, h2⟩), nd, hos⟩
  · rintro σ H' ⟨x5, x6, G', xs, fs, left, rfl, sg, w5, hx, hp, hw, hl, hne, hor, hj, nd, hos⟩
    refine ⟨_, rfl, q G' H' pf xs fs sg w5 hx hp ⟨?_, by omega, nd, fun f hf => ?_, hos⟩⟩
    · exact List.length_pos_iff.mpr (hne (by omega))
    · obtain ⟨j, h1, h2⟩ := hj f hf
      exact nmw _ (List.mem_of_getElem? h2)
end
end Bh

set_option Elab.async false
set_option linter.all false
set_option maxRecDepth 100000
set_option maxHeartbeats 1000000
namespace Bh
open PySem PySem.Spec PyProof.Rows L2
section
variable {P : Program} {w : World} {K : PySem.W.Frag} {mg : Str → Option Value} {base : Heap}
theorem ok_case (T : Top K mg) : FnOk P w K mg base CX0 3 T.a_l_case T.fd_l_case ["_law_bag_here", "_law_fields_z"] (spCase K) := by
  have G_l_draw := ok_draw (P := P) (w := w) (base := base) T
  have G_l_any := ok_any (P := P) (w := w) (base := base) T
  refine T.d_l_case.F.ok sc_l_case (fun vs H Q E h => ?_) (fun cdv A outer s H vs Q E hr h => ?_)
  · obtain ⟨b, l, a, G, xs, fs, rfl, _⟩ := h
    rfl
  obtain ⟨b, l, a, G, xs, fs, rfl, hS, hF, ok, wd, q⟩ := h
  refine ⟨_, (pss_cons (ps_par (i := 2) (j := 3) (by rfl) sc_l_case.nd rfl rfl (by decide) rfl rfl (pa_cons (pe_lst pa_nil) (pa_cons (pe_lst pa_nil) pa_nil)) (by rfl))
    (pss_cons (ps_for PassesOwn.never rfl (pi_range1 rfl T.b_range (pa_cons (pe_call G_l_draw (hr.mono (by decide)) (by rfl) T.d_l_draw.g T.d_l_draw.kp T.d_l_draw.b .nil pass0 (pa_cons (pv 0) (pa_cons pe_int pa_nil))) pa_nil)) (pg_name (i := 4) sc_l_case.nd rfl (Or.inl rfl))
      (pss_cons (ps_asg (pe_call G_l_any (hr.mono (by decide)) (by rfl) T.d_l_any.g T.d_l_any.kp T.d_l_any.b .nil pass0 (pa_cons (pv 0) (pa_cons (pv 1) pa_nil))) (pg_tup_K (K := K) (by rfl) (n := 2) (by rfl) (pgs_cons (pg_name (i := 5) sc_l_case.nd rfl (Or.inl rfl)) (pgs_cons (pg_name (i := 6) sc_l_case.nd rfl (Or.inl rfl)) pgs_nil))))
      (pss_one (ps_expr (pe_bm_K (K := K) (by rfl) PySem.F.plainAttrs_list PySem.F.slot_list_append PySem.F.type_list_append mt_append (pv 2) (pa_cons (pe_tup (pa_cons (pv 5) (pa_cons (pe_call G_l_any (hr.mono (by decide)) (by rfl) T.d_l_any.g T.d_l_any.kp T.d_l_any.b .nil pass0 (pa_cons (pv 0) (pa_cons (pe_lst (pa_cons pe_str (pa_cons pe_str (pa_cons pe_str (pa_cons pe_str pa_nil))))) pa_nil))) (pa_cons (pe_call G_l_any (hr.mono (by decide)) (by rfl) T.d_l_any.g T.d_l_any.kp T.d_l_any.b .nil pass0 (pa_cons (pv 0) (pa_cons (pv 6) pa_nil))) pa_nil)))) pa_nil))))))
    (pss_cons (ps_for PassesOwn.never rfl (pi_range1 rfl T.b_range (pa_cons (pe_call G_l_draw (hr.mono (by decide)) (by rfl) T.d_l_draw.g T.d_l_draw.kp T.d_l_draw.b .nil pass0 (pa_cons (pv 0) (pa_cons pe_int pa_nil))) pa_nil)) (pg_name (i := 4) sc_l_case.nd rfl (Or.inl rfl))
      (pss_cons (ps_asg (pe_call G_l_any (hr.mono (by decide)) (by rfl) T.d_l_any.g T.d_l_any.kp T.d_l_any.b .nil pass0 (pa_cons (pv 0) (pa_cons (pv 1) pa_nil))) (pg_tup_K (K := K) (by rfl) (n := 2) (by rfl) (pgs_cons (pg_name (i := 5) sc_l_case.nd rfl (Or.inl rfl)) (pgs_cons (pg_name (i := 6) sc_l_case.nd rfl (Or.inl rfl)) pgs_nil))))
      (pss_one (ps_expr (pe_bm_K (K := K) (by rfl) PySem.F.plainAttrs_list PySem.F.slot_list_append PySem.F.type_list_append mt_append (pv 3) (pa_cons (pe_tup (pa_cons (pv 5) (pa_cons (pe_call G_l_any (hr.mono (by decide)) (by rfl) T.d_l_any.g T.d_l_any.kp T.d_l_any.b .nil pass0 (pa_cons (pv 0) (pa_cons (pe_op op_cat (pe_lst (pa_cons pe_str pa_nil)) (pe_callTy (call_list_of_K (K := K) (by rfl)) (by rfl) T.b_list (by decide +kernel) (pa_cons (pv 6) pa_nil))) pa_nil))) pa_nil))) pa_nil))))))
    (pss_one (ps_ret (pe_tup (pa_cons (pe_callTy (call_tuple_of_P (K := K) (by rfl)) (by rfl) T.b_tuple (by decide +kernel) (pa_cons (pv 2) pa_nil)) (pa_cons (pe_ifExp (pt_cmpR op_eq (pe_call G_l_draw (hr.mono (by decide)) (by rfl) T.d_l_draw.g T.d_l_draw.kp T.d_l_draw.b .nil pass0 (pa_cons (pv 0) (pa_cons pe_int pa_nil))) pe_int (nomark _)) pe_non (pe_callTy (call_tuple_of_P (K := K) (by rfl)) (by rfl) T.b_tuple (by decide +kernel) (pa_cons (pv 3) pa_nil))) pa_nil)))))))), ?_⟩
  have lxs := fds_len hF
  have xne : xs ≠ [] := fun z => by
    have := ok.ne
    rw [← lxs, z] at this
    cases this
  have xle : xs.length ≤ 100000 := by
    have := ok.le
    omega
  refine ⟨Nat.zero_le _, fun pt npt => ?_⟩
  have w1 := wd.new (o := .lst []) npt
  have gpt := wd.free npt
  refine ⟨Nat.zero_le _, fun ps nps => ?_⟩
  have w2 := w1.new (o := .lst []) nps
  have gps1 := w1.free nps
  have pts : pt ≠ ps := ne_of_none upd_same gps1
  have gps : G ps = none := by
    rw [upd_ne pts.symm] at gps1
    exact gps1
  have sG : ∀ {G' : Hp}, Same G G' → Same G (hid ps (hid pt G')) := fun e => hid_of (hid_of e gpt) gps
  refine ⟨_, _, rfl, ?_⟩
  refine ⟨_, rfl, b, l, _, 3, rfl, by decide, by decide, w2, fun r3 H3 r30 r31 w3 => ?_⟩
  refine ⟨_, rfl, by omega, by omega, ?_⟩
  refine for_it walk_range (fun i σ H' => ∃ x4 x5 x6 G' txs ts, σ = [some (.ref b), some (.ref a), some (.ref pt), some (.ref ps), x4, x5, x6] ∧ Same G (hid ps (hid pt G')) ∧ Wd b l G' H' ∧ G' pt = some (.lst txs) ∧ G' ps = some (.lst []) ∧
      DpAll K (hid ps (hid pt G')) txs (ts.map dT) ∧ ts.length = i ∧ ∀ t ∈ ts, FitT fs t ∧ t.2.1 ∈ signs)
    ⟨none, none, none, _, [], [], rfl, sG ((same_new gpt).trans (same_new gps1)), w3, (upd_ne pts).trans upd_same, upd_same, .nil, rfl, (fun t ht => by cases ht)⟩ (fun _ _ _ _ _ => True.intro) ?_ ?_
  · rintro i v σ H' H'' hi ⟨x4, x5, x6, G', txs, ts, rfl, sg, w4, hpt, hps, hD, lt, ht⟩ ⟨rfl, rfl⟩
    have sg' : Same G G' := sg.trans (hid_le.trans hid_le)
    refine ⟨_, rfl, _, rfl, b, l, a, G', xs, rfl, .inl (sg'.seq hS), xne, xle, w4, fun x H5 hx w5 => ?_⟩
    obtain ⟨f, hf, hfd⟩ := fds_mem hF hx
    obtain ⟨ta, oa, rfl, k1, k2⟩ := hfd
    have hfo := ok.os f hf
    have fit : ∀ o, o ∈ f.2 → f.1 ∈ fs.map (·.1) ∧ o ∈ optsOf fs f.1 := fun o ho => ⟨List.mem_map.mpr ⟨f, hf, rfl⟩, by rw [opts_of ok.nd hf]; exact ho⟩
    refine ⟨ta, _, rfl, Same.tup (sg'.trans w5.sm) k1, rfl, _, _, rfl, _, _, rfl, rfl, ?_⟩
    refine ⟨_, rfl, .inl ⟨rfl, _, SqL.of (w5.sm _ _ hpt)⟩, _, rfl, _, rfl, (by show 4 ≤ sizeLine; decide), fun p6 n6 => ?_⟩
    have w6 := w5.new (o := .lst (signs.map V.str)) n6
    have s6 := w5.sameG (o := .lst (signs.map V.str)) n6
    refine ⟨b, l, p6, _, signs.map V.str, rfl, .inl (SqL.of upd_same), (by simp [signs]), by decide, w6, fun y H7 hy w7 => ?_⟩
    obtain ⟨sg1, hsg, rfl⟩ := List.mem_map.mp hy
    have one : f.2 ≠ [] := fun z => by
      have := hfo.2.1
      rw [z] at this
      cases this
    have six : f.2.length ≤ 6 := hfo.2.2.1
    refine ⟨_, rfl, _, rfl, b, l, oa, _, f.2.map V.str, rfl, .inr (Same.tup (sg'.trans s6) k2.sqT), (by simpa using one), by rw [List.length_map]; omega, w7, fun y8 H8 hy8 w8 => ?_⟩
    obtain ⟨op, hop, rfl⟩ := List.mem_map.mp hy8
    refine ⟨(by show 3 ≤ sizeLine; decide), fun t nt => ?_⟩
    have w9 := w8.new (o := .tup [.str f.1, .str sg1, .str op]) nt
    have s9 := s6.trans (w8.sameG (o := .tup [.str f.1, .str sg1, .str op]) nt)
    have hpt9 := s9 _ _ hpt
    have hps9 := s9 _ _ hps
    have ltx : txs.length = i := by rw [DpAll.length hD, List.length_map, lt]
    refine ⟨pt, txs, _, rfl, rfl, w9.sm _ _ hpt9, lt_line (by omega), ?_⟩
    have ntp : t ≠ pt := fun z => by
      have k := s6 _ _ hpt
      rw [← z, w8.free nt] at k
      cases k
    have nts : t ≠ ps := fun z => by
      have k := s6 _ _ hps
      rw [← z, w8.free nt] at k
      cases k
    have sh : Same (hid ps (hid pt G')) (hid ps (hid pt (upd (upd (upd G' p6 (.lst (signs.map V.str))) t (.tup [.str f.1, .str sg1, .str op])) pt (.lst (txs ++ [.ref t]))))) := by
      rw [hid_upd]
      exact hid_same (hid_same s9)
    refine ⟨_, _, _, _, txs ++ [.ref t], ts ++ [(f.1, sg1, op)], rfl, sg.trans sh, w9.mut hpt9, upd_same, ?_, ?_, ?_, ?_⟩
    · rw [upd_ne pts.symm]
      exact hps9
    · rw [List.map_append]
      refine dpa_snoc (DpAll.mono sh hD) ?_
      refine .tup (xs := [.str f.1, .str sg1, .str op]) (.inl (.inl ?_)) (.cons (.str _) (.cons (.str _) (.cons (.str _) .nil)))
      rw [hid_ne nts, hid_ne ntp, upd_ne ntp, upd_same]
    · rw [List.length_append, lt]
      rfl
    · intro t' ht'
      rcases List.mem_append.mp ht' with h' | h'
      · exact ht t' h'
      · cases List.mem_singleton.mp h'
        exact ⟨fit op hop, hsg⟩
  · rintro σ H' ⟨x4, x5, x6, G', txs, ts, rfl, sg, w4, hpt, hps, hD, lt, ht⟩
    refine ⟨_, rfl, b, l, G', 3, rfl, by decide, by decide, w4, fun r5 H5 r50 r51 w5 => ?_⟩
    refine ⟨_, rfl, by omega, by omega, ?_⟩
    refine for_it walk_range (fun i σ H' => ∃ x4 x5 x6 G' sxs ss, σ = [some (.ref b), some (.ref a), some (.ref pt), some (.ref ps), x4, x5, x6] ∧ Same G (hid ps (hid pt G')) ∧ Wd b l G' H' ∧ G' pt = some (.lst txs) ∧ G' ps = some (.lst sxs) ∧
        DpAll K (hid ps (hid pt G')) txs (ts.map dT) ∧ DpAll K (hid ps (hid pt G')) sxs (ss.map dS) ∧ ss.length = i ∧ ∀ s ∈ ss, FitS fs s)
      ⟨x4, x5, x6, G', [], [], rfl, sg, w5, hpt, hps, hD, .nil, rfl, (fun t ht => by cases ht)⟩ (fun _ _ _ _ _ => True.intro) ?_ ?_
    · rintro i v σ H' H'' hi ⟨x4, x5, x6, G', sxs, ss, rfl, sg, w4, hpt, hps, hD, hE, ls, hs⟩ ⟨rfl, rfl⟩
      have sg' : Same G G' := sg.trans (hid_le.trans hid_le)
      refine ⟨_, rfl, _, rfl, b, l, a, G', xs, rfl, .inl (sg'.seq hS), xne, xle, w4, fun x H5 hx w5 => ?_⟩
      obtain ⟨f, hf, hfd⟩ := fds_mem hF hx
      obtain ⟨ta, oa, rfl, k1, k2⟩ := hfd
      have hfo := ok.os f hf
      have fit : ∀ o, o ∈ f.2 → f.1 ∈ fs.map (·.1) ∧ o ∈ optsOf fs f.1 := fun o ho => ⟨List.mem_map.mpr ⟨f, hf, rfl⟩, by rw [opts_of ok.nd hf]; exact ho⟩
      refine ⟨ta, _, rfl, Same.tup (sg'.trans w5.sm) k1, rfl, _, _, rfl, _, _, rfl, rfl, ?_⟩
      refine ⟨_, rfl, .inl ⟨rfl, _, SqL.of (w5.sm _ _ hps)⟩, _, rfl, _, rfl, (by show 1 ≤ sizeLine; decide), fun p6 n6 => ?_⟩
      have w6 := w5.new (o := .lst [.str "+"]) n6
      have s6 := w5.sameG (o := .lst [.str "+"]) n6
      refine ⟨_, rfl, oa, _, rfl, .inr (Same.tup (sg'.trans (s6.trans w6.sm)) k2.sqT), fun l7 n7 => ?_⟩
      have w7 := w6.new (o := .lst (f.2.map V.str)) n7
      have s7 := s6.trans (w6.sameG (o := .lst (f.2.map V.str)) n7)
      have six : f.2.length ≤ 6 := hfo.2.2.1
      refine ⟨p6, l7, [.str "+"], f.2.map V.str, rfl, rfl, (upd_ne (ne_of_none upd_same n7)).trans upd_same, upd_same, le_line (by rw [List.length_map]; show 1 + _ ≤ _; omega), fun c8 n8 => ?_⟩
      have w8 := w7.new (o := .lst ([.str "+"] ++ f.2.map V.str)) n8
      have s8 := s7.trans (w7.sameG (o := .lst ([.str "+"] ++ f.2.map V.str)) n8)
      refine ⟨b, l, c8, _, [.str "+"] ++ f.2.map V.str, rfl, .inl (SqL.of upd_same), (by simp), by rw [List.length_append, List.length_map]; show 1 + _ ≤ _; omega, w8, fun y H9 hy w9 => ?_⟩
      have hy' : ∃ o : Str, y = .str o ∧ (o ≠ "+" → o ∈ f.2) := by
        rcases List.mem_append.mp hy with h' | h'
        · exact ⟨"+", List.mem_singleton.mp h', fun z => absurd rfl z⟩
        · obtain ⟨o, ho, rfl⟩ := List.mem_map.mp h'
          exact ⟨o, rfl, fun _ => ho⟩
      obtain ⟨op, rfl, hop⟩ := hy'
      refine ⟨(by show 2 ≤ sizeLine; decide), fun t nt => ?_⟩
      have w10 := w9.new (o := .tup [.str f.1, .str op]) nt
      have s10 := s8.trans (w9.sameG (o := .tup [.str f.1, .str op]) nt)
      have hpt9 := s10 _ _ hpt
      have hps9 := s10 _ _ hps
      have ltx : sxs.length = i := by rw [DpAll.length hE, List.length_map, ls]
      refine ⟨ps, sxs, _, rfl, rfl, w10.sm _ _ hps9, lt_line (by omega), ?_⟩
      have ntp : t ≠ pt := fun z => by
        have k := s8 _ _ hpt
        rw [← z, w9.free nt] at k
        cases k
      have nts : t ≠ ps := fun z => by
        have k := s8 _ _ hps
        rw [← z, w9.free nt] at k
        cases k
      have sh : Same (hid ps (hid pt G')) (hid ps (hid pt (upd (upd (upd (upd (upd G' p6 (.lst [.str "+"])) l7 (.lst (f.2.map V.str))) c8 (.lst ([.str "+"] ++ f.2.map V.str))) t (.tup [.str f.1, .str op])) ps (.lst (sxs ++ [.ref t]))))) := by
        rw [hid_comm, hid_comm (p := ps) (q := pt), hid_upd]
        exact hid_same (hid_same s10)
      refine ⟨_, _, _, _, sxs ++ [.ref t], ss ++ [(f.1, op)], rfl, sg.trans sh, w10.mut hps9, ?_, upd_same, DpAll.mono sh hD, ?_, ?_, ?_⟩
      · rw [upd_ne pts]
        exact hpt9
      · rw [List.map_append]
        refine dpa_snoc (DpAll.mono sh hE) ?_
        refine .tup (xs := [.str f.1, .str op]) (.inl (.inl ?_)) (.cons (.str _) (.cons (.str _) .nil))
        rw [hid_ne nts, hid_ne ntp, upd_ne nts, upd_same]
      · rw [List.length_append, ls]
        rfl
      · intro s' hs'
        rcases List.mem_append.mp hs' with h' | h'
        · exact hs s' h'
        · cases List.mem_singleton.mp h'
          exact ⟨List.mem_map.mpr ⟨f, hf, rfl⟩, fun z => (fit op (hop z)).2⟩
    · rintro σ H' ⟨x4, x5, x6, G', sxs, ss, rfl, sg, w4, hpt, hps, hD, hE, ls, hs⟩
      have sg' : Same G G' := sg.trans (hid_le.trans hid_le)
      have hD' := DpAll.mono (hid_le.trans hid_le) hD
      have hE' := DpAll.mono (hid_le.trans hid_le) hE
      refine ⟨_, rfl, pt, txs, rfl, .inl ⟨SqL.of (w4.sm _ _ hpt), fun q1 o1 n1 d1 => ?_⟩⟩
      have w5 := w4.new (o := .frz o1 (.tup txs)) n1
      have s5 := w4.sameG (o := .frz o1 (.tup txs)) n1
      have tD : Dp K (upd G' q1 (.frz o1 (.tup txs))) (.ref q1) (.tuple (ts.map dT)) := .tup (SqP.new d1).sqT (DpAll.mono s5 hD')
      refine ⟨_, rfl, b, l, _, 5, rfl, by decide, by decide, w5, fun r6 H6 r60 r61 w6 => ⟨rfl, _, rfl, ite3 (fun e => ?_) (fun e => ?_)⟩⟩
      · refine ⟨(by show 2 ≤ sizeLine; decide), fun y ny => ?_⟩
        have w7 := w6.new (o := .tup [.ref q1, .non]) ny
        have s7 := w6.sameG (o := .tup [.ref q1, .non]) ny
        refine q _ _ _ (ts, none) (sg'.trans (s5.trans s7)) w7 (.tup (SqT.of upd_same) (.cons (Dp.mono s7 tD) (.cons .non .nil))) ⟨fun t h' => (ht t h').1, fun ss h' => (by cases h'), (by show ts.length ≤ 1000; omega), fun ss h' => (by cases h')⟩ (by show ts.length ≤ 2; omega) (fun ss h' => by cases h') fun t h' => (ht t h').2
      · refine ⟨_, rfl, ps, sxs, rfl, .inl ⟨SqL.of (w6.sm _ _ (s5 _ _ hps)), fun q2 o2 n2 d2 => ?_⟩⟩
        have w7 := w6.new (o := .frz o2 (.tup sxs)) n2
        have s7 := w6.sameG (o := .frz o2 (.tup sxs)) n2
        refine ⟨(by show 2 ≤ sizeLine; decide), fun y ny => ?_⟩
        have w8 := w7.new (o := .tup [.ref q1, .ref q2]) ny
        have s8 := w7.sameG (o := .tup [.ref q1, .ref q2]) ny
        refine q _ _ _ (ts, some ss) (sg'.trans (s5.trans (s7.trans s8))) w8 (.tup (SqT.of upd_same) (.cons (Dp.mono (s7.trans s8) tD) (.cons (Dp.mono s8 (.tup (SqP.new d2).sqT (DpAll.mono (s5.trans s7) hE'))) .nil))) ⟨fun t h' => (ht t h').1, fun ss' h' => (by cases h'; exact hs), (by show ts.length ≤ 1000; omega), fun ss' h' => (by cases h'; omega)⟩ (by show ts.length ≤ 2; omega) (fun ss' h' => by cases h'; omega) fun t h' => (ht t h').2
end
end Bh

set_option Elab.async false
set_option linter.all false
set_option maxRecDepth 100000
set_option maxHeartbeats 1000000
namespace Bh
open PySem PySem.Spec PyProof.Rows L2
section
variable {P : Program} {w : World} {K : PySem.W.Frag} {mg : Str → Option Value} {base : Heap}
theorem ok_program (T : Top K mg) : FnOk P w K mg base CX0 4 T.a_l_program T.fd_l_program ["_law_bag_here", "_law_fields_z", "_law_most"] (spProg K) := by
  have G_l_draw := ok_draw (P := P) (w := w) (base := base) T
  have G_l_case := ok_case (P := P) (w := w) (base := base) T
  refine T.d_l_program.F.ok sc_l_program (fun vs H Q E h => ?_) (fun cdv A outer s H vs Q E hr h => ?_)
  · obtain ⟨b, l, a, G, n, xs, fs, rfl, _⟩ := h
    rfl
  obtain ⟨b, l, a, G, n, xs, fs, rfl, hS, hF, ok, n0, n8, wd, q⟩ := h
  refine ⟨_, (pss_one (ps_ret (pe_callTy (call_tuple_of_P (K := K) (by rfl)) (by rfl) T.b_tuple (by decide +kernel) (pa_cons (pe_lc (own := [("_law_k", 3)]) rfl sc_l_program.nd (pi_range1 rfl T.b_range (pa_cons (pe_op op_add pe_int (pe_call G_l_draw (hr.mono (by decide)) (by rfl) T.d_l_draw.g T.d_l_draw.kp T.d_l_draw.b .nil pass0 (pa_cons (pv 0) (pa_cons (pv 2) pa_nil)))) pa_nil)) (blkOk_by (own := [("_law_k", 3)]) (N := ["_law_bag_here", "_law_fields_z", "_law_most", "_law_k"]) (sc := defScope s_l_program) (by decide +kernel)) (fun _ _ _ _ _ => by exact (pg_name (i := 3) sc_l_program.nd rfl (Or.inl rfl))) (fun _ _ _ _ _ => by exact pts_nil) (fun _ _ _ _ _ => by exact (pe_call G_l_case (hr.mono (by decide)) (by rfl) T.d_l_case.g T.d_l_case.kp T.d_l_case.b .nil pass0 (pa_cons (pv 0) (pa_cons (pv 1) pa_nil))))) pa_nil)))), ?_⟩
  refine ⟨_, rfl, _, rfl, b, l, G, n, rfl, n0, by omega, wd, fun r H1 r0 r1 w1 => ?_⟩
  refine ⟨_, _, rfl, rfl, _, rfl, by omega, by omega, fun D nD => ?_⟩
  have gD := w1.free nD
  refine lc_it walk_range (fun i H' => ∃ G' ys p, Same G G' ∧ Wd b l G' H' ∧ G' D = some (.lst ys) ∧ DpAll K G' ys (p.map dC) ∧ p.length = i ∧ ∀ c ∈ p, FitC fs c ∧ c.1.length ≤ 2 ∧ (∀ ss, c.2 = some ss → ss.length ≤ 2) ∧ ∀ t ∈ c.1, t.2.1 ∈ signs)
    ⟨_, [], [], w1.sameG nD, w1.new nD, upd_same, .nil, rfl, (fun c hc => by cases hc)⟩ (fun _ _ _ _ => True.intro) ?_ ?_
  · rintro i v H' H'' hi ⟨G', ys, p, sg, w2, hD, hp, lp, hc⟩ ⟨rfl, rfl⟩
    refine ⟨rfl, ?_⟩
    refine ⟨_, rfl, _, rfl, b, l, a, G', xs, fs, rfl, sg.seq hS, fds_mono sg hF, ok, w2, fun G3 H3 y c s3 w3 hy fc c2 c3 c4 => ?_⟩
    have hD3 := s3 _ _ hD
    refine ⟨ys, w3.sm _ _ hD3, lt_line (by rw [DpAll.length hp, List.length_map]; omega), ?_⟩
    have im : Imm G3 (upd G3 D (.lst (ys ++ [y]))) := imm_upd hD3
    refine ⟨_, ys ++ [y], p ++ [c], same_mut (sg.trans s3) gD, w3.mut hD3, upd_same, ?_, ?_, ?_⟩
    · rw [List.map_append]
      exact dpa_snoc (DpAll.imm im (noLs_map noL_dC p) (DpAll.mono s3 hp)) (Dp.imm im (noL_dC c) hy)
    · rw [List.length_append, lp]
      rfl
    · intro c' h'
      rcases List.mem_append.mp h' with h' | h'
      · exact hc c' h'
      · cases List.mem_singleton.mp h'
        exact ⟨fc, c2, c3, c4⟩
  · rintro H' ⟨G', ys, p, sg, w2, hD, hp, lp, hc⟩
    refine ⟨D, ys, rfl, .inl ⟨SqL.of (w2.sm _ _ hD), fun t o nt ho => ?_⟩⟩
    have w3 := w2.new (o := .frz o (.tup ys)) nt
    have s3 := w2.sameG (o := .frz o (.tup ys)) nt
    exact q _ _ _ p (sg.trans s3) w3 (.tup (SqP.new ho).sqT (DpAll.mono s3 hp)) hc (by omega) (by omega)
theorem ok_values (T : Top K mg) : FnOk P w K mg base CX0 1 T.a_l_values T.fd_l_values ["_law_fields_z"] (spVals K) := by
  refine T.d_l_values.F.ok sc_l_values (fun vs H Q E h => ?_) (fun cdv A outer s H vs Q E hr h => ?_)
  · obtain ⟨a, xs, fs, rfl, _⟩ := h
    rfl
  obtain ⟨a, xs, fs, rfl, hS, hF, ok, q⟩ := h
  refine ⟨_, (pss_cons (ps_set (i := 1) sc_l_values.nd rfl (Or.inl rfl) (pe_lst (pa_cons (pe_tup pa_nil) pa_nil)))
    (pss_cons (ps_for PassesOwn.never rfl (pi_list_K (K := K) (by rfl) (pv 0)) (pg_tup_K (K := K) (by rfl) (n := 2) (by rfl) (pgs_cons (pg_name (i := 2) sc_l_values.nd rfl (Or.inl rfl)) (pgs_cons (pg_name (i := 3) sc_l_values.nd rfl (Or.inl rfl)) pgs_nil)))
      (pss_cons (ps_set (i := 4) sc_l_values.nd rfl (Or.inl rfl) (pe_lst pa_nil))
      (pss_cons (ps_for PassesOwn.never rfl (pi_list_K (K := K) (by rfl) (pv 1)) (pg_name (i := 5) sc_l_values.nd rfl (Or.inr rfl))
        (pss_one (ps_set (i := 4) sc_l_values.nd rfl (Or.inl rfl) (pe_op op_cat (pv 4) (pe_lc (own := [("_law_option", 6)]) rfl sc_l_values.nd (pi_tup_K (K := K) (by rfl) (pv 3)) (blkOk_by (own := [("_law_option", 6)]) (N := ["_law_fields_z", "_law_found", "_law_name", "_law_options_here", "_law_longer", "_law_value", "_law_option"]) (sc := defScope s_l_values) (by decide +kernel)) (fun _ _ _ _ _ => by exact (pg_name (i := 6) sc_l_values.nd rfl (Or.inl rfl))) (fun _ _ _ _ _ => by exact pts_nil) (fun _ _ _ _ _ => by exact (pe_op (op_catA_K (K := K) (by rfl)) (pv 5) (pe_tup (pa_cons (pv 6) pa_nil)))))))))
      (pss_one (ps_set (i := 1) sc_l_values.nd rfl (Or.inl rfl) (pv 4))))))
    (pss_one (ps_ret (pv 1))))), ?_⟩
  have lxs := fds_len hF
  have six : ∀ f ∈ fs, f.2.length ≤ 6 := fun f hf => (ok.os f hf).2.2.1
  have big : ∀ i, i ≤ 3 → (vals (fs.take i)).length ≤ 216 := fun i hi => Nat.le_trans (vals_len six i) (Nat.pow_le_pow_right (by decide) hi)
  refine ⟨Nat.zero_le _, fun e ne => ⟨(by show 1 ≤ sizeLine; decide), fun p0 np0 => ?_⟩⟩
  have se : Same H (upd H e (.tup [])) := same_new ne
  have sp : Same H (upd (upd H e (.tup [])) p0 (.lst [.ref e])) := se.trans (same_new np0)
  refine ⟨_, rfl, a, rfl, ⟨_, sp.seq hS⟩, for_it walk_list (fun i σ H' => ∃ x2 x3 x4 x5 x6 p ys, σ = [some (.ref a), some (.ref p), x2, x3, x4, x5, x6] ∧ Same H H' ∧ H' p = some (.lst ys) ∧ DpAll K H' ys ((vals (fs.take i)).map dV))
    ⟨none, none, none, none, none, p0, [.ref e], rfl, sp, upd_same, .cons (.tup (.inl (.inl ((upd_ne (ne_of_none upd_same np0)).trans upd_same))) .nil) .nil⟩ (fun i σ H' _ ⟨_, _, _, _, _, _, _, _, e, _⟩ => e.seq hS) ?_ ?_⟩
  · rintro i x σ H' H'' hi ⟨x2, x3, x4, x5, x6, p, ys, rfl, s1, hp, hD⟩ ⟨rfl, ex⟩
    have hi3 : i < fs.length := by omega
    have hf : fs[i]? = some fs[i] := List.getElem?_eq_getElem hi3
    obtain ⟨x', ex', hfd⟩ := fds_get hF hf
    rw [ex] at ex'
    cases ex'
    have six' := six fs[i] (List.getElem_mem hi3)
    have lys : ys.length = (vals (fs.take i)).length := by rw [DpAll.length hD, List.length_map]
    have b216 : (vals (fs.take i)).length * fs[i].2.length ≤ 216 := by
      have k := big (i + 1) (by have := ok.le; omega)
      rw [vals_take hf] at k
      unfold ext1 at k
      rw [flat_len] at k
      exact k
    obtain ⟨t, o, rfl, k1, k2⟩ := hfd.mono s1
    refine ⟨t, _, rfl, k1, rfl, _, _, rfl, _, _, rfl, rfl, ?_⟩
    refine ⟨Nat.zero_le _, fun q0 nq0 => ?_⟩
    have sq : Same H'' (upd H'' q0 (.lst [])) := same_new nq0
    refine ⟨_, rfl, p, rfl, ⟨_, SqL.of (sq _ _ hp)⟩, for_it walk_list (fun j σ H2 => ∃ x5 x6 qq zs, σ = [some (.ref a), some (.ref p), some (.str fs[i].1), some (.ref o), some (.ref qq), x5, x6] ∧ Same H'' H2 ∧ H2 qq = some (.lst zs) ∧ H'' qq = none ∧
        DpAll K H2 zs ((ext1 ((vals (fs.take i)).take j) fs[i]).map dV))
      ⟨x5, x6, q0, [], rfl, sq, upd_same, nq0, .nil⟩ (fun j σ H2 _ ⟨_, _, _, _, _, e, _⟩ => SqL.of (e _ _ hp)) ?_ ?_⟩
    · rintro j y σ H2 H3 hj ⟨x5, x6, qq, zs, rfl, s2, hq, nq, hE⟩ ⟨rfl, ey⟩
      obtain ⟨d, e1, e2⟩ := DpAll.get hD ey
      rw [List.getElem?_map] at e1
      cases ev : (vals (fs.take i))[j]? with
      | none =>
        rw [ev] at e1
        cases e1
      | some v =>
        rw [ev] at e1
        cases e1
        obtain ⟨ya, rfl, hya⟩ := dp_dV (Dp.mono s2 e2)
        have lv : v.length ≤ 3 := by
          have z := (vals_ok (fs := fs.take i) v (List.mem_of_getElem? ev)).1
          rw [List.length_take] at z
          have := ok.le
          omega
        refine ⟨_, rfl, _, rfl, o, rfl, ⟨_, Same.tup s2 k2.sqT⟩, fun D nD => ?_⟩
        refine lc_it walk_tup (fun m H4 => ∃ ws, Same H3 H4 ∧ H4 D = some (.lst ws) ∧ DpAll K H4 ws (((fs[i].2.take m).map fun o => v ++ [o]).map dV)) ⟨[], same_new nD, upd_same, .nil⟩ (fun m H4 _ ⟨_, e, _⟩ => Same.tup (s2.trans e) k2.sqT) ?_ ?_
        · rintro m z H4 H5 hm ⟨ws, s4, hD4, hW⟩ ⟨rfl, ez⟩
          rw [List.getElem?_map] at ez
          cases eo : fs[i].2[m]? with
          | none =>
            rw [eo] at ez
            cases ez
          | some op =>
            rw [eo] at ez
            cases ez
            have hmm : m < fs[i].2.length := (List.getElem?_eq_some_iff.mp eo).1
            have lw : ws.length < sizeLine := lt_line (by rw [DpAll.length hW, List.length_map, List.length_map, List.length_take]; omega)
            refine ⟨rfl, ?_⟩
            refine ⟨_, rfl, _, rfl, (by show 1 ≤ sizeLine; decide), fun t1 n1 => ?_⟩
            have s5 : Same H5 (upd H5 t1 (.tup [.str op])) := same_new n1
            refine ⟨ya, t1, v.map V.str, [.str op], rfl, rfl, Same.tup (s4.trans s5) hya, .inl (.inl upd_same), le_line (by rw [List.length_map]; show _ + 1 ≤ _; omega), fun hnil => ?_, fun _ z => (by cases z), fun hne _ t2 n2 => ?_⟩
            · have vn : v = [] := by simpa using hnil
              subst vn
              have hD5 := s5 _ _ hD4
              have im : Imm (upd H5 t1 (.tup [.str op])) (upd (upd H5 t1 (.tup [.str op])) D (.lst (ws ++ [.ref t1]))) := imm_upd hD5
              refine ⟨ws, hD5, lw, ws ++ [.ref t1], same_mut (s4.trans s5) nD, upd_same, ?_⟩
              rw [List.take_add_one, eo, List.map_append, List.map_append]
              exact dpa_snoc (DpAll.imm im (noLs_map noL_dV _) (DpAll.mono s5 hW)) (Dp.imm im (noL_dV _) (dV_dp (w := [op]) (.inl (.inl upd_same))))
            · have s6 := s5.trans (same_new (o := .tup (v.map V.str ++ [.str op])) n2)
              have hD5 := s6 _ _ hD4
              have im : Imm (upd (upd H5 t1 (.tup [.str op])) t2 (.tup (v.map V.str ++ [.str op]))) (upd (upd (upd H5 t1 (.tup [.str op])) t2 (.tup (v.map V.str ++ [.str op]))) D (.lst (ws ++ [.ref t2]))) := imm_upd hD5
              refine ⟨ws, hD5, lw, ws ++ [.ref t2], same_mut (s4.trans s6) nD, upd_same, ?_⟩
              rw [List.take_add_one, eo, List.map_append, List.map_append]
              exact dpa_snoc (DpAll.imm im (noLs_map noL_dV _) (DpAll.mono s6 hW)) (Dp.imm im (noL_dV _) (dV_dp (w := v ++ [op]) (by rw [List.map_append]; exact .inl (.inl upd_same))))
        · rintro H4 ⟨ws, s4, hD4, hW⟩
          rw [List.length_map, List.take_length] at hW
          have lzs : zs.length = (ext1 ((vals (fs.take i)).take j) fs[i]).length := by rw [DpAll.length hE, List.length_map]
          have lws : ws.length = fs[i].2.length := by rw [DpAll.length hW, List.length_map, List.length_map]
          have lz2 : (ext1 ((vals (fs.take i)).take j) fs[i]).length ≤ 216 := by
            unfold ext1
            rw [flat_len]
            refine Nat.le_trans (Nat.mul_le_mul_right _ ?_) b216
            rw [List.length_take]
            exact Nat.min_le_right _ _
          refine ⟨qq, D, zs, ws, rfl, rfl, s4 _ _ hq, hD4, le_line (by omega), fun c nc => ?_⟩
          have s5 : Same H4 (upd H4 c (.lst (zs ++ ws))) := same_new nc
          refine ⟨_, _, c, zs ++ ws, rfl, s2.trans (s4.trans s5), upd_same, ?_, ?_⟩
          · exact (s2.trans s4).free nc
          have e3 : ext1 ((vals (fs.take i)).take (j + 1)) fs[i] = ext1 ((vals (fs.take i)).take j) fs[i] ++ fs[i].2.map fun o => v ++ [o] := by
            unfold ext1
            rw [List.take_add_one, ev, List.flatMap_append]
            simp
          rw [e3, List.map_append]
          exact DpAll.append (DpAll.mono (s4.trans s5) hE) (DpAll.mono s5 hW)
    · rintro σ H2 ⟨x5, x6, qq, zs, rfl, s2, hq, nq, hE⟩
      rw [lys, List.take_length] at hE
      refine ⟨_, rfl, ?_⟩
      refine ⟨_, _, _, _, _, qq, zs, rfl, s1.trans s2, hq, ?_⟩
      rw [vals_take hf]
      exact hE
  · rintro σ H' ⟨x2, x3, x4, x5, x6, p, ys, rfl, s1, hp, hD⟩
    rw [lxs, List.take_length] at hD
    exact ⟨_, rfl, q H' p ys s1 hp hD⟩
end
end Bh

set_option Elab.async false
set_option linter.all false
set_option maxRecDepth 100000
set_option maxHeartbeats 2000000
namespace Bh
open PySem PySem.Spec PyProof.Rows L2
def spLaw (K : PySem.W.Frag) : Sp := fun vs H Q _ => ∃ (a : Addr) (ns : List Int), vs = [.ref a] ∧ SqL K H a (ns.map V.int) ∧ ns.length ≤ 63 ∧ ∀ H', Q (.bl true) H'
section
variable {P : Program} {w : World} {K : PySem.W.Frag} {mg : Str → Option Value} {base : Heap}
theorem kb_applied (T : Top K mg) : KBn K T.fd_applied ["fields", "program", "holding"] 0 ["fields", "holding", "program"] (fun _ ws => perm3 ws) (fun _ zs => perm3 zs) := by
  obtain ⟨oc, od, kV, doc, pm, an, cdv, ct, osl, e, _⟩ := T.d_applied.F.ex
  refine ⟨fun s us ws _ l1 l2 => ?_, fun _ r => perm3_rel r⟩
  rw [e]
  match us, ws, l1, l2 with
  | [], [_, _, _], _, _ => exact .of_eq rfl
theorem ok_law {f : Addr} {fd : FuncData} (T : Top K mg) (F : Fun K "law" "law" s_law f fd) : FnOk P w K mg base CX0 5 f fd ["_law_script"] (spLaw K) := by
  have G_l_bag := ok_bag (P := P) (w := w) (base := base) T
  have G_l_fields := ok_fields (P := P) (w := w) (base := base) T
  have G_l_program := ok_program (P := P) (w := w) (base := base) T
  have G_l_values := ok_values (P := P) (w := w) (base := base) T
  have G_l_applied := ok_lapplied (P := P) (w := w) (base := base) T
  have G_applied := ok_applied (P := P) (w := w) (base := base) T
  have G_l_like := ok_like (P := P) (w := w) (base := base) T 3
  refine F.ok sc_law (fun vs H Q E h => ?_) (fun cdv A outer s H vs Q E hr h => ?_)
  · obtain ⟨a, ns, rfl, _⟩ := h
    rfl
  obtain ⟨a, ns, rfl, hS, h63, q⟩ := h
  refine ⟨_, (pss_cons (ps_set (i := 1) sc_law.nd rfl (Or.inl rfl) (pe_call G_l_bag (hr.mono (by decide)) (by rfl) T.d_l_bag.g T.d_l_bag.kp T.d_l_bag.b .nil pass0 (pa_cons (pv 0) pa_nil)))
    (pss_cons (ps_set (i := 2) sc_law.nd rfl (Or.inl rfl) (pe_call G_l_fields (hr.mono (by decide)) (by rfl) T.d_l_fields.g T.d_l_fields.kp T.d_l_fields.b .nil pass0 (pa_cons (pv 1) (pa_cons pe_int pa_nil))))
    (pss_cons (ps_set (i := 3) sc_law.nd rfl (Or.inl rfl) (pe_call G_l_program (hr.mono (by decide)) (by rfl) T.d_l_program.g T.d_l_program.kp T.d_l_program.b .nil pass0 (pa_cons (pv 1) (pa_cons (pv 2) (pa_cons pe_int pa_nil)))))
    (pss_cons (ps_set (i := 4) sc_law.nd rfl (Or.inl rfl) (pe_callTy (call_list_of_K (K := K) (by rfl)) (by rfl) T.b_list (by decide +kernel) (pa_cons (pv 2) pa_nil)))
    (pss_cons (ps_for PassesOwn.never rfl (pi_list_K (K := K) (by rfl) (pe_call G_l_values (hr.mono (by decide)) (by rfl) T.d_l_values.g T.d_l_values.kp T.d_l_values.b .nil pass0 (pa_cons (pv 2) pa_nil))) (pg_name (i := 5) sc_law.nd rfl (Or.inl rfl))
      (pss_cons (ps_set (i := 6) sc_law.nd rfl (Or.inl rfl) (pe_call G_l_applied (hr.mono (by decide)) (by rfl) T.d_l_applied.g T.d_l_applied.kp T.d_l_applied.b .nil pass0 (pa_cons (pv 2) (pa_cons (pv 3) (pa_cons (pv 5) pa_nil)))))
      (pss_cons (ps_if (PW.pt (pw_or (pt_not (pt_val (pe_call G_l_like (hr.mono (by decide)) (by rfl) T.d_l_like.g T.d_l_like.kp T.d_l_like.b .nil pass0 (pa_cons (pe_call G_applied (hr.mono (by decide)) (by rfl) T.d_applied.g T.d_applied.kp T.d_applied.b .nil pass0 (pa_cons (pv 4) (pa_cons (pv 3) (pa_cons (pv 5) pa_nil)))) (pa_cons (pv 6) pa_nil))))) (pw_or1 (pt_cmpR (op_neP (K := K) (by rfl) hr.units) (pv 4) (pv 2) (nomark _))))) (pss_one (ps_ret pe_bl)) pss_nil)
      (pss_one (ps_if (pt_not (pt_val (pe_call G_l_like (hr.mono (by decide)) (by rfl) T.d_l_like.g T.d_l_like.kp T.d_l_like.b .nil pass0 (pa_cons (pe_callN0 G_applied (hr.mono (by decide)) (by rfl) T.d_applied.g T.d_applied.kp (kb_applied T) pass0 (pk_cons (pe_callTy (call_tuple_of_P (K := K) (by rfl)) (by rfl) T.b_tuple (by decide +kernel) (pa_cons (pv 2) pa_nil)) (pk_cons (pv 5) (pk_cons (pv 3) pk_nil)))) (pa_cons (pv 6) pa_nil))))) (pss_one (ps_ret pe_bl)) pss_nil)))))
    (pss_cons (ps_if (pt_cmpR op_notN (pe_call G_applied (hr.mono (by decide)) (by rfl) T.d_applied.g T.d_applied.kp T.d_applied.b .nil pass0 (pa_cons (pv 4) (pa_cons (pv 3) (pa_cons pe_non pa_nil)))) pe_non (nomark _)) (pss_one (ps_ret pe_bl)) pss_nil)
    (pss_cons (ps_asg (pe_ix (ix_list_K (K := K) (by rfl)) (pv 2) pe_int (fun _ _ => rfl)) (pg_tup_K (K := K) (by rfl) (n := 2) (by rfl) (pgs_cons (pg_name (i := 7) sc_law.nd rfl (Or.inl rfl)) (pgs_cons (pg_name (i := 8) sc_law.nd rfl (Or.inl rfl)) pgs_nil))))
    (pss_cons (ps_par (i := 9) (j := 10) (by rfl) sc_law.nd rfl rfl (by decide) rfl rfl (pa_cons (pe_call G_l_values (hr.mono (by decide)) (by rfl) T.d_l_values.g T.d_l_values.kp T.d_l_values.b .nil pass0 (pa_cons (pv 2) pa_nil)) (pa_cons (pe_tup (pa_cons (pv 7) (pa_cons pe_str pa_nil))) pa_nil)) (by rfl))
    (pss_cons (ps_set (i := 11) sc_law.nd rfl (Or.inl rfl) (pe_lst (pa_cons (pe_tup (pa_cons (pe_tup (pa_cons (pe_tup pa_nil) (pa_cons (pe_op (op_repT_K (K := K) (by rfl)) (pe_tup (pa_cons (pv 10) pa_nil)) pe_int) pa_nil))) pa_nil)) (pa_cons (pe_tup (pa_cons (pe_tup (pa_cons (pe_tup pa_nil) (pa_cons (pe_tup pa_nil) pa_nil))) pa_nil)) (pa_cons (pe_tup (pa_cons (pe_tup (pa_cons (pe_tup pa_nil) (pa_cons pe_non pa_nil))) (pa_cons (pe_tup (pa_cons (pe_tup pa_nil) (pa_cons (pe_tup pa_nil) pa_nil))) pa_nil))) pa_nil)))))
    (pss_cons (ps_set (i := 12) sc_law.nd rfl (Or.inl rfl) (pe_lst (pa_cons (pe_ix (ix_tup_K (K := K) (by rfl)) (pe_call G_applied (hr.mono (by decide)) (by rfl) T.d_applied.g T.d_applied.kp T.d_applied.b .nil pass0 (pa_cons (pv 2) (pa_cons (pe_ix (ix_list_K (K := K) (by rfl)) (pv 11) pe_int (fun _ _ => rfl)) (pa_cons (pe_ix (ix_list_K (K := K) (by rfl)) (pv 9) pe_int (fun _ _ => rfl)) pa_nil)))) pe_int (fun _ _ => rfl)) pa_nil)))
    (pss_cons (ps_expr (pe_bm_K (K := K) (by rfl) PySem.F.plainAttrs_list PySem.F.slot_list_append PySem.F.type_list_append mt_append (pv 12) (pa_cons (pe_call G_applied (hr.mono (by decide)) (by rfl) T.d_applied.g T.d_applied.kp T.d_applied.b .nil pass0 (pa_cons (pv 2) (pa_cons (pe_ix (ix_list_K (K := K) (by rfl)) (pv 11) pe_int (fun _ _ => rfl)) (pa_cons (pe_ix (ix_list_K (K := K) (by rfl)) (pv 9) (pe_un un_neg pe_int) (fun _ _ => rfl)) pa_nil)))) pa_nil)))
    (pss_cons (ps_expr (pe_bm_K (K := K) (by rfl) PySem.F.plainAttrs_list PySem.F.slot_list_append PySem.F.type_list_append mt_append (pv 12) (pa_cons (pe_call G_applied (hr.mono (by decide)) (by rfl) T.d_applied.g T.d_applied.kp T.d_applied.b .nil pass0 (pa_cons (pv 2) (pa_cons (pe_ix (ix_list_K (K := K) (by rfl)) (pv 11) pe_int (fun _ _ => rfl)) (pa_cons (pe_ix (ix_list_K (K := K) (by rfl)) (pv 9) pe_int (fun _ _ => rfl)) pa_nil)))) pa_nil)))
    (pss_cons (ps_set (i := 13) sc_law.nd rfl (Or.inl rfl) (pe_callB (call_min2 rfl) (by rfl) T.b_min (by decide +kernel) (pa_cons pe_int (pa_cons (pe_op op_sub (pe_callB (call_len_seq_K (K := K) (by rfl)) (by rfl) T.b_len PySem.boot_len (pa_cons (pv 8) pa_nil)) pe_int) pa_nil))))
    (pss_one (ps_ret (pe_call G_l_like (hr.mono (by decide)) (by rfl) T.d_l_like.g T.d_l_like.kp T.d_l_like.b .nil pass0 (pa_cons (pv 12) (pa_cons (pe_lst (pa_cons (pe_ix (ix_tup_K (K := K) (by rfl)) (pv 8) (pv 13) (fun _ _ => rfl)) (pa_cons (pe_ix (ix_list_K (K := K) (by rfl)) (pv 9) (pe_un un_neg pe_int) (fun _ _ => rfl)) (pa_cons pe_non pa_nil)))) pa_nil)))))))))))))))))), ?_⟩
  refine ⟨_, rfl, a, ns, rfl, hS, h63, fun b l H1 nb nl s1 hb => ?_⟩
  have wd := wd_start nb nl s1 hb
  refine ⟨_, rfl, b, l, H, rfl, wd, fun G2 H2 pf xs fs s2 w2 hx hp ok => ?_⟩
  refine ⟨_, rfl, _, rfl, b, l, pf, G2, 8, xs, fs, rfl, SqL.of hx, hp, ok, by decide, by decide, w2, fun G3 H3 y p s3 w3 hP hc p1 p8 => ?_⟩
  have hx3 := w3.sm _ _ (s3 _ _ hx)
  have hF3 := fds_mono (s3.trans w3.sm) hp
  have hP3 := Dp.mono w3.sm hP
  have lxs := fds_len hp
  have l3 : fs.length ≤ 1000 := by
    have := ok.le
    omega
  have lx3 : xs.length ≤ 100000 := by
    rw [lxs]
    omega
  have fC : ∀ c ∈ p, FitC fs c := fun c h' => (hc c h').1
  refine ⟨_, rfl, pf, xs, rfl, .inl (SqL.of hx3), fun ph nh => ?_⟩
  have s4 : Same H3 (upd H3 ph (.lst xs)) := same_new nh
  refine ⟨_, rfl, pf, xs, fs, rfl, SqL.of (s4 _ _ hx3), fds_mono s4 hF3, ok, fun H5 pv ys s5 hv hD5 => ?_⟩
  have s35 := s4.trans s5
  have hx5 := s35 _ _ hx3
  have hh5 : H5 ph = some (.lst xs) := s5 _ _ upd_same
  have hF5 := fds_mono s35 hF3
  have hP5 := Dp.mono s35 hP3
  have fsA : ∀ {H' : Hp}, Same H5 H' → FsAt K H' (.ref pf) fs := fun e => ⟨pf, xs, rfl, .inl (SqL.of (e _ _ hx5)), fds_mono e hF5⟩
  have fsB : ∀ {H' : Hp}, Same H5 H' → FsAt K H' (.ref ph) fs := fun e => ⟨ph, xs, rfl, .inl (SqL.of (e _ _ hh5)), fds_mono e hF5⟩
  have shV : ∀ v : List Str, v.length ≤ 1000 → Sh 2 (dV v) := fun v hv => Sh.strs 1 v (by omega)
  have fitL : ∀ v : List Str, FitV fs v → v.length ≤ 1000 := fun v hv => by
    rw [hv.1]
    omega
  have shH : ∀ v : List Str, FitV fs v → Sh 2 (dH (applyH fs p (some v))) := fun v hv => by
    have key : ∀ (p' : List Cas), (∀ c ∈ p', FitC fs c) → Sh 2 (dH (applyP fs p' v)) := by
      intro p'
      induction p' with
      | nil =>
        intro _
        exact .non
      | cons c r ih =>
        intro hc'
        show Sh 2 (dH (if c.1.all (holdsT fs v) = true then c.2.map (fun ss => stepped fs ss v) else applyP fs r v))
        by_cases e : c.1.all (holdsT fs v) = true
        · rw [if_pos e]
          cases e2 : c.2 with
          | none => exact .non
          | some ss =>
            have fs2 := stepped_fit ((hc' c (List.mem_cons_self ..)).s ss e2) hv
            exact shV _ (fitL _ fs2)
        · rw [if_neg e]
          exact ih fun c' h' => hc' c' (List.mem_cons_of_mem _ h')
    exact key p fC
  have dpt : min (PyData.list (fs.map dF)).depth (PyData.list (fs.map dF)).depth ≤ 64 := by
    have sh : Sh 3 (PyData.list (fs.map dF)) := .lst (by rw [List.length_map]; omega) fun d hd => by
      obtain ⟨f', hf', rfl⟩ := List.mem_map.mp hd
      refine .tup (by show 2 ≤ _; decide) fun d' hd' => ?_
      rcases List.mem_cons.mp hd' with h' | h'
      · rw [h']
        exact .str
      · cases List.mem_singleton.mp h'
        exact Sh.strs 0 _ (by have := (ok.os f' hf').2.2.1; omega)
    have := sh.depth
    omega
  refine ⟨pv, rfl, ⟨_, SqL.of hv⟩, for_it walk_list (fun i σ H' => ∃ x5 x6, σ = [some (.ref a), some (.ref b), some (.ref pf), some y, some (.ref ph), x5, x6, none, none, none, none, none, none, none] ∧ Same H5 H')
    ⟨none, none, rfl, Same.refl _⟩ (fun i σ H' _ ⟨_, _, _, e⟩ => SqL.of (e _ _ hv)) ?_ ?_⟩
  · rintro i x σ H' H6 hi ⟨x5, x6, rfl, s6⟩ ⟨rfl, ex⟩
    obtain ⟨d, e1, e2⟩ := DpAll.get hD5 ex
    rw [List.getElem?_map] at e1
    cases ev : (vals fs)[i]? with
    | none =>
      rw [ev] at e1
      cases e1
    | some v =>
      rw [ev] at e1
      cases e1
      have fV := vals_ok v (List.mem_of_getElem? ev)
      have hV6 := Dp.mono s6 e2
      refine ⟨_, rfl, _, rfl, _, rfl, .ref pf, y, x, fs, p, some v, rfl, fsA s6, l3, Dp.mono s6 hP5, hV6, fC, (fun w' z => by cases z; exact fV), fun H7 r s7 hr7 => ?_⟩
      have s57 := s6.trans s7
      refine ⟨_, rfl, _, rfl, _, rfl, .ref ph, y, x, fs, p, some v, rfl, fsB s57, l3, Dp.mono s57 hP5, Dp.mono s7 hV6, fC, (fun w' z => by cases z; exact fV), fun H8 r2 s8 hr8 => ?_⟩
      refine ⟨_, rfl, r2, r, _, rfl, hr8, Dp.mono s8 hr7, shH v fV, fun H9 s9 => ⟨true, rfl, ?_⟩⟩
      have s59 := s57.trans (s8.trans s9)
      refine ⟨_, rfl, _, rfl, .list (fs.map dF), .list (fs.map dF), .lst (SqL.of (s59 _ _ hh5)) (fds_dp (fds_mono s59 hF5)), .lst (SqL.of (s59 _ _ hx5)) (fds_dp (fds_mono s59 hF5)), dpt, _, rfl, ?_⟩
      have er : PyData.eqv (.list (fs.map dF)) (.list (fs.map dF)) = true := SeqAt.eqv_refl_plain _ (Dp.plain (K := K) (H := H5) (.lst (SqL.of hx5) (fds_dp hF5)))
      rw [er]
      refine ⟨_, rfl, pf, xs, rfl, .inl ⟨SqL.of (s59 _ _ hx5), fun pt o nt ho => ?_⟩⟩
      have s10 : Same H9 (upd H9 pt (.frz o (.tup xs))) := same_new nt
      have s510 := s59.trans s10
      refine ⟨_, rfl, _, rfl, rfl, rfl, .ref pt, y, x, fs, p, some v, rfl, ⟨pt, xs, rfl, .inr (SqP.new ho).sqT, fds_mono s510 hF5⟩, l3, Dp.mono s510 hP5, Dp.mono (s7.trans (s8.trans (s9.trans s10))) hV6, fC, (fun w' z => by cases z; exact fV), fun H11 r3 s11 hr11 => ?_⟩
      refine ⟨_, rfl, r3, r, _, rfl, hr11, Dp.mono (s8.trans (s9.trans (s10.trans s11))) hr7, shH v fV, fun H12 s12 => ⟨true, rfl, ?_⟩⟩
      exact ⟨_, _, rfl, s510.trans (s11.trans s12)⟩
  · rintro σ H' ⟨x5, x6, rfl, s6⟩
    refine ⟨_, rfl, _, rfl, .ref ph, y, .non, fs, p, none, rfl, fsB s6, l3, Dp.mono s6 hP5, .non, fC, (fun w' z => by cases z), fun H7 r s7 hr7 => ?_⟩
    cases dp_non hr7
    have s57 := s6.trans s7
    refine ⟨rfl, _, rfl, ?_⟩
    obtain ⟨f1, fr, rfl⟩ : ∃ f r, fs = f :: r := by
      cases fs with
      | nil => exact absurd ok.ne (by decide)
      | cons f r => exact ⟨f, r, rfl⟩
    have of1 := ok.os f1 (List.mem_cons_self ..)
    obtain ⟨x1, ex1, t1, o1, rfl, k1, k2⟩ := fds_get (i := 0) (f := f1) (fds_mono s57 hF5) rfl
    refine ⟨_, rfl, _, _, _, _, rfl, rfl, SqL.of (s57 _ _ hx5), atI_nat (j := 0) ex1, ?_⟩
    refine ⟨t1, _, rfl, k1, rfl, _, _, rfl, _, _, rfl, rfl, ?_⟩
    refine ⟨_, rfl, pf, xs, f1 :: fr, rfl, SqL.of (s57 _ _ hx5), fds_mono s57 hF5, ok, fun H8 pe es s8 he hE => ?_⟩
    refine ⟨_, rfl, (by show 2 ≤ sizeLine; decide), fun st nst => ?_⟩
    refine ⟨_, _, rfl, ?_⟩
    have hn : ∀ g ∈ f1 :: fr, g.2 ≠ [] := fun g hg z => by
      have := (ok.os g hg).2.1
      rw [z] at this
      cases this
    obtain ⟨v0, z1, z2⟩ := vals_zero hn
    have nev : vals (f1 :: fr) ≠ [] := fun z => by
      rw [z] at z1
      cases z1
    have fV0 := vals_ok v0 (List.mem_of_getElem? z1)
    have zl : (vals (f1 :: fr)).getLast? = some ((vals (f1 :: fr)).getLast nev) := List.getLast?_eq_getLast nev
    obtain ⟨vL, eL⟩ : ∃ vL, vL = (vals (f1 :: fr)).getLast nev := ⟨_, rfl⟩
    rw [← eL] at zl
    have zi : (vals (f1 :: fr))[(vals (f1 :: fr)).length - 1]? = some vL := by
      rw [← List.getLast?_eq_getElem?]
      exact zl
    have fVL := vals_ok vL (List.mem_of_getElem? zi)
    obtain ⟨y0, ey0, hy0⟩ := DpAll.getD hE (i := 0) (d := dV v0) (by rw [List.getElem?_map, z1]; rfl)
    obtain ⟨yL, eyL, hyL⟩ := DpAll.getD hE (i := (vals (f1 :: fr)).length - 1) (d := dV vL) (by rw [List.getElem?_map, zi]; rfl)
    have les : es.length = (vals (f1 :: fr)).length := by rw [DpAll.length hE, List.length_map]
    have aL : atI es (-1) = some yL := at_last (by rw [List.getLast?_eq_getElem?, les]; exact eyL)
    have a0 : atI es ((0 : Nat) : Int) = some y0 := atI_nat ey0
    obtain ⟨A0, eA0⟩ : ∃ A0, A0 = upd H8 st (.tup [.str f1.1, .str "+"]) := ⟨_, rfl⟩
    rw [← eA0]
    have tA0 : Same H8 A0 := by rw [eA0]; exact same_new nst
    have hst : A0 st = some (.tup [.str f1.1, .str "+"]) := by rw [eA0]; exact upd_same
    refine ⟨(by show 0 ≤ sizeLine; decide), fun e0 n_e0 => ?_⟩
    obtain ⟨A1, eA1⟩ : ∃ X, X = upd A0 e0 (.tup []) := ⟨_, rfl⟩
    rw [← eA1]
    have tA1 : Same A0 A1 := by rw [eA1]; exact same_new n_e0
    have h_e0 : A1 e0 = some (.tup []) := by rw [eA1]; exact upd_same
    refine ⟨_, rfl, (by show 1 ≤ sizeLine; decide), fun u1 n_u1 => ?_⟩
    obtain ⟨A2, eA2⟩ : ∃ X, X = upd A1 u1 (.tup [.ref st]) := ⟨_, rfl⟩
    rw [← eA2]
    have tA2 : Same A1 A2 := by rw [eA2]; exact same_new n_u1
    have h_u1 : A2 u1 = some (.tup [.ref st]) := by rw [eA2]; exact upd_same
    refine ⟨u1, 6, [.ref st], rfl, rfl, SqT.of h_u1, (by simp), by decide, by decide, (by show 1 ≤ 1000; decide), fun u2 n_u2 => ?_⟩
    obtain ⟨A3, eA3⟩ : ∃ X, X = upd A2 u2 (.tup (List.replicate (Int.toNat 6) [V.ref st]).flatten) := ⟨_, rfl⟩
    rw [← eA3]
    have tA3 : Same A2 A3 := by rw [eA3]; exact same_new n_u2
    have h_u2 : A3 u2 = some (.tup (List.replicate (Int.toNat 6) [V.ref st]).flatten) := by rw [eA3]; exact upd_same
    refine ⟨(by show 2 ≤ sizeLine; decide), fun u3 n_u3 => ?_⟩
    obtain ⟨A4, eA4⟩ : ∃ X, X = upd A3 u3 (.tup [.ref e0, .ref u2]) := ⟨_, rfl⟩
    rw [← eA4]
    have tA4 : Same A3 A4 := by rw [eA4]; exact same_new n_u3
    have h_u3 : A4 u3 = some (.tup [.ref e0, .ref u2]) := by rw [eA4]; exact upd_same
    refine ⟨(by show 1 ≤ sizeLine; decide), fun u4 n_u4 => ?_⟩
    obtain ⟨A5, eA5⟩ : ∃ X, X = upd A4 u4 (.tup [.ref u3]) := ⟨_, rfl⟩
    rw [← eA5]
    have tA5 : Same A4 A5 := by rw [eA5]; exact same_new n_u4
    have h_u4 : A5 u4 = some (.tup [.ref u3]) := by rw [eA5]; exact upd_same
    refine ⟨(by show 0 ≤ sizeLine; decide), fun e5 n_e5 => ?_⟩
    obtain ⟨A6, eA6⟩ : ∃ X, X = upd A5 e5 (.tup []) := ⟨_, rfl⟩
    rw [← eA6]
    have tA6 : Same A5 A6 := by rw [eA6]; exact same_new n_e5
    have h_e5 : A6 e5 = some (.tup []) := by rw [eA6]; exact upd_same
    refine ⟨(by show 0 ≤ sizeLine; decide), fun e6 n_e6 => ?_⟩
    obtain ⟨A7, eA7⟩ : ∃ X, X = upd A6 e6 (.tup []) := ⟨_, rfl⟩
    rw [← eA7]
    have tA7 : Same A6 A7 := by rw [eA7]; exact same_new n_e6
    have h_e6 : A7 e6 = some (.tup []) := by rw [eA7]; exact upd_same
    refine ⟨(by show 2 ≤ sizeLine; decide), fun u7 n_u7 => ?_⟩
    obtain ⟨A8, eA8⟩ : ∃ X, X = upd A7 u7 (.tup [.ref e5, .ref e6]) := ⟨_, rfl⟩
    rw [← eA8]
    have tA8 : Same A7 A8 := by rw [eA8]; exact same_new n_u7
    have h_u7 : A8 u7 = some (.tup [.ref e5, .ref e6]) := by rw [eA8]; exact upd_same
    refine ⟨(by show 1 ≤ sizeLine; decide), fun u8 n_u8 => ?_⟩
    obtain ⟨A9, eA9⟩ : ∃ X, X = upd A8 u8 (.tup [.ref u7]) := ⟨_, rfl⟩
    rw [← eA9]
    have tA9 : Same A8 A9 := by rw [eA9]; exact same_new n_u8
    have h_u8 : A9 u8 = some (.tup [.ref u7]) := by rw [eA9]; exact upd_same
    refine ⟨(by show 0 ≤ sizeLine; decide), fun e9 n_e9 => ?_⟩
    obtain ⟨A10, eA10⟩ : ∃ X, X = upd A9 e9 (.tup []) := ⟨_, rfl⟩
    rw [← eA10]
    have tA10 : Same A9 A10 := by rw [eA10]; exact same_new n_e9
    have h_e9 : A10 e9 = some (.tup []) := by rw [eA10]; exact upd_same
    refine ⟨(by show 2 ≤ sizeLine; decide), fun u10 n_u10 => ?_⟩
    obtain ⟨A11, eA11⟩ : ∃ X, X = upd A10 u10 (.tup [.ref e9, .non]) := ⟨_, rfl⟩
    rw [← eA11]
    have tA11 : Same A10 A11 := by rw [eA11]; exact same_new n_u10
    have h_u10 : A11 u10 = some (.tup [.ref e9, .non]) := by rw [eA11]; exact upd_same
    refine ⟨(by show 0 ≤ sizeLine; decide), fun e11 n_e11 => ?_⟩
    obtain ⟨A12, eA12⟩ : ∃ X, X = upd A11 e11 (.tup []) := ⟨_, rfl⟩
    rw [← eA12]
    have tA12 : Same A11 A12 := by rw [eA12]; exact same_new n_e11
    have h_e11 : A12 e11 = some (.tup []) := by rw [eA12]; exact upd_same
    refine ⟨(by show 0 ≤ sizeLine; decide), fun e12 n_e12 => ?_⟩
    obtain ⟨A13, eA13⟩ : ∃ X, X = upd A12 e12 (.tup []) := ⟨_, rfl⟩
    rw [← eA13]
    have tA13 : Same A12 A13 := by rw [eA13]; exact same_new n_e12
    have h_e12 : A13 e12 = some (.tup []) := by rw [eA13]; exact upd_same
    refine ⟨(by show 2 ≤ sizeLine; decide), fun u13 n_u13 => ?_⟩
    obtain ⟨A14, eA14⟩ : ∃ X, X = upd A13 u13 (.tup [.ref e11, .ref e12]) := ⟨_, rfl⟩
    rw [← eA14]
    have tA14 : Same A13 A14 := by rw [eA14]; exact same_new n_u13
    have h_u13 : A14 u13 = some (.tup [.ref e11, .ref e12]) := by rw [eA14]; exact upd_same
    refine ⟨(by show 2 ≤ sizeLine; decide), fun u14 n_u14 => ?_⟩
    obtain ⟨A15, eA15⟩ : ∃ X, X = upd A14 u14 (.tup [.ref u10, .ref u13]) := ⟨_, rfl⟩
    rw [← eA15]
    have tA15 : Same A14 A15 := by rw [eA15]; exact same_new n_u14
    have h_u14 : A15 u14 = some (.tup [.ref u10, .ref u13]) := by rw [eA15]; exact upd_same
    refine ⟨(by show 3 ≤ sizeLine; decide), fun rw n_rw => ?_⟩
    obtain ⟨A16, eA16⟩ : ∃ X, X = upd A15 rw (.lst [.ref u4, .ref u8, .ref u14]) := ⟨_, rfl⟩
    rw [← eA16]
    have tA16 : Same A15 A16 := by rw [eA16]; exact same_new n_rw
    have h_rw : A16 rw = some (.lst [.ref u4, .ref u8, .ref u14]) := by rw [eA16]; exact upd_same
    have U16 : Same A16 A16 := Same.refl _
    have U15 : Same A15 A16 := tA16.trans U16
    have U14 : Same A14 A16 := tA15.trans U15
    have U13 : Same A13 A16 := tA14.trans U14
    have U12 : Same A12 A16 := tA13.trans U13
    have U11 : Same A11 A16 := tA12.trans U12
    have U10 : Same A10 A16 := tA11.trans U11
    have U9 : Same A9 A16 := tA10.trans U10
    have U8 : Same A8 A16 := tA9.trans U9
    have U7 : Same A7 A16 := tA8.trans U8
    have U6 : Same A6 A16 := tA7.trans U7
    have U5 : Same A5 A16 := tA6.trans U6
    have U4 : Same A4 A16 := tA5.trans U5
    have U3 : Same A3 A16 := tA4.trans U4
    have U2 : Same A2 A16 := tA3.trans U3
    have U1 : Same A1 A16 := tA2.trans U2
    have U0 : Same A0 A16 := tA1.trans U1
    have s8R : Same H8 A16 := tA0.trans U0
    have s5R : Same H5 A16 := s57.trans (s8.trans s8R)
    have P0 : Dp K A16 (.ref u4) (.tuple (([([], some (List.replicate 6 ((f1.1, "+") : Stp)))] : List Cas).map dC)) := by
      have hs : Dp K A16 (.ref st) (dS (f1.1, "+")) := .tup (SqT.of (U0 _ _ hst)) (.cons (.str _) (.cons (.str _) .nil))
      have h2 : Dp K A16 (.ref u2) (.tuple ((List.replicate 6 ((f1.1, "+") : Stp)).map dS)) := .tup (SqT.of (U3 _ _ h_u2)) (.cons hs (.cons hs (.cons hs (.cons hs (.cons hs (.cons hs .nil))))))
      exact .tup (SqT.of (U5 _ _ h_u4)) (.cons (.tup (SqT.of (U4 _ _ h_u3)) (.cons (.tup (SqT.of (U1 _ _ h_e0)) .nil) (.cons h2 .nil))) .nil)
    have P1 : Dp K A16 (.ref u8) (.tuple (([([], some [])] : List Cas).map dC)) :=
      .tup (SqT.of (U9 _ _ h_u8)) (.cons (.tup (SqT.of (U8 _ _ h_u7)) (.cons (.tup (SqT.of (U6 _ _ h_e5)) .nil) (.cons (.tup (SqT.of (U7 _ _ h_e6)) .nil) .nil))) .nil)
    have P2 : Dp K A16 (.ref u14) (.tuple (([([], none), ([], some [])] : List Cas).map dC)) :=
      .tup (SqT.of (U15 _ _ h_u14)) (.cons (.tup (SqT.of (U11 _ _ h_u10)) (.cons (.tup (SqT.of (U10 _ _ h_e9)) .nil) (.cons .non .nil))) (.cons (.tup (SqT.of (U14 _ _ h_u13)) (.cons (.tup (SqT.of (U12 _ _ h_e11)) .nil) (.cons (.tup (SqT.of (U13 _ _ h_e12)) .nil) .nil))) .nil))
    have hrw := h_rw
    have heR := s8R _ _ he
    have fn1 : f1.1 ∈ (f1 :: fr).map (·.1) := List.mem_cons_self ..
    have C0 : ∀ c ∈ ([([], some (List.replicate 6 ((f1.1, "+") : Stp)))] : List Cas), FitC (f1 :: fr) c := fun c h' => by
      cases List.mem_singleton.mp h'
      refine ⟨(fun t ht => by cases ht), (fun ss e s' hs' => ?_), (by show 0 ≤ 1000; decide), (fun ss e => by cases e; show 6 ≤ 1000; decide)⟩
      cases e
      cases (List.eq_of_mem_replicate hs')
      exact ⟨fn1, fun z => absurd rfl z⟩
    have C1 : ∀ c ∈ ([([], some [])] : List Cas), FitC (f1 :: fr) c := fun c h' => by
      cases List.mem_singleton.mp h'
      exact ⟨(fun t ht => by cases ht), (fun ss e s' hs' => by cases e; cases hs'), by decide, (fun ss e => by cases e; decide)⟩
    have C2 : ∀ c ∈ ([([], none), ([], some [])] : List Cas), FitC (f1 :: fr) c := fun c h' => by
      rcases List.mem_cons.mp h' with h' | h'
      · cases h'
        exact ⟨(fun t ht => by cases ht), (fun ss e => by cases e), by decide, (fun ss e => by cases e)⟩
      · exact C1 c h'
    -- told
    refine ⟨_, rfl, _, rfl, _, _, _, _, rfl, rfl, SqL.of hrw, rfl, _, rfl, _, _, _, _, rfl, rfl, SqL.of heR, a0, ?_⟩
    refine ⟨.ref pf, .ref u4, y0, f1 :: fr, _, some v0, rfl, fsA s5R, l3, P0, Dp.mono s8R hy0, C0, (fun w' z => by cases z; exact fV0), fun B1 r0 sB1 hr0 => ?_⟩
    have es0 : f1.2[0]? = some f1.2[0] := List.getElem?_eq_getElem (by have := of1.2.1; omega)
    have six := plus_steps (f := f1) (r := fr) of1.1 6 0 v0 f1.2[0] (by rw [z2, es0]) es0
    have hm : min (0 + 6) (f1.2.length - 1) < f1.2.length := by
      have := of1.2.1
      omega
    rw [List.getElem?_eq_getElem hm] at six
    obtain ⟨ra, rfl, hra⟩ := dp_dV (w := stepped (f1 :: fr) (List.replicate 6 ((f1.1, "+") : Stp)) v0) hr0
    refine ⟨_, _, _, _, rfl, rfl, hra, atI_nat (j := 0) (by rw [List.getElem?_map, six]; rfl), ?_⟩
    refine ⟨(by show 1 ≤ sizeLine; decide), fun tl ntl => ?_⟩
    have sB2 : Same A16 (upd B1 tl (.lst [.str f1.2[min (0 + 6) (f1.2.length - 1)]])) := sB1.trans (same_new ntl)
    have ntlR : A16 tl = none := sB1.free ntl
    -- told.append(.. every[-1])
    refine ⟨_, rfl, .inl ⟨rfl, _, SqL.of upd_same⟩, _, rfl, _, rfl, _, _, _, _, rfl, rfl, SqL.of (sB2 _ _ hrw), rfl, _, rfl, _, rfl, _, _, _, _, rfl, rfl, SqL.of (sB2 _ _ heR), aL, ?_⟩
    refine ⟨.ref pf, .ref u8, yL, f1 :: fr, _, some vL, rfl, fsA (s5R.trans sB2), l3, Dp.mono sB2 P1, Dp.mono (s8R.trans sB2) hyL, C1, (fun w' z => by cases z; exact fVL), fun B3 r1 sB3 hr1 => ?_⟩
    have hr1' : Dp K B3 r1 (dV vL) := hr1
    have htl3 := sB3 _ _ upd_same
    refine ⟨tl, _, r1, rfl, rfl, htl3, lt_line (by show 1 ≤ 100000; decide), ?_⟩
    have sB4 : Same A16 (upd B3 tl (.lst ([.str f1.2[min (0 + 6) (f1.2.length - 1)]] ++ [r1]))) := same_mut (sB2.trans sB3) ntlR
    have hr14 : Dp K (upd B3 tl (.lst ([.str f1.2[min (0 + 6) (f1.2.length - 1)]] ++ [r1]))) r1 (dV vL) := Dp.imm (imm_upd htl3) (noL_dV vL) hr1'
    -- told.append(.. every[0])
    refine ⟨_, rfl, .inl ⟨rfl, _, SqL.of upd_same⟩, _, rfl, _, rfl, _, _, _, _, rfl, rfl, SqL.of (sB4 _ _ hrw), rfl, _, rfl, _, _, _, _, rfl, rfl, SqL.of (sB4 _ _ heR), a0, ?_⟩
    refine ⟨.ref pf, .ref u14, y0, f1 :: fr, _, some v0, rfl, fsA (s5R.trans sB4), l3, Dp.mono sB4 P2, Dp.mono (s8R.trans sB4) hy0, C2, (fun w' z => by cases z; exact fV0), fun B5 r2 sB5 hr2 => ?_⟩
    have hr2' : r2 = .non := dp_non hr2
    subst hr2'
    have htl5 := sB5 _ _ upd_same
    refine ⟨tl, _, .non, rfl, rfl, htl5, lt_line (by show 2 ≤ 100000; decide), ?_⟩
    have sB6 := same_mut (o := .lst ([.str f1.2[min (0 + 6) (f1.2.length - 1)]] ++ [r1] ++ [.non])) (sB4.trans sB5) ntlR
    have hr16 := Dp.imm (imm_upd (o := .lst ([.str f1.2[min (0 + 6) (f1.2.length - 1)]] ++ [r1] ++ [.non])) htl5) (noL_dV vL) (Dp.mono sB5 hr14)
    have k6 := k2.mono ((s8.trans s8R).trans sB6)
    -- last
    refine ⟨_, rfl, o1, _, rfl, .inr k6.sqT, _, _, rfl, rfl, _, _, rfl, ?_⟩
    refine ⟨_, rfl, _, rfl, _, rfl, _, _, _, .str f1.2[min (0 + 6) (f1.2.length - 1)], rfl, rfl, k6.sqT, ?_, ?_⟩
    · rw [List.length_map]
      have e : (if ((f1.2.length : Int) - 1) < 6 then ((f1.2.length : Int) - 1) else 6) = ((min (0 + 6) (f1.2.length - 1) : Nat) : Int) := by
        have := of1.2.1
        split <;> omega
      rw [e]
      exact atI_nat (by rw [List.getElem?_map, List.getElem?_eq_getElem hm]; rfl)
    refine ⟨_, rfl, _, rfl, _, _, _, _, rfl, rfl, SqL.of (sB6 _ _ heR), aL, (by show 3 ≤ sizeLine; decide), fun pd npd => ?_⟩
    have sB7 := same_new (o := .lst [.str f1.2[min (0 + 6) (f1.2.length - 1)], yL, .non]) npd
    refine ⟨.ref tl, .ref pd, .list [.str f1.2[min (0 + 6) (f1.2.length - 1)], dV vL, .none], rfl, .lst (SqL.of (sB7 _ _ upd_same)) (.cons (.str _) (.cons (Dp.mono sB7 hr16) (.cons .non .nil))), .lst (SqL.of upd_same) (.cons (.str _) (.cons (Dp.mono ((s8R.trans sB6).trans sB7) hyL) (.cons .non .nil))), ?_, fun HZ _ => q HZ⟩
    refine .lst (by show 3 ≤ _; decide) fun d hd => ?_
    rcases List.mem_cons.mp hd with h' | h'
    · rw [h']
      exact .str
    · rcases List.mem_cons.mp h' with h' | h'
      · rw [h']
        exact Sh.strs 0 _ (by have := fitL vL fVL; omega)
      · cases List.mem_singleton.mp h'
        exact .non
end
end Bh

set_option Elab.async false
set_option linter.all false
set_option maxRecDepth 100000
set_option maxHeartbeats 2000000
namespace Bh
open PySem PySem.Spec PyProof.Rows L2
def mkTop {K : PySem.W.Frag} {h : Heap} {mg : Str → Option Value} (X : K.In h) (G : h.Ns mainGlobals mg)
    {f0 : Addr} {od0 an0 : Option Addr} {sl0 : Array (Option Value)} {oc0 kV0 dc0 pm0 cd0 ct0 : Value}
    {f1 : Addr} {od1 an1 : Option Addr} {sl1 : Array (Option Value)} {oc1 kV1 dc1 pm1 cd1 ct1 : Value}
    {f2 : Addr} {od2 an2 : Option Addr} {sl2 : Array (Option Value)} {oc2 kV2 dc2 pm2 cd2 ct2 : Value}
    {f3 : Addr} {od3 an3 : Option Addr} {sl3 : Array (Option Value)} {oc3 kV3 dc3 pm3 cd3 ct3 : Value}
    {f4 : Addr} {od4 an4 : Option Addr} {sl4 : Array (Option Value)} {oc4 kV4 dc4 pm4 cd4 ct4 : Value}
    {f5 : Addr} {od5 an5 : Option Addr} {sl5 : Array (Option Value)} {oc5 kV5 dc5 pm5 cd5 ct5 : Value}
    {f6 : Addr} {od6 an6 : Option Addr} {sl6 : Array (Option Value)} {oc6 kV6 dc6 pm6 cd6 ct6 : Value}
    {f7 : Addr} {od7 an7 : Option Addr} {sl7 : Array (Option Value)} {oc7 kV7 dc7 pm7 cd7 ct7 : Value}
    {f8 : Addr} {od8 an8 : Option Addr} {sl8 : Array (Option Value)} {oc8 kV8 dc8 pm8 cd8 ct8 : Value}
    {f9 : Addr} {od9 an9 : Option Addr} {sl9 : Array (Option Value)} {oc9 kV9 dc9 pm9 cd9 ct9 : Value}
    {f10 : Addr} {od10 an10 : Option Addr} {sl10 : Array (Option Value)} {oc10 kV10 dc10 pm10 cd10 ct10 : Value}
    {f11 : Addr} {od11 an11 : Option Addr} {sl11 : Array (Option Value)} {oc11 kV11 dc11 pm11 cd11 ct11 : Value}
    {f12 : Addr} {od12 an12 : Option Addr} {sl12 : Array (Option Value)} {oc12 kV12 dc12 pm12 cd12 ct12 : Value}
    {f13 : Addr} {od13 an13 : Option Addr} {sl13 : Array (Option Value)} {oc13 kV13 dc13 pm13 cd13 ct13 : Value}
    {f14 : Addr} {od14 an14 : Option Addr} {sl14 : Array (Option Value)} {oc14 kV14 dc14 pm14 cd14 ct14 : Value}
    {f15 : Addr} {od15 an15 : Option Addr} {sl15 : Array (Option Value)} {oc15 kV15 dc15 pm15 cd15 ct15 : Value}
    {f16 : Addr} {od16 an16 : Option Addr} {sl16 : Array (Option Value)} {oc16 kV16 dc16 pm16 cd16 ct16 : Value}
    {f17 : Addr} {od17 an17 : Option Addr} {sl17 : Array (Option Value)} {oc17 kV17 dc17 pm17 cd17 ct17 : Value}
    {f18 : Addr} {od18 an18 : Option Addr} {sl18 : Array (Option Value)} {oc18 kV18 dc18 pm18 cd18 ct18 : Value}
    {f19 : Addr} {od19 an19 : Option Addr} {sl19 : Array (Option Value)} {oc19 kV19 dc19 pm19 cd19 ct19 : Value}
    {f20 : Addr} {od20 an20 : Option Addr} {sl20 : Array (Option Value)} {oc20 kV20 dc20 pm20 cd20 ct20 : Value}
    {t_NEXT : Tok}
    (a0 : PySem.W.nsIn K mainGlobals "applied" = some (some (.ref f0))) (l0 : K.lookup f0 = some ⟨oc0, od0, .func (PySem.W.fnOf "applied" "applied" (defArgs s_applied) (defBody s_applied) (defScope s_applied) .none kV0 dc0 pm0 an0 cd0 ct0), sl0⟩) (c0 : PySem.W.codeIn K cd0 "applied" = true) (k0 : PySem.W.keepIn K (.ref f0) = true)
    (a1 : PySem.W.nsIn K mainGlobals "_test_holds" = some (some (.ref f1))) (l1 : K.lookup f1 = some ⟨oc1, od1, .func (PySem.W.fnOf "_test_holds" "_test_holds" (defArgs s_test_holds) (defBody s_test_holds) (defScope s_test_holds) .none kV1 dc1 pm1 an1 cd1 ct1), sl1⟩) (c1 : PySem.W.codeIn K cd1 "_test_holds" = true) (k1 : PySem.W.keepIn K (.ref f1) = true)
    (a2 : PySem.W.nsIn K mainGlobals "_after_steps" = some (some (.ref f2))) (l2 : K.lookup f2 = some ⟨oc2, od2, .func (PySem.W.fnOf "_after_steps" "_after_steps" (defArgs s_after_steps) (defBody s_after_steps) (defScope s_after_steps) .none kV2 dc2 pm2 an2 cd2 ct2), sl2⟩) (c2 : PySem.W.codeIn K cd2 "_after_steps" = true) (k2 : PySem.W.keepIn K (.ref f2) = true)
    (a3 : PySem.W.nsIn K mainGlobals "_next_option" = some (some (.ref f3))) (l3 : K.lookup f3 = some ⟨oc3, od3, .func (PySem.W.fnOf "_next_option" "_next_option" (defArgs s_next_option) (defBody s_next_option) (defScope s_next_option) .none kV3 dc3 pm3 an3 cd3 ct3), sl3⟩) (c3 : PySem.W.codeIn K cd3 "_next_option" = true) (k3 : PySem.W.keepIn K (.ref f3) = true)
    (a4 : PySem.W.nsIn K mainGlobals "_position" = some (some (.ref f4))) (l4 : K.lookup f4 = some ⟨oc4, od4, .func (PySem.W.fnOf "_position" "_position" (defArgs s_position) (defBody s_position) (defScope s_position) .none kV4 dc4 pm4 an4 cd4 ct4), sl4⟩) (c4 : PySem.W.codeIn K cd4 "_position" = true) (k4 : PySem.W.keepIn K (.ref f4) = true)
    (a5 : PySem.W.nsIn K mainGlobals "_law_bag" = some (some (.ref f5))) (l5 : K.lookup f5 = some ⟨oc5, od5, .func (PySem.W.fnOf "_law_bag" "_law_bag" (defArgs s_l_bag) (defBody s_l_bag) (defScope s_l_bag) .none kV5 dc5 pm5 an5 cd5 ct5), sl5⟩) (c5 : PySem.W.codeIn K cd5 "_law_bag" = true) (k5 : PySem.W.keepIn K (.ref f5) = true)
    (a6 : PySem.W.nsIn K mainGlobals "_law_draw" = some (some (.ref f6))) (l6 : K.lookup f6 = some ⟨oc6, od6, .func (PySem.W.fnOf "_law_draw" "_law_draw" (defArgs s_l_draw) (defBody s_l_draw) (defScope s_l_draw) .none kV6 dc6 pm6 an6 cd6 ct6), sl6⟩) (c6 : PySem.W.codeIn K cd6 "_law_draw" = true) (k6 : PySem.W.keepIn K (.ref f6) = true)
    (a7 : PySem.W.nsIn K mainGlobals "_law_any" = some (some (.ref f7))) (l7 : K.lookup f7 = some ⟨oc7, od7, .func (PySem.W.fnOf "_law_any" "_law_any" (defArgs s_l_any) (defBody s_l_any) (defScope s_l_any) .none kV7 dc7 pm7 an7 cd7 ct7), sl7⟩) (c7 : PySem.W.codeIn K cd7 "_law_any" = true) (k7 : PySem.W.keepIn K (.ref f7) = true)
    (a8 : PySem.W.nsIn K mainGlobals "_law_mixed" = some (some (.ref f8))) (l8 : K.lookup f8 = some ⟨oc8, od8, .func (PySem.W.fnOf "_law_mixed" "_law_mixed" (defArgs s_l_mixed) (defBody s_l_mixed) (defScope s_l_mixed) .none kV8 dc8 pm8 an8 cd8 ct8), sl8⟩) (c8 : PySem.W.codeIn K cd8 "_law_mixed" = true) (k8 : PySem.W.keepIn K (.ref f8) = true)
    (a9 : PySem.W.nsIn K mainGlobals "_law_like" = some (some (.ref f9))) (l9 : K.lookup f9 = some ⟨oc9, od9, .func (PySem.W.fnOf "_law_like" "_law_like" (defArgs s_l_like) (defBody s_l_like) (defScope s_l_like) .none kV9 dc9 pm9 an9 cd9 ct9), sl9⟩) (c9 : PySem.W.codeIn K cd9 "_law_like" = true) (k9 : PySem.W.keepIn K (.ref f9) = true)
    (a10 : PySem.W.nsIn K mainGlobals "_law_words" = some (some (.ref f10))) (l10 : K.lookup f10 = some ⟨oc10, od10, .func (PySem.W.fnOf "_law_words" "_law_words" (defArgs s_l_words) (defBody s_l_words) (defScope s_l_words) .none kV10 dc10 pm10 an10 cd10 ct10), sl10⟩) (c10 : PySem.W.codeIn K cd10 "_law_words" = true) (k10 : PySem.W.keepIn K (.ref f10) = true)
    (a11 : PySem.W.nsIn K mainGlobals "_law_options" = some (some (.ref f11))) (l11 : K.lookup f11 = some ⟨oc11, od11, .func (PySem.W.fnOf "_law_options" "_law_options" (defArgs s_l_options) (defBody s_l_options) (defScope s_l_options) .none kV11 dc11 pm11 an11 cd11 ct11), sl11⟩) (c11 : PySem.W.codeIn K cd11 "_law_options" = true) (k11 : PySem.W.keepIn K (.ref f11) = true)
    (a12 : PySem.W.nsIn K mainGlobals "_law_fields" = some (some (.ref f12))) (l12 : K.lookup f12 = some ⟨oc12, od12, .func (PySem.W.fnOf "_law_fields" "_law_fields" (defArgs s_l_fields) (defBody s_l_fields) (defScope s_l_fields) .none kV12 dc12 pm12 an12 cd12 ct12), sl12⟩) (c12 : PySem.W.codeIn K cd12 "_law_fields" = true) (k12 : PySem.W.keepIn K (.ref f12) = true)
    (a13 : PySem.W.nsIn K mainGlobals "_law_case" = some (some (.ref f13))) (l13 : K.lookup f13 = some ⟨oc13, od13, .func (PySem.W.fnOf "_law_case" "_law_case" (defArgs s_l_case) (defBody s_l_case) (defScope s_l_case) .none kV13 dc13 pm13 an13 cd13 ct13), sl13⟩) (c13 : PySem.W.codeIn K cd13 "_law_case" = true) (k13 : PySem.W.keepIn K (.ref f13) = true)
    (a14 : PySem.W.nsIn K mainGlobals "_law_program" = some (some (.ref f14))) (l14 : K.lookup f14 = some ⟨oc14, od14, .func (PySem.W.fnOf "_law_program" "_law_program" (defArgs s_l_program) (defBody s_l_program) (defScope s_l_program) .none kV14 dc14 pm14 an14 cd14 ct14), sl14⟩) (c14 : PySem.W.codeIn K cd14 "_law_program" = true) (k14 : PySem.W.keepIn K (.ref f14) = true)
    (a15 : PySem.W.nsIn K mainGlobals "_law_values" = some (some (.ref f15))) (l15 : K.lookup f15 = some ⟨oc15, od15, .func (PySem.W.fnOf "_law_values" "_law_values" (defArgs s_l_values) (defBody s_l_values) (defScope s_l_values) .none kV15 dc15 pm15 an15 cd15 ct15), sl15⟩) (c15 : PySem.W.codeIn K cd15 "_law_values" = true) (k15 : PySem.W.keepIn K (.ref f15) = true)
    (a16 : PySem.W.nsIn K mainGlobals "_law_at" = some (some (.ref f16))) (l16 : K.lookup f16 = some ⟨oc16, od16, .func (PySem.W.fnOf "_law_at" "_law_at" (defArgs s_l_at) (defBody s_l_at) (defScope s_l_at) .none kV16 dc16 pm16 an16 cd16 ct16), sl16⟩) (c16 : PySem.W.codeIn K cd16 "_law_at" = true) (k16 : PySem.W.keepIn K (.ref f16) = true)
    (a17 : PySem.W.nsIn K mainGlobals "_law_holds" = some (some (.ref f17))) (l17 : K.lookup f17 = some ⟨oc17, od17, .func (PySem.W.fnOf "_law_holds" "_law_holds" (defArgs s_l_holds) (defBody s_l_holds) (defScope s_l_holds) .none kV17 dc17 pm17 an17 cd17 ct17), sl17⟩) (c17 : PySem.W.codeIn K cd17 "_law_holds" = true) (k17 : PySem.W.keepIn K (.ref f17) = true)
    (a18 : PySem.W.nsIn K mainGlobals "_law_stepped" = some (some (.ref f18))) (l18 : K.lookup f18 = some ⟨oc18, od18, .func (PySem.W.fnOf "_law_stepped" "_law_stepped" (defArgs s_l_stepped) (defBody s_l_stepped) (defScope s_l_stepped) .none kV18 dc18 pm18 an18 cd18 ct18), sl18⟩) (c18 : PySem.W.codeIn K cd18 "_law_stepped" = true) (k18 : PySem.W.keepIn K (.ref f18) = true)
    (a19 : PySem.W.nsIn K mainGlobals "_law_applied" = some (some (.ref f19))) (l19 : K.lookup f19 = some ⟨oc19, od19, .func (PySem.W.fnOf "_law_applied" "_law_applied" (defArgs s_l_applied) (defBody s_l_applied) (defScope s_l_applied) .none kV19 dc19 pm19 an19 cd19 ct19), sl19⟩) (c19 : PySem.W.codeIn K cd19 "_law_applied" = true) (k19 : PySem.W.keepIn K (.ref f19) = true)
    (a20 : PySem.W.nsIn K mainGlobals "law" = some (some (.ref f20))) (l20 : K.lookup f20 = some ⟨oc20, od20, .func (PySem.W.fnOf "law" "law" (defArgs s_law) (defBody s_law) (defScope s_law) .none kV20 dc20 pm20 an20 cd20 ct20), sl20⟩) (c20 : PySem.W.codeIn K cd20 "law" = true) (k20 : PySem.W.keepIn K (.ref f20) = true)
    (z_all : PySem.W.nsIn K mainGlobals "all" = some none)
    (z_dict : PySem.W.nsIn K mainGlobals "dict" = some none)
    (z_isinstance : PySem.W.nsIn K mainGlobals "isinstance" = some none)
    (z_len : PySem.W.nsIn K mainGlobals "len" = some none)
    (z_list : PySem.W.nsIn K mainGlobals "list" = some none)
    (z_max : PySem.W.nsIn K mainGlobals "max" = some none)
    (z_min : PySem.W.nsIn K mainGlobals "min" = some none)
    (z_range : PySem.W.nsIn K mainGlobals "range" = some none)
    (z_sorted : PySem.W.nsIn K mainGlobals "sorted" = some none)
    (z_tuple : PySem.W.nsIn K mainGlobals "tuple" = some none)
    (z_int : PySem.W.nsIn K mainGlobals "int" = some none)
    (z_zip : PySem.W.nsIn K mainGlobals "zip" = some none)
    (z_bool : PySem.W.nsIn K mainGlobals "bool" = some none)
    (z_str : PySem.W.nsIn K mainGlobals "str" = some none)
    (v_NEXT : PySem.W.nsIn K mainGlobals "NEXT" = some (some (Value.str "+" t_NEXT))) : Top K mg :=
  {
    a_applied := f0, fd_applied := _, d_applied := ⟨fun_mk (st := s_applied) l0 c0 k0, PySem.W.mg_of X G a0, (fun_mk (st := s_applied) l0 c0 k0).binds (ps := ["fields", "program", "holding"]) fun _ _ _ _ _ _ us hl => match us, hl with | [_, _, _], _ => rfl⟩,
    a_test_holds := f1, fd_test_holds := _, d_test_holds := ⟨fun_mk (st := s_test_holds) l1 c1 k1, PySem.W.mg_of X G a1, (fun_mk (st := s_test_holds) l1 c1 k1).binds (ps := ["fields", "test", "value"]) fun _ _ _ _ _ _ us hl => match us, hl with | [_, _, _], _ => rfl⟩,
    a_after_steps := f2, fd_after_steps := _, d_after_steps := ⟨fun_mk (st := s_after_steps) l2 c2 k2, PySem.W.mg_of X G a2, (fun_mk (st := s_after_steps) l2 c2 k2).binds (ps := ["fields", "steps", "value"]) fun _ _ _ _ _ _ us hl => match us, hl with | [_, _, _], _ => rfl⟩,
    a_next_option := f3, fd_next_option := _, d_next_option := ⟨fun_mk (st := s_next_option) l3 c3 k3, PySem.W.mg_of X G a3, (fun_mk (st := s_next_option) l3 c3 k3).binds (ps := ["options", "option"]) fun _ _ _ _ _ _ us hl => match us, hl with | [_, _], _ => rfl⟩,
    a_position := f4, fd_position := _, d_position := ⟨fun_mk (st := s_position) l4 c4 k4, PySem.W.mg_of X G a4, (fun_mk (st := s_position) l4 c4 k4).binds (ps := ["fields", "field"]) fun _ _ _ _ _ _ us hl => match us, hl with | [_, _], _ => rfl⟩,
    a_l_bag := f5, fd_l_bag := _, d_l_bag := ⟨fun_mk (st := s_l_bag) l5 c5 k5, PySem.W.mg_of X G a5, (fun_mk (st := s_l_bag) l5 c5 k5).binds (ps := ["_law_script"]) fun _ _ _ _ _ _ us hl => match us, hl with | [_], _ => rfl⟩,
    a_l_draw := f6, fd_l_draw := _, d_l_draw := ⟨fun_mk (st := s_l_draw) l6 c6 k6, PySem.W.mg_of X G a6, (fun_mk (st := s_l_draw) l6 c6 k6).binds (ps := ["_law_bag_here", "_law_many"]) fun _ _ _ _ _ _ us hl => match us, hl with | [_, _], _ => rfl⟩,
    a_l_any := f7, fd_l_any := _, d_l_any := ⟨fun_mk (st := s_l_any) l7 c7 k7, PySem.W.mg_of X G a7, (fun_mk (st := s_l_any) l7 c7 k7).binds (ps := ["_law_bag_here", "_law_row"]) fun _ _ _ _ _ _ us hl => match us, hl with | [_, _], _ => rfl⟩,
    a_l_mixed := f8, fd_l_mixed := _, d_l_mixed := ⟨fun_mk (st := s_l_mixed) l8 c8 k8, PySem.W.mg_of X G a8, (fun_mk (st := s_l_mixed) l8 c8 k8).binds (ps := ["_law_bag_here", "_law_row"]) fun _ _ _ _ _ _ us hl => match us, hl with | [_, _], _ => rfl⟩,
    a_l_like := f9, fd_l_like := _, d_l_like := ⟨fun_mk (st := s_l_like) l9 c9 k9, PySem.W.mg_of X G a9, (fun_mk (st := s_l_like) l9 c9 k9).binds (ps := ["_law_found", "_law_due"]) fun _ _ _ _ _ _ us hl => match us, hl with | [_, _], _ => rfl⟩,
    a_l_words := f10, fd_l_words := _, d_l_words := ⟨fun_mk (st := s_l_words) l10 c10 k10, PySem.W.mg_of X G a10, (fun_mk (st := s_l_words) l10 c10 k10).binds (ps := ["_law_bag_here", "_law_many"]) fun _ _ _ _ _ _ us hl => match us, hl with | [_, _], _ => rfl⟩,
    a_l_options := f11, fd_l_options := _, d_l_options := ⟨fun_mk (st := s_l_options) l11 c11 k11, PySem.W.mg_of X G a11, (fun_mk (st := s_l_options) l11 c11 k11).binds (ps := ["_law_bag_here", "_law_many"]) fun _ _ _ _ _ _ us hl => match us, hl with | [_, _], _ => rfl⟩,
    a_l_fields := f12, fd_l_fields := _, d_l_fields := ⟨fun_mk (st := s_l_fields) l12 c12 k12, PySem.W.mg_of X G a12, (fun_mk (st := s_l_fields) l12 c12 k12).binds (ps := ["_law_bag_here", "_law_room"]) fun _ _ _ _ _ _ us hl => match us, hl with | [_, _], _ => rfl⟩,
    a_l_case := f13, fd_l_case := _, d_l_case := ⟨fun_mk (st := s_l_case) l13 c13 k13, PySem.W.mg_of X G a13, (fun_mk (st := s_l_case) l13 c13 k13).binds (ps := ["_law_bag_here", "_law_fields_z"]) fun _ _ _ _ _ _ us hl => match us, hl with | [_, _], _ => rfl⟩,
    a_l_program := f14, fd_l_program := _, d_l_program := ⟨fun_mk (st := s_l_program) l14 c14 k14, PySem.W.mg_of X G a14, (fun_mk (st := s_l_program) l14 c14 k14).binds (ps := ["_law_bag_here", "_law_fields_z", "_law_most"]) fun _ _ _ _ _ _ us hl => match us, hl with | [_, _, _], _ => rfl⟩,
    a_l_values := f15, fd_l_values := _, d_l_values := ⟨fun_mk (st := s_l_values) l15 c15 k15, PySem.W.mg_of X G a15, (fun_mk (st := s_l_values) l15 c15 k15).binds (ps := ["_law_fields_z"]) fun _ _ _ _ _ _ us hl => match us, hl with | [_], _ => rfl⟩,
    a_l_at := f16, fd_l_at := _, d_l_at := ⟨fun_mk (st := s_l_at) l16 c16 k16, PySem.W.mg_of X G a16, (fun_mk (st := s_l_at) l16 c16 k16).binds (ps := ["_law_fields_z", "_law_name"]) fun _ _ _ _ _ _ us hl => match us, hl with | [_, _], _ => rfl⟩,
    a_l_holds := f17, fd_l_holds := _, d_l_holds := ⟨fun_mk (st := s_l_holds) l17 c17 k17, PySem.W.mg_of X G a17, (fun_mk (st := s_l_holds) l17 c17 k17).binds (ps := ["_law_fields_z", "_law_test", "_law_value"]) fun _ _ _ _ _ _ us hl => match us, hl with | [_, _, _], _ => rfl⟩,
    a_l_stepped := f18, fd_l_stepped := _, d_l_stepped := ⟨fun_mk (st := s_l_stepped) l18 c18 k18, PySem.W.mg_of X G a18, (fun_mk (st := s_l_stepped) l18 c18 k18).binds (ps := ["_law_fields_z", "_law_steps", "_law_value"]) fun _ _ _ _ _ _ us hl => match us, hl with | [_, _, _], _ => rfl⟩,
    a_l_applied := f19, fd_l_applied := _, d_l_applied := ⟨fun_mk (st := s_l_applied) l19 c19 k19, PySem.W.mg_of X G a19, (fun_mk (st := s_l_applied) l19 c19 k19).binds (ps := ["_law_fields_z", "_law_program_z", "_law_holding_z"]) fun _ _ _ _ _ _ us hl => match us, hl with | [_, _, _], _ => rfl⟩,
    b_all := PySem.W.mg_none_of X G z_all,
    b_dict := PySem.W.mg_none_of X G z_dict,
    b_isinstance := PySem.W.mg_none_of X G z_isinstance,
    b_len := PySem.W.mg_none_of X G z_len,
    b_list := PySem.W.mg_none_of X G z_list,
    b_max := PySem.W.mg_none_of X G z_max,
    b_min := PySem.W.mg_none_of X G z_min,
    b_range := PySem.W.mg_none_of X G z_range,
    b_sorted := PySem.W.mg_none_of X G z_sorted,
    b_tuple := PySem.W.mg_none_of X G z_tuple,
    b_int := PySem.W.mg_none_of X G z_int,
    b_zip := PySem.W.mg_none_of X G z_zip,
    b_bool := PySem.W.mg_none_of X G z_bool,
    b_str := PySem.W.mg_none_of X G z_str,
    g_NEXT := ⟨_, PySem.W.mg_of X G v_NEXT⟩ }
theorem all_mk {l : PySem.W.OpenLaw} {w : World} {K : PySem.W.Frag} {h : Heap} {mg : Str → Option Value} {fa : Addr} (X : K.In h) (G : h.Ns mainGlobals mg) (hfa : mg "law" = some (.ref fa))
    {f0 : Addr} {od0 an0 : Option Addr} {sl0 : Array (Option Value)} {oc0 kV0 dc0 pm0 cd0 ct0 : Value}
    {f1 : Addr} {od1 an1 : Option Addr} {sl1 : Array (Option Value)} {oc1 kV1 dc1 pm1 cd1 ct1 : Value}
    {f2 : Addr} {od2 an2 : Option Addr} {sl2 : Array (Option Value)} {oc2 kV2 dc2 pm2 cd2 ct2 : Value}
    {f3 : Addr} {od3 an3 : Option Addr} {sl3 : Array (Option Value)} {oc3 kV3 dc3 pm3 cd3 ct3 : Value}
    {f4 : Addr} {od4 an4 : Option Addr} {sl4 : Array (Option Value)} {oc4 kV4 dc4 pm4 cd4 ct4 : Value}
    {f5 : Addr} {od5 an5 : Option Addr} {sl5 : Array (Option Value)} {oc5 kV5 dc5 pm5 cd5 ct5 : Value}
    {f6 : Addr} {od6 an6 : Option Addr} {sl6 : Array (Option Value)} {oc6 kV6 dc6 pm6 cd6 ct6 : Value}
    {f7 : Addr} {od7 an7 : Option Addr} {sl7 : Array (Option Value)} {oc7 kV7 dc7 pm7 cd7 ct7 : Value}
    {f8 : Addr} {od8 an8 : Option Addr} {sl8 : Array (Option Value)} {oc8 kV8 dc8 pm8 cd8 ct8 : Value}
    {f9 : Addr} {od9 an9 : Option Addr} {sl9 : Array (Option Value)} {oc9 kV9 dc9 pm9 cd9 ct9 : Value}
    {f10 : Addr} {od10 an10 : Option Addr} {sl10 : Array (Option Value)} {oc10 kV10 dc10 pm10 cd10 ct10 : Value}
    {f11 : Addr} {od11 an11 : Option Addr} {sl11 : Array (Option Value)} {oc11 kV11 dc11 pm11 cd11 ct11 : Value}
    {f12 : Addr} {od12 an12 : Option Addr} {sl12 : Array (Option Value)} {oc12 kV12 dc12 pm12 cd12 ct12 : Value}
    {f13 : Addr} {od13 an13 : Option Addr} {sl13 : Array (Option Value)} {oc13 kV13 dc13 pm13 cd13 ct13 : Value}
    {f14 : Addr} {od14 an14 : Option Addr} {sl14 : Array (Option Value)} {oc14 kV14 dc14 pm14 cd14 ct14 : Value}
    {f15 : Addr} {od15 an15 : Option Addr} {sl15 : Array (Option Value)} {oc15 kV15 dc15 pm15 cd15 ct15 : Value}
    {f16 : Addr} {od16 an16 : Option Addr} {sl16 : Array (Option Value)} {oc16 kV16 dc16 pm16 cd16 ct16 : Value}
    {f17 : Addr} {od17 an17 : Option Addr} {sl17 : Array (Option Value)} {oc17 kV17 dc17 pm17 cd17 ct17 : Value}
    {f18 : Addr} {od18 an18 : Option Addr} {sl18 : Array (Option Value)} {oc18 kV18 dc18 pm18 cd18 ct18 : Value}
    {f19 : Addr} {od19 an19 : Option Addr} {sl19 : Array (Option Value)} {oc19 kV19 dc19 pm19 cd19 ct19 : Value}
    {f20 : Addr} {od20 an20 : Option Addr} {sl20 : Array (Option Value)} {oc20 kV20 dc20 pm20 cd20 ct20 : Value}
    {t_NEXT : Tok}
    (a0 : PySem.W.nsIn K mainGlobals "applied" = some (some (.ref f0))) (l0 : K.lookup f0 = some ⟨oc0, od0, .func (PySem.W.fnOf "applied" "applied" (defArgs s_applied) (defBody s_applied) (defScope s_applied) .none kV0 dc0 pm0 an0 cd0 ct0), sl0⟩) (c0 : PySem.W.codeIn K cd0 "applied" = true) (k0 : PySem.W.keepIn K (.ref f0) = true)
    (a1 : PySem.W.nsIn K mainGlobals "_test_holds" = some (some (.ref f1))) (l1 : K.lookup f1 = some ⟨oc1, od1, .func (PySem.W.fnOf "_test_holds" "_test_holds" (defArgs s_test_holds) (defBody s_test_holds) (defScope s_test_holds) .none kV1 dc1 pm1 an1 cd1 ct1), sl1⟩) (c1 : PySem.W.codeIn K cd1 "_test_holds" = true) (k1 : PySem.W.keepIn K (.ref f1) = true)
    (a2 : PySem.W.nsIn K mainGlobals "_after_steps" = some (some (.ref f2))) (l2 : K.lookup f2 = some ⟨oc2, od2, .func (PySem.W.fnOf "_after_steps" "_after_steps" (defArgs s_after_steps) (defBody s_after_steps) (defScope s_after_steps) .none kV2 dc2 pm2 an2 cd2 ct2), sl2⟩) (c2 : PySem.W.codeIn K cd2 "_after_steps" = true) (k2 : PySem.W.keepIn K (.ref f2) = true)
    (a3 : PySem.W.nsIn K mainGlobals "_next_option" = some (some (.ref f3))) (l3 : K.lookup f3 = some ⟨oc3, od3, .func (PySem.W.fnOf "_next_option" "_next_option" (defArgs s_next_option) (defBody s_next_option) (defScope s_next_option) .none kV3 dc3 pm3 an3 cd3 ct3), sl3⟩) (c3 : PySem.W.codeIn K cd3 "_next_option" = true) (k3 : PySem.W.keepIn K (.ref f3) = true)
    (a4 : PySem.W.nsIn K mainGlobals "_position" = some (some (.ref f4))) (l4 : K.lookup f4 = some ⟨oc4, od4, .func (PySem.W.fnOf "_position" "_position" (defArgs s_position) (defBody s_position) (defScope s_position) .none kV4 dc4 pm4 an4 cd4 ct4), sl4⟩) (c4 : PySem.W.codeIn K cd4 "_position" = true) (k4 : PySem.W.keepIn K (.ref f4) = true)
    (a5 : PySem.W.nsIn K mainGlobals "_law_bag" = some (some (.ref f5))) (l5 : K.lookup f5 = some ⟨oc5, od5, .func (PySem.W.fnOf "_law_bag" "_law_bag" (defArgs s_l_bag) (defBody s_l_bag) (defScope s_l_bag) .none kV5 dc5 pm5 an5 cd5 ct5), sl5⟩) (c5 : PySem.W.codeIn K cd5 "_law_bag" = true) (k5 : PySem.W.keepIn K (.ref f5) = true)
    (a6 : PySem.W.nsIn K mainGlobals "_law_draw" = some (some (.ref f6))) (l6 : K.lookup f6 = some ⟨oc6, od6, .func (PySem.W.fnOf "_law_draw" "_law_draw" (defArgs s_l_draw) (defBody s_l_draw) (defScope s_l_draw) .none kV6 dc6 pm6 an6 cd6 ct6), sl6⟩) (c6 : PySem.W.codeIn K cd6 "_law_draw" = true) (k6 : PySem.W.keepIn K (.ref f6) = true)
    (a7 : PySem.W.nsIn K mainGlobals "_law_any" = some (some (.ref f7))) (l7 : K.lookup f7 = some ⟨oc7, od7, .func (PySem.W.fnOf "_law_any" "_law_any" (defArgs s_l_any) (defBody s_l_any) (defScope s_l_any) .none kV7 dc7 pm7 an7 cd7 ct7), sl7⟩) (c7 : PySem.W.codeIn K cd7 "_law_any" = true) (k7 : PySem.W.keepIn K (.ref f7) = true)
    (a8 : PySem.W.nsIn K mainGlobals "_law_mixed" = some (some (.ref f8))) (l8 : K.lookup f8 = some ⟨oc8, od8, .func (PySem.W.fnOf "_law_mixed" "_law_mixed" (defArgs s_l_mixed) (defBody s_l_mixed) (defScope s_l_mixed) .none kV8 dc8 pm8 an8 cd8 ct8), sl8⟩) (c8 : PySem.W.codeIn K cd8 "_law_mixed" = true) (k8 : PySem.W.keepIn K (.ref f8) = true)
    (a9 : PySem.W.nsIn K mainGlobals "_law_like" = some (some (.ref f9))) (l9 : K.lookup f9 = some ⟨oc9, od9, .func (PySem.W.fnOf "_law_like" "_law_like" (defArgs s_l_like) (defBody s_l_like) (defScope s_l_like) .none kV9 dc9 pm9 an9 cd9 ct9), sl9⟩) (c9 : PySem.W.codeIn K cd9 "_law_like" = true) (k9 : PySem.W.keepIn K (.ref f9) = true)
    (a10 : PySem.W.nsIn K mainGlobals "_law_words" = some (some (.ref f10))) (l10 : K.lookup f10 = some ⟨oc10, od10, .func (PySem.W.fnOf "_law_words" "_law_words" (defArgs s_l_words) (defBody s_l_words) (defScope s_l_words) .none kV10 dc10 pm10 an10 cd10 ct10), sl10⟩) (c10 : PySem.W.codeIn K cd10 "_law_words" = true) (k10 : PySem.W.keepIn K (.ref f10) = true)
    (a11 : PySem.W.nsIn K mainGlobals "_law_options" = some (some (.ref f11))) (l11 : K.lookup f11 = some ⟨oc11, od11, .func (PySem.W.fnOf "_law_options" "_law_options" (defArgs s_l_options) (defBody s_l_options) (defScope s_l_options) .none kV11 dc11 pm11 an11 cd11 ct11), sl11⟩) (c11 : PySem.W.codeIn K cd11 "_law_options" = true) (k11 : PySem.W.keepIn K (.ref f11) = true)
    (a12 : PySem.W.nsIn K mainGlobals "_law_fields" = some (some (.ref f12))) (l12 : K.lookup f12 = some ⟨oc12, od12, .func (PySem.W.fnOf "_law_fields" "_law_fields" (defArgs s_l_fields) (defBody s_l_fields) (defScope s_l_fields) .none kV12 dc12 pm12 an12 cd12 ct12), sl12⟩) (c12 : PySem.W.codeIn K cd12 "_law_fields" = true) (k12 : PySem.W.keepIn K (.ref f12) = true)
    (a13 : PySem.W.nsIn K mainGlobals "_law_case" = some (some (.ref f13))) (l13 : K.lookup f13 = some ⟨oc13, od13, .func (PySem.W.fnOf "_law_case" "_law_case" (defArgs s_l_case) (defBody s_l_case) (defScope s_l_case) .none kV13 dc13 pm13 an13 cd13 ct13), sl13⟩) (c13 : PySem.W.codeIn K cd13 "_law_case" = true) (k13 : PySem.W.keepIn K (.ref f13) = true)
    (a14 : PySem.W.nsIn K mainGlobals "_law_program" = some (some (.ref f14))) (l14 : K.lookup f14 = some ⟨oc14, od14, .func (PySem.W.fnOf "_law_program" "_law_program" (defArgs s_l_program) (defBody s_l_program) (defScope s_l_program) .none kV14 dc14 pm14 an14 cd14 ct14), sl14⟩) (c14 : PySem.W.codeIn K cd14 "_law_program" = true) (k14 : PySem.W.keepIn K (.ref f14) = true)
    (a15 : PySem.W.nsIn K mainGlobals "_law_values" = some (some (.ref f15))) (l15 : K.lookup f15 = some ⟨oc15, od15, .func (PySem.W.fnOf "_law_values" "_law_values" (defArgs s_l_values) (defBody s_l_values) (defScope s_l_values) .none kV15 dc15 pm15 an15 cd15 ct15), sl15⟩) (c15 : PySem.W.codeIn K cd15 "_law_values" = true) (k15 : PySem.W.keepIn K (.ref f15) = true)
    (a16 : PySem.W.nsIn K mainGlobals "_law_at" = some (some (.ref f16))) (l16 : K.lookup f16 = some ⟨oc16, od16, .func (PySem.W.fnOf "_law_at" "_law_at" (defArgs s_l_at) (defBody s_l_at) (defScope s_l_at) .none kV16 dc16 pm16 an16 cd16 ct16), sl16⟩) (c16 : PySem.W.codeIn K cd16 "_law_at" = true) (k16 : PySem.W.keepIn K (.ref f16) = true)
    (a17 : PySem.W.nsIn K mainGlobals "_law_holds" = some (some (.ref f17))) (l17 : K.lookup f17 = some ⟨oc17, od17, .func (PySem.W.fnOf "_law_holds" "_law_holds" (defArgs s_l_holds) (defBody s_l_holds) (defScope s_l_holds) .none kV17 dc17 pm17 an17 cd17 ct17), sl17⟩) (c17 : PySem.W.codeIn K cd17 "_law_holds" = true) (k17 : PySem.W.keepIn K (.ref f17) = true)
    (a18 : PySem.W.nsIn K mainGlobals "_law_stepped" = some (some (.ref f18))) (l18 : K.lookup f18 = some ⟨oc18, od18, .func (PySem.W.fnOf "_law_stepped" "_law_stepped" (defArgs s_l_stepped) (defBody s_l_stepped) (defScope s_l_stepped) .none kV18 dc18 pm18 an18 cd18 ct18), sl18⟩) (c18 : PySem.W.codeIn K cd18 "_law_stepped" = true) (k18 : PySem.W.keepIn K (.ref f18) = true)
    (a19 : PySem.W.nsIn K mainGlobals "_law_applied" = some (some (.ref f19))) (l19 : K.lookup f19 = some ⟨oc19, od19, .func (PySem.W.fnOf "_law_applied" "_law_applied" (defArgs s_l_applied) (defBody s_l_applied) (defScope s_l_applied) .none kV19 dc19 pm19 an19 cd19 ct19), sl19⟩) (c19 : PySem.W.codeIn K cd19 "_law_applied" = true) (k19 : PySem.W.keepIn K (.ref f19) = true)
    (a20 : PySem.W.nsIn K mainGlobals "law" = some (some (.ref f20))) (l20 : K.lookup f20 = some ⟨oc20, od20, .func (PySem.W.fnOf "law" "law" (defArgs s_law) (defBody s_law) (defScope s_law) .none kV20 dc20 pm20 an20 cd20 ct20), sl20⟩) (c20 : PySem.W.codeIn K cd20 "law" = true) (k20 : PySem.W.keepIn K (.ref f20) = true)
    (z_all : PySem.W.nsIn K mainGlobals "all" = some none)
    (z_dict : PySem.W.nsIn K mainGlobals "dict" = some none)
    (z_isinstance : PySem.W.nsIn K mainGlobals "isinstance" = some none)
    (z_len : PySem.W.nsIn K mainGlobals "len" = some none)
    (z_list : PySem.W.nsIn K mainGlobals "list" = some none)
    (z_max : PySem.W.nsIn K mainGlobals "max" = some none)
    (z_min : PySem.W.nsIn K mainGlobals "min" = some none)
    (z_range : PySem.W.nsIn K mainGlobals "range" = some none)
    (z_sorted : PySem.W.nsIn K mainGlobals "sorted" = some none)
    (z_tuple : PySem.W.nsIn K mainGlobals "tuple" = some none)
    (z_int : PySem.W.nsIn K mainGlobals "int" = some none)
    (z_zip : PySem.W.nsIn K mainGlobals "zip" = some none)
    (z_bool : PySem.W.nsIn K mainGlobals "bool" = some none)
    (z_str : PySem.W.nsIn K mainGlobals "str" = some none)
    (v_NEXT : PySem.W.nsIn K mainGlobals "NEXT" = some (some (Value.str "+" t_NEXT))) :
    ∃ fd : FuncData, (∀ (s : Shared) (v : Value), BindsTo s fd ⟨[v], []⟩ [("_law_script", v)]) ∧ ∀ base : Heap, K.In base → base.Ns mainGlobals mg → FnOk l.prog w K mg base CX0 5 fa fd ["_law_script"] (spLaw K) := by
  have e := hfa.symm.trans (PySem.W.mg_of X G a20)
  cases e
  have T : Top K mg := mkTop X G a0 l0 c0 k0 a1 l1 c1 k1 a2 l2 c2 k2 a3 l3 c3 k3 a4 l4 c4 k4 a5 l5 c5 k5 a6 l6 c6 k6 a7 l7 c7 k7 a8 l8 c8 k8 a9 l9 c9 k9 a10 l10 c10 k10 a11 l11 c11 k11 a12 l12 c12 k12 a13 l13 c13 k13 a14 l14 c14 k14 a15 l15 c15 k15 a16 l16 c16 k16 a17 l17 c17 k17 a18 l18 c18 k18 a19 l19 c19 k19 a20 l20 c20 k20 z_all z_dict z_isinstance z_len z_list z_max z_min z_range z_sorted z_tuple z_int z_zip z_bool z_str v_NEXT
  exact ⟨PySem.W.fnOf "law" "law" (defArgs s_law) (defBody s_law) (defScope s_law) .none kV20 dc20 pm20 an20 cd20 ct20, fun s v => .of_eq rfl, fun base _ _ => ok_law T (fun_mk (st := s_law) l20 c20 k20)⟩
theorem walk {l : PySem.W.OpenLaw} {q : Program} {loose : List Str} {XP : (Str → Option Value) → Heap → Prop} {YP : World → Heap → Prop} {d : DefRec} {K : Params → PySem.W.Frag} (hn : l.most = some 63) (hdf : d.params.defaults = [])
    (hY : ∀ (w : World) (h : Heap), YP w h → (K w.params).In h)
    (F : ∀ (w : World) (mg : Str → Option Value) (fa : Addr) (h : Heap), (K w.params).In h → h.Ns mainGlobals mg → mg d.name = some (.ref fa) →
      ∃ fd : FuncData, (∀ (s : Shared) (u : Value), BindsTo s fd ⟨[u], []⟩ [("_law_script", u)]) ∧ ∀ base : Heap, (K w.params).In base → base.Ns mainGlobals mg → FnOk l.prog w (K w.params) mg base CX0 5 fa fd ["_law_script"] (spLaw (K w.params))) :
    PySem.W.WalkO q loose XP YP l.row.toRowW d [] (fun f vs => PySem.call f vs) :=
  L2.walk_of (n := 63) (k := 5) (x := "_law_script") (CX := fun _ => CX0) (sp := fun w => spLaw (K w.params)) hn (by decide) hdf ⟨rfl, by decide, by decide⟩ hY F (fun _ _ a ns hl _ hS => ⟨a, ns, rfl, hS, hl, fun _ => rfl⟩) fun _ _ _ _ _ z => z
end Bh
open PySem PySem.W PyProof.Rows in
set_option maxRecDepth 100000 in
set_option maxHeartbeats 0 in
theorem PySem.Challenge.cw_bestheard_k03_programs_applied_holds : PySem.Challenge.rw_bestheard_k03_programs_applied.Holds := by
  w_on; o_law; k_head; (case hw => w_witness2)
  k_fill
  refine Bh.walk (l := PySem.Challenge.rw_bestheard_k03_programs_applied) rfl rfl (fun w h Y => PySem.W.kIn_of Y) ?F
  case F =>
    intro w mg fa h KX G hmg
    refine' Bh.all_mk KX G hmg ?a0 ?l0 ?c0 ?k0 ?a1 ?l1 ?c1 ?k1 ?a2 ?l2 ?c2 ?k2 ?a3 ?l3 ?c3 ?k3 ?a4 ?l4 ?c4 ?k4 ?a5 ?l5 ?c5 ?k5 ?a6 ?l6 ?c6 ?k6 ?a7 ?l7 ?c7 ?k7 ?a8 ?l8 ?c8 ?k8 ?a9 ?l9 ?c9 ?k9 ?a10 ?l10 ?c10 ?k10 ?a11 ?l11 ?c11 ?k11 ?a12 ?l12 ?c12 ?k12 ?a13 ?l13 ?c13 ?k13 ?a14 ?l14 ?c14 ?k14 ?a15 ?l15 ?c15 ?k15 ?a16 ?l16 ?c16 ?k16 ?a17 ?l17 ?c17 ?k17 ?a18 ?l18 ?c18 ?k18 ?a19 ?l19 ?c19 ?k19 ?a20 ?l20 ?c20 ?k20 ?z_all ?z_dict ?z_isinstance ?z_len ?z_list ?z_max ?z_min ?z_range ?z_sorted ?z_tuple ?z_int ?z_zip ?z_bool ?z_str ?v_NEXT
    (case a0 => k_is)
    (case l0 => k_is)
    (case c0 => k_is)
    (case k0 => k_is)
    (case a1 => k_is)
    (case l1 => k_is)
    (case c1 => k_is)
    (case k1 => k_is)
    (case a2 => k_is)
    (case l2 => k_is)
    (case c2 => k_is)
    (case k2 => k_is)
    (case a3 => k_is)
    (case l3 => k_is)
    (case c3 => k_is)
    (case k3 => k_is)
    (case a4 => k_is)
    (case l4 => k_is)
    (case c4 => k_is)
    (case k4 => k_is)
    (case a5 => k_is)
    (case l5 => k_is)
    (case c5 => k_is)
    (case k5 => k_is)
    (case a6 => k_is)
    (case l6 => k_is)
    (case c6 => k_is)
    (case k6 => k_is)
    (case a7 => k_is)
    (case l7 => k_is)
    (case c7 => k_is)
    (case k7 => k_is)
    (case a8 => k_is)
    (case l8 => k_is)
    (case c8 => k_is)
    (case k8 => k_is)
    (case a9 => k_is)
    (case l9 => k_is)
    (case c9 => k_is)
    (case k9 => k_is)
    (case a10 => k_is)
    (case l10 => k_is)
    (case c10 => k_is)
    (case k10 => k_is)
    (case a11 => k_is)
    (case l11 => k_is)
    (case c11 => k_is)
    (case k11 => k_is)
    (case a12 => k_is)
    (case l12 => k_is)
    (case c12 => k_is)
    (case k12 => k_is)
    (case a13 => k_is)
    (case l13 => k_is)
    (case c13 => k_is)
    (case k13 => k_is)
    (case a14 => k_is)
    (case l14 => k_is)
    (case c14 => k_is)
    (case k14 => k_is)
    (case a15 => k_is)
    (case l15 => k_is)
    (case c15 => k_is)
    (case k15 => k_is)
    (case a16 => k_is)
    (case l16 => k_is)
    (case c16 => k_is)
    (case k16 => k_is)
    (case a17 => k_is)
    (case l17 => k_is)
    (case c17 => k_is)
    (case k17 => k_is)
    (case a18 => k_is)
    (case l18 => k_is)
    (case c18 => k_is)
    (case k18 => k_is)
    (case a19 => k_is)
    (case l19 => k_is)
    (case c19 => k_is)
    (case k19 => k_is)
    (case a20 => k_is)
    (case l20 => k_is)
    (case c20 => k_is)
    (case k20 => k_is)
    (case z_all => k_is)
    (case z_dict => k_is)
    (case z_isinstance => k_is)
    (case z_len => k_is)
    (case z_list => k_is)
    (case z_max => k_is)
    (case z_min => k_is)
    (case z_range => k_is)
    (case z_sorted => k_is)
    (case z_tuple => k_is)
    (case z_int => k_is)
    (case z_zip => k_is)
    (case z_bool => k_is)
    (case z_str => k_is)
    (case v_NEXT => k_is)
