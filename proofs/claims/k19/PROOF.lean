import PyProof.Rows.All
import Wide.All
import OpenK.AllK
import Wide.FinOn
import HandS.ForMost
import HandS.IsInst
import KE.GoesMore
import PyProof.Draws
import PyProof.EnumMake
import HandS.Iter
import HandS.Gcd
import HandS.Strs
import KE.KSortTupG
import KE.KDictDisplayH
import KE.KDictSum
import HandS.Keys
import HandS.Conv
import HandS.Dict
import HandS.More
import KE.KMathG
import HandS.TupLen
import HandS.Deep
import HandS.Lambda
import HandS.NestedK
import HandS.EndTab
import HandS.Head0
import HandS.Head1
import HandS.Head2
import HandS.HeadEnd
import HandS.HeadHook1
import HandS.HeadHook2
import HandS.HeadHook3
import HandS.HeadHook4
import HandS.HeadWalk
import HandS.SetBool
import HandS.SetFor
import HandS.ForExc
import HandS.ExcIs
import HandS.RaiseMore
import HandS.FStr
import HandS.SortKw
import KE.SortKeyHeap
import HandS.TupSets
import HandS.Walk
import KE.KDictWalk
import KE.DataMinMax
import HandS.TupAny
import HandS.SetKeys
import HandS.Style
import HandS.TupLe
import KE.KDictCopyH
import HandS.Star
import KE.KeyNested
import KE.KDictKeyed
import PyProof.StrBlock2
import HandS.Replace
import PySem.Challenge.RW_turnsandthrows_k19_normal_part
set_option Elab.async false
set_option linter.all false
set_option maxRecDepth 100000
set_option maxHeartbeats 8000000
set_option Elab.async false
set_option linter.all false
set_option maxRecDepth 100000
namespace G
open PySem PySem.Spec PyProof.Rows L2

/-! ### readings, step by step -/
section
variable {σ : L2.St} {H : Hp} {Q : VK} {QB : Bool → Hp → Prop} {QA : List V → Hp → Prop} {D : Ends} {K : PySem.W.Frag} {te ta tb : TE} {t u : TS} {c c2 : TT} {i : Nat} {v x y : V}
theorem r_seq (h : t { D with nx := u D } σ H) : tSeq t u D σ H := h
theorem r_set (h : te σ H fun x H1 => D.nx (σ.set i (some x)) H1) : tAsg te (gName i) D σ H := h
theorem r_asg {g : TG} (h : te σ H fun x H1 => g x σ H1 D.nx) : tAsg te g D σ H := h
theorem r_drop (h : te σ H fun _ H1 => D.nx σ H1) : tDrop te D σ H := h
theorem r_ret (h : te σ H D.rt) : tRet te D σ H := h
theorem r_retN (h : D.rt .non H) : tRetN D σ H := h
theorem r_next (h : D.nx σ H) : tNext D σ H := h
theorem r_break (h : D.bk σ H) : tBreak D σ H := h
theorem r_cont (h : D.ct σ H) : tCont D σ H := h
theorem r_yes (h : QB true H) : tYes σ H QB := h
theorem r_if (h : c σ H fun b H1 => if b = true then t D σ H1 else u D σ H1) : tIfS c t u D σ H := h
theorem r_ifx (h : c σ H fun d H1 => if d = true then ta σ H1 Q else tb σ H1 Q) : tIf c ta tb σ H Q := h
theorem r_var (h : σ[i]? = some (some v)) (q : Q v H) : tVar i σ H Q := ⟨v, h, q⟩
theorem r_c (q : Q v H) : tC v σ H Q := q
theorem r_op {r : R2} (h : ta σ H fun x H1 => tb σ H1 fun y H2 => r x y H2 Q) : tOp r ta tb σ H Q := h
theorem r_un {r : V → Hp → VK → Prop} (h : ta σ H fun x H1 => r x H1 Q) : tUn r ta σ H Q := h
theorem r_cb {r : List V → Hp → VK → Prop} {t : TA} (h : t σ H fun vs H1 => r vs H1 Q) : tCB r t σ H Q := h
theorem r_cons {tr : TA} (h : te σ H fun x H1 => tr σ H1 fun xs H2 => QA (x :: xs) H2) : tCons te tr σ H QA := h
theorem r_nil (h : QA [] H) : tNil σ H QA := h
theorem r_call {sp : Sp} {dvs : List V} {E : XK} {t : TA} (h : t σ H fun vs H1 => sp (vs ++ dvs) H1 Q E) : tCall sp dvs E t σ H Q := h
theorem r_test (h : te σ H fun x H' => ∃ k, x = .bl k ∧ QB k H') : tTest te σ H QB := h
theorem r_tb (h : te σ H fun x H' => ∃ k, x = .bl k ∧ QB k H') : tB te σ H QB := h
theorem r_bl {b : Bool} {C : Bool → Prop} (h : C b) : ∃ k, V.bl b = .bl k ∧ C k := ⟨b, rfl, h⟩
theorem r_and (h : c σ H fun b H1 => if b = true then c2 σ H1 QB else QB false H1) : tAnd c c2 σ H QB := h
theorem r_or (h : c σ H fun b H1 => if b = true then QB true H1 else c2 σ H1 QB) : tOr c c2 σ H QB := h
theorem r_not (h : c σ H fun b H1 => QB (!b) H1) : tNot c σ H QB := h
theorem r_andV (h : ta σ H fun x H1 => ∃ c, x = .bl c ∧ if c = true then tb σ H1 Q else Q (.bl false) H1) : tAndV ta tb σ H Q := h
theorem r_orV (h : ta σ H fun x H1 => ∃ c, x = .bl c ∧ if c = true then Q (.bl true) H1 else tb σ H1 Q) : tOrV ta tb σ H Q := h
theorem r_notV (h : ta σ H fun x H1 => ∃ c, x = .bl c ∧ Q (.bl (!c)) H1) : tNotV ta σ H Q := h
theorem r_tup {t : TA} (h : t σ H fun xs H1 => xs.length ≤ sizeLine ∧ ∀ p, H1 p = none → Q (.ref p) (upd H1 p (.tup xs))) : tTup t σ H Q := h
theorem r_lst {t : TA} (h : t σ H fun xs H1 => xs.length ≤ sizeLine ∧ ∀ p, H1 p = none → Q (.ref p) (upd H1 p (.lst xs))) : tLst t σ H Q := h
theorem r_I0 {g : Int → Int → V} {i j : Int} (h : Q (g i j) H) : rI0 g (.int i) (.int j) H Q := ⟨i, j, rfl, rfl, h⟩
theorem r_I {C : Int → Int → Prop} {g : Int → Int → V} {i j : Int} (hc : C i j) (h : Q (g i j) H) : rI C g (.int i) (.int j) H Q := ⟨i, j, rfl, rfl, hc, h⟩
theorem r_U {g : Int → V} {i : Int} (h : Q (g i) H) : rU g (.int i) H Q := ⟨i, rfl, h⟩
theorem r_eqI {i j : Int} (h : Q (.bl (decide (i = j))) H) : rEq (.int i) (.int j) H Q := by
  refine ⟨rfl, ?_⟩
  have e : decide (V.int i = V.int j) = decide (i = j) := by simp
  rw [e]; exact h
theorem r_neI {i j : Int} (h : Q (.bl (!decide (i = j))) H) : rNe (.int i) (.int j) H Q := by
  refine ⟨rfl, ?_⟩
  have e : decide (V.int i = V.int j) = decide (i = j) := by simp
  rw [e]; exact h
theorem r_eqS {i j : Str} (h : Q (.bl (decide (i = j))) H) : rEq (.str i) (.str j) H Q := by
  refine ⟨rfl, ?_⟩
  have e : decide (V.str i = V.str j) = decide (i = j) := by simp
  rw [e]; exact h
theorem r_neS {i j : Str} (h : Q (.bl (!decide (i = j))) H) : rNe (.str i) (.str j) H Q := by
  refine ⟨rfl, ?_⟩
  have e : decide (V.str i = V.str j) = decide (i = j) := by simp
  rw [e]; exact h
theorem r_eqB {i j : Bool} (h : Q (.bl (decide (i = j))) H) : rEq (.bl i) (.bl j) H Q := by
  refine ⟨rfl, ?_⟩
  have e : decide (V.bl i = V.bl j) = decide (i = j) := by simp
  rw [e]; exact h
theorem r_neB {i j : Bool} (h : Q (.bl (!decide (i = j))) H) : rNe (.bl i) (.bl j) H Q := by
  refine ⟨rfl, ?_⟩
  have e : decide (V.bl i = V.bl j) = decide (i = j) := by simp
  rw [e]; exact h
theorem r_iteD {p A B : Prop} [Decidable p] (h1 : p → A) (h2 : ¬ p → B) : if decide p = true then A else B := ite2 (fun e => h1 (of_decide_eq_true e)) fun e => h2 fun q => e (decide_eq_true q)
theorem r_iteN {p A B : Prop} [Decidable p] (h1 : ¬ p → A) (h2 : p → B) : if (!decide p) = true then A else B := by
  by_cases h : p
  · rw [decide_eq_true h]; exact iteF (h2 h)
  · rw [decide_eq_false h]; exact iteT (h1 h)
theorem r_ixL {p : Addr} {xs : List V} {i : Int} (h : SqL K H p xs) (a : atI xs i = some v) (q : Q v H) : rIxL K (.ref p) (.int i) H Q := ⟨p, xs, i, v, rfl, rfl, h, a, q⟩
theorem r_ixT {p : Addr} {xs : List V} {i : Int} (h : SqT K H p xs) (a : atI xs i = some v) (q : Q v H) : rIxT K (.ref p) (.int i) H Q := ⟨p, xs, i, v, rfl, rfl, h, a, q⟩
theorem r_ixS {z : Str} {i : Int} {c : Nat} (hz : z.length ≤ sizeLine) (a : atI z.cps.toList i = some c) (q : Q (.str ⟨#[c]⟩) H) : rIxS (.str z) (.int i) H Q := ⟨z, i, c, rfl, rfl, hz, a, q⟩
/-! named readings for what the layer says by a bare fun -/
def rInt1 : List V → Hp → VK → Prop := fun xs H Q => (∃ i, xs = [.int i] ∧ Q (.int i) H) ∨ ∃ k, xs = [.bl k] ∧ Q (.int (if k then 1 else 0)) H
theorem call_int1' {X : Cx} : CallR X (.type "int") rInt1 := call_int1
theorem r_int1 {i : Int} (q : Q (.int i) H) : rInt1 [.int i] H Q := .inl ⟨i, rfl, q⟩
def rLenQ (K : PySem.W.Frag) : List V → Hp → VK → Prop := fun xs H Q => ∃ p ys, xs = [.ref p] ∧ (SqL K H p ys ∨ SqT K H p ys) ∧ Q (.int ys.length) H
theorem call_lenQ {X : Cx} : CallR X (.builtin "len") (rLenQ X.K) := call_len_seq
theorem r_lenL {p : Addr} {ys : List V} (h : SqL K H p ys) (q : Q (.int ys.length) H) : rLenQ K [.ref p] H Q := ⟨p, ys, rfl, .inl h, q⟩
theorem r_lenT {p : Addr} {ys : List V} (h : SqT K H p ys) (q : Q (.int ys.length) H) : rLenQ K [.ref p] H Q := ⟨p, ys, rfl, .inr h, q⟩
def rLenS1 : List V → Hp → VK → Prop := fun xs H Q => ∃ z, xs = [.str z] ∧ z.length ≤ sizeLine ∧ Q (.int z.length) H
theorem call_lenS1 {X : Cx} : CallR X (.builtin "len") rLenS1 := call_len_str
theorem r_lenS {z : Str} (h : z.length ≤ sizeLine) (q : Q (.int z.length) H) : rLenS1 [.str z] H Q := ⟨z, rfl, h, q⟩
def rAddS1 : R2 := fun x y H Q => ∃ i j, x = .str i ∧ y = .str j ∧ i.length + j.length ≤ sizeLine ∧ Q (.str (i ++ j)) H
theorem op_addS {X : Cx} : OpR X (binaryOp .Add) rAddS1 := op_add_str
theorem r_addS {i j : Str} (h : i.length + j.length ≤ sizeLine) (q : Q (.str (i ++ j)) H) : rAddS1 (.str i) (.str j) H Q := ⟨i, j, rfl, rfl, h, q⟩
def rIsN1 : R2 := fun x y H Q => y = .non ∧ Q (.bl (decide (x = .non))) H
def rNotN1 : R2 := fun x y H Q => y = .non ∧ Q (.bl (!decide (x = .non))) H
theorem op_isN1 {X : Cx} : OpR X (compareOp .Is) rIsN1 := op_isN
theorem op_notN1 {X : Cx} : OpR X (compareOp .IsNot) rNotN1 := op_notN
theorem r_isN (q : Q (.bl (decide (x = .non))) H) : rIsN1 x .non H Q := ⟨rfl, q⟩
theorem r_notN (q : Q (.bl (!decide (x = .non))) H) : rNotN1 x .non H Q := ⟨rfl, q⟩
def rTupOf (K : PySem.W.Frag) : List V → Hp → VK → Prop := fun xs H Q => ∃ p ys, xs = [.ref p] ∧ ((SqL K H p ys ∧ ∀ l, H l = none → Q (.ref l) (upd H l (.tup ys))) ∨ (SqT K H p ys ∧ Q (.ref p) H))
theorem call_tupOf {X : Cx} : CallR X (.type "tuple") (rTupOf X.K) := call_tuple_of
theorem r_tupL {p : Addr} {ys : List V} (h : SqL K H p ys) (q : ∀ l, H l = none → Q (.ref l) (upd H l (.tup ys))) : rTupOf K [.ref p] H Q := ⟨p, ys, rfl, .inl ⟨h, q⟩⟩
def rLstOf (K : PySem.W.Frag) : List V → Hp → VK → Prop := fun xs H Q => ∃ p ys, xs = [.ref p] ∧ (SqL K H p ys ∨ SqT K H p ys) ∧ ∀ l, H l = none → Q (.ref l) (upd H l (.lst ys))
theorem call_lstOf {X : Cx} : CallR X (.type "list") (rLstOf X.K) := call_list_of
theorem r_lstL {p : Addr} {ys : List V} (h : SqL K H p ys) (q : ∀ l, H l = none → Q (.ref l) (upd H l (.lst ys))) : rLstOf K [.ref p] H Q := ⟨p, ys, rfl, .inl h, q⟩
theorem r_lstT {p : Addr} {ys : List V} (h : SqT K H p ys) (q : ∀ l, H l = none → Q (.ref l) (upd H l (.lst ys))) : rLstOf K [.ref p] H Q := ⟨p, ys, rfl, .inr h, q⟩
theorem r_cat {l b : Addr} {xs zs : List V} (h1 : H l = some (.lst xs)) (h2 : H b = some (.lst zs)) (hl : xs.length + zs.length ≤ sizeLine) (q : ∀ p, H p = none → Q (.ref p) (upd H p (.lst (xs ++ zs)))) : rCat (.ref l) (.ref b) H Q := ⟨l, b, xs, zs, rfl, rfl, h1, h2, hl, q⟩
theorem r_append {l : Addr} {xs : List V} (h1 : H l = some (.lst xs)) (hl : xs.length < sizeLine) (q : Q .non (upd H l (.lst (xs ++ [y])))) : rAppend (.ref l) [y] H Q := ⟨l, xs, y, rfl, rfl, h1, hl, q⟩
theorem r_extend {l b : Addr} {xs zs : List V} (h1 : H l = some (.lst xs)) (h2 : H b = some (.lst zs)) (hl : xs.length + zs.length ≤ sizeLine) (q : Q .non (upd H l (.lst (xs ++ zs)))) : rExtend (.ref l) [.ref b] H Q := ⟨l, b, xs, zs, rfl, rfl, h1, h2, hl, q⟩
theorem r_bmL {r : V → List V → Hp → VK → Prop} {to : TE} {t : TA} (h : to σ H fun x H1 => tyV K "list" x H1 ∧ t σ H1 fun xs H2 => r x xs H2 Q) : tBM K "list" r to t σ H Q := h
theorem ty_l {p : Addr} {xs : List V} (h : SqL K H p xs) : tyV K "list" (.ref p) H := .inl ⟨rfl, _, h⟩
theorem r_slS {z : Str} {lo hi : Option Int} (h : z.length ≤ sizeLine) (q : Q (.str (cutS z lo hi)) H) : rSlS (.str z) lo hi H Q := ⟨z, rfl, h, q⟩
theorem r_slL {p : Addr} {xs : List V} {lo hi : Option Int} (h : SqL K H p xs) (q : ∀ l, H l = none → Q (.ref l) (upd H l (.lst (cutV xs lo hi)))) : rSlL K (.ref p) lo hi H Q := ⟨p, xs, rfl, h, q⟩
theorem r_sl {r : V → Option Int → Option Int → Hp → VK → Prop} {tl th : TO} (h : te σ H fun x H1 => tl σ H1 fun l H2 => th σ H2 fun u H3 => r x l u H3 Q) : tSl r te tl th σ H Q := h
theorem r_noPart {Qo : Option Int → Hp → Prop} (q : Qo none H) : tNoPart σ H Qo := q
theorem r_part {Qo : Option Int → Hp → Prop} (h : te σ H fun x H1 => ∃ i, x = .int i ∧ Qo (some i) H1) : tPart te σ H Qo := h
theorem r_pint {j : Int} {C : Int → Prop} (h : C j) : ∃ i, V.int j = .int i ∧ C i := ⟨j, rfl, h⟩
theorem r_isi {t u : Value} {b : Bool} {cl : V} (k : ClsV cl u) (ty : TyX K H x t) (e : PySem.W.kitOne K t u = some b) (q : Q (.bl b) H) : rIsi K [x, cl] H Q := ⟨x, cl, t, u, b, rfl, k, ty, e, q⟩
theorem r_rng1 {ta : TA} {R : It → Hp → Prop} (h : ta σ H fun vs H1 => ∃ j : Int, vs = [.int j] ∧ -(2 ^ 62) ≤ j ∧ j < 2 ^ 62 ∧ R (Itr 0 j.toNat) H1) : iRng1 ta σ H R := h
theorem r_rng1' {j : Int} {C : Int → Prop} (h1 : -(2 ^ 62) ≤ j) (h2 : j < 2 ^ 62) (h : C j) : ∃ j' : Int, [V.int j] = [.int j'] ∧ -(2 ^ 62) ≤ j' ∧ j' < 2 ^ 62 ∧ C j' := ⟨j, rfl, h1, h2, h⟩
end

/-! ### what was tracked stands -/
theorem same_t {K : PySem.W.Frag} {H H' : Hp} {a : Addr} {xs : List V} (e : Same H H') (h : SqT K H a xs) : SqT K H' a xs := by
  rcases h with (h | ⟨o, h⟩) | h
  · exact .inl (.inl (e _ _ h))
  · exact .inl (.inr ⟨o, e _ _ h⟩)
  · exact .inr h
theorem same_new {H : Hp} {p : Addr} {o : HO} (h : H p = none) : Same H (upd H p o) := fun b x e => by
  rw [upd_ne (ne_of_none e h)]
  exact e
/-- an object that H did not know was changed -/
theorem same_mut {H H' : Hp} {p : Addr} {o : HO} (e : Same H H') (h : H p = none) : Same H (upd H' p o) := fun a u ha => by
  rw [upd_ne (ne_of_none ha h)]
  exact e a u ha
mutual
theorem dp_same {K : PySem.W.Frag} {H H' : Hp} (e : Same H H') : ∀ (d : PyData) (v : V), Dp K H v d → Dp K H' v d
  | .none, _, h => by cases h; exact .non
  | .bool b, _, h => by cases h; exact .bl b
  | .int i, _, h => by cases h; exact .int i
  | .str x, _, h => by cases h; exact .str x
  | .list ds, _, h => by
    cases h with
    | lst hs ha => exact .lst (e.seq hs) (dpAll_same e ds _ ha)
  | .tuple ds, _, h => by
    cases h with
    | tup hs ha => exact .tup (same_t e hs) (dpAll_same e ds _ ha)
  | .dict _, _, h => by cases h
theorem dpAll_same {K : PySem.W.Frag} {H H' : Hp} (e : Same H H') : ∀ (ds : List PyData) (vs : List V), DpAll K H vs ds → DpAll K H' vs ds
  | [], _, h => by cases h; exact .nil
  | d :: ds, _, h => by
    cases h with
    | cons h1 h2 => exact .cons (dp_same e d _ h1) (dpAll_same e ds _ h2)
end
theorem dpAll_len {K : PySem.W.Frag} {H : Hp} : ∀ {vs : List V} {ds : List PyData}, DpAll K H vs ds → vs.length = ds.length
  | _, _, .nil => rfl
  | _, _, .cons _ t => congrArg (· + 1) (dpAll_len t)
theorem dpAll_get {K : PySem.W.Frag} {H : Hp} : ∀ {vs : List V} {ds : List PyData} {i : Nat} {d : PyData}, DpAll K H vs ds → ds[i]? = some d → ∃ v, vs[i]? = some v ∧ Dp K H v d
  | _, _, _, _, .nil, e => by simp at e
  | _, _, 0, _, .cons h _, e => by simp at e; subst e; exact ⟨_, rfl, h⟩
  | _, _, i + 1, d, .cons _ t, e => by
    obtain ⟨v, h1, h2⟩ := dpAll_get (i := i) (d := d) t (by simpa using e)
    exact ⟨v, by simpa using h1, h2⟩
theorem dpAll_map {K : PySem.W.Frag} {H : Hp} {α : Type} {f : α → V} {g : α → PyData} (h : ∀ x, Dp K H (f x) (g x)) : ∀ xs : List α, DpAll K H (xs.map f) (xs.map g)
  | [] => .nil
  | x :: xs => .cons (h x) (dpAll_map h xs)
/-- the type of what bears data -/
theorem tyx_sqL {K : PySem.W.Frag} {H : Hp} {a : Addr} {xs : List V} (h : SqL K H a xs) : TyX K H (.ref a) (.type "list") := by
  rcases h with (h | ⟨o, h⟩) | ⟨o, its, n, hk, hc, _⟩
  · exact .base (.lst h)
  · exact .base (.frz h)
  · exact .kList hk hc
theorem tyx_sqT {K : PySem.W.Frag} {H : Hp} {a : Addr} {xs : List V} (h : SqT K H a xs) : TyX K H (.ref a) (.type "tuple") := by
  rcases h with (h | ⟨o, h⟩) | ⟨o, its, n, hk, hc, _⟩
  · exact .base (.tup h)
  · exact .fTuple h
  · exact .kTuple hk hc

/-! ### walks over a text's signs -/
theorem for_str {x : Str} {g : TG} {tb : TS} {D : Ends} {σ : L2.St} {H : Hp} (Pv : Nat → L2.St → Hp → Prop) (h0 : Pv 0 σ H)
    (hs : ∀ i c σ H, x.cps.toList[i]? = some c → Pv i σ H → g (.str ⟨#[c]⟩) σ H fun σ2 H2 => tb { D with nx := Pv (i + 1), ct := Pv (i + 1), bk := D.nx } σ2 H2) (hd : ∀ σ H, Pv x.cps.size σ H → D.nx σ H) :
    ∃ W : Nat → Nat → L2.St → Hp → Prop, (∃ m, W 0 m σ H) ∧ ∀ i m σ H, W i m σ H →
      ((Its x).stop i H ∧ D.nx σ H) ∨ ((Its x).go i H ∧ ∃ N : L2.St → Hp → Prop, (∀ σ' H', N σ' H' → ∃ m', m' < m ∧ W (i + 1) m' σ' H') ∧ ∀ x' H', (Its x).yld i H x' H' → g x' σ H' fun σ2 H2 => tb { D with nx := N, ct := N, bk := D.nx } σ2 H2) := by
  refine ⟨fun i m σ H => m = x.cps.size - i ∧ i ≤ x.cps.size ∧ Pv i σ H, ⟨x.cps.size, by simp, Nat.zero_le _, h0⟩, ?_⟩
  rintro i m σ H ⟨rfl, hi, p⟩
  by_cases hlt : i < x.cps.size
  · refine .inr ⟨hlt, Pv (i + 1), fun σ' H' p' => ⟨x.cps.size - (i + 1), by omega, rfl, hlt, p'⟩, fun x' H' y => ?_⟩
    obtain ⟨e, c, hc, rfl⟩ := y
    subst e
    exact hs i c σ _ (by rw [Array.getElem?_toList]; exact hc) p
  · have e : i = x.cps.size := by omega
    subst e
    exact .inl ⟨Nat.le_refl _, hd σ H p⟩
end G
namespace G
open PySem PySem.Spec PyProof.Rows L2
/-! isinstance of built-in kinds -/
section
variable {K : PySem.W.Frag}
theorem kt_NoneType_list : PySem.W.kitOne K (.type "NoneType") (.type "list") = some false := kit_ty (by decide +kernel)
theorem kt_NoneType_tuple : PySem.W.kitOne K (.type "NoneType") (.type "tuple") = some false := kit_ty (by decide +kernel)
theorem kt_NoneType_bool : PySem.W.kitOne K (.type "NoneType") (.type "bool") = some false := kit_ty (by decide +kernel)
theorem kt_NoneType_int : PySem.W.kitOne K (.type "NoneType") (.type "int") = some false := kit_ty (by decide +kernel)
theorem kt_NoneType_str : PySem.W.kitOne K (.type "NoneType") (.type "str") = some false := kit_ty (by decide +kernel)
theorem kt_bool_list : PySem.W.kitOne K (.type "bool") (.type "list") = some false := kit_ty (by decide +kernel)
theorem kt_bool_tuple : PySem.W.kitOne K (.type "bool") (.type "tuple") = some false := kit_ty (by decide +kernel)
theorem kt_bool_bool : PySem.W.kitOne K (.type "bool") (.type "bool") = some true := kit_ty (by decide +kernel)
theorem kt_bool_int : PySem.W.kitOne K (.type "bool") (.type "int") = some true := kit_ty (by decide +kernel)
theorem kt_bool_str : PySem.W.kitOne K (.type "bool") (.type "str") = some false := kit_ty (by decide +kernel)
theorem kt_int_list : PySem.W.kitOne K (.type "int") (.type "list") = some false := kit_ty (by decide +kernel)
theorem kt_int_tuple : PySem.W.kitOne K (.type "int") (.type "tuple") = some false := kit_ty (by decide +kernel)
theorem kt_int_bool : PySem.W.kitOne K (.type "int") (.type "bool") = some false := kit_ty (by decide +kernel)
theorem kt_int_int : PySem.W.kitOne K (.type "int") (.type "int") = some true := kit_ty (by decide +kernel)
theorem kt_int_str : PySem.W.kitOne K (.type "int") (.type "str") = some false := kit_ty (by decide +kernel)
theorem kt_str_list : PySem.W.kitOne K (.type "str") (.type "list") = some false := kit_ty (by decide +kernel)
theorem kt_str_tuple : PySem.W.kitOne K (.type "str") (.type "tuple") = some false := kit_ty (by decide +kernel)
theorem kt_str_bool : PySem.W.kitOne K (.type "str") (.type "bool") = some false := kit_ty (by decide +kernel)
theorem kt_str_int : PySem.W.kitOne K (.type "str") (.type "int") = some false := kit_ty (by decide +kernel)
theorem kt_str_str : PySem.W.kitOne K (.type "str") (.type "str") = some true := kit_ty (by decide +kernel)
theorem kt_list_list : PySem.W.kitOne K (.type "list") (.type "list") = some true := kit_ty (by decide +kernel)
theorem kt_list_tuple : PySem.W.kitOne K (.type "list") (.type "tuple") = some false := kit_ty (by decide +kernel)
theorem kt_list_bool : PySem.W.kitOne K (.type "list") (.type "bool") = some false := kit_ty (by decide +kernel)
theorem kt_list_int : PySem.W.kitOne K (.type "list") (.type "int") = some false := kit_ty (by decide +kernel)
theorem kt_list_str : PySem.W.kitOne K (.type "list") (.type "str") = some false := kit_ty (by decide +kernel)
theorem kt_tuple_list : PySem.W.kitOne K (.type "tuple") (.type "list") = some false := kit_ty (by decide +kernel)
theorem kt_tuple_tuple : PySem.W.kitOne K (.type "tuple") (.type "tuple") = some true := kit_ty (by decide +kernel)
theorem kt_tuple_bool : PySem.W.kitOne K (.type "tuple") (.type "bool") = some false := kit_ty (by decide +kernel)
theorem kt_tuple_int : PySem.W.kitOne K (.type "tuple") (.type "int") = some false := kit_ty (by decide +kernel)
theorem kt_tuple_str : PySem.W.kitOne K (.type "tuple") (.type "str") = some false := kit_ty (by decide +kernel)
end
section
variable {K : PySem.W.Frag} {H : Hp} {Q : VK} {v : V}
theorem r_xL {p : Addr} {xs : List V} {i : Int} (h : SqL K H p xs) (a : atI xs i = some v) (q : Q v H) : rIx K (.ref p) (.int i) H Q := .inl ⟨p, xs, i, v, rfl, rfl, h, a, q⟩
theorem r_xT {p : Addr} {xs : List V} {i : Int} (h : SqT K H p xs) (a : atI xs i = some v) (q : Q v H) : rIx K (.ref p) (.int i) H Q := .inr (.inl ⟨p, xs, i, v, rfl, rfl, h, a, q⟩)
end
/-! a def of which nothing is promised -/
theorem fn_false {P : Program} {w : World} {K : PySem.W.Frag} {mg : Str → Option Value} {base : Heap} {CX : CXT} {k : Nat} {f : Addr} {fd : FuncData} {ps : List Str} : FnOk P w K mg base CX k f fd ps (fun _ _ _ _ => False) := by
  constructor
  · intros; contradiction
  · intros; contradiction
theorem fn_vac {P : Program} {w : World} {K : PySem.W.Frag} {mg : Str → Option Value} {base : Heap} {CX : CXT} {k : Nat} {f : Addr} {fd : FuncData} {ps : List Str} {sp : Sp} (h : ∀ vs H Q E, sp vs H Q E → False) : FnOk P w K mg base CX k f fd ps sp := by
  have e : sp = fun _ _ _ _ => False := by
    funext vs H Q E
    exact propext ⟨h vs H Q E, False.elim⟩
  rw [e]
  exact fn_false

/-! ### promises of the law's helpers -/
def cellV (ns : List Int) (k : Int) : Int := ns.getD k.toNat 0
def spCellG (K : PySem.W.Frag) : Sp := fun vs H Q _ => ∃ (l : Addr) (ns : List Int) (k : Int), vs = [.ref l, .int k] ∧ SqL K H l (ns.map V.int) ∧ 0 ≤ k ∧ Q (.int (cellV ns k)) H
/-- data of a depth below n, of bounded lengths -/
def fits : Nat → PyData → Prop
  | 0, _ => False
  | n + 1, .list ds => ds.length ≤ sizeLine ∧ ∀ d ∈ ds, fits n d
  | n + 1, .tuple ds => ds.length ≤ sizeLine ∧ ∀ d ∈ ds, fits n d
  | _ + 1, .dict _ => False
  | _ + 1, .none => True
  | _ + 1, .bool _ => True
  | _ + 1, .int _ => True
  | _ + 1, .str _ => True
def spSame (K : PySem.W.Frag) (n : Nat) : Sp := fun vs H Q _ => ∃ (x y : V) (d : PyData), vs = [x, y] ∧ Dp K H x d ∧ Dp K H y d ∧ fits n d ∧ Q (.bl true) H
/-- count new numbers from 0 to 999 -/
def spNums (K : PySem.W.Frag) : Sp := fun vs H Q _ => ∃ (c : Int) (n : Nat), vs = [.int c, .int (n : Int)] ∧ n ≤ 10000 ∧
  ∀ (H' : Hp) (p : Addr) (ns : List Int), Same H H' → H p = none → H' p = some (.lst (ns.map V.int)) → ns.length = n → (∀ z ∈ ns, 0 ≤ z ∧ z < 1000) → Q (.ref p) H'
theorem emod_rng (a : Int) {b : Int} (h : 0 < b) : 0 ≤ a % b ∧ a % b < b := ⟨Int.emod_nonneg a (by omega), Int.emod_lt_of_pos a h⟩
/-! texts as lists of codes -/
abbrev sV (l : List Nat) : V := .str ⟨l.toArray⟩
theorem str_app (a b : List Nat) : (⟨a.toArray⟩ : Str) ++ (⟨b.toArray⟩ : Str) = ⟨(a ++ b).toArray⟩ := congrArg Str.mk (show a.toArray ++ b.toArray = (a ++ b).toArray by simp)
theorem str_len (a : List Nat) : (⟨a.toArray⟩ : Str).length = a.length := by simp [Str.length]
/-- a comprehension over a text's signs -/
theorem lc_str {x : Str} {g : TG} {tt : TT} {te : TE} {vs : List Nat} {σ : L2.St} {H1 : Hp} {D : Addr} {Qd : Hp → Prop} (Pv : Nat → Hp → Prop) (h0 : Pv 0 (upd H1 D (.lst [])))
    (hs : ∀ i c H, x.cps.toList[i]? = some c → Pv i H → g (.str ⟨#[c]⟩) (wipe σ vs) H fun σ2 H2 => wipe σ2 vs = wipe σ vs ∧ tt σ2 H2 fun b H3 =>
      if b = true then te σ2 H3 fun y H4 => ∃ acc, H4 D = some (.lst acc) ∧ acc.length < sizeLine ∧ Pv (i + 1) (upd H4 D (.lst (acc ++ [y]))) else Pv (i + 1) H3) (hd : ∀ H, Pv x.cps.size H → Qd H) :
    ∃ W : Nat → Nat → Hp → Prop, (∃ m, W 0 m (upd H1 D (.lst []))) ∧ ∀ i m H, W i m H →
      ((Its x).stop i H ∧ Qd H) ∨ ((Its x).go i H ∧ ∃ Nx : Hp → Prop, (∀ H', Nx H' → ∃ m', m' < m ∧ W (i + 1) m' H') ∧ ∀ x' H', (Its x).yld i H x' H' → g x' (wipe σ vs) H' fun σ2 H2 => wipe σ2 vs = wipe σ vs ∧ tt σ2 H2 fun b H3 =>
        if b = true then te σ2 H3 fun y H4 => ∃ acc, H4 D = some (.lst acc) ∧ acc.length < sizeLine ∧ Nx (upd H4 D (.lst (acc ++ [y]))) else Nx H3) := by
  refine ⟨fun i m H => m = x.cps.size - i ∧ i ≤ x.cps.size ∧ Pv i H, ⟨x.cps.size, by simp, Nat.zero_le _, h0⟩, ?_⟩
  rintro i m H ⟨rfl, hi, p⟩
  by_cases hlt : i < x.cps.size
  · refine .inr ⟨hlt, Pv (i + 1), fun H' p' => ⟨x.cps.size - (i + 1), by omega, rfl, hlt, p'⟩, fun x' H' y => ?_⟩
    obtain ⟨e, c, hc, rfl⟩ := y
    subst e
    exact hs i c _ (by rw [Array.getElem?_toList]; exact hc) p
  · have e : i = x.cps.size := by omega
    subst e
    exact .inl ⟨Nat.le_refl _, hd H p⟩
theorem cut_abcd {m : Nat} (h4 : m ≤ 4) : cutS (Str.ofString "abcd") none (some (m : Int)) = ⟨(List.take m [97, 98, 99, 100]).toArray⟩ := by
  match m, h4 with
  | 0, _ => decide +kernel
  | 1, _ => decide +kernel
  | 2, _ => decide +kernel
  | 3, _ => decide +kernel
  | 4, _ => decide +kernel
section
variable {σ : L2.St} {H : Hp} {Q : VK} {K : PySem.W.Frag} {te : TE} {R : It → Hp → Prop}
theorem r_gn {i : Nat} {v : V} {C : L2.St → Hp → Prop} (h : C (σ.set i (some v)) H) : gName i v σ H C := h
theorem iteNT {A B : Prop} (h : B) : if (!true) = true then A else B := iteF h
theorem iteNF {A B : Prop} (h : A) : if (!false) = true then A else B := iteT h
theorem r_fdiv {g : Int → Int → V} {i j : Int} (hc : 0 < j ∧ j < 1073741824) (h : Q (g i j) H) : rI CDiv g (.int i) (.int j) H Q := ⟨i, j, rfl, rfl, hc, h⟩
theorem r_mod {g : Int → Int → V} {i j : Int} (hc : 0 < j) (h : Q (g i j) H) : rI (fun _ j => 0 < j) g (.int i) (.int j) H Q := ⟨i, j, rfl, rfl, hc, h⟩
theorem r_mul {g : Int → Int → V} {i j : Int} (hc : (-(2 ^ 64) < i ∧ i < 2 ^ 64) ∨ (-(2 ^ 64) < j ∧ j < 2 ^ 64)) (h : Q (g i j) H) : rI CMul g (.int i) (.int j) H Q := ⟨i, j, rfl, rfl, hc, h⟩
theorem r_pow {g : Int → Int → V} {i j : Int} (hc : 0 ≤ j ∧ j ≤ 1000000 ∧ i.natAbs < 2 ^ 64) (h : Q (g i j) H) : rI CPow g (.int i) (.int j) H Q := ⟨i, j, rfl, rfl, hc, h⟩
theorem r_iStr (h : te σ H fun v H1 => ∃ x, v = .str x ∧ R (Its x) H1) : iStr te σ H R := h
theorem r_iList (h : te σ H fun x H1 => ∃ a, x = .ref a ∧ (∃ xs, SqL K H1 a xs) ∧ R (Itl K a) H1) : iList K te σ H R := h
theorem r_iTup (h : te σ H fun x H1 => ∃ a, x = .ref a ∧ (∃ xs, SqT K H1 a xs) ∧ R (Itt K a) H1) : iTup K te σ H R := h
theorem r_str1 {z : Str} {C : Str → Prop} (h : C z) : ∃ x, V.str z = .str x ∧ C x := ⟨z, rfl, h⟩
theorem r_ref1 {p : Addr} {C : Addr → Prop} (h : C p) : ∃ a, V.ref p = .ref a ∧ C a := ⟨p, rfl, h⟩
end
/-! places in a text -/
def noE : Expr := .Name "" ⟨0, 0, 0, 0⟩
def noS : Stmt := .Pass ⟨0, 0, 0, 0⟩
def eArg (k : Nat) : Expr → Expr | .Call _ es _ _ => es.getD k noE | _ => noE
def eFun : Expr → Expr | .Call f _ _ _ => f | _ => noE
def eObj : Expr → Expr | .Attribute v _ _ => v | _ => noE
def eElt : Expr → Expr | .ListComp e _ _ _ => e | .SetComp e _ _ _ => e | .GeneratorExp e _ _ _ => e | _ => noE
def eScope : Expr → Scope | .ListComp _ _ sc _ => sc | .SetComp _ _ sc _ => sc | .GeneratorExp _ _ sc _ => sc | _ => { kind := .function, names := [], isGenerator := false, isCoroutine := false }
def eIter (k : Nat) : Expr → Expr | .ListComp _ gs _ _ => (gs.map fun g => g.iter).getD k noE | _ => noE
def eIf (k j : Nat) : Expr → Expr | .ListComp _ gs _ _ => ((gs.map fun g => g.ifs).getD k []).getD j noE | _ => noE
def eLeft : Expr → Expr | .BinOp a _ _ _ => a | .Compare a _ _ _ => a | .Subscript a _ _ => a | .UnaryOp _ a _ => a | _ => noE
def eRight : Expr → Expr | .BinOp _ _ b _ => b | .Subscript _ b _ => b | _ => noE
def eCmp (k : Nat) : Expr → Expr | .Compare _ _ bs _ => bs.getD k noE | _ => noE
def eVal (k : Nat) : Expr → Expr | .BoolOp _ es _ => es.getD k noE | .List es _ => es.getD k noE | .Tuple es _ _ => es.getD k noE | _ => noE
def sE : Stmt → Expr | .Assign _ e _ => e | .AugAssign _ _ e _ => e | .Return (some e) _ => e | .Expr e _ => e | .If c _ _ _ => c | .While c _ _ _ => c | .For _ it _ _ _ => it | _ => noE
def sIn (k : Nat) : Stmt → Stmt | .FunctionDef _ _ b _ _ _ _ _ _ _ => b.getD k noS | .If _ b _ _ => b.getD k noS | .For _ _ b _ _ => b.getD k noS | .While _ b _ _ => b.getD k noS | _ => noS
def sElse (k : Nat) : Stmt → Stmt | .If _ _ b _ => b.getD k noS | _ => noS
section
variable {σ : L2.St} {H : Hp} {Q : VK} {K : PySem.W.Frag} {te : TE}
def rIdxS : V → List V → Hp → VK → Prop := fun x xs H Q => ∃ a b i rest, x = .str a ∧ xs = [.str b] ∧ Builtin.Str.occurrences a b 0 a.length 1 = i :: rest ∧ Q (.int (i : Nat)) H
theorem mt_indexS {X : Cx} : MtR X "str.index" rIdxS := mt_sindex
theorem occ_abcd {j c : Nat} (h : [97, 98, 99, 100][j]? = some c) : Builtin.Str.occurrences (Str.ofString "abcd") ⟨#[c]⟩ 0 (Str.ofString "abcd").length 1 = [j] := by
  match j, h with
  | 0, h => cases Option.some.inj h; decide +kernel
  | 1, h => cases Option.some.inj h; decide +kernel
  | 2, h => cases Option.some.inj h; decide +kernel
  | 3, h => cases Option.some.inj h; decide +kernel
  | n + 4, h => simp at h
theorem r_idxS {j c : Nat} (h : [97, 98, 99, 100][j]? = some c) (q : Q (.int (j : Int)) H) : rIdxS (.str (Str.ofString "abcd")) [.str ⟨#[c]⟩] H Q := ⟨_, _, j, [], rfl, rfl, occ_abcd h, q⟩
def rJoinS (K : PySem.W.Frag) : V → List V → Hp → VK → Prop := fun x xs H Q => ∃ a p, ∃ ys : List Str, x = .str a ∧ xs = [.ref p] ∧ (SqL K H p (ys.map V.str) ∨ SqT K H p (ys.map V.str)) ∧ (ys.map (·.length)).sum + ys.length * a.length ≤ 16777216 ∧ Q (.str (Txt.join a ys)) H
theorem mt_joinS {X : Cx} : MtR X "str.join" (rJoinS X.K) := mt_join
theorem r_bmS {T : String} {r : V → List V → Hp → VK → Prop} {to : TE} {t : TA} (h : to σ H fun x H1 => tyV K T x H1 ∧ t σ H1 fun xs H2 => r x xs H2 Q) : tBM K T r to t σ H Q := h
theorem foldl_app : ∀ (xs : List (Array Nat)) (acc : Array Nat), xs.foldl (· ++ ·) acc = acc ++ (xs.map Array.toList).flatten.toArray
  | [], acc => by simp
  | x :: xs, acc => by
    rw [List.foldl_cons, foldl_app xs (acc ++ x)]
    rw [List.map_cons, List.flatten_cons, Array.append_assoc]
    congr 1
    apply Array.ext'
    simp
theorem mul_txt (l : List Nat) (n : Nat) : Txt.mul ⟨l.toArray⟩ (n : Int) = ⟨((List.replicate n l).flatten).toArray⟩ := by
  unfold Txt.mul
  by_cases h1 : (n : Int) < 1
  · have e : n = 0 := by omega
    subst e
    rfl
  · rw [if_neg h1]
    by_cases h2 : ((n : Int) == 1 || (⟨l.toArray⟩ : Str).length == 0) = true
    · rw [if_pos h2]
      rcases Bool.or_eq_true_iff.mp h2 with e | e
      · have e' : n = 1 := by have := eq_of_beq e; omega
        subst e'
        simp
      · have e' : l = [] := by
          have e2 : l.toArray.size = 0 := eq_of_beq e
          rw [List.size_toArray] at e2
          exact List.length_eq_zero_iff.mp e2
        subst e'
        simp
    · rw [if_neg h2]
      congr 1
      rw [foldl_app]
      simp
def rRepS : R2 := fun x y H Q => ∃ (l : List Nat) (n : Nat), x = .str ⟨l.toArray⟩ ∧ y = .int (n : Int) ∧ l.length * n ≤ sizeLine ∧ n ≤ 1000000 ∧ Q (.str ⟨((List.replicate n l).flatten).toArray⟩) H
theorem op_repS {X : Cx} : OpR X (binaryOp .Mult) rRepS := by
  intro pins s σ H x y v u Q I rx ry h
  obtain ⟨l, n, rfl, rfl, hl, hn, q⟩ := h
  obtain ⟨t, rfl⟩ := rx
  obtain ⟨t2, rfl⟩ := ry
  refine SB.mul ⟨?_, fun h1 h2 => ?_, fun h1 h2 => ?_⟩ fun t' k => ⟨.str (Txt.mul ⟨l.toArray⟩ (n : Int)), H, I.tok k, ⟨t', rfl⟩, ?_⟩
  · rw [Bool.or_eq_false_iff]
    exact ⟨decide_eq_false (by omega), decide_eq_false (by omega)⟩
  · have hz : (sizeLine : Nat) = 16777216 := by decide
    rw [str_len]
    intro hc
    have hn1 : 1 ≤ n := by omega
    have hll : l.length ≤ 16777216 := by
      have : l.length * 1 ≤ l.length * n := Nat.mul_le_mul_left _ hn1
      omega
    have h3 : (1000000000 : Int) ≤ (2 ^ 63 - 1) / (n : Int) := by
      rw [Int.le_ediv_iff_mul_le (by omega)]
      omega
    omega
  · rw [str_len]
    have : (l.length * (n : Int).toNat) ≤ sizeLine := by rw [Int.toNat_natCast]; exact hl
    exact decide_eq_false (by omega)
  · rw [mul_txt]
    exact q
theorem r_lstRg1 {j : Int} (h0 : 0 ≤ j) (h1 : j ≤ 16777216) (q : ∀ p, H p = none → Q (.ref p) (upd H p (.lst (((List.range j.toNat).map fun i : Nat => (i : Int)).map V.int)))) (h : te σ H fun x H1 => x = .int j ∧ H1 = H) (mono : ∀ R R' : VK, (∀ v H, R v H → R' v H) → te σ H R → te σ H R') : tLstRg (tRg1 te) σ H Q := by
  refine mono _ _ (fun v H1 e => ?_) h
  obtain ⟨rfl, rfl⟩ := e
  refine ⟨j, rfl, RgOk.of_le (Int.le_refl _) h1 (by decide) h0, fun p hp => ?_⟩
  have e : rgV 0 j = ((List.range j.toNat).map fun i : Nat => (i : Int)).map V.int := by
    unfold rgV
    rw [List.map_map, show (j - 0) = j by omega]
    refine List.map_congr_left fun i _ => ?_
    show V.int (0 + (i : Int)) = V.int (i : Int)
    rw [Int.zero_add]
  rw [e]
  exact q p hp
end
/-! drawn numbers -/
def Dr (n : Nat) (c : Int) (ms : List Int) : Prop := ms.length = n ∧ ∀ z ∈ ms, 0 ≤ z ∧ z < c
theorem Dr.nil {c : Int} : Dr 0 c [] := ⟨rfl, fun _ h => nomatch h⟩
theorem Dr.app {n : Nat} {c z : Int} {ms : List Int} (h : Dr n c ms) (h0 : 0 ≤ z) (h1 : z < c) : Dr (n + 1) c (ms ++ [z]) := by
  refine ⟨by rw [List.length_append, h.1]; rfl, fun y hy => ?_⟩
  rcases List.mem_append.mp hy with hy | hy
  · exact h.2 y hy
  · rw [List.mem_singleton.mp hy]; exact ⟨h0, h1⟩
theorem Dr.set {n : Nat} {c z : Int} {ms : List Int} {j : Nat} (h : Dr n c ms) (h0 : 0 ≤ z) (h1 : z < c) : Dr n c (ms.set j z) := by
  refine ⟨by rw [List.length_set]; exact h.1, fun y hy => ?_⟩
  rcases List.mem_or_eq_of_mem_set hy with hy | hy
  · exact h.2 y hy
  · rw [hy]; exact ⟨h0, h1⟩
theorem Dr.getD {n : Nat} {c : Int} {ms : List Int} {j : Nat} (h : Dr n c ms) (hj : j < n) : 0 ≤ ms.getD j 0 ∧ ms.getD j 0 < c := by
  have hj' : j < ms.length := by rw [h.1]; exact hj
  rw [List.getD_eq_getElem?_getD, List.getElem?_eq_getElem hj']
  exact h.2 _ (List.getElem_mem hj')
theorem at_int {ns : List Int} {i : Int} (h0 : 0 ≤ i) (h1 : i < ns.length) : atI (ns.map V.int) i = some (.int (ns.getD i.toNat 0)) := by
  have hi : i.toNat < ns.length := by omega
  refine at_of (j := i.toNat) (by omega) ?_
  rw [List.getElem?_map, List.getD_eq_getElem?_getD, List.getElem?_eq_getElem hi]
  rfl
theorem ix_set {n : Nat} {i : Int} (h0 : 0 ≤ i) (h1 : i < n) : ixN n i = some i.toNat := by
  unfold ixN
  rw [if_pos h0, if_pos h1]
theorem r_setL {p : Addr} {xs : List V} {k : Int} {y : V} {H : Hp} {Q : Hp → Prop} (h : H p = some (.lst xs)) (h0 : 0 ≤ k) (h1 : k < xs.length) (q : Q (upd H p (.lst (xs.set k.toNat y)))) : rSetL (.ref p) (.int k) y H Q := ⟨p, xs, k, k.toNat, rfl, rfl, h, ix_set h0 h1, q⟩
theorem r_gsub {to ti : TE} {t : TSet} {v : V} {σ : L2.St} {H : Hp} {C : L2.St → Hp → Prop} (h : to σ H fun o H1 => ti σ H1 fun i H2 => t o i v H2 fun H3 => C σ H3) : gSub to ti t v σ H C := h
theorem map_set_int (ms : List Int) (j : Nat) (z : Int) : (ms.map V.int).set j (V.int z) = (ms.set j z).map V.int := by rw [List.map_set]
theorem rep_flat (z : Int) (n : Nat) : (List.replicate n [V.int z]).flatten = (List.replicate n z).map V.int := by
  induction n with
  | zero => rfl
  | succ n ih => rw [List.replicate_succ, List.flatten_cons, ih, List.replicate_succ]; rfl
theorem Dr.rep {n : Nat} {c z : Int} (h0 : 0 ≤ z) (h1 : z < c) : Dr n c (List.replicate n z) := ⟨List.length_replicate, fun y hy => by rw [(List.mem_replicate.mp hy).2]; exact ⟨h0, h1⟩⟩
theorem Dr.perm {n : Nat} {c : Int} {ms ms' : List Int} (h : Dr n c ms) (p : ms'.Perm ms) : Dr n c ms' := ⟨by rw [p.length_eq]; exact h.1, fun y hy => h.2 y (p.mem_iff.mp hy)⟩
theorem Dr.range (n : Nat) : Dr n n ((List.range n).map fun i : Nat => (i : Int)) := by
  refine ⟨by rw [List.length_map, List.length_range], fun y hy => ?_⟩
  obtain ⟨i, hi, rfl⟩ := List.mem_map.mp hy
  have := List.mem_range.mp hi
  exact ⟨by omega, by omega⟩
def spAction (K : PySem.W.Frag) : Sp := fun vs H Q _ => ∃ (p : Addr) (ns : List Int) (n : Nat), vs = [.ref p, .int (n : Int)] ∧ SqL K H p (ns.map V.int) ∧ 12 ≤ ns.length ∧ 1 ≤ n ∧ n ≤ 10 ∧
  ∀ (H' : Hp) (q : Addr) (ms : List Int), Same H H' → H q = none → H' q = some (.lst (ms.map V.int)) → Dr n n ms → Q (.ref q) H'
/-! the rules with the written part named -/
section
variable {X : Cx} {K : PySem.W.Frag}
theorem ix_listK (h : X.K = K) : IxR X (rIxL K) := h ▸ ix_list
theorem ix_tupK (h : X.K = K) : IxR X (rIxT K) := h ▸ ix_tup
theorem ix_seqK (h : X.K = K) : IxR X (rIx K) := h ▸ ix_seq
theorem call_lenQK (h : X.K = K) : CallR X (.builtin "len") (rLenQ K) := h ▸ call_lenQ
theorem call_tupOfK (h : X.K = K) : CallR X (.type "tuple") (rTupOf K) := h ▸ call_tupOf
theorem call_lstOfK (h : X.K = K) : CallR X (.type "list") (rLstOf K) := h ▸ call_lstOf
theorem call_isiK1 (h : X.K = K) : CallR X (.builtin "isinstance") (rIsi K) := h ▸ call_isi
theorem cr_sortedK (h : X.K = K) : CallR X (.builtin "sorted") (rSorted K) := h ▸ cr_sorted
theorem sl_listK (h : X.K = K) : SlR X (rSlL K) := h ▸ sl_list
theorem sl_tupK (h : X.K = K) : SlR X (rSlT K) := h ▸ sl_tup
theorem op_inK (h : X.K = K) : OpR X (compareOp .In) (rIn K false) := h ▸ op_in_seq
theorem op_notInK (h : X.K = K) : OpR X (compareOp .NotIn) (rIn K true) := h ▸ op_notIn_seq
theorem op_catTK (h : X.K = K) : OpR X (binaryOp .Add) (rCatT K) := h ▸ op_catT
theorem op_eqDK (h : X.K = K) (hu : X.A.units + 64 < cLine) : OpR X (compareOp .Eq) (rEqD K) := h ▸ op_eqD hu
theorem op_neDK (h : X.K = K) (hu : X.A.units + 64 < cLine) : OpR X (compareOp .NotEq) (rNeD K) := h ▸ op_neD hu
theorem mt_joinSK (h : X.K = K) : MtR X "str.join" (rJoinS K) := h ▸ mt_joinS
theorem cr_anyK (h : X.K = K) (hc : X.calm = true) : CallR X (.builtin "any") (rAny K) := h ▸ cr_any hc
theorem pi_listK {tg l : Expr} {tl : TE} (h : X.K = K) (hl : PE X l tl) : PI X tg l (iList K tl) := h ▸ pi_list hl
theorem pi_tupK {tg l : Expr} {tl : TE} (h : X.K = K) (hl : PE X l tl) : PI X tg l (iTup K tl) := h ▸ pi_tup hl
theorem bmK {e : Expr} {T : String} {r : V → List V → Hp → VK → Prop} {to : TE} {t : TA} (h : X.K = K) (p : PE X e (tBM X.K T r to t)) : PE X e (tBM K T r to t) := h ▸ p
theorem bm0K {e : Expr} {T : String} {r : V → List V → Hp → VK → Prop} {to : TE} (h : X.K = K) (p : PE X e (tBM0 X.K T r to)) : PE X e (tBM0 K T r to) := h ▸ p
theorem pg_tupK {es : List Expr} {k : Nat} {t : TGs} {n : Nat} {pos : Pos} (hK : X.K = K) (hc : X.calm = true) (h : PGs X es t) (hn : (assignEach es X.env).length = n := by rfl) (hst : (assignEach es X.env).findIdx? (·.1) = none := by rfl) : PG X (.Tuple es k pos) (gTup K n t) := hK ▸ pg_tup hc h hn hst
end
theorem ln1 {x0 : V} : [x0].length ≤ sizeLine := by show 1 ≤ sizeLine; decide
theorem ln2 {x0 x1 : V} : [x0, x1].length ≤ sizeLine := by show 2 ≤ sizeLine; decide
theorem ln3 {x0 x1 x2 : V} : [x0, x1, x2].length ≤ sizeLine := by show 3 ≤ sizeLine; decide
theorem ln4 {x0 x1 x2 x3 : V} : [x0, x1, x2, x3].length ≤ sizeLine := by show 4 ≤ sizeLine; decide
theorem ln5 {x0 x1 x2 x3 x4 : V} : [x0, x1, x2, x3, x4].length ≤ sizeLine := by show 5 ≤ sizeLine; decide
theorem ln6 {x0 x1 x2 x3 x4 x5 : V} : [x0, x1, x2, x3, x4, x5].length ≤ sizeLine := by show 6 ≤ sizeLine; decide
theorem ln7 {x0 x1 x2 x3 x4 x5 x6 : V} : [x0, x1, x2, x3, x4, x5, x6].length ≤ sizeLine := by show 7 ≤ sizeLine; decide
theorem ln8 {x0 x1 x2 x3 x4 x5 x6 x7 : V} : [x0, x1, x2, x3, x4, x5, x6, x7].length ≤ sizeLine := by show 8 ≤ sizeLine; decide
/-! ### data of tuples alone: what never changes -/
mutual
inductive Dt (K : PySem.W.Frag) (H : Hp) : V → PyData → Prop
  | non : Dt K H .non .none
  | bl (b : Bool) : Dt K H (.bl b) (.bool b)
  | int (i : Int) : Dt K H (.int i) (.int i)
  | str (x : Str) : Dt K H (.str x) (.str x)
  | tup {a : Addr} {xs : List V} {ds : List PyData} : SqT K H a xs → DtAll K H xs ds → Dt K H (.ref a) (.tuple ds)
inductive DtAll (K : PySem.W.Frag) (H : Hp) : List V → List PyData → Prop
  | nil : DtAll K H [] []
  | cons {v : V} {vs : List V} {d : PyData} {ds : List PyData} : Dt K H v d → DtAll K H vs ds → DtAll K H (v :: vs) (d :: ds)
end
/-- tuples stand -/
def SameT (H H' : Hp) : Prop := ∀ b, (∀ xs, H b = some (.tup xs) → H' b = some (.tup xs)) ∧ ∀ o xs, H b = some (.frz o (.tup xs)) → H' b = some (.frz o (.tup xs))
theorem sT_of {H H' : Hp} (e : Same H H') : SameT H H' := fun b => ⟨fun _ h => e b _ h, fun _ _ h => e b _ h⟩
theorem SameT.refl (H : Hp) : SameT H H := fun _ => ⟨fun _ h => h, fun _ _ h => h⟩
theorem SameT.trans {H H1 H2 : Hp} (a : SameT H H1) (b : SameT H1 H2) : SameT H H2 := fun c => ⟨fun xs h => (b c).1 xs ((a c).1 xs h), fun o xs h => (b c).2 o xs ((a c).2 o xs h)⟩
theorem SameT.lst {H : Hp} {p : Addr} {xs : List V} {o : HO} (h : H p = some (.lst xs)) : SameT H (upd H p o) := fun b => by
  refine ⟨fun ys e => ?_, fun o' ys e => ?_⟩
  · have : b ≠ p := fun z => by rw [z, h] at e; cases e
    rw [upd_ne this]; exact e
  · have : b ≠ p := fun z => by rw [z, h] at e; cases e
    rw [upd_ne this]; exact e
theorem SameT.sq {K : PySem.W.Frag} {H H' : Hp} {a : Addr} {xs : List V} (e : SameT H H') (h : SqT K H a xs) : SqT K H' a xs := by
  rcases h with (h | ⟨o, h⟩) | h
  · exact .inl (.inl ((e _).1 _ h))
  · exact .inl (.inr ⟨o, (e _).2 _ _ h⟩)
  · exact .inr h
mutual
theorem Dt.keep {K : PySem.W.Frag} {H H' : Hp} (e : SameT H H') : ∀ (d : PyData) (v : V), Dt K H v d → Dt K H' v d
  | .none, _, h => by cases h; exact .non
  | .bool b, _, h => by cases h; exact .bl b
  | .int i, _, h => by cases h; exact .int i
  | .str x, _, h => by cases h; exact .str x
  | .list ds, _, h => by cases h
  | .tuple ds, _, h => by
    cases h with
    | tup hs ha => exact .tup (e.sq hs) (DtAll.keep e ds _ ha)
  | .dict _, _, h => by cases h
theorem DtAll.keep {K : PySem.W.Frag} {H H' : Hp} (e : SameT H H') : ∀ (ds : List PyData) (vs : List V), DtAll K H vs ds → DtAll K H' vs ds
  | [], _, h => by cases h; exact .nil
  | d :: ds, _, h => by
    cases h with
    | cons h1 h2 => exact .cons (Dt.keep e d _ h1) (DtAll.keep e ds _ h2)
end
mutual
theorem Dt.dp {K : PySem.W.Frag} {H : Hp} : ∀ (d : PyData) (v : V), Dt K H v d → Dp K H v d
  | .none, _, h => by cases h; exact .non
  | .bool b, _, h => by cases h; exact .bl b
  | .int i, _, h => by cases h; exact .int i
  | .str x, _, h => by cases h; exact .str x
  | .list ds, _, h => by cases h
  | .tuple ds, _, h => by
    cases h with
    | tup hs ha => exact .tup hs (DtAll.dp ds _ ha)
  | .dict _, _, h => by cases h
theorem DtAll.dp {K : PySem.W.Frag} {H : Hp} : ∀ (ds : List PyData) (vs : List V), DtAll K H vs ds → DpAll K H vs ds
  | [], _, h => by cases h; exact .nil
  | d :: ds, _, h => by
    cases h with
    | cons h1 h2 => exact .cons (Dt.dp d _ h1) (DtAll.dp ds _ h2)
end
section
variable {K : PySem.W.Frag} {H H' : Hp}
theorem Dt.k {v : V} {d : PyData} (h : Dt K H v d) (e : SameT H H') : Dt K H' v d := Dt.keep e d v h
theorem DtAll.k {vs : List V} {ds : List PyData} (h : DtAll K H vs ds) (e : SameT H H') : DtAll K H' vs ds := DtAll.keep e ds vs h
theorem DtAll.len : ∀ {vs : List V} {ds : List PyData}, DtAll K H vs ds → vs.length = ds.length
  | _, _, .nil => rfl
  | _, _, .cons _ t => congrArg (· + 1) (DtAll.len t)
theorem DtAll.get : ∀ {vs : List V} {ds : List PyData} {i : Nat} {d : PyData}, DtAll K H vs ds → ds[i]? = some d → ∃ v, vs[i]? = some v ∧ Dt K H v d
  | _, _, _, _, .nil, e => by simp at e
  | _, _, 0, _, .cons h _, e => by simp at e; subst e; exact ⟨_, rfl, h⟩
  | _, _, i + 1, d, .cons _ t, e => by
    obtain ⟨v, h1, h2⟩ := DtAll.get (i := i) (d := d) t (by simpa using e)
    exact ⟨v, by simpa using h1, h2⟩
theorem DtAll.map {α : Type} {f : α → V} {g : α → PyData} (h : ∀ x, Dt K H (f x) (g x)) : ∀ xs : List α, DtAll K H (xs.map f) (xs.map g)
  | [] => .nil
  | x :: xs => .cons (h x) (DtAll.map h xs)
theorem DtAll.app : ∀ {vs ws : List V} {ds es : List PyData}, DtAll K H vs ds → DtAll K H ws es → DtAll K H (vs ++ ws) (ds ++ es)
  | _, _, _, _, .nil, s => s
  | _, _, _, _, .cons h t, s => .cons h (DtAll.app t s)
theorem DtAll.snoc {vs : List V} {ds : List PyData} {v : V} {d : PyData} (a : DtAll K H vs ds) (b : Dt K H v d) : DtAll K H (vs ++ [v]) (ds ++ [d]) := a.app (.cons b .nil)
theorem Dt.tupE {v : V} {ds : List PyData} (h : Dt K H v (.tuple ds)) : ∃ a xs, v = .ref a ∧ SqT K H a xs ∧ DtAll K H xs ds := by
  cases h with
  | tup hs ha => exact ⟨_, _, rfl, hs, ha⟩
theorem Dt.intE {v : V} {i : Int} (h : Dt K H v (.int i)) : v = .int i := by cases h; rfl
theorem DtAll.ints : ∀ {ns : List Int} {vs : List V}, DtAll K H vs (ns.map .int) → vs = ns.map V.int
  | [], _, h => by cases h; rfl
  | n :: ns, _, h => by
    cases h with
    | cons h1 h2 => rw [Dt.intE h1, DtAll.ints h2]; rfl
theorem DtAll.ofInts (ns : List Int) : DtAll K H (ns.map V.int) (ns.map .int) := DtAll.map (fun i => .int i) ns
/-- an item of a tuple of data -/
theorem Dt.item {v : V} {ds : List PyData} {i : Nat} {d : PyData} (h : Dt K H v (.tuple ds)) (e : ds[i]? = some d) : ∃ a xs w, v = .ref a ∧ SqT K H a xs ∧ xs[i]? = some w ∧ Dt K H w d := by
  obtain ⟨a, xs, rfl, hs, ha⟩ := h.tupE
  obtain ⟨w, h1, h2⟩ := ha.get e
  exact ⟨a, xs, w, rfl, hs, h1, h2⟩
end
/-! ### machines -/
structure Mac where
  steps : List (List Nat)
  start : Nat
  good : List Nat
def nD (n : Nat) : PyData := .int (n : Int)
def rowD (r : List Nat) : PyData := .tuple (r.map nD)
def macD (M : Mac) : PyData := .tuple [.tuple (M.steps.map rowD), nD M.start, rowD M.good]
structure MacOk (M : Mac) (n m : Nat) : Prop where
  len : M.steps.length = n
  row : ∀ r ∈ M.steps, r.length = m ∧ ∀ s ∈ r, s < n
  start : M.start < n
  good : ∀ s ∈ M.good, s < n
  asc : M.good.Pairwise (· < ·)
def iV (n : Nat) : V := .int (n : Int)
def spMachine (K : PySem.W.Frag) : Sp := fun vs H Q _ => ∃ (c : Int) (n m : Nat), vs = [.int c, .int (n : Int), .int (m : Int)] ∧ 1 ≤ n ∧ n ≤ 10 ∧ 1 ≤ m ∧ m ≤ 4 ∧
  ∀ (H' : Hp) (v : V) (M : Mac), Same H H' → Dt K H' v (macD M) → MacOk M n m → Q v H'
theorem cut_drop (xs : List V) (k : Nat) : cutV xs (some (k : Int)) none = xs.drop k := by
  unfold cutV
  rw [HT.sIx_nat, HT.sIx_none]
  by_cases h : k ≤ xs.length
  · rw [Nat.min_eq_left h]
    refine List.take_of_length_le ?_
    rw [List.length_drop]
    exact Nat.le_refl _
  · rw [Nat.min_eq_right (by omega), List.drop_eq_nil_of_le (Nat.le_refl _), List.drop_eq_nil_of_le (by omega), List.take_nil]
theorem menu8 {j : Nat} (h : j < 8) : ∃ d : Int, [V.int 1, V.int 2, V.int 4, V.int 8, V.int 16, V.int 32, V.int 64, V.int 125][j]? = some (.int d) ∧ 0 < d ∧ d < 1073741824 := by
  match j, h with
  | 0, _ => exact ⟨1, rfl, by decide, by decide⟩
  | 1, _ => exact ⟨2, rfl, by decide, by decide⟩
  | 2, _ => exact ⟨4, rfl, by decide, by decide⟩
  | 3, _ => exact ⟨8, rfl, by decide, by decide⟩
  | 4, _ => exact ⟨16, rfl, by decide, by decide⟩
  | 5, _ => exact ⟨32, rfl, by decide, by decide⟩
  | 6, _ => exact ⟨64, rfl, by decide, by decide⟩
  | 7, _ => exact ⟨125, rfl, by decide, by decide⟩
theorem nat_of {z c : Int} (h0 : 0 ≤ z) (h1 : z < c) : ∃ k : Nat, z = (k : Int) ∧ (k : Int) < c := ⟨z.toNat, by omega, by omega⟩
theorem ints_nat (r : List Nat) : (r.map iV) = (r.map fun n : Nat => (n : Int)).map V.int := by rw [List.map_map]; rfl
theorem ofNats {K : PySem.W.Frag} {H : Hp} (r : List Nat) : DtAll K H (r.map iV) (r.map nD) := DtAll.map (α := Nat) (f := iV) (g := nD) (fun n => .int (n : Int)) r
theorem nats_of {ms : List Int} {c : Int} (h : ∀ z ∈ ms, 0 ≤ z ∧ z < c) : ∃ r : List Nat, ms = r.map (fun n : Nat => (n : Int)) ∧ ∀ s ∈ r, (s : Int) < c := by
  refine ⟨ms.map Int.toNat, ?_, fun s hs => ?_⟩
  · rw [List.map_map]
    refine ((List.map_id ms).symm.trans (List.map_congr_left fun z hz => ?_))
    have := (h z hz).1
    show z = ((z.toNat : Nat) : Int)
    omega
  · obtain ⟨z, hz, rfl⟩ := List.mem_map.mp hs
    have := h z hz
    omega
/-! ### where words lead -/
def stepM (M : Mac) (s c : Nat) : Nat := (M.steps.getD s []).getD (c - 97) 0
def leadM (M : Mac) (s : Nat) (w : List Nat) : Nat := w.foldl (stepM M) s
def accM (M : Mac) (w : List Nat) : Bool := decide (leadM M M.start w ∈ M.good)
/-- codes of the first m letters -/
def isW (m : Nat) (w : List Nat) : Prop := ∀ c ∈ w, 97 ≤ c ∧ c < 97 + m
theorem isW.app {m : Nat} {u w : List Nat} (a : isW m u) (b : isW m w) : isW m (u ++ w) := fun c hc => (List.mem_append.mp hc).elim (a c) (b c)
theorem isW.take {m : Nat} {w : List Nat} (a : isW m w) (i : Nat) : isW m (w.take i) := fun c hc => a c (List.mem_of_mem_take hc)
theorem isW.rep {m : Nat} {w : List Nat} (a : isW m w) (k : Nat) : isW m (List.replicate k w).flatten := fun c hc => by
  obtain ⟨l, hl, hc⟩ := List.mem_flatten.mp hc
  rw [(List.mem_replicate.mp hl).2] at hc
  exact a c hc
theorem MacOk.rowAt {M : Mac} {n m s : Nat} (h : MacOk M n m) (hs : s < n) : (M.steps.getD s []).length = m ∧ ∀ t ∈ M.steps.getD s [], t < n := by
  have hs' : s < M.steps.length := by rw [h.len]; exact hs
  rw [List.getD_eq_getElem?_getD, List.getElem?_eq_getElem hs']
  exact h.row _ (List.getElem_mem hs')
theorem getD_mem {l : List Nat} {j : Nat} (h : j < l.length) : l.getD j 0 ∈ l := by
  rw [List.getD_eq_getElem?_getD, List.getElem?_eq_getElem h]
  exact List.getElem_mem h
theorem MacOk.step {M : Mac} {n m s c : Nat} (h : MacOk M n m) (hs : s < n) (h0 : 97 ≤ c) (h1 : c < 97 + m) : stepM M s c < n := by
  obtain ⟨hl, hr⟩ := h.rowAt hs
  exact hr _ (getD_mem (by rw [hl]; omega))
theorem leadM_lt {M : Mac} {n m : Nat} (h : MacOk M n m) : ∀ (w : List Nat) (s : Nat), s < n → isW m w → leadM M s w < n
  | [], s, hs, _ => hs
  | c :: w, s, hs, hw => leadM_lt h w _ (h.step hs (hw c List.mem_cons_self).1 (hw c List.mem_cons_self).2) fun d hd => hw d (List.mem_cons_of_mem _ hd)
theorem leadM_snoc (M : Mac) (s : Nat) (w : List Nat) (c : Nat) : leadM M s (w ++ [c]) = stepM M (leadM M s w) c := by
  unfold leadM
  rw [List.foldl_append]
  rfl
section
variable {K : PySem.W.Frag} {H : Hp}
theorem rowE {v : V} {r : List Nat} (h : Dt K H v (rowD r)) : ∃ p, v = .ref p ∧ SqT K H p (r.map iV) := by
  obtain ⟨p, xs, rfl, hs, ha⟩ := h.tupE
  refine ⟨p, rfl, ?_⟩
  have e : r.map nD = (r.map fun n : Nat => (n : Int)).map PyData.int := by rw [List.map_map]; rfl
  rw [e] at ha
  rw [ints_nat, ← ha.ints]
  exact hs
theorem macE {v : V} {M : Mac} (h : Dt K H v (macD M)) : ∃ a st gd vs, v = .ref a ∧ SqT K H a [.ref st, iV M.start, .ref gd] ∧ SqT K H st vs ∧ DtAll K H vs (M.steps.map rowD) ∧ SqT K H gd (M.good.map iV) := by
  obtain ⟨a, xs, rfl, hs, ha⟩ := h.tupE
  cases ha with
  | cons h1 t1 =>
  cases t1 with
  | cons h2 t2 =>
  cases t2 with
  | cons h3 t3 =>
  cases t3
  obtain ⟨st, vs, rfl, hst, hvs⟩ := h1.tupE
  obtain ⟨gd, rfl, hg⟩ := rowE h3
  have e := Dt.intE h2
  subst e
  exact ⟨a, st, gd, vs, rfl, hs, hst, hvs, hg⟩
theorem rowsE {vs : List V} {M : Mac} {s : Nat} (h : DtAll K H vs (M.steps.map rowD)) (hs : s < M.steps.length) : ∃ p, vs[s]? = some (.ref p) ∧ SqT K H p ((M.steps.getD s []).map iV) := by
  obtain ⟨w, h1, h2⟩ := h.get (i := s) (d := rowD M.steps[s]) (by rw [List.getElem?_map, List.getElem?_eq_getElem hs]; rfl)
  obtain ⟨p, rfl, hp⟩ := rowE h2
  refine ⟨p, h1, ?_⟩
  rw [List.getD_eq_getElem?_getD, List.getElem?_eq_getElem hs]
  exact hp
theorem at_nat {r : List Nat} {z : Int} {j : Nat} (e : z = (j : Int)) (h : j < r.length) : atI (r.map iV) z = some (iV (r.getD j 0)) := by
  refine at_of e ?_
  rw [List.getElem?_map, List.getD_eq_getElem?_getD, List.getElem?_eq_getElem h]
  rfl
end
theorem let_ix {c m : Nat} (h0 : 97 ≤ c) (h1 : c < 97 + m) (hm : m ≤ 4) : [97, 98, 99, 100][c - 97]? = some c := by
  have h : c = 97 ∨ c = 98 ∨ c = 99 ∨ c = 100 := by omega
  rcases h with rfl | rfl | rfl | rfl <;> rfl
theorem inV_nat (k : Nat) (g : List Nat) : inV (iV k) (g.map iV) = decide (k ∈ g) := by
  unfold inV
  rw [List.any_map]
  by_cases h : k ∈ g
  · rw [decide_eq_true h]
    exact List.any_eq_true.mpr ⟨k, h, by show ((k : Int) == (k : Int)) = true; exact beq_self_eq_true _⟩
  · rw [decide_eq_false h]
    refine List.any_eq_false.mpr fun y hy e => h ?_
    have e2 : ((y : Int) == (k : Int)) = true := e
    have e3 : (y : Int) = (k : Int) := eq_of_beq e2
    have : y = k := by omega
    rw [← this]; exact hy
theorem flat_nats (g : List Nat) : (g.map iV).all flatV = true := by
  refine List.all_eq_true.mpr fun x hx => ?_
  obtain ⟨n, _, rfl⟩ := List.mem_map.mp hx
  rfl
def spLead (K : PySem.W.Frag) : Sp := fun vs H Q _ => ∃ (v : V) (M : Mac) (n m s : Nat) (w : List Nat), vs = [v, iV s, sV w] ∧ Dt K H v (macD M) ∧ MacOk M n m ∧ m ≤ 4 ∧ s < n ∧ isW m w ∧ Q (iV (leadM M s w)) H
def spAcc (K : PySem.W.Frag) : Sp := fun vs H Q _ => ∃ (v : V) (M : Mac) (n m : Nat) (w : List Nat), vs = [v, sV w] ∧ Dt K H v (macD M) ∧ MacOk M n m ∧ m ≤ 4 ∧ isW m w ∧ Q (.bl (accM M w)) H
def abcdG (m : Nat) : List Nat := List.take m [97, 98, 99, 100]
theorem abcdG_len {m : Nat} (h : m ≤ 4) : (abcdG m).length = m := by
  unfold abcdG
  rw [List.length_take]
  exact Nat.min_eq_left h
def spLetters (K : PySem.W.Frag) : Sp := fun vs H Q _ => ∃ (v : V) (M : Mac) (n m : Nat), vs = [v] ∧ Dt K H v (macD M) ∧ MacOk M n m ∧ 1 ≤ n ∧ m ≤ 4 ∧ Q (sV (abcdG m)) H
def spWord (K : PySem.W.Frag) : Sp := fun vs H Q _ => ∃ (c : Int) (m : Nat), vs = [.int c, .int (m : Int)] ∧ 1 ≤ m ∧ m ≤ 4 ∧
  ∀ (H' : Hp) (w : List Nat), Same H H' → w.length ≤ 14 → isW m w → Q (sV w) H'
theorem foldl_signs : ∀ (cs : List Nat) (acc : Array Nat), (cs.map fun c => (⟨#[c]⟩ : Str)).foldl (fun acc p => acc ++ (⟨#[]⟩ : Str).cps ++ p.cps) acc = acc ++ cs.toArray
  | [], acc => by simp
  | c :: cs, acc => by
    rw [List.map_cons, List.foldl_cons, foldl_signs cs]
    apply Array.ext'
    simp
theorem join_signs (cs : List Nat) : Txt.join (Str.ofString "") (cs.map fun c => (⟨#[c]⟩ : Str)) = ⟨cs.toArray⟩ := by
  have e0 : Str.ofString "" = (⟨#[]⟩ : Str) := by decide +kernel
  rw [e0]
  cases cs with
  | nil => rfl
  | cons c cs =>
    show (⟨((cs.map fun c => (⟨#[c]⟩ : Str)).foldl (fun acc p => acc ++ (⟨#[]⟩ : Str).cps ++ p.cps) #[c])⟩ : Str) = ⟨(c :: cs).toArray⟩
    rw [foldl_signs]
    congr 1
    apply Array.ext'
    simp
theorem cutV_map {α : Type} (f : α → V) (xs : List α) (lo hi : Option Int) : ∃ ys : List α, cutV (xs.map f) lo hi = ys.map f ∧ ys.length ≤ xs.length ∧ ∀ y ∈ ys, y ∈ xs := by
  refine ⟨(xs.drop (HT.sIx (xs.map f).length 0 lo)).take (HT.sIx (xs.map f).length (xs.map f).length hi - HT.sIx (xs.map f).length 0 lo), ?_, ?_, fun y hy => List.mem_of_mem_drop (List.mem_of_mem_take hy)⟩
  · unfold cutV
    rw [List.map_take, List.map_drop]
  · rw [List.length_take, List.length_drop]
    omega
theorem r_in {K : PySem.W.Frag} {H : Hp} {Q : VK} {k : Nat} {g : List Nat} {p : Addr} (h : SqT K H p (g.map iV)) (q : Q (.bl (decide (k ∈ g))) H) : rIn K false (iV k) (.ref p) H Q := ⟨p, _, rfl, .inr h, rfl, flat_nats g, by rw [← inV_nat] at q; exact q⟩
section
variable {σ : L2.St} {H : Hp} {Q : VK} {K : PySem.W.Frag} {ta tb tc : TE}
def rInSg : R2 := fun x y H Q => ∃ (c : Nat) (z : Str), x = .str ⟨#[c]⟩ ∧ y = .str z ∧ Q (.bl (decide (c ∈ z.cps.toList))) H
def rNotInSg : R2 := fun x y H Q => ∃ (c : Nat) (z : Str), x = .str ⟨#[c]⟩ ∧ y = .str z ∧ Q (.bl (!decide (c ∈ z.cps.toList))) H
theorem op_inSg {X : Cx} : OpR X (compareOp .In) rInSg := op_in_sign
theorem op_notInSg {X : Cx} : OpR X (compareOp .NotIn) rNotInSg := op_notIn_sign
theorem r_inSg {c : Nat} {l : List Nat} (q : Q (.bl (decide (c ∈ l))) H) : rInSg (.str ⟨#[c]⟩) (.str ⟨l.toArray⟩) H Q := ⟨c, _, rfl, rfl, q⟩
theorem r_notInSg {c : Nat} {l : List Nat} (q : Q (.bl (!decide (c ∈ l))) H) : rNotInSg (.str ⟨#[c]⟩) (.str ⟨l.toArray⟩) H Q := ⟨c, _, rfl, rfl, q⟩
theorem r_chain {r r' : R2} (h : ta σ H fun x H1 => tb σ H1 fun y H2 => r x y H2 fun z H3 => ∃ k, z = .bl k ∧ if k = true then tc σ H3 fun w' H4 => r' y w' H4 Q else Q (.bl false) H3) : tChain r r' ta tb tc σ H Q := h
theorem r_slT {p : Addr} {xs : List V} {lo hi : Option Int} (h : SqT K H p xs) (c : ¬ (HT.sIx xs.length 0 lo = 0 ∧ HT.sIx xs.length xs.length hi = xs.length)) (q : ∀ l, H l = none → Q (.ref l) (upd H l (.tup (cutV xs lo hi)))) : rSlT K (.ref p) lo hi H Q := ⟨p, xs, rfl, h, c, q⟩
theorem r_any {p : Addr} {bs : List Bool} (h : SqL K H p (bs.map V.bl)) (q : Q (.bl (bs.any id)) H) : rAny K [.ref p] H Q := ⟨p, bs, rfl, h, q⟩
theorem r_eqD {x y : V} {d e : PyData} (h1 : Dp K H x d) (h2 : Dp K H y e) (s1 : SeqAt.shaped d = true) (s2 : SeqAt.shaped e = true) (q : Q (.bl (PyData.eqv d e)) H) : rEqD K x y H Q := ⟨d, e, h1, h2, s1, s2, q⟩
theorem r_neD {x y : V} {d e : PyData} (h1 : Dp K H x d) (h2 : Dp K H y e) (s1 : SeqAt.shaped d = true) (s2 : SeqAt.shaped e = true) (q : Q (.bl (!PyData.eqv d e)) H) : rNeD K x y H Q := ⟨d, e, h1, h2, s1, s2, q⟩
end
theorem lay_ints : ∀ A : List Int, PyData.canLayAll0 (A.map .int) = true
  | [] => rfl
  | a :: A => by
    have ih := lay_ints A
    simp [PyData.canLayAll0, PyData.canLay0] at ih ⊢
    exact ih
theorem eqv_ints_all : ∀ A B : List Int, PyData.eqvAll (A.map .int) (B.map .int) = decide (A = B)
  | [], [] => rfl
  | [], b :: B => rfl
  | a :: A, [] => rfl
  | a :: A, b :: B => by
    show (a == b && PyData.eqvAll (A.map .int) (B.map .int)) = _
    rw [eqv_ints_all A B]
    by_cases h : a = b
    · subst h
      by_cases h2 : A = B
      · subst h2; simp
      · simp [h2]
    · simp [h]
theorem depth_ints : ∀ A : List Int, PyData.depthAll (A.map .int) = 0
  | [] => rfl
  | a :: A => by
    have ih := depth_ints A
    show max 0 _ = 0
    rw [ih]
    rfl
theorem shaped_ints (A : List Int) : SeqAt.shaped (.list (A.map .int)) = true := by
  refine Bool.and_eq_true_iff.mpr ⟨lay_ints A, decide_eq_true ?_⟩
  show PyData.depthAll _ + 1 ≤ 64
  rw [depth_ints]
  decide
theorem eqv_lists (A B : List Int) : PyData.eqv (.list (A.map .int)) (.list (B.map .int)) = decide (A = B) := by
  rw [PyData.eqv]
  exact eqv_ints_all A B
theorem dp_ints {K : PySem.W.Frag} {H : Hp} {p : Addr} {A : List Int} (h : SqL K H p (A.map V.int)) : Dp K H (.ref p) (.list (A.map .int)) := .lst h (dpAll_map (fun i => .int i) A)
theorem cut_1 (xs : List V) : cutV xs (some 1) none = xs.drop 1 := cut_drop xs 1
theorem six_1 (n : Nat) : HT.sIx n 0 (some 1) = min 1 n := HT.sIx_nat n 0 1
/-- the ways behind a statement are joined: what holds there -/
theorem r_cutJ {t u : TS} {D : Ends} {σ : L2.St} {H : Hp} (J : L2.St → Hp → Prop) (key : ∀ σ H, J σ H → u D σ H) (h : (∀ σ H, J σ H → u D σ H) → t { D with nx := u D } σ H) : tSeq t u D σ H := h key
theorem six_m1 (n d : Nat) : HT.sIx n d (some (-1)) = n - 1 := by
  show (if (-1 : Int) < 0 then ((-1 : Int) + (n : Int)).toNat else min (-1 : Int).toNat n) = n - 1
  rw [if_pos (by decide)]
  omega
theorem cut_init (xs : List V) (y : V) : cutV (xs ++ [y]) none (some (-1)) = xs := by
  unfold cutV
  rw [HT.sIx_none, six_m1, List.length_append]
  simp
theorem cut_mid (xs : List V) (j : Nat) : (cutV xs (some (j : Int)) (some (-1))).length = xs.length - 1 - j := by
  unfold cutV
  rw [HT.sIx_nat, six_m1, List.length_take, List.length_drop]
  omega
theorem cut_to (xs : List V) (k : Nat) (h : k ≤ xs.length) : cutV xs none (some (k : Int)) = xs.take k := by
  unfold cutV
  rw [HT.sIx_none, HT.sIx_nat, Nat.min_eq_left h]
  rfl
theorem inV_int (k : Int) (g : List Int) : inV (.int k) (g.map V.int) = decide (k ∈ g) := by
  unfold inV
  rw [List.any_map]
  by_cases h : k ∈ g
  · rw [decide_eq_true h]
    exact List.any_eq_true.mpr ⟨k, h, by show (k == k) = true; exact beq_self_eq_true _⟩
  · rw [decide_eq_false h]
    refine List.any_eq_false.mpr fun y hy e => h ?_
    have e2 : (y == k) = true := e
    rw [← eq_of_beq e2]; exact hy
theorem flat_ints (g : List Int) : (g.map V.int).all flatV = true := by
  refine List.all_eq_true.mpr fun x hx => ?_
  obtain ⟨n, _, rfl⟩ := List.mem_map.mp hx
  rfl
section
variable {K : PySem.W.Frag} {H : Hp} {Q : VK} {p : Addr}
theorem r_inT {k : Int} {g : List Int} (h : SqT K H p (g.map V.int)) (q : Q (.bl (decide (k ∈ g))) H) : rIn K false (.int k) (.ref p) H Q := ⟨p, _, rfl, .inr h, rfl, flat_ints g, by rw [← inV_int] at q; exact q⟩
theorem r_inL {k : Int} {g : List Int} (h : SqL K H p (g.map V.int)) (q : Q (.bl (decide (k ∈ g))) H) : rIn K false (.int k) (.ref p) H Q := ⟨p, _, rfl, .inl h, rfl, flat_ints g, by rw [← inV_int] at q; exact q⟩
theorem mt_indexLK {X : Cx} (hK : X.K = K) : MtR X "list.index" (rIndex K) := hK ▸ mt_index
theorem r_indexL {k : Int} {g : List Int} (h : SqL K H p (g.map V.int)) (hk : k ∈ g) (q : Q (.int (g.idxOf k : Nat)) H) : rIndex K (.ref p) [.int k] H Q := by
  have hl := List.idxOf_lt_length_of_mem hk
  refine ⟨p, _, .int k, g.idxOf k, .int k, rfl, rfl, h, rfl, flat_ints g, ?_, ?_, fun m z' hm hz => ?_, q⟩
  · rw [List.getElem?_map, List.getElem?_eq_getElem hl, List.getElem_idxOf hl]
    rfl
  · show (k == k) = true
    exact beq_self_eq_true _
  · rw [List.getElem?_map] at hz
    obtain ⟨y, hy, rfl⟩ := Option.map_eq_some_iff.mp hz
    show (y == k) = false
    obtain ⟨hml, ey⟩ := List.getElem?_eq_some_iff.mp hy
    have := List.not_of_lt_findIdx (p := (· == k)) (xs := g) (i := m) hm
    rw [ey] at this
    simpa using this
theorem r_rep {l : Addr} {k : Int} {xs : List V} (h : H l = some (.lst xs)) (h0 : 0 ≤ k) (h1 : k ≤ 1000000) (hl : xs.length * k.toNat ≤ sizeLine) (q : ∀ p, H p = none → Q (.ref p) (upd H p (.lst (List.replicate k.toNat xs).flatten))) : rRep (.ref l) (.int k) H Q := ⟨l, k, xs, rfl, rfl, h, by omega, by omega, hl, q⟩
end
def sgD (c : Nat) : PyData := .str ⟨#[c]⟩
def sgV (c : Nat) : V := .str ⟨#[c]⟩
theorem lay_signs : ∀ A : List Nat, (∀ c ∈ A, c < 1000) → PyData.canLayAll0 (A.map sgD) = true
  | [], _ => rfl
  | a :: A, h => by
    have ih := lay_signs A fun c hc => h c (List.mem_cons_of_mem _ hc)
    have ha := h a List.mem_cons_self
    show (PyData.strOk ⟨#[a]⟩ && PyData.canLayAll0 (A.map sgD)) = true
    rw [ih, Bool.and_true]
    unfold PyData.strOk
    simp
    omega
theorem depth_signs : ∀ A : List Nat, PyData.depthAll (A.map sgD) = 0
  | [] => rfl
  | a :: A => by
    have ih := depth_signs A
    show max 0 _ = 0
    rw [ih]
    rfl
theorem shaped_signs {A : List Nat} (h : ∀ c ∈ A, c < 1000) : SeqAt.shaped (.list (A.map sgD)) = true := by
  refine Bool.and_eq_true_iff.mpr ⟨lay_signs A h, decide_eq_true ?_⟩
  show PyData.depthAll _ + 1 ≤ 64
  rw [depth_signs]
  decide
theorem eqv_signs_nil (A : List Nat) : PyData.eqv (.list (A.map sgD)) (.list []) = decide (A = []) := by
  rw [PyData.eqv]
  cases A <;> rfl
theorem dp_signs {K : PySem.W.Frag} {H : Hp} {p : Addr} {A : List Nat} (h : SqL K H p (A.map sgV)) : Dp K H (.ref p) (.list (A.map sgD)) := .lst h (dpAll_map (fun c => .str _) A)
end G
set_option Elab.async false
set_option linter.all false
set_option maxRecDepth 100000
set_option maxHeartbeats 4000000
namespace G
open PySem PySem.Spec PyProof.Rows L2
/-! enumerate of a tuple -/
theorem en_new (l : Addr) (items : Array Value) (n : Nat) (dct : Option Addr) (sl : Array (Option Value)) :
    Meets (Builtin.«enumerate.__new__» ⟨[.type "enumerate", .ref l], []⟩) (fun _ R s =>
      s.heap.get? l = some { cls := .type "tuple", dict := dct, data := .seq items n, slots := sl } ∧
      R (.ok (.ret (.ref (s.heap.push { cls := .type "tuple_iterator", data := .fields #[.ref l, .int 0 0] }).objs.size)))
        { s with heap := (s.heap.push { cls := .type "tuple_iterator", data := .fields #[.ref l, .int 0 0] }).push { cls := .type "enumerate", data := .fields #[.none, .bool false, .ref s.heap.objs.size, rawInt 0, .none, .none] } }) :=
  .of_wp fun prog w A R s h => by
    obtain ⟨hp, g, d, tk, os⟩ := s
    obtain ⟨hl, h⟩ := h
    have hsub := sub_enumerate
    have hT : Heap.IsTuple (Shared.heap ⟨hp, g, d, tk, os⟩) l items := ⟨_, hl, rfl, n, rfl⟩
    (wp_walk using AutoSeq1.wpAny_loadPart' hl); refine wpAny_stack_any fun st => wpAny_pure ?_; split
    · rename_i c _ _ _ _ _
      cases (c == Value.type "enumerate") <;> (wp_walk using AutoSeq1.wpAny_loadPart' hl, wpAny_pyIter_tuple hT) <;> exact ⟨_, rfl, h⟩
    · (wp_walk using AutoSeq1.wpAny_loadPart' hl, wpAny_pyIter_tuple hT); exact ⟨_, rfl, h⟩
section
variable {prog : Program} {w : World} {A : Around} {E : Value → Shared → Prop} {s : Shared}
theorem call_en {l : Addr} {items : Array Value} {Q : Value → Shared → Prop} (hL : s.heap.IsTuple l items)
    (h : ∀ h', IsEnum h' (s.heap.objs.size + 1) s.heap.objs.size 0 .none → h'.IsTupleIter s.heap.objs.size l 0 →
      h'.objs.size = s.heap.objs.size + 2 → (∀ b o, s.heap.get? b = some o → h'.get? b = some o) →
      Q (.ref (s.heap.objs.size + 1)) { s with heap := h' }) : wpAny (model prog w) A (call (.type "enumerate") [.ref l]) Q E s := by
  obtain ⟨⟨c, dct, dt, sl⟩, hl, hc, n, hd⟩ := hL
  obtain rfl : c = .type "tuple" := hc
  obtain rfl : dt = .seq items n := hd
  have hz : (s.heap.push { cls := .type "tuple_iterator", data := .fields #[.ref l, .int 0 0] }).objs.size = s.heap.objs.size + 1 := Heap.size_push ..
  have he := Heap.get?_push_size (s.heap.push { cls := .type "tuple_iterator", data := .fields #[.ref l, .int 0 0] })
    (o := { cls := .type "enumerate", data := .fields #[.none, .bool false, .ref s.heap.objs.size, rawInt 0, .none, .none] }) rfl
  rw [hz] at he
  refine callType_new F.called_enumerate (by decide) (F.typeCall_enumerate_1 _) (F.newCall_enumerate_1 _)
    (fun obj => F.args_object_init_2 obj _) F.entry_enumerate_new (en_new l items n dct sl) ⟨hl, ?_⟩
  show _ ∧ _
  rw [hz]
  refine ⟨⟨_, he, rfl⟩, h _ he ⟨{ cls := .type "tuple_iterator", data := .fields #[.ref l, .int 0 0] }, Heap.get?_push_of_some _ (Heap.get?_push_size _ rfl), rfl, rfl⟩ ?_ ?_⟩
  · rw [Heap.size_push, hz]
  · exact fun b o x => Heap.get?_push_of_some _ (Heap.get?_push_of_some _ x)
end
/-- the tuple at a: each item in a new pair -/
def ItT (K : PySem.W.Frag) (a : Addr) : It where
  go i H := ∃ (xs : List V) (x : V), SqT K H a xs ∧ xs[i]? = some x
  yld i H v H' := ∃ T x, v = .ref T ∧ H T = none ∧ H' = upd H T (.tup [.int (i : Nat), x]) ∧ ∀ xs, SqT K H a xs → xs[i]? = some x
  stop i H := ∃ xs : List V, SqT K H a xs ∧ xs.length = i
theorem turn_T {P : Program} {w : World} {K : PySem.W.Frag} {elts : List Expr} {kk : Nat} {tpos : Pos} (a e it : Addr) :
    Turn P w K (.Tuple elts kk tpos) (ItT K a) [e, it] e (fun i h => (∃ old, IsEnum h e it ((i : Nat) : Int) old) ∧ h.IsTupleIter it a i ∧ e ≠ it) where
  mem := List.mem_cons_self
  obj := by
    rintro i h ⟨⟨old, he⟩, ⟨o, ho, hc, hd⟩, _⟩ b hb
    rcases List.mem_cons.mp hb with rfl | hb
    · exact ⟨_, he, fun v q => nomatch q⟩
    · rw [List.mem_singleton.mp hb]
      exact ⟨o, ho, fun v q => by rw [hd] at q; cases q⟩
  keep := by
    rintro i h h' ⟨⟨old, he⟩, hi, hne⟩ k
    exact ⟨⟨old, k e List.mem_cons_self _ he⟩, hi.at fun o q => k it (List.mem_cons_of_mem _ List.mem_cons_self) o q, hne⟩
  item := by
    rintro X rfl rfl rfl hc i pins s σ H E I hf ⟨⟨old, he⟩, hit, hne⟩ ⟨xs, x, hq, hx⟩
    obtain ⟨its, rv, p, hz⟩ := I.tuple hq
    obtain ⟨u, hu, ru⟩ := rv.get hx
    have hel : e < s.heap.objs.size := Heap.lt_size he
    have hil : it < s.heap.objs.size := by obtain ⟨_, q, _⟩ := hit; exact Heap.lt_size q
    have hae : a ≠ it := fun z => by
      obtain ⟨oi, hoi, hci, _⟩ := hit
      obtain ⟨oa, hoa, hca, _⟩ := p
      rw [z, hoi] at hoa
      cases hoa
      rw [hci] at hca
      injection hca with hca
      exact absurd hca (by decide)
    have hae2 : e ∉ [it, a] := fun z => by
      rcases List.mem_cons.mp z with z | z
      · exact hne z
      · have z := List.mem_singleton.mp z
        obtain ⟨oa, hoa, hca, _⟩ := p
        rw [← z, he] at hoa
        cases hoa
        injection hca with hca
        exact absurd hca (by decide)
    have hh : X.A.in1.handled = none := I.ok.hd hc
    have hi : i < its.toArray.size := by
      have := (List.getElem?_eq_some_iff.mp hu).1
      simpa using this
    refine wpAny_pyNext_enum_itemD (Draws.tuple hh it a hae its.toArray) he ⟨hit, show s.heap.IsTuple a its.toArray from p⟩ hi hne hae2 ?_
    intro x2 h' tk hx2 ho hst hT hsz hk
    have ex : x2 = u := by
      have h3 : its[i]? = some x2 := by simpa using hx2
      rw [hu] at h3
      exact (Option.some.inj h3).symm
    subst ex
    refine ⟨_, rfl, wpAny_letOwnedTupleGo_enum (s := { s with heap := h', toks := tk + 1 }) ho fun h'' he' sb => ?_⟩
    have hT2 : h''.get? s.heap.objs.size = some { cls := .type "tuple", data := .seq #[.int i tk, x2] } := (sb.2 _ (Nat.ne_of_gt hel)).trans hT
    have new : ObjOk X.prog X.w (upd H s.heap.objs.size (.tup [.int (i : Nat), x])) h'' s.heap.objs.size (.tup [.int (i : Nat), x]) := by
      refine ⟨by show 2 ≤ sizeLine; decide, [.int i tk, x2], .cons ⟨_, rfl⟩ (.cons ru .nil), ⟨_, hT2, rfl, _, rfl⟩⟩
    have stays : ∀ b ob, b ∉ [e, it] → s.heap.get? b = some ob → h''.get? b = some ob := fun b ob hb q => by
      have h1 : b ≠ e := fun z => hb (by rw [z]; exact List.mem_cons_self)
      have h2 : b ≠ it := fun z => hb (by rw [z]; exact List.mem_cons_of_mem _ List.mem_cons_self)
      exact (sb.2 b h1).trans (hk b ob h1 h2 q)
    have I1 := I.turnedNew (t' := tk + 1) (ch := [e, it]) stays hf (Nat.le_refl _) new
    have e1 : ((i + 1 : Nat) : Int) = (i : Int) + 1 := Int.natCast_succ i
    refine ⟨.ref s.heap.objs.size, _, I1, rfl, ⟨_, x, rfl, I.hok.fresh (Nat.le_refl _), rfl, fun ys hy => ?_⟩, ⟨⟨x2, ?_⟩, ?_, hne⟩, fun b hb => ?_⟩
    · rw [I.tuple_inj hy hq]
      exact hx
    · rw [e1]
      exact he'
    · exact hst.1.at fun o q => (sb.2 it (Ne.symm hne)).trans q
    · have hb' : b < s.heap.objs.size := by
        rcases List.mem_cons.mp hb with z | z
        · rw [z]; exact hel
        · rw [List.mem_singleton.mp z]; exact hil
      rw [upd_ne (Nat.ne_of_lt hb')]
      exact (hf b hb).1
  done := by
    rintro X rfl rfl rfl hc i pins s σ H E I hf ⟨⟨old, he⟩, hit, hne⟩ ⟨xs, hq, hx⟩
    obtain ⟨its, rv, p, hz⟩ := I.tuple hq
    obtain ⟨f0, f1, f2, f3, f4, f5⟩ := hf it (List.mem_cons_of_mem _ List.mem_cons_self)
    have hl := rv.length
    have hh : X.A.in1.handled = none := I.ok.hd hc
    have hae : a ≠ it := fun z => by
      obtain ⟨oi, hoi, hci, _⟩ := hit
      obtain ⟨oa, hoa, hca, _⟩ := p
      rw [z, hoi] at hoa
      cases hoa
      rw [hci] at hca
      injection hca with hca
      exact absurd hca (by decide)
    have ei : i = its.toArray.size := by rw [List.size_toArray, ← hl, hx]
    rw [ei] at hit
    exact wpAny_pyNext_enum_endD (Draws.tuple hh it a hae its.toArray) he ⟨hit, show s.heap.IsTuple a its.toArray from p⟩ fun h' eb =>
      ⟨rfl, I.turned (t' := s.toks) (fun b o hb q => eb b o hb q) f0 f1 f3 f4 f5⟩
  self := fun A i s Q E st h => by
    obtain ⟨⟨_, he⟩, _⟩ := st
    exact wpAny_pyIter_enum he h
def iEnumT (K : PySem.W.Frag) (ta : TA) : TI := fun σ H R => ta σ H fun vs H1 => ∃ a xs, vs = [.ref a] ∧ SqT K H1 a xs ∧ R (ItT K a) H1
theorem pi_enumT {X : Cx} {K : PySem.W.Frag} {e : Expr} {ta : TA} {p pos tpos : Pos} {elts : List Expr} {kk : Nat} (hK : X.K = K) (hg : Gl X "enumerate") (hm : X.mg "enumerate" = none) (ha : PA X [e] ta)
    (hs : starEach [e] X.env = [(false, eval e X.env)] := by rfl) : PI X (.Tuple elts kk tpos) (.Call (.Name "enumerate" p) [e] [] pos) (iEnumT K ta) := by
  subst hK
  constructor
  intro pins s σ H R I h
  refine Call_ (ld_blt I hg hm boot_enumerate (callWith_type1 (thn (ha.run pos pins s σ H _ I h) ?_) hs rfl))
  rintro us s1 ⟨vs, H1, I1, r1, a, xs, rfl, hq, q⟩
  obtain ⟨u, rfl, ru⟩ := vals1 r1
  cases ru
  obtain ⟨its, rv, p', hz⟩ := I1.tuple hq
  refine call_en (show s1.heap.IsTuple a its.toArray from p') fun h' he hit hsz hk => wpAny_pyIter_enum he ?_
  have I2 : Inv X pins σ H1 { s1 with heap := h' } := I1.kept (t' := s1.toks) hk
  refine ⟨_, [s1.heap.objs.size + 1, s1.heap.objs.size], _, _, H1, rfl, I2, turn_T a (s1.heap.objs.size + 1) s1.heap.objs.size, ⟨⟨.none, he⟩, hit, Nat.succ_ne_self _⟩, fun b hb => ?_, q⟩
  have hle : s1.heap.objs.size ≤ b := by
    rcases List.mem_cons.mp hb with z | z
    · rw [z]; exact Nat.le_add_right _ _
    · rw [List.mem_singleton.mp z]; exact Nat.le_refl _
  exact I1.fpOk hle (I1.hok.fresh hle)
/-- the loop over such pairs, i and x given to two names -/
theorem for_enT {K : PySem.W.Frag} {a : Addr} {xs : List V} {g : TG} {tb : TS} {D : Ends} {σ : L2.St} {H : Hp} (Pv : Nat → L2.St → Hp → Prop) (h0 : Pv 0 σ H) (hl : ∀ i σ H, i ≤ xs.length → Pv i σ H → SqT K H a xs)
    (hs : ∀ i x σ H T, xs[i]? = some x → Pv i σ H → H T = none → g (.ref T) σ (upd H T (.tup [.int (i : Nat), x])) fun σ2 H2 => tb { D with nx := Pv (i + 1), ct := Pv (i + 1), bk := D.nx } σ2 H2) (hd : ∀ σ H, Pv xs.length σ H → D.nx σ H) :
    ∃ W : Nat → Nat → L2.St → Hp → Prop, (∃ m, W 0 m σ H) ∧ ∀ i m σ H, W i m σ H → ((ItT K a).stop i H ∧ D.nx σ H) ∨
      ((ItT K a).go i H ∧ ∃ N : L2.St → Hp → Prop, (∀ σ' H', N σ' H' → ∃ m', m' < m ∧ W (i + 1) m' σ' H') ∧ ∀ x H', (ItT K a).yld i H x H' → g x σ H' fun σ2 H2 => tb { D with nx := N, ct := N, bk := D.nx } σ2 H2) := by
  refine ⟨fun i m σ H => m + i = xs.length ∧ Pv i σ H, ⟨xs.length, rfl, h0⟩, ?_⟩
  rintro i m σ H ⟨hm, p⟩
  have q := hl i σ H (by omega) p
  by_cases hlt : i < xs.length
  · refine .inr ⟨⟨xs, xs[i], q, List.getElem?_eq_getElem hlt⟩, Pv (i + 1), fun σ' H' p' => ⟨m - 1, by omega, by omega, p'⟩, ?_⟩
    rintro v H' ⟨T, x, rfl, hT, rfl, hx⟩
    exact hs i x σ H T (hx xs q) p hT
  · have e : i = xs.length := by omega
    subst e
    exact .inl ⟨⟨xs, q, rfl⟩, hd σ H p⟩
end G
set_option Elab.async false
set_option linter.all false
set_option maxRecDepth 100000
set_option maxHeartbeats 4000000
namespace G
open PySem PySem.Spec PyProof.Rows L2
section
variable {X : Cx} {H : Hp} {Q : VK}
def rLcm : List V → Hp → VK → Prop := fun xs H Q => ∃ a b : Nat, xs = [.int (a : Int), .int (b : Int)] ∧ a < 2 ^ 64 ∧ b < 2 ^ 64 ∧ Q (.int ((Nat.lcm a b : Nat) : Int)) H
theorem call_lcm : CallR X (.builtin "math.lcm") rLcm := by
  intro pins s σ H vs us Q I r h
  obtain ⟨a, b, rfl, ha, hb, q⟩ := h
  obtain ⟨t, u, rfl⟩ := Vals.int2 r
  exact PySem.W.mc_lcm (by rw [Int.natAbs_natCast]; exact ha) (by rw [Int.natAbs_natCast]; exact hb) fun _ => ⟨.int _, H, I.tok _, ⟨_, rfl⟩, q⟩
end
/-! ### permutations -/
structure Perm (n : Nat) (p : List Nat) : Prop where
  len : p.length = n
  lt : ∀ x ∈ p, x < n
  nd : p.Nodup
def at0 (p : List Nat) (i : Nat) : Nat := p.getD i 0
def thenN (p q : List Nat) : List Nat := p.map (at0 q)
def idN (n : Nat) : List Nat := List.range n
def itr (p : List Nat) : Nat → Nat → Nat
  | 0, i => i
  | k + 1, i => at0 p (itr p k i)
def pw (p : List Nat) : Nat → List Nat
  | 0 => idN p.length
  | k + 1 => thenN (pw p k) p
theorem at0_some {p : List Nat} {i : Nat} (h : i < p.length) : p[i]? = some (at0 p i) := by
  unfold at0
  rw [List.getD_eq_getElem?_getD, List.getElem?_eq_getElem h]; rfl
theorem Perm.at_lt {n i : Nat} {p : List Nat} (h : Perm n p) (hi : i < n) : at0 p i < n := h.lt _ (List.mem_of_getElem? (at0_some (by rw [h.len]; exact hi)))
theorem Perm.inj {n i j : Nat} {p : List Nat} (h : Perm n p) (hi : i < n) (hj : j < n) (e : at0 p i = at0 p j) : i = j := by
  have h1 := at0_some (p := p) (i := i) (by rw [h.len]; exact hi)
  have h2 := at0_some (p := p) (i := j) (by rw [h.len]; exact hj)
  rw [e] at h1
  exact nd_ix h.nd h1 h2
theorem Perm.itr_lt {n : Nat} {p : List Nat} (h : Perm n p) : ∀ k i, i < n → itr p k i < n
  | 0, _, hi => hi
  | k + 1, i, hi => h.at_lt (Perm.itr_lt h k i hi)
theorem itr_add (p : List Nat) (a : Nat) : ∀ b i, itr p (a + b) i = itr p b (itr p a i)
  | 0, _ => rfl
  | b + 1, i => by
    show at0 p (itr p (a + b) i) = at0 p (itr p b (itr p a i))
    rw [itr_add p a b i]
theorem Perm.itr_inj {n : Nat} {p : List Nat} (h : Perm n p) : ∀ k i j, i < n → j < n → itr p k i = itr p k j → i = j
  | 0, _, _, _, _, e => e
  | k + 1, i, j, hi, hj, e => Perm.itr_inj h k i j hi hj (h.inj (h.itr_lt k i hi) (h.itr_lt k j hj) e)
theorem pw_len (p : List Nat) : ∀ k, (pw p k).length = p.length
  | 0 => List.length_range
  | k + 1 => by
    show ((pw p k).map (at0 p)).length = _
    rw [List.length_map, pw_len p k]
theorem pw_at (p : List Nat) {i : Nat} (hi : i < p.length) : ∀ k, (pw p k)[i]? = some (itr p k i)
  | 0 => List.getElem?_range hi
  | k + 1 => by
    show ((pw p k).map (at0 p))[i]? = _
    rw [List.getElem?_map, pw_at p hi k]
    rfl
theorem pw_id (p : List Nat) (k : Nat) : pw p k = idN p.length ↔ ∀ i, i < p.length → itr p k i = i := by
  constructor
  · intro e i hi
    have h1 := pw_at p hi k
    rw [e] at h1
    have h2 : (idN p.length)[i]? = some i := List.getElem?_range hi
    rw [h1] at h2
    exact Option.some.inj h2
  · intro hall
    apply List.ext_getElem?
    intro i
    by_cases hi : i < p.length
    · rw [pw_at p hi k, hall i hi]
      exact (List.getElem?_range hi).symm
    · rw [List.getElem?_eq_none (by rw [pw_len]; omega), List.getElem?_eq_none (by unfold idN; rw [List.length_range]; omega)]
theorem pw_one {n : Nat} {p : List Nat} (h : Perm n p) : pw p 1 = p := by
  apply List.ext_getElem?
  intro i
  by_cases hi : i < p.length
  · rw [pw_at p hi 1, at0_some hi]
    rfl
  · rw [List.getElem?_eq_none (by rw [pw_len]; omega), List.getElem?_eq_none (by omega)]
/-- how long it takes place i to come back -/
def IsCyc (p : List Nat) (i L : Nat) : Prop := 1 ≤ L ∧ itr p L i = i ∧ ∀ k, 1 ≤ k → k < L → itr p k i ≠ i
theorem nodup_le : ∀ {ks ns : List Nat}, ks.Nodup → (∀ k ∈ ks, k ∈ ns) → ks.length ≤ ns.length
  | [], _, _, _ => Nat.zero_le _
  | k :: ks, ns, nd, h => by
    have hk : k ∈ ns := h k List.mem_cons_self
    have nd' := List.nodup_cons.mp nd
    have hs : ∀ x ∈ ks, x ∈ ns.erase k := fun x hx => by
      have hne : x ≠ k := fun e => nd'.1 (e ▸ hx)
      exact (List.mem_erase_of_ne hne).mpr (h x (List.mem_cons_of_mem _ hx))
    have ih := nodup_le nd'.2 hs
    rw [List.length_erase_of_mem hk] at ih
    have := List.length_pos_of_mem hk
    rw [List.length_cons]
    omega
theorem least_of {P : Nat → Prop} : ∀ n, (∃ k, 1 ≤ k ∧ k ≤ n ∧ P k) → ∃ L, 1 ≤ L ∧ L ≤ n ∧ P L ∧ ∀ k, 1 ≤ k → k < L → ¬ P k
  | 0, ⟨k, h1, h2, _⟩ => absurd h1 (by omega)
  | n + 1, ⟨k, h1, h2, hp⟩ => by
    by_cases hn : ∃ k, 1 ≤ k ∧ k ≤ n ∧ P k
    · obtain ⟨L, a, b, c, d⟩ := least_of n hn
      exact ⟨L, a, by omega, c, d⟩
    · have e : k = n + 1 := by
        by_cases hk : k ≤ n
        · exact absurd ⟨k, h1, hk, hp⟩ hn
        · omega
      subst e
      exact ⟨n + 1, h1, Nat.le_refl _, hp, fun j j1 j2 pj => hn ⟨j, j1, by omega, pj⟩⟩
theorem Perm.cyc {n i : Nat} {p : List Nat} (h : Perm n p) (hi : i < n) : ∃ L, L ≤ n ∧ IsCyc p i L := by
  have hex : ∃ k, 1 ≤ k ∧ k ≤ n ∧ itr p k i = i := by
    by_cases hh : ∃ k, 1 ≤ k ∧ k ≤ n ∧ itr p k i = i
    · exact hh
    · exfalso
      have nd : ((List.range (n + 1)).map fun k => itr p k i).Nodup := by
        refine List.pairwise_iff_getElem.mpr fun a b ha hb hab e => ?_
        rw [List.length_map, List.length_range] at ha hb
        rw [List.getElem_map, List.getElem_map, List.getElem_range, List.getElem_range] at e
        have e2 : itr p b i = itr p a (itr p (b - a) i) := by rw [← itr_add]; congr 1; omega
        rw [e2] at e
        exact hh ⟨b - a, by omega, by omega, (h.itr_inj a _ _ hi (h.itr_lt _ _ hi) e).symm⟩
      have := nodup_le (ns := List.range n) nd (fun k hk => by
        obtain ⟨j, _, rfl⟩ := List.mem_map.mp hk
        exact List.mem_range.mpr (h.itr_lt _ _ hi))
      rw [List.length_map, List.length_range, List.length_range] at this
      omega
  obtain ⟨L, a, b, c, d⟩ := least_of n hex
  exact ⟨L, b, a, c, d⟩
theorem cyc_mul {p : List Nat} {i L : Nat} (h : itr p L i = i) : ∀ m, itr p (L * m) i = i
  | 0 => rfl
  | m + 1 => by rw [Nat.mul_succ, Nat.add_comm, itr_add, h, cyc_mul h m]
theorem IsCyc.dvd {p : List Nat} {i L k : Nat} (h : IsCyc p i L) : itr p k i = i ↔ L ∣ k := by
  constructor
  · intro e
    have hm : itr p (k % L) i = i := by
      have e2 : itr p k i = itr p (k % L) (itr p (L * (k / L)) i) := by rw [← itr_add, Nat.div_add_mod]
      rw [cyc_mul h.2.1] at e2
      rw [← e2, e]
    by_cases hz : k % L = 0
    · exact Nat.dvd_of_mod_eq_zero hz
    · exact absurd hm (h.2.2 _ (by omega) (Nat.mod_lt _ h.1))
  · rintro ⟨m, rfl⟩
    exact cyc_mul h.2.1 m
/-! lcm of a list -/
def lcmL (l : List Nat) : Nat := l.foldl Nat.lcm 1
theorem foldl_lcm_dvd : ∀ (l : List Nat) (a k : Nat), l.foldl Nat.lcm a ∣ k ↔ a ∣ k ∧ ∀ x ∈ l, x ∣ k
  | [], a, k => by simp
  | x :: l, a, k => by
    rw [List.foldl_cons, foldl_lcm_dvd l (Nat.lcm a x) k]
    constructor
    · rintro ⟨h1, h2⟩
      refine ⟨Nat.dvd_trans (Nat.dvd_lcm_left a x) h1, fun y hy => ?_⟩
      rcases List.mem_cons.mp hy with rfl | hy
      · exact Nat.dvd_trans (Nat.dvd_lcm_right a y) h1
      · exact h2 y hy
    · rintro ⟨h1, h2⟩
      exact ⟨Nat.lcm_dvd h1 (h2 x List.mem_cons_self), fun y hy => h2 y (List.mem_cons_of_mem _ hy)⟩
theorem lcmL_dvd (l : List Nat) (k : Nat) : lcmL l ∣ k ↔ ∀ x ∈ l, x ∣ k := by
  unfold lcmL
  rw [foldl_lcm_dvd]
  exact ⟨fun h => h.2, fun h => ⟨Nat.one_dvd k, h⟩⟩
theorem lcmL_pos : ∀ {l : List Nat}, (∀ x ∈ l, 1 ≤ x) → 1 ≤ lcmL l := by
  have gen : ∀ (l : List Nat) (a : Nat), 1 ≤ a → (∀ x ∈ l, 1 ≤ x) → 1 ≤ l.foldl Nat.lcm a := by
    intro l
    induction l with
    | nil => intro a ha _; exact ha
    | cons x l ih =>
      intro a ha h
      rw [List.foldl_cons]
      exact ih _ (Nat.lcm_pos ha (h x List.mem_cons_self)) fun y hy => h y (List.mem_cons_of_mem _ hy)
  intro l h
  exact gen l 1 (Nat.le_refl _) h
/-! at most 20 for nine places: distinct lengths take different places -/
theorem count_sum : ∀ (l S : List Nat), S.Nodup → (S.map fun x => l.count x).sum ≤ l.length
  | [], S, nd => by
    have : (S.map fun x => ([] : List Nat).count x).sum = 0 := by
      clear nd
      induction S with
      | nil => rfl
      | cons s S ih =>
        rw [List.map_cons, List.sum_cons, ih]
        rfl
    rw [this]; exact Nat.zero_le _
  | y :: l, S, nd => by
    have ih := count_sum l S nd
    have h1 : ∀ S : List Nat, S.Nodup → (S.map fun x => (y :: l).count x).sum ≤ (S.map fun x => l.count x).sum + (if y ∈ S then 1 else 0) := by
      intro S
      induction S with
      | nil => intro _; simp
      | cons s S ihs =>
        intro nd
        have nd' := List.nodup_cons.mp nd
        have := ihs nd'.2
        rw [List.map_cons, List.sum_cons, List.map_cons, List.sum_cons, List.count_cons]
        by_cases e : y = s
        · subst e
          rw [if_neg nd'.1] at this
          rw [if_pos List.mem_cons_self]
          simp only [beq_self_eq_true, if_true]
          omega
        · have e2 : (y == s) = false := by simpa using e
          rw [e2]
          have e3 : (y ∈ s :: S) ↔ y ∈ S := by simp [e]
          simp only [e3, Bool.false_eq_true, if_false]
          omega
    have h2 := h1 S nd
    rw [List.length_cons]
    by_cases hy : y ∈ S
    · rw [if_pos hy] at h2; omega
    · rw [if_neg hy] at h2; omega
theorem small_lcm (q : Nat → Bool) (h0 : q 0 = false) (h : ((List.range 10).filter q).sum ≤ 9) : lcmL ((List.range 10).filter q) ≤ 99 := by
  have e : List.range 10 = [0, 1, 2, 3, 4, 5, 6, 7, 8, 9] := by decide
  rw [e] at h ⊢
  simp only [List.filter_cons, List.filter_nil, h0] at h ⊢
  generalize q 1 = b1 at h ⊢
  generalize q 2 = b2 at h ⊢
  generalize q 3 = b3 at h ⊢
  generalize q 4 = b4 at h ⊢
  generalize q 5 = b5 at h ⊢
  generalize q 6 = b6 at h ⊢
  generalize q 7 = b7 at h ⊢
  generalize q 8 = b8 at h ⊢
  generalize q 9 = b9 at h ⊢
  revert b1 b2 b3 b4 b5 b6 b7 b8 b9
  decide +kernel
theorem Perm.order_small {n : Nat} {p Ls : List Nat} (h : Perm n p) (hn : n ≤ 9) (hl : Ls.length = n) (hc : ∀ i, i < n → IsCyc p i (at0 Ls i)) : lcmL Ls ≤ 99 := by
  have mem : ∀ x ∈ Ls, ∃ i, i < n ∧ at0 Ls i = x := fun x hx => by
    obtain ⟨i, hi⟩ := List.mem_iff_getElem?.mp hx
    have hil := (List.getElem?_eq_some_iff.mp hi).1
    rw [at0_some hil] at hi
    exact ⟨i, by omega, Option.some.inj hi⟩
  -- the places on the way of i have its length
  have cnt : ∀ x ∈ Ls, x ≤ Ls.count x := fun x hx => by
    obtain ⟨i, hi, ex⟩ := mem x hx
    have hci := hc i hi
    rw [ex] at hci
    have same : ∀ k, at0 Ls (itr p k i) = x := fun k => by
      have hj := h.itr_lt k i hi
      have hcj := hc _ hj
      have d1 : at0 Ls (itr p k i) ∣ x := by
        rw [← hcj.dvd, ← itr_add, Nat.add_comm, itr_add, hci.2.1]
      have d2 : x ∣ at0 Ls (itr p k i) := by
        rw [← hci.dvd]
        refine h.itr_inj k _ _ (h.itr_lt _ _ hi) hi ?_
        rw [← itr_add, Nat.add_comm, itr_add]
        exact hcj.2.1
      exact Nat.dvd_antisymm d1 d2
    have nd : ((List.range x).map fun k => itr p k i).Nodup := by
      refine List.pairwise_iff_getElem.mpr fun a b ha hb hab e => ?_
      rw [List.length_map, List.length_range] at ha hb
      rw [List.getElem_map, List.getElem_map, List.getElem_range, List.getElem_range] at e
      have e2 : itr p b i = itr p a (itr p (b - a) i) := by rw [← itr_add]; congr 1; omega
      rw [e2] at e
      exact hci.2.2 (b - a) (by omega) (by omega) (h.itr_inj a _ _ hi (h.itr_lt _ _ hi) e).symm
    have hle := nodup_le (ns := (List.range n).filter fun j => at0 Ls j == x) nd (fun j hj => by
      obtain ⟨k, _, rfl⟩ := List.mem_map.mp hj
      refine List.mem_filter.mpr ⟨List.mem_range.mpr (h.itr_lt k i hi), ?_⟩
      rw [same k]; exact beq_self_eq_true _)
    rw [List.length_map, List.length_range] at hle
    have eL : Ls = (List.range n).map (at0 Ls) := by
      apply List.ext_getElem?
      intro j
      by_cases hj : j < n
      · rw [at0_some (by omega), List.getElem?_map, List.getElem?_range hj]; rfl
      · rw [List.getElem?_eq_none (by omega), List.getElem?_eq_none (by rw [List.length_map, List.length_range]; omega)]
    have e3 : Ls.count x = ((List.range n).filter fun j => at0 Ls j == x).length := by
      rw [List.count_eq_countP]
      conv => lhs; rw [eL]
      rw [List.countP_map, List.countP_eq_length_filter]
      rfl
    omega
  have pos : ∀ x ∈ Ls, 1 ≤ x := fun x hx => by
    obtain ⟨i, hi, ex⟩ := mem x hx
    rw [← ex]; exact (hc i hi).1
  have bnd : ∀ x ∈ Ls, x ≤ 9 := fun x hx => by
    have := cnt x hx
    have := List.count_le_length (a := x) (l := Ls)
    omega
  have ndS : ((List.range 10).filter fun x => decide (x ∈ Ls)).Nodup := (List.nodup_range.sublist List.filter_sublist)
  have s1 := count_sum Ls _ ndS
  have s2 : ((List.range 10).filter fun x => decide (x ∈ Ls)).sum ≤ (((List.range 10).filter fun x => decide (x ∈ Ls)).map fun x => Ls.count x).sum := by
    have gen : ∀ S : List Nat, (∀ x ∈ S, x ≤ Ls.count x) → S.sum ≤ (S.map fun x => Ls.count x).sum := by
      intro S
      induction S with
      | nil => intro _; exact Nat.le_refl _
      | cons s S ih =>
        intro hS
        rw [List.map_cons, List.sum_cons, List.sum_cons]
        have := hS s List.mem_cons_self
        have := ih fun x hx => hS x (List.mem_cons_of_mem _ hx)
        omega
    exact gen _ fun x hx => cnt x (of_decide_eq_true (List.mem_filter.mp hx).2)
  have h3 := small_lcm (fun x => decide (x ∈ Ls)) (decide_eq_false fun h0 => absurd (pos 0 h0) (by omega)) (by omega)
  refine Nat.le_trans (Nat.le_of_dvd ?_ ?_) h3
  · exact lcmL_pos fun x hx => pos x (of_decide_eq_true (List.mem_filter.mp hx).2)
  · rw [lcmL_dvd]
    intro x hx
    have hm : x ∈ (List.range 10).filter fun x => decide (x ∈ Ls) := List.mem_filter.mpr ⟨List.mem_range.mpr (by have := bnd x hx; omega), decide_eq_true hx⟩
    exact (lcmL_dvd _ _).mp (Nat.dvd_refl _) x hm
/-- the order: the least power that leads each place to itself -/
theorem Perm.order {n : Nat} {p Ls : List Nat} (h : Perm n p) (hl : Ls.length = n) (hc : ∀ i, i < n → IsCyc p i (at0 Ls i)) : 1 ≤ lcmL Ls ∧ pw p (lcmL Ls) = idN n ∧ ∀ k, 1 ≤ k → k < lcmL Ls → pw p k ≠ idN n := by
  have key : ∀ k, pw p k = idN n ↔ lcmL Ls ∣ k := fun k => by
    have e : idN n = idN p.length := by rw [h.len]
    rw [e, pw_id, lcmL_dvd, h.len]
    constructor
    · intro hall x hx
      obtain ⟨i, hi⟩ := List.mem_iff_getElem?.mp hx
      have hil := (List.getElem?_eq_some_iff.mp hi).1
      rw [at0_some hil] at hi
      rw [← Option.some.inj hi]
      exact (hc i (by omega)).dvd.mp (hall i (by omega))
    · intro hall i hi
      exact (hc i hi).dvd.mpr (hall _ (List.mem_of_getElem? (at0_some (by omega))))
  have pos : ∀ x ∈ Ls, 1 ≤ x := fun x hx => by
    obtain ⟨i, hi⟩ := List.mem_iff_getElem?.mp hx
    have hil := (List.getElem?_eq_some_iff.mp hi).1
    rw [at0_some hil] at hi
    rw [← Option.some.inj hi]
    exact (hc i (by omega)).1
  refine ⟨lcmL_pos pos, (key _).mpr (Nat.dvd_refl _), fun k h1 h2 e => ?_⟩
  have := Nat.le_of_dvd (by omega) ((key k).mp e)
  omega
end G
set_option Elab.async false
set_option linter.all false
set_option maxRecDepth 100000
set_option maxHeartbeats 4000000
namespace G
open PySem PySem.Spec PyProof.Rows L2
section
variable {X : Cx} {K : PySem.W.Frag} {H : Hp} {Q : VK}
def rIdxT (K : PySem.W.Frag) : V → List V → Hp → VK → Prop := fun x xs H Q => ∃ (p : Addr) (g : List Int) (k : Int), x = .ref p ∧ xs = [.int k] ∧ SqT K H p (g.map V.int) ∧ k ∈ g ∧ Q (.int (g.idxOf k : Nat)) H
theorem mt_indexT (hK : X.K = K) : MtR X "tuple.index" (rIdxT K) := by
  subst hK
  intro pins s σ H x xs v us Q I rx rs h
  obtain ⟨p, g, k, rfl, rfl, hq, hk, q⟩ := h
  cases rx
  obtain ⟨u, rfl, t, rfl⟩ := vals1 rs
  obtain ⟨its, r, ⟨⟨cls, dd, dt, sl⟩, ho, hc, n, hd⟩, hz⟩ := I.tuple hq
  obtain rfl : cls = .type "tuple" := hc
  obtain rfl : dt = .seq its.toArray n := hd
  have hl : its.toArray.size = g.length := by rw [List.size_toArray, ← r.length, List.length_map]
  have hj := List.idxOf_lt_length_of_mem hk
  have there : ∀ (m : Nat) (hm : m < its.toArray.size), ∃ t', its.toArray[m] = Value.int (g.getD m 0) t' := fun m hm => by
    have hm' : m < g.length := by omega
    obtain ⟨w, hw, t', hw'⟩ := r.get (i := m) (x := .int (g.getD m 0)) (by rw [List.getElem?_map, List.getD_eq_getElem?_getD, List.getElem?_eq_getElem hm']; rfl)
    refine ⟨t', ?_⟩
    have e := (List.getElem?_eq_some_iff.mp hw).2
    rw [← hw', ← e]
    simp
  have eqs : ∀ w, w ∈ its.toArray → SeqAt.EqAt X.A.in1 s w (.int k t) (eqU (.int k) w) := fun w hw =>
    mem_eqAt (x := .int k) ⟨t, rfl⟩ rfl r (flat_ints g) w (by simpa using hw)
  refine call_meets PySem.F.slot_tuple_index ⟨_, ho, rfl⟩ PySem.F.entry_tuple_index (PySem.F.args_tuple_index_2 _ _)
    (TI.tuple_indexAt p its.toArray n dd sl (.int k t) (eqU (.int k)) (g.idxOf k) (by omega) ?_ ?_) ⟨ho, eqs, ⟨.int _, H, I.tok _, ⟨_, rfl⟩, q⟩⟩
  · obtain ⟨t', h2⟩ := there (g.idxOf k) (by omega)
    rw [h2]
    show (g.getD (g.idxOf k) 0 == k) = true
    rw [List.getD_eq_getElem?_getD, List.getElem?_eq_getElem hj, List.getElem_idxOf hj]
    exact beq_self_eq_true k
  · intro m hm hmj
    obtain ⟨t', h2⟩ := there m hm
    rw [h2]
    show (g.getD m 0 == k) = false
    have hm' : m < g.length := by omega
    have := List.not_of_lt_findIdx (p := (· == k)) (xs := g) (i := m) hmj
    rw [List.getD_eq_getElem?_getD, List.getElem?_eq_getElem hm']
    simpa using this
theorem r_idxT {p : Addr} {g : List Int} {k : Int} (h : SqT K H p (g.map V.int)) (hk : k ∈ g) (q : Q (.int (g.idxOf k : Nat)) H) : rIdxT K (.ref p) [.int k] H Q := ⟨p, g, k, rfl, rfl, h, hk, q⟩
end
theorem nat_ints (r : List Nat) : r.map nD = (r.map fun n : Nat => (n : Int)).map PyData.int := by rw [List.map_map]; rfl
theorem shaped_row (r : List Nat) : SeqAt.shaped (rowD r) = true := by
  refine Bool.and_eq_true_iff.mpr ⟨?_, decide_eq_true ?_⟩
  · show PyData.canLayAll0 (r.map nD) = true
    rw [nat_ints]
    exact lay_ints _
  · show PyData.depthAll (r.map nD) + 1 ≤ 64
    rw [nat_ints, depth_ints]
    decide
theorem cast_inj {a b : List Nat} : (a.map fun n : Nat => (n : Int)) = (b.map fun n : Nat => (n : Int)) ↔ a = b := by
  constructor
  · intro h
    have h2 := congrArg (List.map Int.toNat) h
    rw [List.map_map, List.map_map] at h2
    have e : (Int.toNat ∘ fun n : Nat => (n : Int)) = id := by funext n; exact Int.toNat_natCast n
    rw [e, List.map_id, List.map_id] at h2
    exact h2
  · rintro rfl
    rfl
theorem eqv_rows (a b : List Nat) : PyData.eqv (rowD a) (rowD b) = decide (a = b) := by
  unfold rowD
  rw [PyData.eqv, nat_ints, nat_ints, eqv_ints_all]
  by_cases h : a = b
  · subst h; simp
  · rw [decide_eq_false h, decide_eq_false fun e => h (cast_inj.mp e)]
theorem fits_row {r : List Nat} (n : Nat) (h : r.length ≤ 1000) : fits (n + 2) (rowD r) := by
  have zl : (sizeLine : Nat) = 16777216 := by decide
  refine ⟨by rw [List.length_map]; omega, fun d hd => ?_⟩
  obtain ⟨k, _, rfl⟩ := List.mem_map.mp hd
  exact True.intro
section
variable {σ : L2.St} {H : Hp} {Q : VK} {te ta : TE} {K : PySem.W.Frag}
theorem r_rng2 {ta : TA} {R : It → Hp → Prop} (h : ta σ H fun vs H1 => ∃ i j : Int, vs = [.int i, .int j] ∧ (-(2 ^ 62) ≤ i ∧ i < 2 ^ 62 ∧ -(2 ^ 62) ≤ j ∧ j < 2 ^ 62) ∧ R (Itr i (j - i).toNat) H1) : iRng2 ta σ H R := h
theorem r_rng2' {i j : Int} {C : Int → Int → Prop} (h : -(2 ^ 62) ≤ i ∧ i < 2 ^ 62 ∧ -(2 ^ 62) ≤ j ∧ j < 2 ^ 62) (q : C i j) : ∃ i' j' : Int, [V.int i, V.int j] = [.int i', .int j'] ∧ (-(2 ^ 62) ≤ i' ∧ i' < 2 ^ 62 ∧ -(2 ^ 62) ≤ j' ∧ j' < 2 ^ 62) ∧ C i' j' := ⟨i, j, rfl, h, q⟩
theorem rg_nat (n : Nat) : rgV 0 (n : Int) = (List.range n).map iV := by
  unfold rgV
  rw [show ((n : Int) - 0).toNat = n by omega]
  refine List.map_congr_left fun i _ => ?_
  show V.int (0 + (i : Int)) = V.int (i : Int)
  rw [Int.zero_add]
theorem r_tupRgN {n : Nat} (h1 : n ≤ 16777216) (q : ∀ p, H p = none → Q (.ref p) (upd H p (.tup ((List.range n).map iV)))) (h : ∀ R : VK, R (iV n) H → te σ H R) : tTupRg (tRg1 te) σ H Q := by
  refine h _ ⟨(n : Int), rfl, RgOk.of_le (Int.le_refl _) (by omega) (by decide) (by omega), fun p hp => ?_⟩
  rw [rg_nat]
  exact q p hp
theorem r_lcm {a b : Nat} (ha : a < 2 ^ 64) (hb : b < 2 ^ 64) (q : Q (iV (Nat.lcm a b)) H) : rLcm [.int (a : Int), .int (b : Int)] H Q := ⟨a, b, rfl, ha, hb, q⟩
end
theorem row_of {K : PySem.W.Frag} {H : Hp} {p : Addr} {r : List Nat} (h : SqT K H p (r.map iV)) : Dt K H (.ref p) (rowD r) := .tup h (ofNats r)
theorem at_row {r : List Nat} {i : Nat} (h : i < r.length) : atI (r.map iV) (i : Int) = some (iV (at0 r i)) := at_nat rfl h
/-! ### primes -/
def isPr (e : Nat) : Prop := 2 ≤ e ∧ ∀ f, 2 ≤ f → f < e → ¬ f ∣ e
theorem least_pr : ∀ n, 2 ≤ n → ∃ e, isPr e ∧ e ∣ n := by
  intro n
  induction n using Nat.strongRecOn with
  | _ n ih =>
    intro h2
    by_cases h : ∃ f, 2 ≤ f ∧ f < n ∧ f ∣ n
    · obtain ⟨f, a, b, c⟩ := h
      obtain ⟨e, he, hd⟩ := ih f b a
      exact ⟨e, he, Nat.dvd_trans hd c⟩
    · exact ⟨n, ⟨h2, fun f a b c => h ⟨f, a, b, c⟩⟩, Nat.dvd_refl n⟩
open Classical in
noncomputable def prF (c d : Nat) : List Nat := (List.range d).filter fun e => decide (isPr e ∧ e ∣ c)
theorem prF_yes {c d : Nat} (h : isPr d ∧ d ∣ c) : prF c (d + 1) = prF c d ++ [d] := by
  classical
  unfold prF
  rw [List.range_succ, List.filter_append, List.filter_cons_of_pos (by simpa using h)]
  rfl
theorem prF_no {c d : Nat} (h : ¬ (isPr d ∧ d ∣ c)) : prF c (d + 1) = prF c d := by
  classical
  unfold prF
  rw [List.range_succ, List.filter_append, List.filter_cons_of_neg (by simpa using h), List.filter_nil, List.append_nil]
theorem prF_mem {c d e : Nat} : e ∈ prF c d ↔ e < d ∧ isPr e ∧ e ∣ c := by
  classical
  unfold prF
  rw [List.mem_filter, List.mem_range]
  simp
theorem prF_two (c : Nat) : prF c 2 = [] := by
  refine List.eq_nil_iff_forall_not_mem.mpr fun e he => ?_
  have := prF_mem.mp he
  have := this.2.1.1
  omega
theorem prF_grow {c d : Nat} (h : ∀ e, d ≤ e → isPr e → ¬ e ∣ c) : ∀ k, prF c (d + k) = prF c d
  | 0 => rfl
  | k + 1 => by
    show prF c (d + k + 1) = _
    rw [prF_no (fun z => h (d + k) (Nat.le_add_right _ _) z.1 z.2), prF_grow h k]
theorem pr_cop {e d : Nat} (he : isPr e) (hd : 1 ≤ d) (h : d < e) : Nat.Coprime e d := by
  have g1 := Nat.gcd_dvd_left e d
  have g2 := Nat.gcd_dvd_right e d
  have hle := Nat.le_of_dvd hd g2
  by_cases hg : 2 ≤ Nat.gcd e d
  · exact absurd g1 (he.2 _ hg (by omega))
  · have : 0 < Nat.gcd e d := Nat.gcd_pos_of_pos_right _ hd
    show Nat.gcd e d = 1
    omega
end G
set_option Elab.async false
set_option linter.all false
set_option maxRecDepth 100000
set_option maxHeartbeats 4000000
namespace G
open PySem PySem.Spec PyProof.Rows L2
/-! rows of numbers, sorted -/
def kk (r : List Nat) : List (Int ⊕ List Nat) := r.map fun n : Nat => Sum.inl (n : Int)
def rle (a b : List Nat) : Prop := (listOrd itemOrd).kle (kk a) (kk b)
theorem kk_inj {a b : List Nat} (h : kk a = kk b) : a = b := by
  induction a generalizing b with
  | nil => cases b with
    | nil => rfl
    | cons y b => exact nomatch h
  | cons x a ih => cases b with
    | nil => exact nomatch h
    | cons y b =>
      have h1 := List.cons.inj h
      have h2 : (x : Int) = (y : Int) := Sum.inl.inj h1.1
      rw [show x = y by omega, ih h1.2]
theorem rle_anti {a b : List Nat} (h1 : rle a b) (h2 : rle b a) : a = b := kk_inj (KeyOrd.kle_antisymm h1 h2)
theorem sort_uniq : ∀ {a b : List (List Nat)}, a.Perm b → a.Pairwise rle → b.Pairwise rle → a = b
  | [], b, h, _, _ => (List.Perm.nil_eq h)
  | x :: a, [], h, _, _ => absurd h.length_eq (by simp)
  | x :: a, y :: b, h, ha, hb => by
    have ha' := List.pairwise_cons.mp ha
    have hb' := List.pairwise_cons.mp hb
    have e : x = y := by
      have hx : x ∈ y :: b := h.mem_iff.mp List.mem_cons_self
      have hy : y ∈ x :: a := h.mem_iff.mpr List.mem_cons_self
      rcases List.mem_cons.mp hx with e | hx
      · exact e
      · rcases List.mem_cons.mp hy with e | hy
        · exact e.symm
        · exact rle_anti (ha'.1 y hy) (hb'.1 x hx)
    subst e
    rw [sort_uniq (List.Perm.cons_inv h) ha'.2 hb'.2]
theorem items_key : ∀ (r : List Nat) (its : List Value) (i : Nat), Vals (r.map iV) its → tupItems (fun _ => false) i its = some (kk r)
  | [], _, _, h => by cases h; simp [tupItems, kk]
  | n :: r, _, i, h => by
    cases h with
    | cons h1 h2 =>
      obtain ⟨t, rfl⟩ := h1
      show (if (fun _ => false) i = true then none else (tupItems (fun _ => false) (i + 1) _).map _) = _
      rw [if_neg Bool.false_ne_true, items_key r _ (i + 1) h2]
      rfl
theorem tup_key {h : Heap} {b : Addr} {r : List Nat} {its : List Value} (ht : IsTup h b its.toArray) (hv : Vals (r.map iV) its) : PyProof.Rows.G.tupKeyC h (fun _ => false) (.ref b) = some (kk r) := by
  obtain ⟨o, ho, hc, n, hd⟩ := ht
  unfold PyProof.Rows.G.tupKeyC
  have e1 : PyProof.Rows.G.isTupObj h (.ref b) = true := by
    simp only [PyProof.Rows.G.isTupObj, ho, hc]
    decide
  rw [if_pos e1]
  simp only [tupKey, ho, hd]
  exact items_key r its 0 hv
def RowAt (h : Heap) (b : Addr) (r : List Nat) : Prop := r ≠ [] ∧ ∃ its : List Value, Vals (r.map iV) its ∧ IsTup h b its.toArray
theorem tups_of {h : Heap} : ∀ (ps : List (Addr × List Nat)), (∀ p ∈ ps, RowAt h p.1 p.2) → ∃ fs, TupsOf h (fun _ => false) (ps.map fun p => Value.ref p.1) fs
  | [], _ => ⟨[], .nil⟩
  | p :: ps, hall => by
    obtain ⟨fs, hf⟩ := tups_of ps fun q hq => hall q (List.mem_cons_of_mem _ hq)
    obtain ⟨b, r⟩ := p
    obtain ⟨hne, its, hv, o, ho, hc, n, hd⟩ := hall (b, r) List.mem_cons_self
    cases r with
    | nil => exact absurd rfl hne
    | cons x r =>
      cases hv with
      | @cons _ u _ us h1 h2 =>
        obtain ⟨t, rfl⟩ := h1
        exact ⟨_ :: fs, .cons ⟨b, o, _, n, rfl, ho, hc, hd, rfl, fun _ => ⟨_, _, rfl⟩, fun e => absurd e Bool.false_ne_true⟩ hf⟩
theorem keys_of {h : Heap} {ps : List (Addr × List Nat)} (hall : ∀ p ∈ ps, RowAt h p.1 p.2) : ∀ v, v ∈ (ps.map fun p => Value.ref p.1) → ∃ l, PyProof.Rows.G.tupKeyC h (fun _ => false) v = some l := fun v hv => by
  obtain ⟨p, hp, rfl⟩ := List.mem_map.mp hv
  obtain ⟨_, its, h1, h2⟩ := hall p hp
  exact ⟨_, tup_key h2 h1⟩
theorem out_rows {h : Heap} {ps : List (Addr × List Nat)} (hall : ∀ p ∈ ps, RowAt h p.1 p.2) {xs : Array Keyed} (hp : xs.Perm (pairsOf (ps.map fun p => Value.ref p.1)))
    (hs : SortedToK (PyProof.Rows.G.tupKindC h (fun _ => false)) xs (pairsOf (ps.map fun p => Value.ref p.1)).size) :
    ∃ zs : List (Addr × List Nat), zs.Perm ps ∧ (xs.map (·.2)).toList = zs.map (fun p => Value.ref p.1) ∧ zs.Pairwise fun p q => rle p.2 q.2 := by
  have hl : xs.toList.Perm ((ps.map fun p => Value.ref p.1).zip (ps.map fun p => Value.ref p.1)) := by rw [← pairsOf_toList]; exact Array.perm_iff_toList_perm.mp hp
  have ez : ps.map (fun p => (Value.ref p.1, Value.ref p.1)) = (ps.map fun p => Value.ref p.1).zip (ps.map fun p => Value.ref p.1) := by
    rw [List.zip_map']
  obtain ⟨zs, pz, qz⟩ := perm_lift (fun p : Addr × List Nat => (Value.ref p.1, Value.ref p.1)) hl ps ez
  refine ⟨zs, pz, ?_, ?_⟩
  · rw [Array.toList_map, ← qz, List.map_map]
    rfl
  · rw [List.pairwise_iff_getElem]
    intro i j hi hj hij
    have hsz : (pairsOf (ps.map fun p => Value.ref p.1)).size = zs.length := by rw [pairsOf_size, List.length_map, pz.length_eq]
    have h1 := hs i j (Nat.le_of_lt hij) (by rw [hsz]; exact hj)
    have key : ∀ k (hk : k < zs.length), KK (PyProof.Rows.G.tupKindC h (fun _ => false)) xs k = kk zs[k].2 := by
      intro k hk
      have e : xs[k]? = some (Value.ref zs[k].1, Value.ref zs[k].1) := by
        rw [← Array.getElem?_toList, ← qz, List.getElem?_map, List.getElem?_eq_getElem hk]
        rfl
      unfold KK
      rw [e]
      obtain ⟨_, its, h2, h3⟩ := hall zs[k] (pz.mem_iff.mp (List.getElem_mem hk))
      show (PyProof.Rows.G.tupKeyC h (fun _ => false) (.ref zs[k].1)).getD [] = _
      rw [tup_key h3 h2]
      rfl
    rw [key i hi, key j hj] at h1
    exact h1
theorem RowAt.keep {h h' : Heap} {b : Addr} {r : List Nat} (x : RowAt h b r) (k : ∀ b o, h.get? b = some o → h'.get? b = some o) : RowAt h' b r := by
  obtain ⟨h1, its, h2, o, ho, h3⟩ := x
  exact ⟨h1, its, h2, o, k _ _ ho, h3⟩
def refsV (ps : List (Addr × List Nat)) : List V := ps.map fun p => V.ref p.1
def refsU (ps : List (Addr × List Nat)) : List Value := ps.map fun p => Value.ref p.1
theorem refs_eq : ∀ (ps : List (Addr × List Nat)) (its : List Value), Vals (refsV ps) its → its = refsU ps
  | [], _, h => by cases h; rfl
  | p :: ps, _, h => by
    cases h with
    | cons h1 h2 =>
      cases h1
      rw [refs_eq ps _ h2]
      rfl
theorem refs_vals : ∀ ps : List (Addr × List Nat), Vals (refsV ps) (refsU ps)
  | [] => .nil
  | _ :: ps => .cons rfl (refs_vals ps)
abbrev sortedR (zs : List (Addr × List Nat)) : Prop := zs.Pairwise fun p q => rle p.2 q.2
def rSortT (K : PySem.W.Frag) : List V → Hp → VK → Prop := fun vs H Q => ∃ (a : Addr) (ps : List (Addr × List Nat)), vs = [.ref a] ∧ SqL K H a (refsV ps) ∧ (∀ p ∈ ps, SqT K H p.1 (p.2.map iV) ∧ p.2 ≠ []) ∧
  ∀ (zs : List (Addr × List Nat)) (p : Addr), zs.Perm ps → sortedR zs → H p = none → Q (.ref p) (upd H p (.lst (refsV zs)))
section
variable {X : Cx} {K : PySem.W.Frag}
theorem cr_sortT (hK : X.K = K) : CallR X (.builtin "sorted") (rSortT K) := by
  subst hK
  rintro pins s σ H vs us Q I rs ⟨a, ps, rfl, hs, hall, key⟩
  obtain ⟨its, rv, hl, hz⟩ := I.list hs
  obtain rfl := refs_eq ps its rv
  rw [Vals.ref1 rs]
  have hrow : ∀ p ∈ ps, RowAt s.heap p.1 p.2 := fun p hp => by
    obtain ⟨js, jv, jt, _⟩ := I.tuple (hall p hp).1
    exact ⟨(hall p hp).2, js, jv, jt⟩
  obtain ⟨fs, hfs⟩ := tups_of ps hrow
  have hz2 : (refsU ps).length ≤ sizeLine := by rw [← rv.length]; exact hz
  refine PyProof.Rows.G.sorted_tups hl.isList hfs (keys_of hrow) hz2 fun st p1 p2 _ => ?_
  obtain ⟨zs, g1, g2, g3⟩ := out_rows hrow p1 p2
  obtain ⟨ep, hat⟩ := PyProof.Rows.sortedAll_at s.heap (refsU ps) ((arrOf st).map (·.2))
  have hln : (refsV zs).length ≤ sizeLine := by
    have := g1.length_eq
    have h2 : (refsU ps).length = ps.length := List.length_map _
    show (zs.map _).length ≤ _
    rw [List.length_map]
    omega
  have hvz : Vals (refsV zs) ((arrOf st).map (·.2)).toList := by
    rw [g2]
    exact refs_vals zs
  have new : ObjOk X.prog X.w (upd H (s.heap.objs.size + 1) (.lst (refsV zs))) (sortedAll s.heap (refsU ps) ((arrOf st).map (·.2))) (s.heap.objs.size + 1) (.lst (refsV zs)) := ⟨hln, _, ep, hvz, hat⟩
  exact ⟨.ref (s.heap.objs.size + 1), _, I.laid (t' := s.toks) (fun _ _ => PyProof.Rows.sortedAll_old) (Nat.le_succ _) new, rfl, key zs _ g1 g3 (I.hok.fresh (Nat.le_succ _))⟩
end
/-! dicts whose keys are rows -/
def kN (r : List Nat) : List Key := r.map fun n : Nat => .inl (n : Int)
theorem kN_row (r : List Nat) : (kN r).map kV = r.map iV := by
  unfold kN
  rw [List.map_map]
  rfl
theorem kN_inj {a b : List Nat} (h : kN a = kN b) : a = b := by
  induction a generalizing b with
  | nil => cases b with
    | nil => rfl
    | cons y b => exact nomatch h
  | cons x a ih => cases b with
    | nil => exact nomatch h
    | cons y b =>
      have h1 := List.cons.inj h
      have h2 : (x : Int) = (y : Int) := Sum.inl.inj h1.1
      rw [show x = y by omega, ih h1.2]
def dictN (rs : List (List Nat)) : List (List Key × V) := rs.map fun r => (kN r, V.bl true)
theorem dictN_len (rs : List (List Nat)) : (dictN rs).length = rs.length := List.length_map _
theorem valV_in {rs : List (List Nat)} {r : List Nat} (h : r ∈ rs) : valV (dictN rs) (kN r) = some (.bl true) := by
  induction rs with
  | nil => exact nomatch h
  | cons x rs ih =>
    by_cases e : x = r
    · subst e
      exact valV_pos rfl
    · rcases List.mem_cons.mp h with z | h
      · exact absurd z.symm e
      · show valV ((kN x, V.bl true) :: dictN rs) (kN r) = _
        rw [valV_neg (fun z => e (kN_inj z))]
        exact ih h
theorem valV_out {rs : List (List Nat)} {r : List Nat} (h : r ∉ rs) : valV (dictN rs) (kN r) = none := by
  induction rs with
  | nil => rfl
  | cons x rs ih =>
    show valV ((kN x, V.bl true) :: dictN rs) (kN r) = _
    rw [valV_neg (fun z => h (by rw [← kN_inj z]; exact List.mem_cons_self))]
    exact ih fun z => h (List.mem_cons_of_mem _ z)
theorem putN {rs : List (List Nat)} {r : List Nat} (h : r ∉ rs) : putK (dictN rs) (kN r) (.bl true) = dictN (rs ++ [r]) := by
  rw [putK_new _ (valV_out h)]
  unfold dictN
  rw [List.map_append]
  rfl
theorem rows_of {H : Hp} : ∀ {rs : List (List Nat)} {ks : List (List Key × Addr × Value)}, Paired (fun (p : List Key × V) (q : List Key × Addr × Value) => p.1 = q.1 ∧ H q.2.1 = some (.tup (p.1.map kV)) ∧ RelV p.2 q.2.2) (dictN rs) ks →
    ∃ ps : List (Addr × List Nat), ps.map (·.2) = rs ∧ refsU ps = ks.map (fun x => Value.ref x.2.1) ∧ ∀ p ∈ ps, H p.1 = some (.tup (p.2.map iV))
  | [], _, h => by cases h; exact ⟨[], rfl, rfl, fun p hp => nomatch hp⟩
  | r :: rs, _, h => by
    cases h with
    | @cons _ k _ ks h1 h2 =>
      obtain ⟨ps, e1, e2, e3⟩ := rows_of h2
      have hk : H k.2.1 = some (.tup ((kN r).map kV)) := h1.2.1
      rw [kN_row] at hk
      refine ⟨(k.2.1, r) :: ps, by rw [List.map_cons, e1], ?_, fun p hp => ?_⟩
      · show Value.ref k.2.1 :: refsU ps = _
        rw [e2]
        rfl
      · rcases List.mem_cons.mp hp with rfl | hp
        · exact hk
        · exact e3 p hp
/-- {t: v}, one key, a row -/
def tDispT (tk tv : TE) : TE := fun σ H Q => ∀ p, H p = none → tk σ (upd H p (.dT [])) fun x H1 => tv σ H1 fun y H2 => ∃ b r, x = .ref b ∧ H2 b = some (.tup ((r : List Nat).map iV)) ∧ H2 p = some (.dT []) ∧ y = .bl true ∧ Q (.ref p) (upd H2 p (.dT (dictN [r])))
section
variable {X : Cx} {K : PySem.W.Frag}
theorem pe_dispT {k v : Expr} {tk tv : TE} {pos : Pos} (hu : X.A.units + 1 < cLine) (hk : PE X k tk) (hv : PE X v tv) : PE X (.Dict [some k] [v] pos) (tDispT tk tv) := by
  constructor
  intro pins s σ H Q I q
  have hn := I.hok.fresh (Nat.le_refl s.heap.objs.size)
  have I1 := I.laid (a := s.heap.objs.size) (o := .dT []) (h' := s.heap.push { cls := .type "dict", data := .dict #[] }) (t' := s.toks) (fun _ _ e => Heap.get?_push_of_some _ e) (Nat.le_refl _) (dt_empty s.heap I.big)
  rw [arm_eval_Dict, zip_pairTrees [some k] [v] X.env pos rfl rfl, dictDisplay_pairs (pairTrees [some k] [v] X.env pos) (by simp [pairTrees]) (by simp [pairTrees])]
  refine wpAny_bind (wpAny_standAt (wpAny_bind ?_))
  refine wpAny_subDictH (knd := tupleKind (mixKind X.prog X.w)) (Q := fun d s' => wpAny (model X.prog X.w) X.A (pure (Value.ref d)) (EP X pins σ Q) X.xe s') (show X.A.units < cLine by omega) (by simp [pairTrees]) ?_
  refine pairTrees_cons_walk (thn (hk.run pins _ σ _ _ I1 (q _ hn)) fun u s1 ⟨x, H1, I2, rx, q1⟩ => thn (hv.run pins s1 σ H1 _ I2 q1) fun w2 s2 ⟨y, H2, I3, ry, b, r, ex, hb, hp, ey, q2⟩ => pairTrees_nil_walk ?_)
  subst ex ey
  cases rx
  rw [← kN_row] at hb
  obtain ⟨z, hd, xs, rel, dd⟩ := dt_of I3.hok hp
  cases rel
  refine ⟨[(kN r, b, w2)], ⟨rfl, rfl, key_of I3.hok hb, trivial⟩, dd, fun h' tk dd' hs => wpAny_pure ?_⟩
  obtain ⟨ob, es, ep, hq, h2, h3, h4, _, h5⟩ := dd'
  have I4 := d_write (t' := tk) (ob := .dT (dictN [r])) I3 (by rw [hp]; exact True.intro) hs ⟨ob, hq⟩ ⟨by rw [dictN_len]; show 1 ≤ sizeLine; decide, hd, [(kN r, b, w2)], .cons ⟨rfl, by rw [upd_ne (ne_of hb hp (fun z => nomatch z))]; exact hb, ry⟩ .nil, ob, es, ep, hq, h2, h3, h4, h5⟩
  exact ⟨.ref _, _, I4, rfl, q2⟩
/-- sorted(d) of a dict with rows as keys -/
def rSortD : List V → Hp → VK → Prop := fun vs H Q => ∃ (d : Addr) (rs : List (List Nat)), vs = [.ref d] ∧ Rd H d (.dT (dictN rs)) ∧ (∀ r ∈ rs, r ≠ []) ∧
  ∀ (zs : List (Addr × List Nat)) (p : Addr), (zs.map (·.2)).Perm rs → sortedR zs → (∀ z ∈ zs, H z.1 = some (.tup (z.2.map iV))) → H p = none → Q (.ref p) (upd H p (.lst (refsV zs)))
theorem cr_sortD (hc : X.calm = true) : CallR X (.builtin "sorted") rSortD := by
  rintro pins s σ H vs us Q I rs ⟨d, rows, rfl, hd, hne, key⟩
  rw [Vals.ref1 rs]
  obtain ⟨z, hs, ks, pr, o, es, ep, ho, hx, hdt, he, hn⟩ := (show ObjOk X.prog X.w H s.heap d (.dT (dictN rows)) from hd.ok I.hok)
  obtain ⟨ps, e1, e2, e3⟩ := rows_of pr
  have hes : es.size = ks.length := by rw [← Array.length_toList, he, List.length_map]
  have hps : ps.length = ks.length := by
    have := congrArg List.length e2
    rw [List.length_map] at this
    rw [← this]
    exact (List.length_map _).symm
  have hzl : ps.length ≤ sizeLine := by
    have h1 : (dictN rows).length = rows.length := dictN_len rows
    have h2 := congrArg List.length e1
    rw [List.length_map] at h2
    omega
  refine Calls.call_function_entry PyProof.Rows.kind_sorted PyProof.Rows.plain_sorted PyProof.Rows.entry_sorted (PyProof.Rows.args_sorted1 _) ?_
  unfold Builtin.«sorted»
  refine wpAny_bind (m := checkCount "sorted" 1 1 _) (wpAny_pure ?_)
  refine wpAny_bind (PySem.W.kdu_collect (A := X.A.in1) (kdl_raw hs hx hdt) (I.ok.hd hc) ho (by omega) fun h1 tk acc hk hacc => ?_)
  have ea : acc.toList = refsU ps := by
    rw [e2]
    refine List.ext_getElem (by rw [Array.length_toList, hacc.1, hes, List.length_map]) fun j hj1 hj2 => ?_
    rw [List.length_map] at hj2
    have hg : acc[j]? = some acc.toList[j] := by rw [← Array.getElem?_toList, List.getElem?_eq_getElem hj1]
    obtain ⟨en, hen, hv⟩ := hacc.2 j _ hg
    rw [← Array.getElem?_toList, he, List.getElem?_map, List.getElem?_eq_getElem hj2] at hen
    have h3 := Option.some.inj hen
    rw [hv, ← h3, List.getElem_map]
    rfl
  rw [ea]
  have I1 : Inv X pins σ H { s with heap := h1, toks := tk } := I.kept hk
  have hul : (refsU ps).length = ps.length := List.length_map _
  refine wpAny_bind (wpAny_newList ?_ (by omega))
  have hoL : (h1.push (seqObj "list" (refsU ps).toArray 0)).get? h1.objs.size = some (seqObj "list" (refsU ps).toArray 0) := Heap.get?_push_size _ rfl
  have hrow : ∀ p ∈ ps, RowAt (h1.push (seqObj "list" (refsU ps).toArray 0)) p.1 p.2 := fun p hp => by
    obtain ⟨js, jv, jt, _⟩ := I1.tuple (a := p.1) (xs := p.2.map iV) (.inl (.inl (e3 p hp)))
    have hpne : p.2 ≠ [] := hne _ (by rw [← e1]; exact List.mem_map_of_mem hp)
    exact RowAt.keep ⟨hpne, js, jv, jt⟩ fun b o e => Heap.get?_push_of_some _ e
  obtain ⟨fs, hfs⟩ := tups_of ps hrow
  show wpAny _ _ _ _ _ { s with heap := h1.push (seqObj "list" (refsU ps).toArray 0), toks := tk }
  refine wpAny_bind (wpAny_holding (wpAny_call_entry PyProof.Rows.slot_list_sort ⟨_, hoL, rfl⟩ PyProof.Rows.entry_list_sort
    (PyProof.Rows.G.list_sort_tups (s := { s with heap := h1.push (seqObj "list" (refsU ps).toArray 0), toks := tk }) hoL hfs (keys_of hrow) (by omega) fun st p1 p2 _ => ⟨_, rfl, ?_⟩) (PyProof.Rows.args_list_sort _)))
  obtain ⟨zs, g1, g2, g3⟩ := out_rows hrow p1 p2
  obtain ⟨e', hat⟩ := PyProof.Rows.sortedHeap_at (vs := refsU ps) (out := (arrOf st).map (·.2)) hoL
  have hln : (refsV zs).length ≤ sizeLine := by
    have := g1.length_eq
    show (zs.map _).length ≤ _
    rw [List.length_map]
    omega
  have hvz : Vals (refsV zs) ((arrOf st).map (·.2)).toList := by
    rw [g2]
    exact refs_vals zs
  have fin := I1.laid (a := h1.objs.size) (o := .lst (refsV zs)) (h' := sortedHeap (h1.push (seqObj "list" (refsU ps).toArray 0)) h1.objs.size (refsU ps) ((arrOf st).map (·.2))) (t' := tk) (fun b u e => by
      have hb : b < h1.objs.size := Heap.lt_size e
      rw [PyProof.Rows.sortedHeap_old (Nat.ne_of_lt hb) (by rw [size_push']; exact Nat.lt_succ_of_lt hb)]
      exact Heap.get?_push_of_some _ e) (Nat.le_refl _) ⟨hln, _, e', hvz, hat⟩
  refine wpAny_pure ⟨_, rfl, .ref h1.objs.size, _, fin, rfl, key zs _ ?_ g3 (fun z hz => e3 z (g1.mem_iff.mp hz)) (I1.hok.fresh (Nat.le_refl _))⟩
  rw [← e1]
  exact g1.map _
end
end G
set_option Elab.async false
set_option linter.all false
set_option maxRecDepth 100000
set_option maxHeartbeats 4000000
namespace G
open PySem PySem.Spec PyProof.Rows L2
/-! what some permutations make -/
inductive Gen (n : Nat) (gs : List (List Nat)) : List Nat → Prop
  | one : Gen n gs (idN n)
  | step {x m : List Nat} : Gen n gs x → m ∈ gs → Gen n gs (thenN x m)
def RowN (n : Nat) (r : List Nat) : Prop := r.length = n ∧ ∀ x ∈ r, x < n
theorem Perm.row {n : Nat} {p : List Nat} (h : Perm n p) : RowN n p := ⟨h.len, h.lt⟩
theorem RowN.id (n : Nat) : RowN n (idN n) := ⟨List.length_range, fun x hx => List.mem_range.mp hx⟩
theorem RowN.at {n i : Nat} {r : List Nat} (h : RowN n r) (hi : i < n) : at0 r i < n := h.2 _ (List.mem_of_getElem? (at0_some (by rw [h.1]; exact hi)))
theorem RowN.then {n : Nat} {x m : List Nat} (hx : RowN n x) (hm : RowN n m) : RowN n (thenN x m) := by
  refine ⟨by unfold thenN; rw [List.length_map]; exact hx.1, fun y hy => ?_⟩
  obtain ⟨k, hk, rfl⟩ := List.mem_map.mp hy
  exact hm.at (hx.2 k hk)
theorem Gen.row {n : Nat} {gs : List (List Nat)} (hg : ∀ m ∈ gs, RowN n m) {x : List Nat} (h : Gen n gs x) : RowN n x := by
  induction h with
  | one => exact RowN.id n
  | step _ hm ih => exact ih.then (hg _ hm)
theorem Gen.sub {n : Nat} {gs S : List (List Nat)} (h1 : idN n ∈ S) (h2 : ∀ x ∈ S, ∀ m ∈ gs, thenN x m ∈ S) {x : List Nat} (h : Gen n gs x) : x ∈ S := by
  induction h with
  | one => exact h1
  | step _ hm ih => exact h2 _ ih _ hm
theorem Gen.mono {n : Nat} {gs hs : List (List Nat)} (k : ∀ m ∈ gs, m ∈ hs) {x : List Nat} (h : Gen n gs x) : Gen n hs x := by
  induction h with
  | one => exact .one
  | step _ hm ih => exact .step ih (k _ hm)
theorem id_then {n : Nat} {m : List Nat} (h : m.length = n) : thenN (idN n) m = m := by
  apply List.ext_getElem?
  intro i
  unfold thenN idN
  by_cases hi : i < n
  · rw [List.getElem?_map, List.getElem?_range hi, at0_some (by omega)]
    rfl
  · rw [List.getElem?_eq_none (by rw [List.length_map, List.length_range]; omega), List.getElem?_eq_none (by omega)]
theorem at_id {n i : Nat} (h : i < n) : at0 (idN n) i = i := by
  unfold at0 idN
  rw [List.getD_eq_getElem?_getD, List.getElem?_range h]
  rfl
theorem then_id {n : Nat} {x : List Nat} (h : RowN n x) : thenN x (idN n) = x := by
  unfold thenN
  conv => rhs; rw [← List.map_id x]
  exact List.map_congr_left fun y hy => at_id (h.2 y hy)
theorem at_then {x m : List Nat} {i : Nat} (h : i < x.length) : at0 (thenN x m) i = at0 m (at0 x i) := by
  have e : (thenN x m)[i]? = some (at0 m (at0 x i)) := by
    unfold thenN
    rw [List.getElem?_map, at0_some h]
    rfl
  have e2 := at0_some (p := thenN x m) (i := i) (by unfold thenN; rw [List.length_map]; exact h)
  rw [e2] at e
  exact Option.some.inj e
theorem then_assoc {n : Nat} {x y m : List Nat} (hx : RowN n x) (hy : RowN n y) : thenN x (thenN y m) = thenN (thenN x y) m := by
  show x.map (at0 (thenN y m)) = (x.map (at0 y)).map (at0 m)
  rw [List.map_map]
  exact List.map_congr_left fun k hk => at_then (by rw [hy.1]; exact hx.2 k hk)
theorem Gen.mul {n : Nat} {gs : List (List Nat)} (hg : ∀ m ∈ gs, RowN n m) {x y : List Nat} (hx : Gen n gs x) (hy : Gen n gs y) : Gen n gs (thenN x y) := by
  induction hy with
  | one => rw [then_id (hx.row hg)]; exact hx
  | step h hm ih => rw [then_assoc (hx.row hg) (h.row hg)]; exact .step ih hm
theorem Gen.of {n : Nat} {gs : List (List Nat)} {m : List Nat} (hr : RowN n m) (h : m ∈ gs) : Gen n gs m := by
  have := Gen.step (.one (n := n)) h
  rw [id_then hr.1] at this
  exact this
/-- a list of all that some permutations make -/
structure Group (n : Nat) (gs rs : List (List Nat)) : Prop where
  nd : rs.Nodup
  all : ∀ x, x ∈ rs ↔ Gen n gs x
theorem Group.perm {n : Nat} {gs a b : List (List Nat)} (h1 : Group n gs a) (h2 : Group n gs b) : a.Perm b :=
  (List.perm_ext_iff_of_nodup h1.nd h2.nd).mpr fun x => (h1.all x).trans (h2.all x).symm
/-- a bound of what they make -/
structure Bnd (n : Nat) (gs L : List (List Nat)) (B : Nat) : Prop where
  rows : ∀ m ∈ gs, RowN n m
  one : idN n ∈ L
  step : ∀ x ∈ L, ∀ m ∈ gs, thenN x m ∈ L
  len : L.length ≤ B
theorem Bnd.le {n B : Nat} {gs L ms rs : List (List Nat)} (b : Bnd n gs L B) (hs : ∀ m ∈ ms, m ∈ gs) (nd : rs.Nodup) (h : ∀ x ∈ rs, Gen n ms x) : rs.length ≤ B := by
  refine Nat.le_trans (List.Nodup.length_le_of_subset nd fun x hx => ?_) b.len
  exact ((h x hx).mono hs).sub b.one b.step
/-- makers that make all -/
theorem group_of {n : Nat} {gs ms rs : List (List Nat)} (hg : ∀ m ∈ gs, RowN n m) (hs : ∀ m ∈ ms, m ∈ gs) (nd : rs.Nodup) (h1 : idN n ∈ rs) (h2 : ∀ x ∈ rs, ∀ m ∈ ms, thenN x m ∈ rs) (h3 : ∀ x ∈ rs, Gen n ms x) (h4 : ∀ m ∈ gs, m ∈ rs) : Group n gs rs := by
  have hm : ∀ m ∈ ms, RowN n m := fun m hm => hg m (hs m hm)
  refine ⟨nd, fun x => ⟨fun hx => (h3 x hx).mono hs, fun hx => ?_⟩⟩
  refine hx.sub h1 fun y hy m hmg => ?_
  exact (Gen.mul hm (h3 y hy) (h3 m (h4 m hmg))).sub h1 h2
/-! all permutations of a few places -/
def extP (n : Nat) : Nat → List (List Nat)
  | 0 => [[]]
  | k + 1 => (extP n k).flatMap fun l => ((List.range n).filter fun x => !l.contains x).map fun x => l ++ [x]
theorem ext_mem {n : Nat} : ∀ (k : Nat) (l : List Nat), l.length = k → (∀ x ∈ l, x < n) → l.Nodup → l ∈ extP n k
  | 0, l, hl, _, _ => by
    rw [List.length_eq_zero_iff.mp hl]
    exact List.mem_singleton.mpr rfl
  | k + 1, l, hl, hlt, nd => by
    have hne : l ≠ [] := fun e => by rw [e] at hl; exact nomatch hl
    obtain ⟨m, y, rfl⟩ : ∃ m y, l = m ++ [y] := ⟨l.dropLast, l.getLast hne, (List.dropLast_concat_getLast hne).symm⟩
    rw [List.length_append] at hl
    have nd' := List.nodup_append.mp nd
    refine List.mem_flatMap.mpr ⟨m, ext_mem k m (by simpa using hl) (fun x hx => hlt x (List.mem_append_left _ hx)) nd'.1, List.mem_map.mpr ⟨y, List.mem_filter.mpr ⟨List.mem_range.mpr (hlt y (List.mem_append_right _ List.mem_cons_self)), ?_⟩, rfl⟩⟩
    have : y ∉ m := fun hy => nd'.2.2 y hy y List.mem_cons_self rfl
    simpa using this
theorem Perm.then {n : Nat} {p q : List Nat} (hp : Perm n p) (hq : Perm n q) : Perm n (thenN p q) := by
  have hr := hp.row.then hq.row
  refine ⟨hr.1, hr.2, ?_⟩
  unfold thenN
  refine List.pairwise_iff_getElem.mpr fun i j hi hj hij e => ?_
  rw [List.length_map] at hi hj
  rw [List.getElem_map, List.getElem_map] at e
  have h1 := hq.inj (hp.lt _ (List.getElem_mem hi)) (hp.lt _ (List.getElem_mem hj)) e
  exact absurd h1 (List.pairwise_iff_getElem.mp hp.nd i j hi hj hij)
theorem Perm.id (n : Nat) : Perm n (idN n) := ⟨List.length_range, fun x hx => List.mem_range.mp hx, List.nodup_range⟩
theorem Perm.ext {n : Nat} {p : List Nat} (h : Perm n p) : p ∈ extP n n := ext_mem n p h.len h.lt h.nd
theorem ext_len {n : Nat} (h : n ≤ 6) : (extP n n).length ≤ 720 ∧ (extP n n).length = Nat.rec 1 (fun k f => (k + 1) * f) n := by
  match n, h with
  | 0, _ => decide +kernel
  | 1, _ => decide +kernel
  | 2, _ => decide +kernel
  | 3, _ => decide +kernel
  | 4, _ => decide +kernel
  | 5, _ => decide +kernel
  | 6, _ => decide +kernel
theorem ext_perm {n : Nat} : ∀ (k : Nat) (l : List Nat), l ∈ extP n k → l.length = k ∧ (∀ x ∈ l, x < n) ∧ l.Nodup
  | 0, l, h => by
    rw [List.mem_singleton.mp h]
    exact ⟨rfl, (fun x hx => nomatch hx), List.nodup_nil⟩
  | k + 1, l, h => by
    obtain ⟨m, hm, h2⟩ := List.mem_flatMap.mp h
    obtain ⟨y, hy, rfl⟩ := List.mem_map.mp h2
    obtain ⟨a, b, c⟩ := ext_perm k m hm
    obtain ⟨y1, y2⟩ := List.mem_filter.mp hy
    have hy' : y ∉ m := by simpa using y2
    refine ⟨by rw [List.length_append, a]; rfl, fun x hx => ?_, ?_⟩
    · rcases List.mem_append.mp hx with hx | hx
      · exact b x hx
      · rw [List.mem_singleton.mp hx]; exact List.mem_range.mp y1
    · refine List.nodup_append.mpr ⟨c, by simp, fun x hx z hz e => ?_⟩
      rw [List.mem_singleton.mp hz] at e
      subst e
      exact hy' hx
theorem bnd_small {n : Nat} {gs : List (List Nat)} (hn : n ≤ 6) (hg : ∀ m ∈ gs, Perm n m) : Bnd n gs (extP n n) (extP n n).length where
  rows := fun m hm => (hg m hm).row
  one := (Perm.id n).ext
  step := fun x hx m hm => by
    obtain ⟨a, b, c⟩ := ext_perm n x hx
    exact (Perm.then ⟨a, b, c⟩ (hg m hm)).ext
  len := Nat.le_refl _
theorem fact_ok : ∀ n, n ≤ 64 → ((Builtin.Math.factorialNat n : Nat) : Int).natAbs.log2 < bitsLine ∧ (n ≤ 6 → (extP n n).length ≤ Builtin.Math.factorialNat n) ∧ (7 ≤ n → 999 ≤ Builtin.Math.factorialNat n) := by
  have h : (List.range 65).all (fun n => decide (((Builtin.Math.factorialNat n : Nat) : Int).natAbs.log2 < bitsLine) && decide (n ≤ 6 → (extP n n).length ≤ Builtin.Math.factorialNat n) && decide (7 ≤ n → 999 ≤ Builtin.Math.factorialNat n)) = true := by decide +kernel
  intro n hn
  have h2 := List.all_eq_true.mp h n (List.mem_range.mpr (by omega))
  simp only [Bool.and_eq_true, decide_eq_true_eq] at h2
  exact ⟨h2.1.1, h2.1.2, h2.2⟩
def rFact : List V → Hp → VK → Prop := fun xs H Q => ∃ n : Nat, xs = [.int (n : Int)] ∧ n ≤ 64 ∧ Q (.int ((Builtin.Math.factorialNat n : Nat) : Int)) H
theorem call_factorial {X : Cx} : CallR X (.builtin "math.factorial") rFact := by
  rintro pins s σ H vs us Q I rs ⟨n, rfl, hn, q⟩
  obtain ⟨u, rfl, t, rfl⟩ := vals1 rs
  refine PySem.W.mg_factorial (by simp only [Builtin.Math.maxSsize]; omega) (by omega) (by simp only [Builtin.Math.manyFactors]; omega) (by rw [Int.toNat_natCast]; exact (fact_ok n hn).1) ?_
  rw [Int.toNat_natCast]
  exact ⟨.int _, H, I.tok _, ⟨_, rfl⟩, q⟩
theorem lay_rows : ∀ rs : List (List Nat), PyData.canLayAll0 (rs.map rowD) = true
  | [] => rfl
  | r :: rs => Bool.and_eq_true_iff.mpr ⟨by
      show PyData.canLayAll0 (r.map nD) = true
      rw [nat_ints]
      exact lay_ints _, lay_rows rs⟩
theorem depth_rows : ∀ rs : List (List Nat), PyData.depthAll (rs.map rowD) ≤ 2
  | [] => by decide
  | r :: rs => by
    show max (PyData.depthAll (r.map nD) + 1) (PyData.depthAll (rs.map rowD)) ≤ 2
    have h1 := depth_rows rs
    rw [nat_ints, depth_ints]
    omega
theorem shaped_rows (rs : List (List Nat)) : SeqAt.shaped (.list (rs.map rowD)) = true := by
  refine Bool.and_eq_true_iff.mpr ⟨lay_rows rs, decide_eq_true ?_⟩
  show PyData.depthAll (rs.map rowD) + 1 ≤ 64
  have := depth_rows rs
  omega
theorem eqv_all_rows : ∀ (a b : List (List Nat)), PyData.eqvAll (a.map rowD) (b.map rowD) = decide (a = b)
  | [], [] => by simp [PyData.eqvAll]
  | [], y :: b => by simp [PyData.eqvAll]
  | x :: a, [] => by simp [PyData.eqvAll]
  | x :: a, y :: b => by
    rw [List.map_cons, List.map_cons, PyData.eqvAll, eqv_rows, eqv_all_rows a b]
    simp [Bool.decide_and]
theorem eqv_lrows (a b : List (List Nat)) : PyData.eqv (.list (a.map rowD)) (.list (b.map rowD)) = decide (a = b) := by
  rw [PyData.eqv, eqv_all_rows]
theorem dp_rows {K : PySem.W.Frag} {H : Hp} {p : Addr} {ps : List (Addr × List Nat)} (h : SqL K H p (refsV ps)) (hall : ∀ q ∈ ps, SqT K H q.1 (q.2.map iV)) : Dp K H (.ref p) (.list ((ps.map (·.2)).map rowD)) := by
  refine .lst h ?_
  clear h
  induction ps with
  | nil => exact .nil
  | cons q ps ih => exact .cons ((row_of (hall q List.mem_cons_self)).dp _ _) (ih fun q' hq => hall q' (List.mem_cons_of_mem _ hq))
theorem fits_rows {rs : List (List Nat)} (h : rs.length ≤ 1000) (hr : ∀ r ∈ rs, r.length ≤ 1000) : fits 3 (.list (rs.map rowD)) := by
  have zl : (sizeLine : Nat) = 16777216 := by decide
  refine ⟨by rw [List.length_map]; omega, fun d hd => ?_⟩
  obtain ⟨r, hm, rfl⟩ := List.mem_map.mp hd
  exact fits_row 0 (hr r hm)
/-- rows that stand at addresses, each a tuple of its own -/
def TupR (H : Hp) (ps : List (Addr × List Nat)) : Prop := ∀ p ∈ ps, H p.1 = some (.tup (p.2.map iV))
theorem TupR.k {H H' : Hp} {ps : List (Addr × List Nat)} (h : TupR H ps) (e : Same H H') : TupR H' ps := fun p hp => e _ _ (h p hp)
theorem TupR.snoc {H : Hp} {ps : List (Addr × List Nat)} {b : Addr} {r : List Nat} (h : TupR H ps) (hb : H b = some (.tup (r.map iV))) : TupR H (ps ++ [(b, r)]) := fun p hp => by
  rcases List.mem_append.mp hp with hp | hp
  · exact h p hp
  · rw [List.mem_singleton.mp hp]; exact hb
end G
set_option Elab.async false
set_option linter.all false
set_option maxRecDepth 100000
set_option maxHeartbeats 4000000
namespace G
open PySem PySem.Spec PyProof.Rows L2
def rListN : List V → Hp → VK → Prop := fun xs H Q => ∃ (d : Addr) (rs : List (List Nat)), xs = [V.ref d] ∧ Rd H d (.dT (dictN rs)) ∧
  ∀ (p : Addr) (ps : List (Addr × List Nat)), H p = none → ps.map (·.2) = rs → TupR H ps → Q (.ref p) (upd H p (.lst (refsV ps)))
theorem keys_rows {H : Hp} : ∀ (rs : List (List Nat)) (bs : List Addr), IsKeys H (dictN rs) bs → ∃ ps : List (Addr × List Nat), ps.map (·.2) = rs ∧ TupR H ps ∧ bs.map V.ref = refsV ps
  | [], _, h => by
    cases (show Paired _ _ _ from h)
    exact ⟨[], rfl, (fun p hp => nomatch hp), rfl⟩
  | r :: rs, _, h => by
    cases (show Paired _ _ _ from h) with
    | @cons _ b _ bs h1 h2 =>
      obtain ⟨ps, e1, e2, e3⟩ := keys_rows rs bs h2
      have hb : H b = some (.tup ((kN r).map kV)) := h1
      rw [kN_row] at hb
      refine ⟨(b, r) :: ps, by rw [List.map_cons, e1], fun p hp => ?_, ?_⟩
      · rcases List.mem_cons.mp hp with rfl | hp
        · exact hb
        · exact e2 p hp
      · rw [List.map_cons, e3]
        rfl
section
variable {X : Cx} {H : Hp} {Q : VK} {K : PySem.W.Frag} {σ : L2.St} {te ty td tv : TE}
theorem call_listN (hc : X.calm = true) : CallR X (.type "list") rListN := by
  rintro pins s σ H xs us Q I rs ⟨d, rows, rfl, hd, key⟩
  refine call_list_dT hc pins s σ H _ us Q I rs ⟨d, _, rfl, hd, fun p bs hp hk => ?_⟩
  obtain ⟨ps, e1, e2, e3⟩ := keys_rows rows bs hk
  rw [e3]
  exact key p ps hp e1 e2
theorem r_listN {d : Addr} {rs : List (List Nat)} (h : H d = some (.dT (dictN rs))) (q : ∀ (p : Addr) (ps : List (Addr × List Nat)), H p = none → ps.map (·.2) = rs → TupR H ps → Q (.ref p) (upd H p (.lst (refsV ps)))) : rListN [.ref d] H Q := ⟨d, rs, rfl, .inl h, q⟩
theorem r_sortD {d : Addr} {rs : List (List Nat)} (h : H d = some (.dT (dictN rs))) (hn : ∀ r ∈ rs, r ≠ []) (q : ∀ (zs : List (Addr × List Nat)) (p : Addr), (zs.map (·.2)).Perm rs → sortedR zs → TupR H zs → H p = none → Q (.ref p) (upd H p (.lst (refsV zs)))) : rSortD [.ref d] H Q := ⟨d, rs, rfl, .inl h, hn, q⟩
theorem r_sortT {a : Addr} {ps : List (Addr × List Nat)} (h : SqL K H a (refsV ps)) (hall : ∀ p ∈ ps, SqT K H p.1 (p.2.map iV) ∧ p.2 ≠ []) (q : ∀ (zs : List (Addr × List Nat)) (p : Addr), zs.Perm ps → sortedR zs → H p = none → Q (.ref p) (upd H p (.lst (refsV zs)))) : rSortT K [.ref a] H Q := ⟨a, ps, rfl, h, hall, q⟩
theorem r_lenDT {d : Addr} {rs : List (List Nat)} (h : H d = some (.dT (dictN rs))) (q : Q (.int (rs.length : Nat)) H) : rLenT [.ref d] H Q := by
  refine ⟨d, dictN rs, rfl, h, ?_⟩
  rw [dictN_len]
  exact q
theorem r_dni {ty td : TE} (h : ty σ H fun y H1 => td σ H1 fun x H2 => ∃ a o, x = .ref a ∧ DGet H2 a y o ∧ Q (.bl (!o.isSome)) H2) : tDNotIn ty td σ H Q := h
open Classical in
theorem dni_at {d b : Addr} {rs : List (List Nat)} {r : List Nat} (h : H d = some (.dT (dictN rs))) (hb : H b = some (.tup (r.map iV))) : ∃ o, DGet H d (.ref b) o ∧ (!o.isSome) = decide (r ∉ rs) := by
  rw [← kN_row] at hb
  refine ⟨_, DGet.t h hb, ?_⟩
  by_cases e : r ∈ rs
  · rw [valV_in e, decide_eq_false (fun z => z e)]
    rfl
  · rw [valV_out e, decide_eq_true e]
    rfl
theorem r_dput {D : Ends} {td ty tv : TE} (h : tv σ H fun v H1 => td σ H1 fun x H2 => ty σ H2 fun y H3 => ∃ a H4, x = .ref a ∧ DPut H3 a y v H4 ∧ D.nx σ H4) : sDPut td ty tv D σ H := h
theorem r_dputE {D : Ends} {d b : Addr} {rs : List (List Nat)} {r : List Nat} (h : H d = some (.dT (dictN rs))) (hb : H b = some (.tup (r.map iV))) (hr : r ∉ rs) (hl : rs.length < sizeLine) (q : D.nx σ (upd H d (.dT (dictN (rs ++ [r]))))) : ∃ a H4, V.ref d = .ref a ∧ DPut H a (.ref b) (.bl true) H4 ∧ D.nx σ H4 := by
  rw [← kN_row] at hb
  refine ⟨d, _, rfl, DPut.t h hb (by rw [dictN_len]; exact hl), ?_⟩
  rw [putN hr]
  exact q
theorem r_dispT {tk tv : TE} (h : ∀ p, H p = none → tk σ (upd H p (.dT [])) fun x H1 => tv σ H1 fun y H2 => ∃ b r, x = .ref b ∧ H2 b = some (.tup ((r : List Nat).map iV)) ∧ H2 p = some (.dT []) ∧ y = .bl true ∧ Q (.ref p) (upd H2 p (.dT (dictN [r])))) : tDispT tk tv σ H Q := h
theorem at_refs {ps : List (Addr × List Nat)} {i : Nat} {p : Addr × List Nat} (h : ps[i]? = some p) : atI (refsV ps) (i : Int) = some (.ref p.1) := by
  refine at_of rfl ?_
  unfold refsV
  rw [List.getElem?_map, h]
  rfl
end
end G
set_option Elab.async false
set_option linter.all false
set_option maxRecDepth 100000
set_option maxHeartbeats 4000000
namespace G
open PySem PySem.Spec PyProof.Rows L2
/-! ### dicts from rows to texts -/
abbrev Wm := List (List Nat × List Nat)
def dictW (m : Wm) : List (List Key × V) := m.map fun p => (kN p.1, sV p.2)
theorem dictW_len (m : Wm) : (dictW m).length = m.length := List.length_map _
theorem valW_in : ∀ {m : Wm} {i : Nat} {p : List Nat × List Nat}, (m.map (·.1)).Nodup → m[i]? = some p → valV (dictW m) (kN p.1) = some (sV p.2)
  | x :: m, 0, p, _, h => by
    cases Option.some.inj (show some x = some p from h)
    exact valV_pos rfl
  | x :: m, i + 1, p, nd, h => by
    have h' : m[i]? = some p := h
    obtain ⟨n1, n2⟩ := List.nodup_cons.mp (show (x.1 :: m.map (·.1)).Nodup from nd)
    show valV ((kN x.1, sV x.2) :: dictW m) (kN p.1) = _
    rw [valV_neg (fun z => n1 (by rw [kN_inj z]; exact List.mem_map_of_mem (List.mem_of_getElem? h')))]
    exact valW_in n2 h'
  | [], _, _, _, h => by simp at h
theorem valW_out {m : Wm} {r : List Nat} (h : r ∉ m.map (·.1)) : valV (dictW m) (kN r) = none := by
  induction m with
  | nil => rfl
  | cons x m ih =>
    have h2 : r ∉ x.1 :: m.map (·.1) := h
    show valV ((kN x.1, sV x.2) :: dictW m) (kN r) = _
    rw [valV_neg (fun z => h2 (by rw [← kN_inj z]; exact List.mem_cons_self))]
    exact ih fun z => h2 (List.mem_cons_of_mem _ z)
theorem putW {m : Wm} {r z : List Nat} (h : r ∉ m.map (·.1)) : putK (dictW m) (kN r) (sV z) = dictW (m ++ [(r, z)]) := by
  rw [putK_new _ (valW_out h)]
  unfold dictW
  rw [List.map_append]
  rfl
/-- {t: v}, one key, a row -/
def tDispV (tk tv : TE) : TE := fun σ H Q => ∀ p, H p = none → tk σ (upd H p (.dT [])) fun x H1 => tv σ H1 fun y H2 => ∃ b r, x = .ref b ∧ H2 b = some (.tup ((r : List Nat).map iV)) ∧ H2 p = some (.dT []) ∧ Q (.ref p) (upd H2 p (.dT [(kN r, y)]))
section
variable {X : Cx} {K : PySem.W.Frag} {σ : L2.St} {H : Hp} {Q : VK} {tk tv : TE}
theorem pe_dispV {k v : Expr} {pos : Pos} (hu : X.A.units + 1 < cLine) (hk : PE X k tk) (hv : PE X v tv) : PE X (.Dict [some k] [v] pos) (tDispV tk tv) := by
  constructor
  intro pins s σ H Q I q
  have hn := I.hok.fresh (Nat.le_refl s.heap.objs.size)
  have I1 := I.laid (a := s.heap.objs.size) (o := .dT []) (h' := s.heap.push { cls := .type "dict", data := .dict #[] }) (t' := s.toks) (fun _ _ e => Heap.get?_push_of_some _ e) (Nat.le_refl _) (dt_empty s.heap I.big)
  rw [arm_eval_Dict, zip_pairTrees [some k] [v] X.env pos rfl rfl, dictDisplay_pairs (pairTrees [some k] [v] X.env pos) (by simp [pairTrees]) (by simp [pairTrees])]
  refine wpAny_bind (wpAny_standAt (wpAny_bind ?_))
  refine wpAny_subDictH (knd := tupleKind (mixKind X.prog X.w)) (Q := fun d s' => wpAny (model X.prog X.w) X.A (pure (Value.ref d)) (EP X pins σ Q) X.xe s') (show X.A.units < cLine by omega) (by simp [pairTrees]) ?_
  refine pairTrees_cons_walk (thn (hk.run pins _ σ _ _ I1 (q _ hn)) fun u s1 ⟨x, H1, I2, rx, q1⟩ => thn (hv.run pins s1 σ H1 _ I2 q1) fun w2 s2 ⟨y, H2, I3, ry, b, r, ex, hb, hp, q2⟩ => pairTrees_nil_walk ?_)
  subst ex
  cases rx
  rw [← kN_row] at hb
  obtain ⟨z, hd, xs, rel, dd⟩ := dt_of I3.hok hp
  cases rel
  refine ⟨[(kN r, b, w2)], ⟨rfl, rfl, key_of I3.hok hb, trivial⟩, dd, fun h' tk dd' hs => wpAny_pure ?_⟩
  obtain ⟨ob, es, ep, hq, h2, h3, h4, _, h5⟩ := dd'
  have I4 := d_write (t' := tk) (ob := .dT [(kN r, y)]) I3 (by rw [hp]; exact True.intro) hs ⟨ob, hq⟩ ⟨by show 1 ≤ sizeLine; decide, hd, [(kN r, b, w2)], .cons ⟨rfl, by rw [upd_ne (ne_of hb hp (fun z => nomatch z))]; exact hb, ry⟩ .nil, ob, es, ep, hq, h2, h3, h4, h5⟩
  exact ⟨.ref _, _, I4, rfl, q2⟩
theorem r_dispV (h : ∀ p, H p = none → tk σ (upd H p (.dT [])) fun x H1 => tv σ H1 fun y H2 => ∃ b r, x = .ref b ∧ H2 b = some (.tup ((r : List Nat).map iV)) ∧ H2 p = some (.dT []) ∧ Q (.ref p) (upd H2 p (.dT [(kN r, y)]))) : tDispV tk tv σ H Q := h
open Classical in
theorem dnw_at {d b : Addr} {m : Wm} {r : List Nat} (h : H d = some (.dT (dictW m))) (hb : H b = some (.tup (r.map iV))) (nd : (m.map (·.1)).Nodup) : ∃ o, DGet H d (.ref b) o ∧ (!o.isSome) = decide (r ∉ m.map (·.1)) := by
  rw [← kN_row] at hb
  refine ⟨_, DGet.t h hb, ?_⟩
  by_cases e : r ∈ m.map (·.1)
  · obtain ⟨i, hi⟩ := List.mem_iff_getElem?.mp e
    rw [List.getElem?_map] at hi
    obtain ⟨p, hp, rfl⟩ := Option.map_eq_some_iff.mp hi
    rw [valW_in nd hp, decide_eq_false (fun z => z e)]
    rfl
  · rw [valW_out e, decide_eq_true e]
    rfl
theorem r_dputW {D : Ends} {d b : Addr} {m : Wm} {r z : List Nat} (h : H d = some (.dT (dictW m))) (hb : H b = some (.tup (r.map iV))) (hr : r ∉ m.map (·.1)) (hl : m.length < sizeLine) (q : D.nx σ (upd H d (.dT (dictW (m ++ [(r, z)]))))) :
    ∃ a H4, V.ref d = .ref a ∧ DPut H a (.ref b) (sV z) H4 ∧ D.nx σ H4 := by
  rw [← kN_row] at hb
  refine ⟨d, _, rfl, DPut.t h hb (by rw [dictW_len]; exact hl), ?_⟩
  rw [putW hr]
  exact q
theorem r_dg {td ty : TE} (h : td σ H fun x H1 => ty σ H1 fun y H2 => ∃ a v, x = .ref a ∧ DGet H2 a y (some v) ∧ Q v H2) : tDGet td ty σ H Q := h
theorem r_dgetW {d b : Addr} {m : Wm} {i : Nat} {p : List Nat × List Nat} (h : H d = some (.dT (dictW m))) (hb : H b = some (.tup (p.1.map iV))) (nd : (m.map (·.1)).Nodup) (hi : m[i]? = some p) (q : Q (sV p.2) H) :
    ∃ a v, V.ref d = .ref a ∧ DGet H a (.ref b) (some v) ∧ Q v H := by
  rw [← kN_row] at hb
  refine ⟨d, _, rfl, ?_, q⟩
  have g := DGet.t h hb
  rw [valW_in nd hi] at g
  exact g
theorem r_dg1 {td ty : TE} (h : td σ H fun x H1 => ∃ a, x = .ref a ∧ IsD H1 a ∧ ty σ H1 fun y H2 => ∃ o, DGet H2 a y o ∧ Q (o.getD .non) H2) : tDGet1 td ty σ H Q := h
theorem dget1_at {d b : Addr} {m : Wm} {r : List Nat} (h : H d = some (.dT (dictW m))) (hb : H b = some (.tup (r.map iV))) (nd : (m.map (·.1)).Nodup) :
    ∃ o, DGet H d (.ref b) o ∧ ((∃ (i : Nat) (p : List Nat × List Nat), m[i]? = some p ∧ p.1 = r ∧ o = some (sV p.2)) ∨ (r ∉ m.map (·.1) ∧ o = none)) := by
  rw [← kN_row] at hb
  refine ⟨_, DGet.t h hb, ?_⟩
  by_cases e : r ∈ m.map (·.1)
  · obtain ⟨i, hi⟩ := List.mem_iff_getElem?.mp e
    rw [List.getElem?_map] at hi
    obtain ⟨p, hp, rfl⟩ := Option.map_eq_some_iff.mp hi
    exact .inl ⟨i, p, hp, rfl, valW_in nd hp⟩
  · exact .inr ⟨e, valW_out e⟩
theorem dgetW_at {d b : Addr} {m : Wm} {i : Nat} {p : List Nat × List Nat} (h : H d = some (.dT (dictW m))) (hb : H b = some (.tup (p.1.map iV))) (nd : (m.map (·.1)).Nodup) (hi : m[i]? = some p) : DGet H d (.ref b) (some (sV p.2)) := by
  rw [← kN_row] at hb
  have g := DGet.t h hb
  rw [valW_in nd hi] at g
  exact g
theorem abcd_at {k j c : Nat} (h4 : k ≤ 4) (h : (abcdG k)[j]? = some c) : c = 97 + j := by
  unfold abcdG at h
  rw [List.getElem?_take] at h
  split at h
  · match j, h with
    | 0, h => cases Option.some.inj h; rfl
    | 1, h => cases Option.some.inj h; rfl
    | 2, h => cases Option.some.inj h; rfl
    | 3, h => cases Option.some.inj h; rfl
    | n + 4, h => simp at h
  · exact nomatch h
theorem keys_rowsW {H : Hp} : ∀ (m : Wm) (bs : List Addr), IsKeys H (dictW m) bs → ∃ ps : List (Addr × List Nat), ps.map (·.2) = m.map (·.1) ∧ TupR H ps ∧ bs.map V.ref = refsV ps
  | [], _, h => by
    cases (show Paired _ _ _ from h)
    exact ⟨[], rfl, (fun p hp => nomatch hp), rfl⟩
  | x :: m, _, h => by
    cases (show Paired _ _ _ from h) with
    | @cons _ b _ bs h1 h2 =>
      obtain ⟨ps, e1, e2, e3⟩ := keys_rowsW m bs h2
      have hb : H b = some (.tup ((kN x.1).map kV)) := h1
      rw [kN_row] at hb
      refine ⟨(b, x.1) :: ps, by rw [List.map_cons, List.map_cons, e1], fun p hp => ?_, ?_⟩
      · rcases List.mem_cons.mp hp with rfl | hp
        · exact hb
        · exact e2 p hp
      · rw [List.map_cons, e3]
        rfl
def rListW : List V → Hp → VK → Prop := fun xs H Q => ∃ (d : Addr) (m : Wm), xs = [V.ref d] ∧ Rd H d (.dT (dictW m)) ∧
  ∀ (p : Addr) (ps : List (Addr × List Nat)), H p = none → ps.map (·.2) = m.map (·.1) → TupR H ps → Q (.ref p) (upd H p (.lst (refsV ps)))
theorem call_listW (hc : X.calm = true) : CallR X (.type "list") rListW := by
  rintro pins s σ H xs us Q I rs ⟨d, m, rfl, hd, key⟩
  refine call_list_dT hc pins s σ H _ us Q I rs ⟨d, _, rfl, hd, fun p bs hp hk => ?_⟩
  obtain ⟨ps, e1, e2, e3⟩ := keys_rowsW m bs hk
  rw [e3]
  exact key p ps hp e1 e2
theorem r_lenW {d : Addr} {m : Wm} (h : H d = some (.dT (dictW m))) (q : Q (.int (m.length : Nat)) H) : rLenT [.ref d] H Q := by
  refine ⟨d, dictW m, rfl, h, ?_⟩
  rw [dictW_len]
  exact q
end
theorem at_abcd {c : Nat} (h : c < 4) : atI (Str.ofString "abcd").cps.toList (c : Int) = some (97 + c) := by
  match c, h with
  | 0, _ => decide +kernel
  | 1, _ => decide +kernel
  | 2, _ => decide +kernel
  | 3, _ => decide +kernel
end G
set_option Elab.async false
set_option linter.all false
set_option maxRecDepth 100000
set_option maxHeartbeats 4000000
namespace G
theorem nodup_le_len {α : Type} [BEq α] [LawfulBEq α] : ∀ {a b : List α}, a.Nodup → (∀ x ∈ a, x ∈ b) → a.length ≤ b.length
  | [], _, _, _ => Nat.zero_le _
  | x :: a, b, nd, h => by
    have hx := h x List.mem_cons_self
    obtain ⟨n1, n2⟩ := List.nodup_cons.mp nd
    have ih := nodup_le_len (b := b.erase x) n2 fun y hy => (List.mem_erase_of_ne (fun e => n1 (by rw [← e]; exact hy))).mpr (h y (List.mem_cons_of_mem _ hy))
    rw [List.length_erase_of_mem hx] at ih
    have : 0 < b.length := List.length_pos_of_mem hx
    rw [List.length_cons]
    omega
/-! ### what words lead to, found in their order -/
abbrev Stp := List Nat → Nat → Option (List Nat)
/-- one letter more of the word of x -/
def ext1 (stp : Stp) (m : Wm) (x : List Nat × List Nat) (c : Nat) : Wm := match stp x.1 c with
  | none => m
  | some r => if r ∈ m.map (·.1) then m else m ++ [(r, x.2 ++ [97 + c])]
def extT (stp : Stp) (x : List Nat × List Nat) (m : Wm) (j : Nat) : Wm := (List.range j).foldl (fun m c => ext1 stp m x c) m
theorem extT_zero (stp : Stp) (x : List Nat × List Nat) (m : Wm) : extT stp x m 0 = m := rfl
theorem extT_succ (stp : Stp) (x : List Nat × List Nat) (m : Wm) (j : Nat) : extT stp x m (j + 1) = ext1 stp (extT stp x m j) x j := by
  unfold extT
  rw [List.range_succ, List.foldl_append]
  rfl
def bfs (stp : Stp) (k : Nat) (o : List Nat) : Nat → Wm
  | 0 => [(o, [])]
  | i + 1 => match (bfs stp k o i)[i]? with
    | none => bfs stp k o i
    | some x => extT stp x (bfs stp k o i) k
section
variable {stp : Stp} {k : Nat} {o : List Nat}
theorem ext1_pre (m : Wm) (x : List Nat × List Nat) (c : Nat) : ∃ z, ext1 stp m x c = m ++ z := by
  unfold ext1
  split
  · exact ⟨[], (List.append_nil _).symm⟩
  · split
    · exact ⟨[], (List.append_nil _).symm⟩
    · exact ⟨_, rfl⟩
theorem extT_pre (x : List Nat × List Nat) (m : Wm) : ∀ j, ∃ z, extT stp x m j = m ++ z
  | 0 => ⟨[], (List.append_nil _).symm⟩
  | j + 1 => by
    obtain ⟨z, h⟩ := extT_pre x m j
    obtain ⟨y, h2⟩ := ext1_pre (stp := stp) (extT stp x m j) x j
    exact ⟨z ++ y, by rw [extT_succ, h2, h, List.append_assoc]⟩
theorem bfs_succ {i : Nat} {x : List Nat × List Nat} (h : (bfs stp k o i)[i]? = some x) : bfs stp k o (i + 1) = extT stp x (bfs stp k o i) k := by
  show (match (bfs stp k o i)[i]? with | none => bfs stp k o i | some x => extT stp x (bfs stp k o i) k) = _
  rw [h]
theorem bfs_stop {i : Nat} (h : (bfs stp k o i).length ≤ i) : bfs stp k o (i + 1) = bfs stp k o i := by
  show (match (bfs stp k o i)[i]? with | none => bfs stp k o i | some x => extT stp x (bfs stp k o i) k) = _
  rw [List.getElem?_eq_none h]
theorem bfs_pre1 (i : Nat) : ∃ z, bfs stp k o (i + 1) = bfs stp k o i ++ z := by
  cases h : (bfs stp k o i)[i]? with
  | none => exact ⟨[], by rw [bfs_stop (List.getElem?_eq_none_iff.mp h), List.append_nil]⟩
  | some x =>
    rw [bfs_succ h]
    exact extT_pre x _ k
theorem bfs_pre (i : Nat) : ∀ d, ∃ z, bfs stp k o (i + d) = bfs stp k o i ++ z
  | 0 => ⟨[], (List.append_nil _).symm⟩
  | d + 1 => by
    obtain ⟨z, h⟩ := bfs_pre i d
    obtain ⟨y, h2⟩ := bfs_pre1 (stp := stp) (k := k) (o := o) (i + d)
    exact ⟨z ++ y, by rw [← Nat.add_assoc, h2, h, List.append_assoc]⟩
theorem bfs_at {i j l : Nat} {p : List Nat × List Nat} (h : (bfs stp k o i)[l]? = some p) (hij : i ≤ j) : (bfs stp k o j)[l]? = some p := by
  obtain ⟨z, e⟩ := bfs_pre (stp := stp) (k := k) (o := o) i (j - i)
  rw [show i + (j - i) = j by omega] at e
  rw [e, List.getElem?_append_left (List.getElem?_eq_some_iff.mp h).1]
  exact h
theorem bfs_stops {i : Nat} (h : (bfs stp k o i).length ≤ i) : ∀ d, bfs stp k o (i + d) = bfs stp k o i
  | 0 => rfl
  | d + 1 => by
    have e := bfs_stops h d
    rw [← Nat.add_assoc, bfs_stop (by rw [e]; omega), e]
/-- two searches that have ended found the same -/
theorem bfs_same {i j : Nat} (h1 : (bfs stp k o i).length ≤ i) (h2 : (bfs stp k o j).length ≤ j) : bfs stp k o i = bfs stp k o j := by
  rcases Nat.le_total i j with h | h
  · have := bfs_stops h1 (j - i)
    rw [show i + (j - i) = j by omega] at this
    exact this.symm
  · have := bfs_stops h2 (i - j)
    rw [show j + (i - j) = i by omega] at this
    exact this
/-! what holds of all entries -/
theorem ext1_all {P : List Nat × List Nat → Prop} {m : Wm} {x : List Nat × List Nat} {c : Nat} (hm : ∀ p ∈ m, P p) (hs : ∀ r, stp x.1 c = some r → P (r, x.2 ++ [97 + c])) : ∀ p ∈ ext1 stp m x c, P p := by
  unfold ext1
  split
  · exact hm
  · rename_i r e
    split
    · exact hm
    · intro p hp
      rcases List.mem_append.mp hp with h | h
      · exact hm p h
      · rw [List.mem_singleton.mp h]
        exact hs r e
theorem ext1_nd {m : Wm} {x : List Nat × List Nat} {c : Nat} (h : (m.map (·.1)).Nodup) : ((ext1 stp m x c).map (·.1)).Nodup := by
  unfold ext1
  split
  · exact h
  · split
    · exact h
    · rename_i r _ hn
      rw [List.map_append]
      refine List.nodup_append.mpr ⟨h, by simp, fun a ha b hb e => ?_⟩
      have hb' : b = r := by simpa using hb
      subst e hb'
      exact hn ha
theorem extT_nd {m : Wm} {x : List Nat × List Nat} (h : (m.map (·.1)).Nodup) : ∀ j, ((extT stp x m j).map (·.1)).Nodup
  | 0 => h
  | j + 1 => by
    rw [extT_succ]
    exact ext1_nd (extT_nd h j)
theorem bfs_nd : ∀ i, ((bfs stp k o i).map (·.1)).Nodup
  | 0 => by simp [bfs]
  | i + 1 => by
    cases h : (bfs stp k o i)[i]? with
    | none =>
      rw [bfs_stop (List.getElem?_eq_none_iff.mp h)]
      exact bfs_nd i
    | some x =>
      rw [bfs_succ h]
      exact extT_nd (bfs_nd i) k
theorem extT_all {P : List Nat × List Nat → Prop} {m : Wm} {x : List Nat × List Nat} (hm : ∀ p ∈ m, P p) (n : Nat) (hs : ∀ c r, c < n → stp x.1 c = some r → P (r, x.2 ++ [97 + c])) : ∀ j, j ≤ n → ∀ p ∈ extT stp x m j, P p
  | 0, _ => hm
  | j + 1, hj => by
    rw [extT_succ]
    exact ext1_all (extT_all hm n hs j (by omega)) fun r e => hs j r (by omega) e
theorem bfs_all {P : List Nat × List Nat → Prop} (h0 : P (o, [])) (hs : ∀ x c r, P x → c < k → stp x.1 c = some r → P (r, x.2 ++ [97 + c])) : ∀ i, ∀ p ∈ bfs stp k o i, P p
  | 0 => fun p hp => by rw [List.mem_singleton.mp hp]; exact h0
  | i + 1 => by
    cases h : (bfs stp k o i)[i]? with
    | none =>
      rw [bfs_stop (List.getElem?_eq_none_iff.mp h)]
      exact bfs_all h0 hs i
    | some x =>
      rw [bfs_succ h]
      have hx := bfs_all h0 hs i x (List.mem_of_getElem? h)
      exact extT_all (bfs_all h0 hs i) k (fun c r hc e => hs x c r hx hc e) k (Nat.le_refl _)
/-- all that is found lies in L: the search is as long at most -/
theorem bfs_len {L : List (List Nat)} (h0 : o ∈ L) (hs : ∀ r ∈ L, ∀ c r', c < k → stp r c = some r' → r' ∈ L) (i : Nat) : (bfs stp k o i).length ≤ L.length := by
  have hall := bfs_all (stp := stp) (k := k) (o := o) (P := fun p => p.1 ∈ L) h0 (fun x c r hx hc e => hs x.1 hx c r hc e) i
  have := nodup_le_len (bfs_nd (stp := stp) (k := k) (o := o) i) (fun a ha => by
    obtain ⟨p, hp, rfl⟩ := List.mem_map.mp ha
    exact hall p hp)
  rw [List.length_map] at this
  exact this
theorem extT_len {L : List (List Nat)} {m : Wm} {x : List Nat × List Nat} (hm : ∀ p ∈ m, p.1 ∈ L) (nd : (m.map (·.1)).Nodup) (hs : ∀ c r', c < k → stp x.1 c = some r' → r' ∈ L) {j : Nat} (hj : j ≤ k) : (extT stp x m j).length ≤ L.length := by
  have hall := extT_all (stp := stp) (P := fun p => p.1 ∈ L) hm k (fun c r hc e => hs c r hc e) j hj
  have := nodup_le_len (extT_nd (stp := stp) (x := x) nd j) (fun a ha => by
    obtain ⟨p, hp, rfl⟩ := List.mem_map.mp ha
    exact hall p hp)
  rw [List.length_map] at this
  exact this
/-- where a word leads -/
def walkO (stp : Stp) (o : List Nat) (w : List Nat) : Option (List Nat) := w.foldl (fun r c => r.bind fun r => stp r (c - 97)) (some o)
theorem walkO_snoc (w : List Nat) (c : Nat) : walkO stp o (w ++ [c]) = (walkO stp o w).bind fun r => stp r (c - 97) := by
  unfold walkO
  rw [List.foldl_append]
  rfl
theorem bfs_word (i : Nat) : ∀ p ∈ bfs stp k o i, walkO stp o p.2 = some p.1 ∧ ∀ c ∈ p.2, 97 ≤ c ∧ c < 97 + k :=
  bfs_all (P := fun p => walkO stp o p.2 = some p.1 ∧ ∀ c ∈ p.2, 97 ≤ c ∧ c < 97 + k) ⟨rfl, fun c hc => nomatch hc⟩ (fun x c r hx hc e => ⟨by
    show walkO stp o (x.2 ++ [97 + c]) = some r
    rw [walkO_snoc, hx.1]
    show stp x.1 (97 + c - 97) = some r
    rw [Nat.add_sub_cancel_left]
    exact e, fun d hd => by
    rcases List.mem_append.mp hd with h | h
    · exact hx.2 d h
    · rw [List.mem_singleton.mp h]
      omega⟩) i
/-- the lengths of the words -/
theorem bfs_wlen (i : Nat) : ∀ (j : Nat) (p : List Nat × List Nat), (bfs stp k o i)[j]? = some p → p.2.length ≤ j := by
  have ext : ∀ (x : List Nat × List Nat) (m : Wm), (∀ (j : Nat) (p : List Nat × List Nat), m[j]? = some p → p.2.length ≤ j) → x.2.length < m.length → ∀ n, ∀ (j : Nat) (p : List Nat × List Nat), (extT stp x m n)[j]? = some p → p.2.length ≤ j := by
    intro x m hm hx n
    induction n with
    | zero => exact hm
    | succ n ih =>
      intro j p hp
      rw [extT_succ] at hp
      obtain ⟨z0, e0⟩ := extT_pre (stp := stp) x m n
      unfold ext1 at hp
      split at hp
      · exact ih j p hp
      · split at hp
        · exact ih j p hp
        · by_cases hj : j < (extT stp x m n).length
          · rw [List.getElem?_append_left hj] at hp
            exact ih j p hp
          · rw [List.getElem?_append_right (by omega)] at hp
            have hj0 : j - (extT stp x m n).length = 0 := by
              have := (List.getElem?_eq_some_iff.mp hp).1
              have h1 : [(‹List Nat›, x.2 ++ [97 + n])].length = 1 := rfl
              simp at this
              omega
            rw [hj0] at hp
            rw [← Option.some.inj hp]
            show (x.2 ++ [97 + n]).length ≤ j
            rw [List.length_append]
            have : (extT stp x m n).length ≥ m.length := by rw [e0, List.length_append]; omega
            show x.2.length + 1 ≤ j
            omega
  induction i with
  | zero =>
    intro j p hp
    match j, hp with
    | 0, hp => rw [← Option.some.inj hp]; exact Nat.le_refl 0
    | j + 1, hp => simp [bfs] at hp
  | succ i ih =>
    cases h : (bfs stp k o i)[i]? with
    | none =>
      rw [bfs_stop (List.getElem?_eq_none_iff.mp h)]
      exact ih
    | some x =>
      rw [bfs_succ h]
      exact ext x _ ih (Nat.lt_of_le_of_lt (ih i x h) (List.getElem?_eq_some_iff.mp h).1) k
end
/-! all lots of n states -/
def subsN : Nat → List (List Nat)
  | 0 => [[]]
  | n + 1 => subsN n ++ (subsN n).map fun l => l ++ [n]
theorem subsN_len : ∀ n, (subsN n).length = 2 ^ n
  | 0 => rfl
  | n + 1 => by
    unfold subsN
    rw [List.length_append, List.length_map, subsN_len n, Nat.pow_succ]
    omega
theorem nodup_at {α : Type} {l : List α} {x : α} {i j : Nat} (nd : l.Nodup) (h1 : l[i]? = some x) (h2 : l[j]? = some x) : i = j := by
  obtain ⟨a1, b1⟩ := List.getElem?_eq_some_iff.mp h1
  obtain ⟨a2, b2⟩ := List.getElem?_eq_some_iff.mp h2
  rcases Nat.lt_trichotomy i j with h | h | h
  · exact absurd (b1.trans b2.symm) (List.pairwise_iff_getElem.mp nd i j a1 a2 h)
  · exact h
  · exact absurd (b2.trans b1.symm) (List.pairwise_iff_getElem.mp nd j i a2 a1 h)
/-- a key has one word -/
theorem key_word {m : Wm} {i j : Nat} {p q : List Nat × List Nat} (nd : (m.map (·.1)).Nodup) (h1 : m[i]? = some p) (h2 : m[j]? = some q) (e : p.1 = q.1) : p = q := by
  have z1 : (m.map (·.1))[i]? = some p.1 := by rw [List.getElem?_map, h1]; rfl
  have z2 : (m.map (·.1))[j]? = some p.1 := by rw [List.getElem?_map, h2, e]; rfl
  have := nodup_at nd z1 z2
  subst this
  rw [h1] at h2
  exact Option.some.inj h2
theorem key_mem {m : Wm} {i : Nat} {p : List Nat × List Nat} (h : m[i]? = some p) : p.1 ∈ m.map (·.1) := List.mem_map_of_mem (List.mem_of_getElem? h)
end G
set_option Elab.async false
set_option linter.all false
set_option maxRecDepth 100000
set_option maxHeartbeats 4000000
namespace G
open PySem PySem.Spec PyProof.Rows L2
/-! a tuple that is known to be plain: methods may be asked of it -/
def PlT (H : Hp) (p : Addr) (xs : List V) : Prop := ∃ ob : Obj, H p = some (.frz ob (.tup xs)) ∧ ob.cls = .type "tuple" ∧ ob.dict = none
theorem PlT.k {H H' : Hp} {p : Addr} {xs : List V} (h : PlT H p xs) (e : Same H H') : PlT H' p xs := by
  obtain ⟨ob, h1, h2⟩ := h
  exact ⟨ob, e _ _ h1, h2⟩
theorem PlT.sq {K : PySem.W.Frag} {H : Hp} {p : Addr} {xs : List V} (h : PlT H p xs) : SqT K H p xs := by
  obtain ⟨ob, h1, _⟩ := h
  exact .inl (.inr ⟨ob, h1⟩)
def rTupZ (K : PySem.W.Frag) : List V → Hp → VK → Prop := fun xs H Q => ∃ p ys, xs = [.ref p] ∧ SqL K H p ys ∧ ∀ l G, Same H G → PlT G l ys → Q (.ref l) G
def tBMZ (r : V → List V → Hp → VK → Prop) (to : TE) (t : TA) : TE := fun σ H Q => to σ H fun x H1 => (∃ p xs, x = .ref p ∧ PlT H1 p xs) ∧ t σ H1 fun xs H2 => r x xs H2 Q
section
variable {X : Cx} {K : PySem.W.Frag}
theorem call_tupZ (hK : X.K = K) : CallR X (.type "tuple") (rTupZ K) := by
  subst hK
  rintro pins s σ H xs us Q I rs ⟨p, ys, rfl, hs, key⟩
  obtain ⟨u, rfl, rx⟩ := vals1 rs
  cases rx
  obtain ⟨its, rv, pl, hz⟩ := I.list hs
  have hsz : its.length = ys.length := rv.length.symm
  refine call_tuple_list pl.isList (fun g kp => ?_) (by rw [List.size_toArray, hsz]; omega)
  have I1 : Inv X pins σ H { s with heap := g } := I.kept (t' := s.toks) kp
  have hfree := I1.hok.fresh (Nat.le_refl g.objs.size)
  have gnew : (g.push { cls := .type "tuple", data := .seq its.toArray }).get? g.objs.size = some { cls := .type "tuple", data := .seq its.toArray } := Heap.get?_push_size _ rfl
  refine ⟨.ref g.objs.size, upd H g.objs.size (.frz { cls := .type "tuple", data := .seq its.toArray } (.tup ys)), ?_, rfl, key _ _ (same_new hfree) ⟨_, upd_same, rfl, rfl⟩⟩
  exact I1.laid (t' := s.toks) (fun b o e => Heap.get?_push_of_some _ e) (Nat.le_refl _) ⟨gnew, hz, its, rv, IsTup.new _ _⟩
variable {o e : Expr} {es : List Expr} {to : TE} {t : TA} {name : Str} {apos cpos : Pos} {id : String} {r : V → List V → Hp → VK → Prop}
theorem pe_bmZ (pa : PlainAttrs "tuple") (slot : Slot "tuple" name id) (hty : typeOf (.builtin id) = pure (.type "method_descriptor")) (hm : MtR X id r) (ho : PE X o to) (ha : PA X (e :: es) t)
    (h1 : attributeBase o name X.env (eval o X.env) = eval o X.env := by rfl)
    (h2 : ((backTo cpos (starEach (e :: es) X.env)).all (fun x => !x.1) && (backToKw cpos (keywordEach [] X.env)).all (fun x => x.1.isSome) && decide ((e :: es).length + ([] : List Keyword).length + (if ([] : List Keyword).isEmpty then 0 else 1) < 30)) = true := by rfl)
    (h3 : (apos.endLine == cpos.line) = true := by rfl) (h4 : starEach (e :: es) X.env = (false, eval e X.env) :: starEach es X.env := by rfl) (h5 : (backTo cpos (starEach es X.env)).any (·.1) = false := by rfl) :
    PE X (.Call (.Attribute o name apos) (e :: es) [] cpos) (tBMZ r to t) := by
  constructor
  intro pins s σ H Q I h
  refine wpAny_Call_method_late h1 h2 h3 rfl (thn (ho.run pins s σ H _ I h) fun v s1 ⟨x, H1, I1, r1, hx, q1⟩ => ?_)
  obtain ⟨p, ys, rfl, ob, hp, hc, hd⟩ := hx
  cases r1
  have hg : s1.heap.get? p = some ob := (I1.hok p _ hp).1
  have hA := ha.run cpos pins s1 σ H1 _ I1 q1
  refine ⟨"tuple", id, pa, slot, hty, ⟨ob, hg, hc⟩, fun a e => by cases e; exact ⟨ob, hg, hd⟩, ?_⟩
  rw [h4] at hA ⊢
  exact Calls.callWith_builtin (by show (false || (backTo cpos (starEach es X.env)).any (·.1)) = false; rw [h5] <;> rfl)
    (Calls.evalArgs_plain (thn hA fun us s2 ⟨vs, H2, I2, r2, q2⟩ => hm pins s2 σ H2 (.ref p) vs _ us Q I2 rfl r2 q2))
theorem r_tupZ {H : Hp} {Q : VK} {p : Addr} {ys : List V} (h : SqL K H p ys) (q : ∀ l G, Same H G → PlT G l ys → Q (.ref l) G) : rTupZ K [.ref p] H Q := ⟨p, ys, rfl, h, q⟩
theorem r_bmZ {σ : L2.St} {H : Hp} {Q : VK} {to : TE} {t : TA} {r : V → List V → Hp → VK → Prop} (h : to σ H fun x H1 => (∃ p xs, x = .ref p ∧ PlT H1 p xs) ∧ t σ H1 fun xs H2 => r x xs H2 Q) : tBMZ r to t σ H Q := h
end
end G
set_option Elab.async false
set_option linter.all false
set_option maxRecDepth 100000
set_option maxHeartbeats 4000000
namespace G
open PySem PySem.Spec PyProof.Rows L2
/-! ### permutations turned by permutations -/
theorem perm_has {n j : Nat} {p : List Nat} (h : Perm n p) (hj : j < n) : ∃ i, i < n ∧ at0 p i = j := by
  have hm : j ∈ p := by
    by_cases hm : j ∈ p
    · exact hm
    · have := nodup_le (ks := j :: p) (ns := List.range n) (List.nodup_cons.mpr ⟨hm, h.nd⟩) (fun k hk => by
        rcases List.mem_cons.mp hk with rfl | hk
        · exact List.mem_range.mpr hj
        · exact List.mem_range.mpr (h.lt k hk))
      rw [List.length_cons, h.len, List.length_range] at this
      omega
  obtain ⟨i, hi⟩ := List.mem_iff_getElem?.mp hm
  have hl := (List.getElem?_eq_some_iff.mp hi).1
  rw [h.len] at hl
  refine ⟨i, hl, ?_⟩
  rw [at0_some (by rw [h.len]; exact hl)] at hi
  exact Option.some.inj hi
theorem permC_of {n : Nat} {c : List Nat} (hl : c.length = n) (hlt : ∀ i, i < n → at0 c i < n) (hi : ∀ i j, i < n → j < n → at0 c i = at0 c j → i = j) : Perm n c := by
  refine ⟨hl, fun x hx => ?_, ?_⟩
  · obtain ⟨i, h⟩ := List.mem_iff_getElem?.mp hx
    have h1 := (List.getElem?_eq_some_iff.mp h).1
    rw [at0_some h1] at h
    rw [← Option.some.inj h]
    exact hlt i (by omega)
  · refine List.pairwise_iff_getElem.mpr fun i j h1 h2 hij e => ?_
    have e1 := at0_some h1
    have e2 := at0_some h2
    rw [List.getElem?_eq_getElem h1] at e1
    rw [List.getElem?_eq_getElem h2] at e2
    have := hi i j (by omega) (by omega) (by rw [← Option.some.inj e1, ← Option.some.inj e2]; exact e)
    omega
def isConj (n : Nat) (g e c : List Nat) : Prop := c.length = n ∧ ∀ p, p < n → at0 c (at0 g p) = at0 g (at0 e p)
theorem conj_uniq {n : Nat} {g e c d : List Nat} (hg : Perm n g) (h1 : isConj n g e c) (h2 : isConj n g e d) : c = d := by
  refine List.ext_getElem? fun i => ?_
  by_cases hi : i < n
  · obtain ⟨p, hp, rfl⟩ := perm_has hg hi
    rw [at0_some (by rw [h1.1]; exact hi), at0_some (by rw [h2.1]; exact hi), h1.2 p hp, h2.2 p hp]
  · rw [List.getElem?_eq_none (by rw [h1.1]; omega), List.getElem?_eq_none (by rw [h2.1]; omega)]
theorem conj_perm {n : Nat} {g e c : List Nat} (hg : Perm n g) (he : Perm n e) (h : isConj n g e c) : Perm n c := by
  refine permC_of h.1 (fun i hi => ?_) (fun i j hi hj q => ?_)
  · obtain ⟨p, hp, rfl⟩ := perm_has hg hi
    rw [h.2 p hp]
    exact hg.at_lt (he.at_lt hp)
  · obtain ⟨p, hp, rfl⟩ := perm_has hg hi
    obtain ⟨p2, hp2, rfl⟩ := perm_has hg hj
    rw [h.2 p hp, h.2 p2 hp2] at q
    rw [he.inj hp hp2 (hg.inj (he.at_lt hp) (he.at_lt hp2) q)]
theorem then_at {p q : List Nat} {i : Nat} (h : i < p.length) : at0 (thenN p q) i = at0 q (at0 p i) := by
  have h1 : (thenN p q)[i]? = some (at0 q (at0 p i)) := by
    unfold thenN
    rw [List.getElem?_map, at0_some h]
    rfl
  rw [at0_some (by unfold thenN; rw [List.length_map]; exact h)] at h1
  exact Option.some.inj h1
theorem then_len (p q : List Nat) : (thenN p q).length = p.length := List.length_map _
theorem conj_back {n : Nat} {g e b : List Nat} (hg : Perm n g) (hl : b.length = n) (hb : ∀ i, i < n → at0 b (at0 g i) = i) : isConj n g e (thenN (thenN b e) g) := by
  refine ⟨by rw [then_len, then_len, hl], fun p hp => ?_⟩
  have h1 : at0 g p < b.length := by rw [hl]; exact hg.at_lt hp
  rw [then_at (by rw [then_len]; exact h1), then_at h1, hb p hp]
def cntN (n : Nat) (p : List Nat) : Nat := ((List.range n).filter fun i => at0 p i == i).length
theorem conj_cnt {n : Nat} {g e c : List Nat} (hg : Perm n g) (he : Perm n e) (h : isConj n g e c) : cntN n c = cntN n e := by
  have mem : ∀ (p : List Nat) (i : Nat), i ∈ (List.range n).filter (fun i => at0 p i == i) ↔ i < n ∧ at0 p i = i := fun p i => by
    rw [List.mem_filter, List.mem_range, beq_iff_eq]
  refine Nat.le_antisymm ?_ ?_
  · have sub : ∀ x ∈ (List.range n).filter (fun i => at0 c i == i), x ∈ ((List.range n).filter fun i => at0 e i == i).map (at0 g) := fun x hx => by
      obtain ⟨h1, h2⟩ := (mem c x).mp hx
      obtain ⟨p, hp, rfl⟩ := perm_has hg h1
      rw [h.2 p hp] at h2
      exact List.mem_map_of_mem ((mem e p).mpr ⟨hp, hg.inj (he.at_lt hp) hp h2⟩)
    have := nodup_le_len (List.Pairwise.filter (fun i => at0 c i == i) (List.nodup_range (n := n))) sub
    rw [List.length_map] at this
    exact this
  · have nd : (((List.range n).filter fun i => at0 e i == i).map (at0 g)).Nodup := by
      unfold List.Nodup
      rw [List.pairwise_map]
      refine List.Pairwise.imp_of_mem ?_ (List.Pairwise.filter (fun i => at0 e i == i) (List.nodup_range (n := n)))
      intro a b ha hb hab q
      exact hab (hg.inj ((mem e a).mp ha).1 ((mem e b).mp hb).1 q)
    have := nodup_le_len nd (b := (List.range n).filter fun i => at0 c i == i) fun x hx => by
      obtain ⟨p, hp, rfl⟩ := List.mem_map.mp hx
      obtain ⟨h1, h2⟩ := (mem e p).mp hp
      exact (mem c _).mpr ⟨hg.at_lt h1, by rw [h.2 p h1, h2]⟩
    rw [List.length_map] at this
    exact this
theorem cnt_few : ∀ n, n < 6 → ∀ f, f < 6 → ((extP n n).filter fun p => cntN n p == f).length < 64 := by decide +kernel
theorem conj_few {n : Nat} {e : List Nat} {rs : List (List Nat)} (n5 : n ≤ 5) (he : Perm n e) (nd : rs.Nodup) (h : ∀ r ∈ rs, ∃ g, Perm n g ∧ isConj n g e r) : rs.length < 64 := by
  have c1 : cntN n e ≤ n := by
    have := List.length_filter_le (fun i => at0 e i == i) (List.range n)
    rw [List.length_range] at this
    exact this
  have h1 := cnt_few n (by omega) (cntN n e) (by omega)
  have h2 := nodup_le_len nd (b := (extP n n).filter fun p => cntN n p == cntN n e) fun r hr => by
    obtain ⟨g, hg, hc⟩ := h r hr
    exact List.mem_filter.mpr ⟨(conj_perm hg he hc).ext, beq_iff_eq.mpr (conj_cnt hg he hc)⟩
  omega
theorem Gen.same {n : Nat} {gs gs' : List (List Nat)} (h : ∀ m ∈ gs, m ∈ gs') {x : List Nat} (g : Gen n gs x) : Gen n gs' x := by
  induction g with
  | one => exact .one
  | step _ hm ih => exact .step ih (h _ hm)
theorem Group.same {n : Nat} {gs gs' rs : List (List Nat)} (h : ∀ m, m ∈ gs ↔ m ∈ gs') (g : Group n gs rs) : Group n gs' rs :=
  ⟨g.nd, fun x => (g.all x).trans ⟨fun z => z.same fun m hm => (h m).mp hm, fun z => z.same fun m hm => (h m).mpr hm⟩⟩
theorem putN_in {rs : List (List Nat)} {r : List Nat} (h : r ∈ rs) : putK (dictN rs) (kN r) (.bl true) = dictN rs := by
  unfold putK
  have ha : ((dictN rs).any fun kv => decide (kv.1 = kN r)) = true := by
    unfold dictN
    exact List.any_eq_true.mpr ⟨_, List.mem_map_of_mem h, decide_eq_true rfl⟩
  rw [if_pos ha]
  unfold dictN
  rw [List.map_map]
  refine List.map_congr_left fun x _ => ?_
  show (if kN x = kN r then (kN x, V.bl true) else (kN x, V.bl true)) = (kN x, V.bl true)
  split <;> rfl
/-- one key more, or the same -/
def addR (rs : List (List Nat)) (r : List Nat) : List (List Nat) := if r ∈ rs then rs else rs ++ [r]
theorem addR_mem {rs : List (List Nat)} {r x : List Nat} : x ∈ addR rs r ↔ x ∈ rs ∨ x = r := by
  unfold addR
  split
  · rename_i h
    exact ⟨.inl, fun z => z.elim id fun e => by rw [e]; exact h⟩
  · rw [List.mem_append, List.mem_singleton]
theorem addR_nd {rs : List (List Nat)} {r : List Nat} (h : rs.Nodup) : (addR rs r).Nodup := by
  unfold addR
  split
  · exact h
  · rename_i hn
    exact List.nodup_append.mpr ⟨h, by simp, fun x hx y hy e => by
      rw [List.mem_singleton.mp hy] at e
      subst e
      exact hn hx⟩
theorem addR_len {rs : List (List Nat)} {r : List Nat} : (addR rs r).length ≤ rs.length + 1 := by
  unfold addR
  split
  · omega
  · rw [List.length_append]
    exact Nat.le_refl _
theorem r_dputA {H : Hp} {D : Ends} {σ : L2.St} {d b : Addr} {rs : List (List Nat)} {r : List Nat} (h : H d = some (.dT (dictN rs))) (hb : H b = some (.tup (r.map iV))) (hl : rs.length < sizeLine) (q : D.nx σ (upd H d (.dT (dictN (addR rs r))))) : ∃ a H4, V.ref d = .ref a ∧ DPut H a (.ref b) (.bl true) H4 ∧ D.nx σ H4 := by
  rw [← kN_row] at hb
  refine ⟨d, _, rfl, DPut.t h hb (by rw [dictN_len]; exact hl), ?_⟩
  unfold addR at q
  by_cases e : r ∈ rs
  · rw [putN_in e]
    rw [if_pos e] at q
    exact q
  · rw [putN e]
    rw [if_neg e] at q
    exact q
end G
set_option Elab.async false
set_option linter.all false
set_option maxRecDepth 100000
set_option maxHeartbeats 4000000
namespace G
open PySem PySem.Spec PyProof.Rows L2
/-! ### a row in a list of rows -/
theorem hu65 {k : Nat} {A : Around} (hr : Room k A) : A.units + 65 < cLine := by
  have := hr.un
  omega
theorem hu64 {k : Nat} {A : Around} (hr : Room k A) : A.units + 64 < cLine := by
  have := hr.un
  omega
theorem any_rows (rs : List (List Nat)) (r : List Nat) : ((rs.map rowD).any fun z => PyData.eqv z (rowD r)) = decide (r ∈ rs) := by
  rw [List.any_map]
  by_cases h : r ∈ rs
  · rw [decide_eq_true h]
    exact List.any_eq_true.mpr ⟨r, h, by show PyData.eqv (rowD r) (rowD r) = true; rw [eqv_rows]; simp⟩
  · rw [decide_eq_false h]
    refine List.any_eq_false.mpr fun y hy e => h ?_
    have e2 : PyData.eqv (rowD y) (rowD r) = true := e
    rw [eqv_rows] at e2
    rw [← of_decide_eq_true e2]
    exact hy
section
variable {X : Cx} {K : PySem.W.Frag} {H : Hp} {Q : VK}
theorem op_inDK (hK : X.K = K) (hu : X.A.units + 65 < cLine) : OpR X (compareOp .In) (rInD K) := hK ▸ op_inD hu
theorem op_notInDK (hK : X.K = K) (hu : X.A.units + 65 < cLine) : OpR X (compareOp .NotIn) (rNotInD K) := hK ▸ op_notInD hu
theorem r_inRow {b p : Addr} {r : List Nat} {qs : List (Addr × List Nat)} (h1 : SqT K H b (r.map iV)) (h2 : SqL K H p (refsV qs)) (hall : ∀ q ∈ qs, SqT K H q.1 (q.2.map iV)) (q : Q (.bl (decide (r ∈ qs.map (·.2)))) H) : rInD K (.ref b) (.ref p) H Q :=
  ⟨rowD r, (qs.map (·.2)).map rowD, (row_of h1).dp, dp_rows h2 hall, shaped_row r, shaped_rows _, by rw [any_rows]; exact q⟩
theorem r_notInRow {b p : Addr} {r : List Nat} {qs : List (Addr × List Nat)} (h1 : SqT K H b (r.map iV)) (h2 : SqL K H p (refsV qs)) (hall : ∀ q ∈ qs, SqT K H q.1 (q.2.map iV)) (q : Q (.bl (!decide (r ∈ qs.map (·.2)))) H) : rNotInD K (.ref b) (.ref p) H Q :=
  ⟨rowD r, (qs.map (·.2)).map rowD, (row_of h1).dp, dp_rows h2 hall, shaped_row r, shaped_rows _, by rw [any_rows]; exact q⟩
end
end G
set_option Elab.async false
set_option linter.all false
set_option maxRecDepth 100000
set_option maxHeartbeats 2000000
namespace G
open PySem PySem.Spec PyProof.Rows L2 LamX NdefX
/-! ### lambdas with parameters, handed on: F their words (its body is of no account), e their expression -/
abbrev lamFd (F : NF) (e : Expr) (pm ctv : Value) : FuncData :=
  PySem.W.kla_fn "<lambda>" F.qual F.params e F.scope F.cl pm (.ref F.c) ctv
def LamO (f : Addr) (F : NF) (e : Expr) : HO := .ext fun h => ∃ (od : Option Addr) (sl : Array (Option Value)) (pm ctv : Value),
  h.get? f = some (⟨.type "function", od, .func (lamFd F e pm ctv), sl⟩ : Obj)
theorem lamO_at {P : Program} {w : World} {H : Hp} {h : Heap} {f : Addr} {F : NF} {e : Expr} (hok : HOk P w H h) (q : H f = some (LamO f F e)) :
    ∃ (od : Option Addr) (sl : Array (Option Value)) (pm ctv : Value), h.get? f = some (⟨.type "function", od, .func (lamFd F e pm ctv), sl⟩ : Obj) := (hok f _ q).1
theorem lamO_ne {f : Addr} {F : NF} {e : Expr} (ps : Array Value) : LamO f F e ≠ .tbl ps := fun z => by
  unfold LamO at z
  exact nomatch z
/-- what was there is there -/
def Dom (H H' : Hp) : Prop := ∀ b, H b ≠ none → H' b ≠ none
theorem Dom.upd {H H' : Hp} {a : Addr} {o : HO} (h : Dom H H') : Dom H (L2.upd H' a o) := fun b hb => by
  unfold L2.upd
  split
  · exact fun z => nomatch z
  · exact h b hb
abbrev lamNF (X : Cx) (params : Arguments) (scope : Scope) (c' : Addr) : NF :=
  ⟨"<lambda>", X.env.qual ++ "<lambda>", params, [], scope, cloFrom X.env.cells scope.names [], c'⟩
section
variable {X : Cx} {pins : List (Addr × Obj)} {σ : L2.St} {H : Hp} {s : Shared}
theorem inv_lam {F : NF} {e : Expr} {o : Obj} {tk : Nat} {pm ctv : Value} (I : Inv X pins σ H s) (ho : o = { cls := .type "function", data := .func (lamFd F e pm ctv) }) :
    Inv X pins σ (upd H s.heap.objs.size (LamO s.heap.objs.size F e)) { s with heap := s.heap.push o, toks := tk } := by
  subst ho
  have at_ := Heap.get?_push_size (o := ({ cls := .type "function", data := .func (lamFd F e pm ctv) } : Obj)) s.heap rfl
  exact I.laid (fun b u z => Heap.get?_push_of_some _ z) (Nat.le_refl _)
    ⟨⟨_, _, pm, ctv, at_⟩, ⟨_, at_⟩, fun h1 h2 z st => by
      obtain ⟨od, sl, p1, p2, z⟩ := z
      exact ⟨od, sl, p1, p2, st _ z⟩⟩
theorem lam_make {T : List (Addr × Str)} {c P : Addr} {params : Arguments} {body : Expr} {scope : Scope} {pos : Pos} {E : Value → Shared → Prop} {Q : Value → Shared → Prop}
    (I : Inv X pins σ H s) (TB : TabB X.base X.mg c P) (hcode : X.env.code = .ref c)
    (hm : (P, X.env.qual ++ "<lambda>") ∈ T) (hu : ∀ p ∈ T, p.1 = P → p.2 = X.env.qual ++ "<lambda>") (hT : Tabs T H)
    (hdef : defaultsOf params X.env = ([], [])) (hfree : ∀ y ∈ scope.names, y.2 = .free → ∃ c, X.env.cells.lookup y.1 = some c)
    (h : ∀ (f c' : Addr) (H1 : Hp) (s' : Shared), Inv X pins σ H1 s' → ExtN H H1 → Dom H H1 → Tabs T H1 → H f = none →
      H1 f = some (LamO f (lamNF X params scope c') body) → H1 c' = some (CodeO c' (X.env.qual ++ "<lambda>")) → Q (.ref f) s') :
    wpAny (model X.prog X.w) X.A (eval (.Lambda params body scope pos) X.env) Q E s := by
  obtain ⟨ps, tabP, trip, told⟩ := hT _ hm
  refine PySem.W.kla_eval hdef ?_
  have bmP : s.heap.BuiltinsAt X.mg P := TB.bm.keeps I.bk
  have objP : s.heap.get? P = some { cls := .none, data := .fields ps } := I.hok P _ tabP
  have clo := closure_ok (env := X.env) hfree
  have gl := I.mod.glob.keeps I.bk
  have hd := TB.code.keeps I.bk
  cases found : codeAmong pos ps.toList with
  | some cv =>
    obtain ⟨c', rfl, hco⟩ := told pos cv found
    refine PySem.W.kla_makeFunctionHit (mg := X.mg) (c := c) (P := P) (ps := ps) clo I.ok.glob gl
      hcode hd objP trip found bmP fun ctv h' tk keep big => ?_
    have I1 : Inv X pins σ H { s with heap := h', toks := tk } := I.kept keep
    have new : H h'.objs.size = none := I1.hok.fresh (Nat.le_refl _)
    have I2 := inv_lam (F := lamNF X params scope c') (e := body) (tk := tk) (pm := (X.mg "__name__").getD .none) (ctv := ctv) I1 rfl
    refine h _ c' _ _ I2 (fun b o z _ => (upd_ne (ne_of_none z new)).trans z) (Dom.upd fun b z => z) ?_ new upd_same ((upd_ne (ne_of_none hco new)).trans hco)
    exact hT.ext fun b o z => (upd_ne (ne_of_none z new)).trans z
  | none =>
    refine PySem.W.kla_makeFunction (mg := X.mg) (c := c) (P := P) (ps := ps) clo I.ok.glob gl
      hcode hd objP trip found TB.gP bmP fun c' ctv h' tk keep ge lt rec_ tab => ?_
    obtain ⟨c2, oc, vs, t, e2, a1, a2, a3⟩ := rec_
    obtain rfl := Value.ref.inj e2
    have newC : H c' = none := I.hok.fresh ge
    have I1 := inv_table (q := X.env.qual ++ "<lambda>") (t' := tk) (more := #[rawInt pos.line, rawInt pos.col, .ref c']) I tabP
      (fun b o hb z => keep b o hb z) tab ge ⟨oc, vs, t, a1, a2, a3⟩
    have ext1 : ExtN H (upd (upd H P (.tbl (ps ++ #[rawInt pos.line, rawInt pos.col, .ref c']))) c' (CodeO c' (X.env.qual ++ "<lambda>"))) := fun b o z n => by
      have nb : b ≠ P := fun y => by
        rw [y, tabP] at z
        exact n ps (Option.some.inj z).symm
      rw [upd_ne (ne_of_none z newC), upd_ne nb]
      exact z
    have codeAt : (upd (upd H P (.tbl (ps ++ #[rawInt pos.line, rawInt pos.col, .ref c']))) c' (CodeO c' (X.env.qual ++ "<lambda>"))) c' = _ := upd_same
    have eL : (ps ++ #[rawInt pos.line, rawInt pos.col, Value.ref c']).toList = ps.toList ++ [rawInt pos.line, rawInt pos.col, .ref c'] := by simp
    have tabs1 : Tabs T (upd (upd H P (.tbl (ps ++ #[rawInt pos.line, rawInt pos.col, .ref c']))) c' (CodeO c' (X.env.qual ++ "<lambda>"))) := fun p hp => by
      obtain ⟨qs, b1, b2, b3⟩ := hT p hp
      by_cases hb : p.1 = P
      · refine ⟨ps ++ #[rawInt pos.line, rawInt pos.col, .ref c'], ?_, ?_, fun p' cv hcv => ?_⟩
        · rw [hb, upd_ne (ne_of_none tabP newC)]
          exact upd_same
        · rw [eL]
          exact PySem.TriplesOk_snoc _ _ _ _ trip
        · rw [eL] at hcv
          rw [hu p hp hb]
          rcases among_app _ trip hcv with z | z
          · obtain ⟨c0, d1, d2⟩ := told p' cv z
            exact ⟨c0, d1, ext1 _ _ d2 codeO_ne⟩
          · exact ⟨c', z, codeAt⟩
      · refine ⟨qs, ?_, b2, fun p' cv hcv => ?_⟩
        · rw [upd_ne (ne_of_none b1 newC), upd_ne hb]
          exact b1
        · obtain ⟨c0, d1, d2⟩ := b3 p' cv hcv
          exact ⟨c0, d1, ext1 _ _ d2 codeO_ne⟩
    have newF := I1.hok.fresh (Nat.le_refl _)
    have I2 := inv_lam (F := lamNF X params scope c') (e := body) (tk := tk) (pm := (X.mg "__name__").getD .none) (ctv := ctv) I1 rfl
    refine h _ c' _ _ I2 (fun b o z n => ?_) (Dom.upd (Dom.upd (Dom.upd fun b z => z))) (tabs1.ext fun b o z => (upd_ne (ne_of_none z newF)).trans z) ?_ upd_same ((upd_ne (ne_of_none codeAt newF)).trans codeAt)
    · have z1 := ext1 b o z n
      exact (upd_ne (ne_of_none z1 newF)).trans z1
    · cases z : H h'.objs.size with
      | none => rfl
      | some o =>
        have big : s.heap.objs.size ≤ h'.objs.size := Nat.le_trans ge (Nat.le_of_lt lt)
        rw [I.hok.fresh big] at z
        exact nomatch z
end
/-- the reading of a lambda: a new function object -/
def tLamH (T : List (Addr × Str)) (mk : Addr → NF) (e : Expr) : TE := fun σ H Q => Tabs T H ∧ ∀ (f c' : Addr) (H1 : Hp), ExtN H H1 → Tabs T H1 → H f = none →
  H1 f = some (LamO f (mk c') e) → H1 (mk c').c = some (CodeO (mk c').c (mk c').qual) → Q (.ref f) H1
section
variable {X : Cx}
theorem pe_lamH {T : List (Addr × Str)} {c P : Addr} {params : Arguments} {body : Expr} {scope : Scope} {pos : Pos} (TB : TabB X.base X.mg c P) (hcode : X.env.code = .ref c)
    (hm : (P, X.env.qual ++ "<lambda>") ∈ T) (hu : ∀ p ∈ T, p.1 = P → p.2 = X.env.qual ++ "<lambda>") (hdef : defaultsOf params X.env = ([], []))
    (hfree : ∀ y ∈ scope.names, y.2 = .free → X.env.scope.names.lookup y.1 = some .cell ∨ X.env.scope.names.lookup y.1 = some .free) :
    PE X (.Lambda params body scope pos) (tLamH T (lamNF X params scope) body) := by
  refine ⟨fun pins s σ H Q I h => ?_⟩
  obtain ⟨hT, h⟩ := h
  have fr : ∀ y ∈ scope.names, y.2 = .free → ∃ c, X.env.cells.lookup y.1 = some c := fun y hy e => (hfree y hy e).elim (fun z => I.ok.has _ (.inl z)) fun z => I.ok.has _ (.inr z)
  exact lam_make I TB hcode hm hu hT hdef fr fun f c' H1 s' I1 x1 _ t1 n1 l1 k1 => ⟨.ref f, H1, I1, rfl, h f c' H1 x1 t1 n1 l1 k1⟩
end
/-- what a call leaves: all but the tables stays, nothing is gone -/
structure ExD (H H' : Hp) : Prop where
  n : ExtN H H'
  d : Dom H H'
def tLamD (T : List (Addr × Str)) (mk : Addr → NF) (e : Expr) : TE := fun σ H Q => Tabs T H ∧ ∀ (f c' : Addr) (H1 : Hp), ExD H H1 → Tabs T H1 → H f = none →
  H1 f = some (LamO f (mk c') e) → H1 (mk c').c = some (CodeO (mk c').c (mk c').qual) → Q (.ref f) H1
section
variable {X : Cx}
theorem pe_lamD {T : List (Addr × Str)} {c P : Addr} {params : Arguments} {body : Expr} {scope : Scope} {pos : Pos} (TB : TabB X.base X.mg c P) (hcode : X.env.code = .ref c)
    (hm : (P, X.env.qual ++ "<lambda>") ∈ T) (hu : ∀ p ∈ T, p.1 = P → p.2 = X.env.qual ++ "<lambda>") (hdef : defaultsOf params X.env = ([], []))
    (hfree : ∀ y ∈ scope.names, y.2 = .free → X.env.scope.names.lookup y.1 = some .cell ∨ X.env.scope.names.lookup y.1 = some .free) :
    PE X (.Lambda params body scope pos) (tLamD T (lamNF X params scope) body) := by
  refine ⟨fun pins s σ H Q I h => ?_⟩
  obtain ⟨hT, h⟩ := h
  have fr : ∀ y ∈ scope.names, y.2 = .free → ∃ c, X.env.cells.lookup y.1 = some c := fun y hy e => (hfree y hy e).elim (fun z => I.ok.has _ (.inl z)) fun z => I.ok.has _ (.inr z)
  exact lam_make I TB hcode hm hu hT hdef fr fun f c' H1 s' I1 x1 d1 t1 n1 l1 k1 => ⟨.ref f, H1, I1, rfl, h f c' H1 ⟨x1, d1⟩ t1 n1 l1 k1⟩
end
/-! ### what a lambda promises -/
structure LOk (P : Program) (w : World) (K : PySem.W.Frag) (mg : Str → Option Value) (base : Heap) (CX : CXT) (k : Nat) (f : Addr) (F : NF) (e : Expr) (ps fr : List Str) (sp : List (Option V) → Sp) : Prop where
  len : ∀ ws vs H Q E, sp ws vs H Q E → vs.length = ps.length
  run : ∀ (A : Around) (outer : List Env) (s : Shared) (H : Hp) (us : List Value) (vs : List V) (ws : List (Option V)) (Q : VK) (E : XK),
    Room k A → Env0 P w K mg base A outer s H → H f = some (LamO f F e) → H F.c = some (CodeO F.c F.qual) →
    CellsAt F.cl fr ws s.heap H → Vals vs us → sp ws vs H Q E → codeAny (model P w) A (.call (.ref f) ⟨us, []⟩) (CR CX outer P w H s Q E) s
section
variable {CX : CXT} {P : Program} {w : World} {K : PySem.W.Frag} {mg : Str → Option Value} {base : Heap} {N ps fr : List Str} {F : NF} {e : Expr} {f : Addr} {k j : Nat} {sp : List (Option V) → Sp}
theorem LOk.mono (o : LOk P w K mg base CX j f F e ps fr sp) (h : j ≤ k) : LOk P w K mg base CX k f F e ps fr sp :=
  ⟨o.len, fun A outer s H us vs ws Q E hr => o.run A outer s H us vs ws Q E (hr.mono h)⟩
/-- THE RULE: a lambda by its expression -/
theorem lok_of (S : NScope N ps fr F.scope) (hb : ∀ (pm ctv : Value) (us : List Value), us.length = ps.length → bindArgs (lamFd F e pm ctv) ⟨us, []⟩ = pure (ps.zip us))
    (len : ∀ ws vs H Q E, sp ws vs H Q E → vs.length = ps.length)
    (hbody : ∀ (A : Around) (outer : List Env) (s : Shared) (H : Hp) (vs : List V) (ws : List (Option V)) (Q : VK) (E : XK), Room k (A.deeper (envF F f s.heap.objs.size)) →
      ws.length = fr.length → sp ws vs H Q E → ∃ t, PE (ncx CX P w K mg base N F f A outer s H E) e t ∧ t (startF N vs ws) H Q) :
    LOk P w K mg base CX (k + 1) f F e ps fr sp := by
  refine ⟨len, fun A outer s H us vs ws Q E hr e0 hf hc C r hsp => ?_⟩
  have hl := len _ _ _ _ _ hsp
  have lim : s.heap.NoLimit := e0.mod.nolimit.keeps fun b o z => (e0.bs b o z).1
  obtain ⟨od, sl, pm, ctv, ho⟩ := lamO_at e0.hok hf
  refine PySem.W.kla_callFunE hr.depth ho rfl S.co S.gen rfl (codeO_at e0.hok hc) ?_
  rw [hb pm ctv us (by rw [← r.length]; exact hl)]
  refine wpAny_pure (wpAny_newFunctionEnv S.nocell (fun y hy => S.par y.1 (List.of_mem_zip (b := y.2) hy).1) (fun h₁ hns hsb => ⟨lim.fresh _ hsb, ?_⟩) S.kind)
  show codeAny _ _ (.expr e (envF F f s.heap.objs.size)) _ _
  have kp : ∀ b o, s.heap.get? b = some o → h₁.get? b = some o := fun b o z =>
    hsb.extBut b o (Nat.ne_of_lt (Heap.lt_size z)) (Heap.get?_push_of_some _ z)
  obtain ⟨t, ht, hq⟩ := hbody A outer s H vs ws Q E (hr.deeper _) C.len hsp
  have I := inv_startN (CX := CX) (E := E) (f := f) (tk := s.toks + (ps.zip us).length) S hr.hd e0 hl r C hns kp
  refine PySem.W.kla_codeExpr (wpAny_mono (ht.run [] _ (startF N vs ws) H _ I hq) (fun u s' hs => ?_) fun _ _ hs => hs)
  obtain ⟨v, H', J, rv, q⟩ := hs
  exact ⟨v, H', J.os, J.bare, J.base, J.hok, rv, q⟩
end
/-! ### calls of such a lambda in a def that was handed it -/
structure Clo where
  cl : List (Str × Addr)
  fr : List Str
  ws : List (Option V)
/-- its captured cells hold so, and are no frames of those that run -/
structure HeldC (C : Clo) (l : List Env) (h : Heap) (H : Hp) : Prop where
  at_ : CellsAt C.cl C.fr C.ws h H
  nofr : ∀ y c, C.cl.lookup y = some c → c ∉ frs l
section
variable {X : Cx} {pins : List (Addr × Obj)} {σ : L2.St} {H : Hp} {s : Shared}
theorem held_later {C : Clo} (h : HeldC C X.outer X.s_0.heap X.H_0) (nx : X.ex = []) (I : Inv X pins σ H s) : HeldC C X.stack s.heap H := by
  refine ⟨h.at_.later (fun y c z => h.nofr y c z) (fun y c _ => by rw [nx]; simp) I, fun y c z hc => ?_⟩
  obtain ⟨v, o, ho, hd⟩ := (h.at_.all y c z).2
  rcases List.mem_cons.mp (I.stkSub c hc) with e | e
  · have h1 := I.ok.above
    have h2 := Heap.lt_size ho
    rw [e] at h2
    exact absurd (Nat.lt_of_lt_of_le h2 h1) (Nat.lt_irrefl _)
  · exact h.nofr y c z e
/-- .. of the def that makes it -/
theorem held_made {C : Clo} {js : List Nat} (c : Caps X C.cl C.fr js) (hw : C.ws = js.map (slotAt σ)) (hfn : ∀ x, X.fn x = true) (I : Inv X pins σ H s) : HeldC C X.stack s.heap H := by
  refine ⟨by rw [hw]; exact cells_of I c, fun y a z hc => ?_⟩
  have ha := c.sub y a z
  rcases List.mem_cons.mp (I.stkSub a hc) with e | e
  · exact I.cne y a ha e
  · obtain ⟨_, o, ho, _⟩ := I.ok.funs.mem e
    have h1 := I.ok.cab y a (hfn y) ha
    exact absurd (Nat.lt_of_lt_of_le (Heap.lt_size ho) h1) (Nat.lt_irrefl _)
end
/-- x(..), x a name that holds a lambda that was handed in -/
def tCallH (i : Nat) (F : Addr → NF → Expr → Prop) (sp : NF → Sp) (t : TA) : TE := fun σ H Q => ∃ f F' e, σ[i]? = some (some (.ref f)) ∧ F f F' e ∧ H f = some (LamO f F' e) ∧
  t σ H fun vs H1 => H1 f = some (LamO f F' e) ∧ H1 F'.c = some (CodeO F'.c F'.qual) ∧ sp F' vs H1 Q E0
section
variable {X : Cx} {k j i : Nat} {x : Str} {t : TA} {e : Expr} {es : List Expr} {p pos : Pos} {FP : Addr → NF → Expr → Prop} {sp : NF → Sp}
theorem fnAt_lam {pins : List (Addr × Obj)} {σ : L2.St} {H : Hp} {s : Shared} {f : Addr} {F : NF} {e : Expr} (I : Inv X pins σ H s) (q : H f = some (LamO f F e)) : PySem.W.FnAt f s.heap := by
  obtain ⟨od, sl, pm, ctv, ho⟩ := lamO_at I.hok q
  exact ⟨_, od, _, sl, ho⟩
theorem pe_callH (Fn : ∀ f F e, FP f F e → ∃ (C : Clo) (ps : List Str) (spL : List (Option V) → Sp), C.cl = F.cl ∧ LOk X.prog X.w X.K X.mg X.base CX0 k f F e ps C.fr spL ∧ HeldC C X.outer X.s_0.heap X.H_0 ∧ ∀ vs H Q E, sp F vs H Q E → spL C.ws vs H Q E) (nx : X.ex = [])
    (hr : Room j X.A) (hk : k ≤ j) (hN : X.N[i]? = some x) (hv : Vis X.env.scope x) (ha : PA X (e :: es) t)
    (hd : (x == ("__debug__" : Str)) = false := by decide) (hcd : (x == ("__classdict__" : Str)) = false := by decide)
    (he : starEach (e :: es) X.env = (false, eval e X.env) :: starEach es X.env := by rfl) (hpl : (backTo pos (starEach es X.env)).any (·.1) = false := by rfl) :
    PE X (.Call (.Name x p) (e :: es) [] pos) (tCallH i FP sp t) := by
  refine ⟨fun pins s σ H Q I h => ?_⟩
  obtain ⟨f, F, e', hs, hFP, hf, ht⟩ := h
  obtain ⟨C, ps, spL, eC, L, hC, hS⟩ := Fn f F e' hFP
  have nm := (pe_var (pos := p) hN hv hd hcd).run pins s σ H (fun v H1 => v = .ref f ∧ H1 = H) I ⟨.ref f, hs, rfl, rfl⟩
  refine wpAny_Call_Name_kw (thn nm fun u s1 q1 => ?_)
  obtain ⟨v, H1, I1, r1, ev, eH⟩ := q1
  subst ev
  rw [eH] at I1
  obtain rfl : u = Value.ref f := r1
  refine PySem.W.callWith_F (first := []) (fnAt_lam I1 hf) (thn (ha.run pos pins s1 σ H _ I1 ht) fun us s2 q2 => ?_) he hpl
  obtain ⟨vs, H2, I2, r, h1, h2, q⟩ := q2
  refine ⟨fnAt_lam I2 h1, ?_⟩
  show wpAny _ _ (call (.ref f) us) _ _ _
  have hc2 := (held_later hC nx I2).at_
  rw [eC] at hc2
  refine wpAny_call (codeAny_mono (L.run X.A X.stack s2 H2 us vs C.ws Q E0 (hr.mono hk) I2.env0 h1 h2 hc2 r (hS _ _ _ _ q)) fun r s' hq => ?_)
  cases r with
  | error _ => exact (show False from hq).elim
  | ok fl =>
    cases fl with
    | ret u => exact I2.after hq
    | next => exact (show False from hq).elim
    | brk => exact (show False from hq).elim
    | cont => exact (show False from hq).elim
end
/-! ### a def that is handed lambdas -/
structure FnOkC (P : Program) (w : World) (K : PySem.W.Frag) (mg : Str → Option Value) (base : Heap) (CX : CXT) (k : Nat) (f : Addr) (fd : FuncData) (ps : List Str) (sp : List Clo → Sp) : Prop where
  len : ∀ Cs vs H Q E, sp Cs vs H Q E → vs.length = ps.length
  run : ∀ (Cs : List Clo) (A : Around) (outer : List Env) (s : Shared) (H : Hp) (args : Args) (us : List Value) (vs : List V) (Q : VK) (E : XK), Room k A → Env0 P w K mg base A outer s H → BindsTo s fd args (ps.zip us) → Vals vs us →
    (∀ C ∈ Cs, HeldC C outer s.heap H) → sp Cs vs H Q E → codeAny (model P w) A (.call (.ref f) args) (CR CX outer P w H s Q E) s
theorem FnOkC.mono {P : Program} {w : World} {K : PySem.W.Frag} {mg : Str → Option Value} {base : Heap} {CX : CXT} {k j : Nat} {f : Addr} {fd : FuncData} {ps : List Str} {sp : List Clo → Sp}
    (o : FnOkC P w K mg base CX j f fd ps sp) (h : j ≤ k) : FnOkC P w K mg base CX k f fd ps sp :=
  ⟨o.len, fun Cs A outer s H args us vs Q E hr => o.run Cs A outer s H args us vs Q E (hr.mono h)⟩
section
variable {P : Program} {w : World} {K : PySem.W.Frag} {mg : Str → Option Value} {base : Heap}
/-- THE RULE for such a def -/
theorem Fun.okC {x qual : Str} {st : Stmt} {f : Addr} {fd : FuncData} {N ps : List Str} {k : Nat} {sp : List Clo → Sp} (F : Fun K x qual st f fd) (S : FnScope N ps (defScope st)) (len : ∀ Cs vs H Q E, sp Cs vs H Q E → vs.length = ps.length)
    (hbody : ∀ (cdv : Value) (Cs : List Clo) (A : Around) (outer : List Env) (s : Shared) (H : Hp) (vs : List V) (Q : VK) (E : XK), Room k (A.deeper (envOfC qual (defScope st) s.heap.objs.size f cdv)) → (∀ C ∈ Cs, HeldC C outer s.heap H) → sp Cs vs H Q E →
      ∃ t, PSs (cxOf CX0 P w K mg base N qual (defScope st) f cdv A outer s H E).nox (defBody st) t ∧ t { nx := fun _ H' => Q .non H', rt := Q } (L2.start N vs) H) : FnOkC P w K mg base CX0 (k + 1) f fd ps sp := by
  obtain ⟨oc, od, kV, doc, pm, an, cdv, ct, osl, rfl, lk, hcd⟩ := F.ex
  refine ⟨len, fun Cs A outer s H args us vs Q E hr e0 hb r hC hsp => ?_⟩
  refine run_ofS lk hcd S hr e0 hb r (len _ _ _ _ _ hsp) fun hr2 => ?_
  obtain ⟨t, ht, hq⟩ := hbody cdv Cs A outer s H vs Q E hr2 hC hsp
  exact ⟨t, ht.nox, hq⟩
/-- a def whose code object is named -/
structure FunC (K : PySem.W.Frag) (x qual : Str) (st : Stmt) (f : Addr) (fd : FuncData) (c : Addr) : Prop where
  ex : ∃ (oc : Value) (od : Option Addr) (kV doc pm : Value) (an : Option Addr) (ct : Value) (osl : Array (Option Value)),
    fd = PySem.W.fnOf x qual (defArgs st) (defBody st) (defScope st) .none kV doc pm an (.ref c) ct ∧ K.lookup f = some ⟨oc, od, .func fd, osl⟩ ∧ PySem.W.codeIn K (.ref c) qual = true
  kp : PySem.W.keepIn K (.ref f) = true
theorem FunC.fun_ {x qual : Str} {st : Stmt} {f c : Addr} {fd : FuncData} (F : FunC K x qual st f fd c) : Fun K x qual st f fd := by
  obtain ⟨oc, od, kV, doc, pm, an, ct, osl, e, lk, hcd⟩ := F.ex
  exact ⟨⟨oc, od, kV, doc, pm, an, _, ct, osl, e, lk, hcd⟩, F.kp⟩
/-- THE RULE for a def that makes lambdas -/
theorem FunC.ok {x qual : Str} {st : Stmt} {f c : Addr} {fd : FuncData} {N ps : List Str} {k : Nat} {sp : Sp} (F : FunC K x qual st f fd c) (S : FnScope N ps (defScope st)) (len : ∀ vs H Q E, sp vs H Q E → vs.length = ps.length)
    (hbody : ∀ (A : Around) (outer : List Env) (s : Shared) (H : Hp) (vs : List V) (Q : VK) (E : XK), Room k (A.deeper (envOfC qual (defScope st) s.heap.objs.size f (.ref c))) → sp vs H Q E →
      ∃ t, PSs (cxOf CX0 P w K mg base N qual (defScope st) f (.ref c) A outer s H E).nox (defBody st) t ∧ t { nx := fun _ H' => Q .non H', rt := Q } (L2.start N vs) H) : FnOk P w K mg base CX0 (k + 1) f fd ps sp := by
  obtain ⟨oc, od, kV, doc, pm, an, ct, osl, rfl, lk, hcd⟩ := F.ex
  refine fn_of lk hcd S len fun A outer s H vs Q E hr hsp => ?_
  obtain ⟨t, ht, hq⟩ := hbody A outer s H vs Q E hr hsp
  exact ⟨t, ht.nox, hq⟩
end
def tCallC (Cs : L2.St → List Clo) (sp : List Clo → Sp) (t : TA) : TE := fun σ H Q => t σ H fun vs H1 => sp (Cs σ) vs H1 Q E0
section
variable {X : Cx} {k : Nat} {f : Addr} {fd : FuncData} {ps : List Str} {sp : List Clo → Sp} {x : Str} {p pos : Pos} {e : Expr} {es : List Expr} {t : TA} {Cs : L2.St → List Clo}
theorem pe_callC (F : FnOkC X.prog X.w X.K X.mg X.base CX0 k f fd ps sp) (hC : ∀ pins σ H s, Inv X pins σ H s → ∀ C ∈ Cs σ, HeldC C X.stack s.heap H) (hr : Room k X.A) (hg : Gl X x) (hm : X.mg x = some (.ref f)) (hk : PySem.W.keepIn X.K (.ref f) = true) (hb : Binds X.K fd ps [])
    (ha : PA X (e :: es) t) (hdb : (x == ("__debug__" : Str)) = false := by decide) (he : starEach (e :: es) X.env = (false, eval e X.env) :: starEach es X.env := by rfl) (hpl : (backTo pos (starEach es X.env)).any (·.1) = false := by rfl) :
    PE X (.Call (.Name x p) (e :: es) [] pos) (tCallC Cs sp t) := by
  refine ⟨fun pins s σ H Q I h => ?_⟩
  refine wpAny_Call_Name_kw (ld_glob I hg hm ?_ hdb)
  refine PySem.W.callWith_K (h₀ := X.base) I.ok.mod.kin hk (thn (ha.run pos pins s σ H _ I h) fun us s1 q1 => ?_) he hpl
  obtain ⟨vs, H1, I1, r, q⟩ := q1
  refine ⟨I1.kIn, ?_⟩
  have hl : us.length = ps.length := by
    rw [← r.length]
    exact F.len _ _ _ _ _ q
  have bnd := hb s1 us I1.kIn (by rw [List.append_nil]; exact hl)
  rw [List.append_nil] at bnd
  refine wpAny_call (codeAny_mono (F.run (Cs σ) X.A X.stack s1 H1 ⟨us, []⟩ us vs Q E0 hr I1.env0 bnd r (hC _ _ _ _ I1) q) fun r s' hq => ?_)
  cases r with
  | error _ => exact (show False from hq).elim
  | ok fl =>
    cases fl with
    | ret u => exact I1.after hq
    | next => exact (show False from hq).elim
    | brk => exact (show False from hq).elim
    | cont => exact (show False from hq).elim
end
/-! ### for the writer of terms -/
def eLamArgs : Expr → Arguments | .Lambda ps _ _ _ => ps | _ => { posonlyargs := [], args := [], vararg := none, kwonlyargs := [], kw_defaults := [], kwarg := none, defaults := [] }
def eLamBody : Expr → Expr | .Lambda _ b _ _ => b | _ => noE
def eLamScope : Expr → Scope | .Lambda _ _ sc _ => sc | _ => { kind := .function, names := [], isGenerator := false, isCoroutine := false }
def eKey (k : Nat) : Expr → Expr | .Dict ks _ _ => (ks.getD k none).getD noE | _ => noE
def eVl (k : Nat) : Expr → Expr | .Dict _ vs _ => vs.getD k noE | _ => noE
theorem held_nil {X : Cx} : ∀ (pins : List (Addr × Obj)) (σ : L2.St) (H : Hp) (s : Shared), Inv X pins σ H s → ∀ C ∈ ([] : List Clo), HeldC C X.stack s.heap H := fun _ _ _ _ _ C hC => nomatch hC
theorem held_cons {X : Cx} {scope : Scope} {js : List Nat} {fr : List Str} {Cs : L2.St → List Clo} (hfn : ∀ x, X.fn x = true) (hB : NdefX.ndefB X.env.scope scope fr = true) (hjs : js.map (fun j => X.N[j]?) = fr.map some)
    (rest : ∀ (pins : List (Addr × Obj)) (σ : L2.St) (H : Hp) (s : Shared), Inv X pins σ H s → ∀ C ∈ Cs σ, HeldC C X.stack s.heap H) :
    ∀ (pins : List (Addr × Obj)) (σ : L2.St) (H : Hp) (s : Shared), Inv X pins σ H s → ∀ C ∈ (⟨cloFrom X.env.cells scope.names [], fr, js.map (NdefX.slotAt σ)⟩ : Clo) :: Cs σ, HeldC C X.stack s.heap H := by
  intro pins σ H s I C hC
  rcases List.mem_cons.mp hC with rfl | hC
  · exact held_made (js := js) (NdefX.Caps.made I.ok (NdefX.ndef_free hB) (NdefX.ndef_fr hB) hjs) rfl hfn I
  · exact rest pins σ H s I C hC
theorem tabs_uniq {l : List (Addr × Str)} {P : Addr} {x : Str} (nd : (l.map (·.1)).Nodup) (hm : (P, x) ∈ l) : ∀ p ∈ l, p.1 = P → p.2 = x := by
  induction l with
  | nil => exact nomatch hm
  | cons y l ih =>
    obtain ⟨n1, n2⟩ := List.nodup_cons.mp (show (y.1 :: l.map (·.1)).Nodup from nd)
    intro p hp e
    rcases List.mem_cons.mp hm with h1 | h1
    · rcases List.mem_cons.mp hp with h2 | h2
      · rw [h2, ← h1]
      · have m2 : p.1 ∈ l.map (·.1) := List.mem_map_of_mem h2
        rw [e, show P = y.1 by rw [← h1]] at m2
        exact absurd m2 n1
    · rcases List.mem_cons.mp hp with h2 | h2
      · have m2 : P ∈ l.map (·.1) := List.mem_map_of_mem (f := (·.1)) h1
        rw [← e, h2] at m2
        exact absurd m2 n1
      · exact ih n2 h1 p h2 e
theorem tabs_nil {l : List (Addr × Str)} {H : Hp} (h : ∀ p ∈ l, H p.1 = some (.tbl #[])) : Tabs l H := fun p hp => TabS.nil (h p hp)
theorem fun_of_D {K : PySem.W.Frag} {x : Str} {st : Stmt} {f : Addr} {fd : FuncData} (F : FunD K x x (defArgs st) (defBody st) (defScope st) [] [] f fd) : Fun K x x st f fd := by
  obtain ⟨oc, od, dV, kV, doc, pm, an, cdv, ct, osl, rfl, lk, hcd, hD, _⟩ := F.ex
  rcases hD with ⟨_, rfl⟩ | ⟨e, _⟩
  · exact ⟨⟨oc, od, kV, doc, pm, an, cdv, ct, osl, rfl, lk, hcd⟩, F.kp⟩
  · exact absurd rfl e
theorem funC_of_D {K : PySem.W.Frag} {x : Str} {st : Stmt} {p : Str × Option Str} {fd : FuncData} (F : FunD K x x (defArgs st) (defBody st) (defScope st) [] [] (He.fAd K p) fd) : FunC K x x st (He.fAd K p) fd (He.cT K p).1 := by
  obtain ⟨oc, od, dV, kV, doc, pm, an, cdv, ct, osl, rfl, lk, hcd, hD, _⟩ := F.ex
  obtain ⟨c, rfl⟩ := He.codeIn_ref hcd
  have ec := He.codeOf_eq lk rfl
  rcases hD with ⟨_, rfl⟩ | ⟨e, _⟩
  · show FunC K x x st _ _ (He.codeOf K p)
    rw [ec]
    exact ⟨⟨oc, od, kV, doc, pm, an, ct, osl, rfl, lk, hcd⟩, F.kp⟩
  · exact absurd rfl e
/-! ### what stands where code tables grow -/
section
variable {K : PySem.W.Frag} {H H' : Hp}
theorem _root_.LamX.ExtN.keep {a : Addr} {o : HO} (e : ExtN H H') (h : H a = some o) (n : ∀ ps, o ≠ .tbl ps) : H' a = some o := e a o h n
theorem _root_.LamX.ExtN.sqL {a : Addr} {xs : List V} (e : ExtN H H') (h : SqL K H a xs) : SqL K H' a xs := by
  rcases h with (h | ⟨o, h⟩) | h
  · exact .inl (.inl (e _ _ h fun _ z => nomatch z))
  · exact .inl (.inr ⟨o, e _ _ h fun _ z => nomatch z⟩)
  · exact .inr h
theorem _root_.LamX.ExtN.sqT {a : Addr} {xs : List V} (e : ExtN H H') (h : SqT K H a xs) : SqT K H' a xs := by
  rcases h with (h | ⟨o, h⟩) | h
  · exact .inl (.inl (e _ _ h fun _ z => nomatch z))
  · exact .inl (.inr ⟨o, e _ _ h fun _ z => nomatch z⟩)
  · exact .inr h
theorem _root_.LamX.ExtN.tup {a : Addr} {xs : List V} (e : ExtN H H') (h : H a = some (.tup xs)) : H' a = some (.tup xs) := e _ _ h fun _ z => nomatch z
theorem _root_.LamX.ExtN.lst {a : Addr} {xs : List V} (e : ExtN H H') (h : H a = some (.lst xs)) : H' a = some (.lst xs) := e _ _ h fun _ z => nomatch z
theorem _root_.LamX.ExtN.dT {a : Addr} {kvs : List (List Key × V)} (e : ExtN H H') (h : H a = some (.dT kvs)) : H' a = some (.dT kvs) := e _ _ h fun _ z => nomatch z
theorem _root_.LamX.ExtN.same {H2 : Hp} (e : ExtN H H') (s : Same H' H2) : ExtN H H2 := e.trans (ExtN.of s)
theorem _root_.LamX.ExtN.sT (e : ExtN H H') : SameT H H' := fun b => ⟨fun _ h => e b _ h (fun _ z => nomatch z), fun _ _ h => e b _ h (fun _ z => nomatch z)⟩
theorem ExD.refl (H : Hp) : ExD H H := ⟨ExtN.refl H, fun _ h => h⟩
theorem ExD.trans {H2 : Hp} (e : ExD H H') (f : ExD H' H2) : ExD H H2 := ⟨e.n.trans f.n, fun b h => f.d b (e.d b h)⟩
theorem ExD.of (s : Same H H') : ExD H H' := ⟨ExtN.of s, fun b h z => by
  cases e : H b with
  | none => exact h e
  | some o => rw [s _ _ e] at z; exact nomatch z⟩
theorem ExD.same {H2 : Hp} (e : ExD H H') (s : Same H' H2) : ExD H H2 := e.trans (ExD.of s)
theorem ExD.mut {p : Addr} {o : HO} (e : ExD H H') (h : H p = none) : ExD H (L2.upd H' p o) := ⟨fun b u hb n => by
  rw [upd_ne (ne_of_none hb h)]
  exact e.n b u hb n, Dom.upd e.d⟩
theorem ExD.free {p : Addr} (e : ExD H H') (h : H' p = none) : H p = none := Classical.byContradiction fun z => e.d p z h
theorem ExD.tup {a : Addr} {xs : List V} (e : ExD H H') (h : H a = some (.tup xs)) : H' a = some (.tup xs) := e.n.tup h
theorem ExD.lst {a : Addr} {xs : List V} (e : ExD H H') (h : H a = some (.lst xs)) : H' a = some (.lst xs) := e.n.lst h
theorem ExD.dT {a : Addr} {kvs : List (List Key × V)} (e : ExD H H') (h : H a = some (.dT kvs)) : H' a = some (.dT kvs) := e.n.dT h
theorem ExD.keep {a : Addr} {o : HO} (e : ExD H H') (h : H a = some o) (n : ∀ ps, o ≠ .tbl ps) : H' a = some o := e.n a o h n
theorem ExD.frz {a : Addr} {o : Obj} {u : HO} (e : ExD H H') (h : H a = some (.frz o u)) : H' a = some (.frz o u) := e.n _ _ h fun _ z => nomatch z
theorem ExD.sqL {a : Addr} {xs : List V} (e : ExD H H') (h : SqL K H a xs) : SqL K H' a xs := e.n.sqL h
theorem ExD.sqT {a : Addr} {xs : List V} (e : ExD H H') (h : SqT K H a xs) : SqT K H' a xs := e.n.sqT h
theorem ExD.sT (e : ExD H H') : SameT H H' := e.n.sT
theorem _root_.LamX.Tabs.same {l : List (Addr × Str)} (t : Tabs l H) (s : Same H H') : Tabs l H' := t.ext s
end
section
variable {σ : L2.St} {H : Hp} {Q : VK}
theorem r_callC {Cs : L2.St → List Clo} {sp : List Clo → Sp} {t : TA} (h : t σ H fun vs H1 => sp (Cs σ) vs H1 Q E0) : tCallC Cs sp t σ H Q := h
theorem r_lamH {T : List (Addr × Str)} {mk : Addr → NF} {e : Expr} (hT : Tabs T H) (h : ∀ (f c' : Addr) (H1 : Hp), ExtN H H1 → Tabs T H1 → H f = none → H1 f = some (LamO f (mk c') e) → H1 (mk c').c = some (CodeO (mk c').c (mk c').qual) → Q (.ref f) H1) : tLamH T mk e σ H Q := ⟨hT, h⟩
theorem r_lamD {T : List (Addr × Str)} {mk : Addr → NF} {e : Expr} (hT : Tabs T H) (h : ∀ (f c' : Addr) (H1 : Hp), ExD H H1 → Tabs T H1 → H f = none → H1 f = some (LamO f (mk c') e) → H1 (mk c').c = some (CodeO (mk c').c (mk c').qual) → Q (.ref f) H1) : tLamD T mk e σ H Q := ⟨hT, h⟩
end
end G
set_option Elab.async false
set_option linter.all false
set_option maxRecDepth 100000
set_option maxHeartbeats 4000000
namespace G
open PySem PySem.Spec PyProof.Rows L2
/-! ### {e for x in ..}, e a whole number -/
abbrev noInts : Int → Bool := fun _ => false
abbrev moreI (S : Int → Bool) (k : Int) : Int → Bool := fun j => S j || decide (j = k)
abbrev moreN (S : Int → Bool) (n : Nat) (k : Int) : Nat := if S k = true then n else n + 1
/-- a turn's end: the item y goes into the set at D -/
def putI (w : World) (D : Addr) (R : Hp → Prop) : VK := fun y H => ∃ (k : Int) (S : Int → Bool) (n : Nat),
  y = .int k ∧ H D = some (SetO w D S n) ∧ n + 1 < scanBound ∧ R (upd H D (SetO w D (moreI S k) (moreN S n k)))
def turnI (w : World) (D : Addr) (vs : List Nat) (σ : L2.St) (g : TG) (tt : TT) (te : TE) (x : V) (H : Hp) (R : Hp → Prop) : Prop :=
  g x (wipe σ vs) H fun σ2 H2 => wipe σ2 vs = wipe σ vs ∧ tt σ2 H2 fun b H3 => if b = true then te σ2 H3 (putI w D R) else R H3
def tScI (w : World) (wi : TI) (g : TG) (tt : TT) (te : TE) (vs : List Nat) : TE := fun σ H Q => wi σ H fun J H1 => ∀ D, H1 D = none →
  ∃ W : Nat → Nat → Hp → Prop, (∃ m, W 0 m (upd H1 D (SetO w D noInts 0))) ∧ ∀ i m H, W i m H →
    (J.stop i H ∧ Q (.ref D) H) ∨ (J.go i H ∧ ∃ R : Hp → Prop, (∀ H', R H' → ∃ m', m' < m ∧ W (i + 1) m' H') ∧ ∀ x H', J.yld i H x H' → turnI w D vs σ g tt te x H' R)
section
variable {X : Cx}
theorem add_int {pins : List (Addr × Obj)} {σ : L2.St} {H : Hp} {s : Shared} {E : Value → Shared → Prop} {D : Addr} {v : Value} {y : V} {R : Hp → Prop}
    (I : Inv X pins σ H s) (r : RelV y v) (h : putI X.w D R y H) :
    wpAny (model X.prog X.w) X.A (call (.builtin "set.add") [.ref D, v]) (fun _ s' => ∃ H', Inv X pins σ H' s' ∧ R H') E s := by
  obtain ⟨k, S, n, rfl, hD, room, q⟩ := h
  obtain ⟨tk, rfl⟩ := r
  refine setR_add (setO_get I hD) room fun h' same new => ⟨_, I.write (e := D) (t' := s.toks + 1) ?_ (.inl rfl) (fun b u hb hu => (same.2 b hb).trans hu) ?_ (setO_new new), q⟩
  · rw [hD]
    trivial
  · obtain ⟨o, _, _, _, ho, _⟩ := new
    exact ⟨o, ho⟩
theorem scI_core {pins : List (Addr × Obj)} {s : Shared} {σ : L2.St} {H : Hp} {Q : VK} {elt tg iter : Expr} {ifs : List Expr} {scope : Scope} {own : List (PySem.Str × Nat)} {pos pos' : Pos} {wi : TI} {g : TG} {tt : TT} {te : TE} {use : Option (Value → Sem Unit)} {Qf : Value → Shared → Prop}
    (calm : X.calm = true) (nd : X.N.Nodup) (I : Inv X pins σ H s) (hi : PI X tg iter wi) (ok : BlkOk X.N X.env.scope scope own)
    (hg : ∀ (s : Shared) (H : Hp) (C : Addr) (cl : List (PySem.Str × Addr)) (fp : List Addr), PG (X.blk s H scope (compEnvC scope cl C X.env) fp) tg g)
    (ht : ∀ (s : Shared) (H : Hp) (C : Addr) (cl : List (PySem.Str × Addr)) (fp : List Addr), PTs (X.blk s H scope (compEnvC scope cl C X.env) fp) ifs tt)
    (he : ∀ (s : Shared) (H : Hp) (C : Addr) (cl : List (PySem.Str × Addr)) (fp : List Addr), PE (X.blk s H scope (compEnvC scope cl C X.env) fp) elt te)
    (plain : ∀ x, foldedSetIterable iter X.env x = pure x) (h : tScI X.w wi g tt te (own.map (·.2)) σ H Q)
    (back : ∀ D C s' m H', Inv X pins σ H' s' → Q (.ref D) H' → s'.heap.Ns C m → FpOk X pins H' C → compPost (model X.prog X.w) X.A X.xe use Qf (.ref D) C (.ok .next) s') :
    wpAny (model X.prog X.w) X.A (comprehension (.SetComp elt [⟨tg, iter, ifs, 0⟩] scope pos) scope X.env pos' (newSet (.type "set")) false (eval iter X.env) use) Qf X.xe s := by
  have has : ∀ y ∈ scope.names, y.2 = .free → ∃ c, X.env.cells.lookup y.1 = some c := fun y hy e =>
    (ok.free y hy e).elim (fun k => I.ok.has _ (.inl k)) fun k => I.ok.has _ (.inr k)
  refine wpAny_comprehension_free (use := use) rfl plain (closure_ok has) ok.kind (fun y hy e => by rw [ok.uniq y hy, e]) ?_
  refine thn (hi.run pins s σ H _ I h) fun _ _ hx => thn hx fun _ sa ha => ?_
  obtain ⟨it, fp, at_, J, Ha, rfl, Ia, T, sta, fa, q⟩ := ha
  refine PpSet.newSet_ok (newEnv_comp ?_)
  obtain ⟨D, eD⟩ : ∃ D, sa.heap.objs.size = D := ⟨_, rfl⟩
  rw [eD]
  have freshD : Ha D = none := Ia.hok.fresh (Nat.le_of_eq eD)
  obtain ⟨W, ⟨m0, w0⟩, turn⟩ := q D freshD
  obtain ⟨sb, esb⟩ : ∃ sb : Shared, ({ sa with heap := sa.heap.push { cls := .type "set", dict := none, data := .set #[] 0 (.fresh 0 0 (!X.w.params.followText "set-order")) } } : Shared) = sb := ⟨_, rfl⟩
  have hb : sb.heap = sa.heap.push { cls := .type "set", dict := none, data := .set #[] 0 (.fresh 0 0 (!X.w.params.followText "set-order")) } := by rw [← esb]
  have Ib : Inv X pins σ (upd Ha D (SetO X.w D noInts 0)) sb := by
    subst esb eD
    exact Ia.laid (t' := sa.toks) (fun _ _ e => Heap.get?_push_of_some _ e) (Nat.le_refl _) (setO_new (setR_fresh X.w))
  obtain ⟨Hb, eHb⟩ : ∃ Hb, upd Ha D (SetO X.w D noInts 0) = Hb := ⟨_, rfl⟩
  have fb : ∀ b ∈ fp, FpOk X pins Hb b ∧ b < sb.heap.objs.size := fun b hm => by
    obtain ⟨o, e, _⟩ := T.obj _ _ sta b hm
    have lt := Heap.lt_size e
    refine ⟨⟨?_, (fa b hm).2⟩, ?_⟩
    · rw [← eHb, upd_ne (by rw [← eD]; exact Nat.ne_of_lt lt)]
      exact (fa b hm).1
    · rw [hb, Heap.size_push]
      exact Nat.lt_succ_of_lt lt
  have stb : at_ 0 sb.heap := T.keep _ _ _ sta fun b _ o e => by
    rw [hb]
    exact Heap.get?_push_of_some _ e
  rw [eHb] at Ib w0
  have Ic := block_start Ib ok nd fb
  obtain ⟨C, eC⟩ : ∃ C, sb.heap.objs.size = C := ⟨_, rfl⟩
  have pg := hg sb Hb C (cellsFrom (C + 1) scope.names (cloFrom X.env.cells scope.names [])) fp
  have pt := ht sb Hb C (cellsFrom (C + 1) scope.names (cloFrom X.env.cells scope.names [])) fp
  have pe := he sb Hb C (cellsFrom (C + 1) scope.names (cloFrom X.env.cells scope.names [])) fp
  rw [eC] at Ic
  rw [esb, eC]
  show codeAny _ _ (.compStart (.SetComp elt [⟨tg, iter, ifs, 0⟩] scope pos) 0 (.ref it) (.ref D) (compEnvC scope (cellsFrom (C + 1) scope.names (cloFrom X.env.cells scope.names [])) C X.env))
    (compPost (model X.prog X.w) X.A X.xe use Qf (.ref D) C) { sb with heap := pushCells (sb.heap.push { cls := .type "dict", data := .dict #[] }) scope.names }
  obtain ⟨ce, ece⟩ : ∃ ce, compEnvC scope (cellsFrom (C + 1) scope.names (cloFrom X.env.cells scope.names [])) C X.env = ce := ⟨_, rfl⟩
  rw [ece] at Ic pg pt pe ⊢
  have eL : ce.locals = C := by rw [← ece]; rfl
  obtain ⟨sc, esc⟩ : ∃ sc : Shared, ({ sb with heap := pushCells (sb.heap.push { cls := .type "dict", data := .dict #[] }) scope.names } : Shared) = sc := ⟨_, rfl⟩
  rw [esc] at Ic ⊢
  have stc : at_ 0 sc.heap := T.keep _ _ _ stb fun b _ o e => by
    rw [← esc]
    exact pushCells_keeps _ _ _ _ (Heap.get?_push_of_some _ e)
  have stat : ∀ {τ : L2.St} {G : Hp} {r : Shared}, Inv (X.blk sb Hb scope ce fp) [] τ G r → (∀ b ∈ fp, G b = none) → ∀ b ∈ fp, FpOk (X.blk sb Hb scope ce fp) [] G b :=
    fun {τ G r} J hn b hm => ⟨hn b hm, (J.ok.exf b hm).1, J.ok.exfs b hm, .inl hm, fun x c e => (J.ok.exf b hm).2 x c e, fun p hp => nomatch (show p ∈ ([] : List (Addr × Obj)) ++ [] from hp)⟩
  have loop : codeAny (model X.prog X.w) X.A (.compLoop (.SetComp elt [⟨tg, iter, ifs, 0⟩] scope pos) 0 (.ref it) (.ref D) ce) (compPost (model X.prog X.w) X.A X.xe use Qf (.ref D) C) sc := by
    refine PpSet.compLoopS_any (fun n r => ∃ i G, Inv (X.blk sb Hb scope ce fp) [] (wipe σ (own.map (·.2))) G r ∧ at_ i r.heap ∧ (∀ b ∈ fp, G b = none) ∧ W i n G) ?_ m0
      ⟨0, Hb, Ic, stc, fun b hm => (fb b hm).1.1, w0⟩
    rintro n s5 ⟨i, H5, I5, st5, n5, w5⟩
    rcases turn i n H5 w5 with ⟨stop, fin⟩ | ⟨go, R, hR, step⟩
    · refine thnF (T.done (X.blk sb Hb scope ce fp) rfl rfl rfl calm i [] s5 _ H5 (fun _ _ => False) I5 (stat I5 n5) st5 stop) fun r s6 hr6 => ?_
      obtain ⟨rfl, I6⟩ := hr6
      have I7 : Inv X pins σ H5 s6 := Ib.call' (ch := fp) I6.os I6.base I6.hok I6.bare fun b hm =>
        ⟨(fb b hm).1.2.2.2.1, (fb b hm).1.2.1, (fb b hm).1.2.2.2.2.1, (fb b hm).1.2.2.2.2.2⟩
      have nC : H5 C = none := by
        rw [← eL]
        exact I6.free
      obtain ⟨m, hn, _⟩ := I6.loc
      have hn : s6.heap.Ns ce.locals m := hn
      rw [eL] at hn
      exact back D C s6 m H5 I7 fin hn (Ib.fpOk (Nat.le_of_eq eC) nC)
    · refine thnF (T.item (X.blk sb Hb scope ce fp) rfl rfl rfl calm i [] s5 _ H5 (fun _ _ => False) I5 (stat I5 n5) st5 go) fun r s6 hr6 => ?_
      obtain ⟨u, rfl, h6⟩ := hr6
      refine thnF h6 fun _ s7 h7 => ?_
      obtain ⟨x, H7, I7, r7, y7, st7, n7⟩ := h7
      have P7 := I7.pinned (stat I7 n7) (T.obj _ _ st7)
      refine thnF (pg.run _ s7 _ H7 x u _ P7 r7 (step x H7 y7)) fun _ s8 h8 => ?_
      obtain ⟨σ8, H8, I8, same8, q8⟩ := h8
      have turnEnd : ∀ {r : Shared} {G : Hp}, Inv (X.blk sb Hb scope ce fp) ([] ++ pinsAt fp s7.heap) σ8 G r → R G →
          ∃ m, m < n ∧ ∃ i G, Inv (X.blk sb Hb scope ce fp) [] (wipe σ (own.map (·.2))) G r ∧ at_ i r.heap ∧ (∀ b ∈ fp, G b = none) ∧ W i m G := fun {r G} J rG => by
        obtain ⟨m', lt, w'⟩ := hR G rG
        have pin : ∀ b ∈ fp, ∀ o, s7.heap.get? b = some o → r.heap.get? b = some o ∧ G b = none := fun b hm o e => by
          have z := J.pin (b, o) (List.mem_append_right _ (List.mem_append_right _ (mem_pinsAt hm e)))
          exact ⟨z.1, z.2.1⟩
        have len : (wipe σ (own.map (·.2))).length = σ8.length := by
          rw [← same8]
          exact wipe_length _ _
        refine ⟨m', lt, i + 1, G, (J.unpinned (pins := [])).weak len (fun j v e => ?_), T.keep _ _ _ st7 fun b hm o e => (pin b hm o e).1, fun b hm => ?_, w'⟩
        · rw [← same8] at e
          exact (wipe_some e).1
        · obtain ⟨o, e, _⟩ := T.obj _ _ st7 b hm
          exact (pin b hm o e).2
      refine thnF (pt.run _ s8 σ8 H8 _ I8 q8) fun b s9 h9 => ?_
      obtain ⟨H9, I9, q9⟩ := h9
      cases b with
      | false =>
        rw [if_neg Bool.false_ne_true] at q9
        simp only [Bool.false_eq_true, if_false]
        exact turnEnd I9 q9
      | true =>
        rw [if_pos rfl] at q9
        simp only [if_true]
        refine thnF (pe.run _ s9 σ8 H9 _ I9 q9) fun z s10 h10 => ?_
        obtain ⟨yv, H10, I10, r10, q10⟩ := h10
        refine thnF (add_int (X := X.blk sb Hb scope ce fp) (E := fun _ _ => False) I10 r10 q10) fun _ s11 h11 => ?_
        obtain ⟨H11, I11, q11⟩ := h11
        exact turnEnd I11 q11
  exact PpSet.codeAny_compStart_set loop (T.self X.A 0 _ _ _ stc loop)
/-- as a value -/
theorem pe_scI {elt tg iter : Expr} {ifs : List Expr} {scope : Scope} {own : List (PySem.Str × Nat)} {pos : Pos} {wi : TI} {g : TG} {tt : TT} {te : TE} (calm : X.calm = true) (nd : X.N.Nodup) (hi : PI X tg iter wi) (ok : BlkOk X.N X.env.scope scope own)
    (hg : ∀ (s : Shared) (H : Hp) (C : Addr) (cl : List (PySem.Str × Addr)) (fp : List Addr), PG (X.blk s H scope (compEnvC scope cl C X.env) fp) tg g)
    (ht : ∀ (s : Shared) (H : Hp) (C : Addr) (cl : List (PySem.Str × Addr)) (fp : List Addr), PTs (X.blk s H scope (compEnvC scope cl C X.env) fp) ifs tt)
    (he : ∀ (s : Shared) (H : Hp) (C : Addr) (cl : List (PySem.Str × Addr)) (fp : List Addr), PE (X.blk s H scope (compEnvC scope cl C X.env) fp) elt te)
    (plain : ∀ x, foldedSetIterable iter X.env x = pure x := by intro _; rfl) :
    PE X (.SetComp elt [⟨tg, iter, ifs, 0⟩] scope pos) (tScI X.w wi g tt te (own.map (·.2))) := by
  refine ⟨fun pins s σ H Q I h => ?_⟩
  rw [PpSet.eval_SetComp]
  refine scI_core calm nd I hi ok hg ht he plain h fun D C s' m H' J q hn f => ⟨m, hn, fun h'' sbut => ?_⟩
  obtain ⟨f0, f1, _, f3, f4, f5⟩ := f
  exact ⟨.ref D, H', J.turned (t' := s'.toks) (fun b o hb e => (sbut.2 b hb).trans e) f0 f1 f3 f4 f5, rfl, q⟩
end
theorem r_scI {w : World} {wi : TI} {g : TG} {tt : TT} {te : TE} {vs : List Nat} {σ : L2.St} {H : Hp} {Q : VK} (h : wi σ H fun J H1 => ∀ D, H1 D = none → ∃ W : Nat → Nat → Hp → Prop, (∃ m, W 0 m (upd H1 D (SetO w D noInts 0))) ∧ ∀ i m H, W i m H →
    (J.stop i H ∧ Q (.ref D) H) ∨ (J.go i H ∧ ∃ R : Hp → Prop, (∀ H', R H' → ∃ m', m' < m ∧ W (i + 1) m' H') ∧ ∀ x H', J.yld i H x H' → turnI w D vs σ g tt te x H' R)) : tScI w wi g tt te vs σ H Q := h
/-- over a tuple -/
theorem scI_tup {w : World} {K : PySem.W.Frag} {a : Addr} {xs : List V} {g : TG} {tt : TT} {te : TE} {vs : List Nat} {σ : L2.St} {H1 : Hp} {D : Addr} {Qd : Hp → Prop} (Pv : Nat → Hp → Prop) (h0 : Pv 0 (upd H1 D (SetO w D noInts 0)))
    (hl : ∀ i H, i ≤ xs.length → Pv i H → SqT K H a xs) (hs : ∀ i x H, xs[i]? = some x → Pv i H → turnI w D vs σ g tt te x H (Pv (i + 1))) (hd : ∀ H, Pv xs.length H → Qd H) :
    ∃ W : Nat → Nat → Hp → Prop, (∃ m, W 0 m (upd H1 D (SetO w D noInts 0))) ∧ ∀ i m H, W i m H →
      ((Itt K a).stop i H ∧ Qd H) ∨ ((Itt K a).go i H ∧ ∃ R : Hp → Prop, (∀ H', R H' → ∃ m', m' < m ∧ W (i + 1) m' H') ∧ ∀ x H', (Itt K a).yld i H x H' → turnI w D vs σ g tt te x H' R) := by
  refine ⟨fun i m H => m = xs.length - i ∧ i ≤ xs.length ∧ Pv i H, ⟨xs.length, by simp, Nat.zero_le _, h0⟩, ?_⟩
  rintro i m H ⟨rfl, hi, p⟩
  have q := hl i H hi p
  by_cases lt : i < xs.length
  · refine .inr ⟨⟨xs, xs[i], q, by simp [lt]⟩, Pv (i + 1), fun H' p' => ⟨xs.length - (i + 1), by omega, rfl, lt, p'⟩, fun x H' y => ?_⟩
    obtain ⟨rfl, y⟩ := y
    exact hs i x _ (y xs q) p
  · obtain rfl : i = xs.length := by omega
    exact .inl ⟨⟨xs, q, Nat.le_refl _⟩, hd H p⟩
/-! ### the members of a lot, ascending -/
def normL (n : Nat) (xs : List Nat) : List Nat := (List.range n).filter fun k => decide (k ∈ xs)
theorem normL_mem {n k : Nat} {xs : List Nat} (h : ∀ x ∈ xs, x < n) : k ∈ normL n xs ↔ k ∈ xs := by
  unfold normL
  rw [List.mem_filter, List.mem_range, decide_eq_true_eq]
  exact ⟨fun z => z.2, fun z => ⟨h k z, z⟩⟩
theorem normL_lt {n : Nat} {xs : List Nat} : ∀ k ∈ normL n xs, k < n := fun k hk => by
  unfold normL at hk
  exact List.mem_range.mp (List.mem_filter.mp hk).1
theorem normL_sorted (n : Nat) (xs : List Nat) : (normL n xs).Pairwise (· < ·) := List.Pairwise.filter _ List.pairwise_lt_range
theorem normL_len (n : Nat) (xs : List Nat) : (normL n xs).length ≤ n := by
  have := List.length_filter_le (fun k => decide (k ∈ xs)) (List.range n)
  rw [List.length_range] at this
  exact this
theorem strict_eq : ∀ {a b : List Int}, a.Pairwise (· < ·) → b.Pairwise (· < ·) → (∀ k, k ∈ a ↔ k ∈ b) → a = b
  | [], [], _, _, _ => rfl
  | [], y :: b, _, _, h => nomatch (h y).mpr List.mem_cons_self
  | x :: a, [], _, _, h => nomatch (h x).mp List.mem_cons_self
  | x :: a, y :: b, ha, hb, h => by
    obtain ⟨a1, a2⟩ := List.pairwise_cons.mp ha
    obtain ⟨b1, b2⟩ := List.pairwise_cons.mp hb
    have e : x = y := by
      rcases List.mem_cons.mp ((h x).mp List.mem_cons_self) with e | e
      · exact e
      · rcases List.mem_cons.mp ((h y).mpr List.mem_cons_self) with e2 | e2
        · exact e2.symm
        · have := a1 y e2
          have := b1 x e
          omega
    subst e
    rw [strict_eq a2 b2 fun k => ⟨fun hk => (List.mem_cons.mp ((h k).mp (List.mem_cons_of_mem _ hk))).resolve_left fun z => by
      have := a1 k hk
      omega, fun hk => (List.mem_cons.mp ((h k).mpr (List.mem_cons_of_mem _ hk))).resolve_left fun z => by
      have := b1 k hk
      omega⟩]
theorem norm_ints {n : Nat} {xs : List Nat} {ns : List Int} (pw : ns.Pairwise (· < ·)) (hm : ∀ k : Int, k ∈ ns ↔ ∃ y ∈ xs, k = (y : Int)) (hb : ∀ y ∈ xs, y < n) : ns.map V.int = (normL n xs).map iV := by
  have e : ns = (normL n xs).map fun k : Nat => (k : Int) := by
    refine strict_eq pw ?_ fun k => ?_
    · rw [List.pairwise_map]
      exact (normL_sorted n xs).imp fun h => by omega
    · rw [hm, List.mem_map]
      exact ⟨fun ⟨y, h1, h2⟩ => ⟨y, (normL_mem hb).mpr h1, h2.symm⟩, fun ⟨y, h1, h2⟩ => ⟨y, (normL_mem hb).mp h1, h2.symm⟩⟩
  rw [e, List.map_map]
  rfl
theorem normL_self {n : Nat} {xs : List Nat} (hs : xs.Pairwise (· < ·)) (hb : ∀ x ∈ xs, x < n) : normL n xs = xs := by
  have e : (normL n xs).map (fun k : Nat => (k : Int)) = xs.map fun k : Nat => (k : Int) := by
    refine strict_eq ?_ ?_ fun k => ?_
    · rw [List.pairwise_map]
      exact (normL_sorted n xs).imp fun h => by omega
    · rw [List.pairwise_map]
      exact hs.imp fun h => by omega
    · rw [List.mem_map, List.mem_map]
      exact ⟨fun ⟨y, h1, h2⟩ => ⟨y, (normL_mem hb).mp h1, h2⟩, fun ⟨y, h1, h2⟩ => ⟨y, (normL_mem hb).mpr h1, h2⟩⟩
  exact (List.map_inj_right fun a b h => by omega).mp e
theorem normL_map {n : Nat} {xs : List Nat} {f : Nat → Nat} (hx : ∀ x ∈ xs, x < n) : normL n ((normL n xs).map f) = normL n (xs.map f) := by
  unfold normL
  refine List.filter_congr fun k _ => ?_
  refine decide_eq_decide.mpr ?_
  rw [List.mem_map, List.mem_map]
  exact ⟨fun ⟨y, h1, h2⟩ => ⟨y, (normL_mem hx).mp h1, h2⟩, fun ⟨y, h1, h2⟩ => ⟨y, (normL_mem hx).mpr h1, h2⟩⟩
end G
set_option Elab.async false
set_option linter.all false
set_option maxRecDepth 100000
set_option maxHeartbeats 4000000
namespace G
open PySem PySem.Spec PyProof.Rows L2
/-! ### set(xs), xs a list of ints -/
abbrev newSetO (w : World) : Obj := { cls := .type "set", dict := none, data := .set #[] 0 (.fresh 0 0 (!w.params.followText "set-order")) }
section
variable {P : Program} {w : World} {A : Around} {E : Value → Shared → Prop} {s : Shared}
theorem set_of_list {l : Addr} {its : Array Value} (ns : List Int) {Q : Value → Shared → Prop} (calm : A.handled = none) (hl : s.heap.IsList l its) (hit : IntsAre its.toList ns) (few : ns.length + 1 < scanBound)
    (h : ∀ (h' : Heap) (tk c : Nat), SetR w h' s.heap.objs.size (fun j => decide (j ∈ ns)) c → c ≤ ns.length → (∀ b o, s.heap.get? b = some o → h'.get? b = some o) →
      Q (.ref s.heap.objs.size) { s with heap := h', toks := tk }) :
    wpAny (model P w) A (call (.type "set") [.ref l]) Q E s := by
  have lens : its.size = ns.length := (Array.length_toList (xs := its)).symm.trans (IntsAre.length hit)
  have k0 := F.called_set.mro
  obtain ⟨mc, mtl, k0⟩ := k0
  have k1 := F.called_set.made
  have k2 := F.called_set.sub
  have k3 := F.called_set.notType
  have k4 := F.called_set.canCreate
  have k5 := F.typeCall_set_1 (.ref l)
  refine wpAny_call (codeAny_of_tree (show wpAny _ _ (callAny (.type "set") _) _ _ _ from ?_))
  refine wpAny_pure (And.intro (Code.quiet_builtin _ (by decide +kernel)) (codeAny_builtin F.entry_type_call ?_))
  rw [Around.under_plain (weight_type_call_type "set" [Value.ref l] []) rfl]
  repeat any_goals (first | assumption | wp_step)
  refine codeAny_mono (code_set_led1 (.ref l) (E := E)
    (Q₁ := fun obj s₁ => obj = .ref s.heap.objs.size ∧ s₁ = { s with heap := s.heap.push (newSetO w) }) (And.intro rfl rfl)) fun r s₁ hr => ?_
  cases r with
  | error e => exact hr
  | ok fl =>
    cases fl with
    | ret obj =>
      obtain ⟨eo, es⟩ := hr
      subst eo es
      have atS : (s.heap.push (newSetO w)).get? s.heap.objs.size = some (newSetO w) := Heap.get?_push_size _ rfl
      have isT : Shared.TypeIs { s with heap := s.heap.push (newSetO w) } (.ref s.heap.objs.size) "set" := ⟨_, atS, rfl⟩
      have j1 := F.called_set.init.lookup
      have j2 := F.called_set.init.bind (Value.ref s.heap.objs.size)
      repeat any_goals (first | assumption | wp_step)
      refine codeAny_mono (codeAny_call_builtin
        (R := wants (fun r s₂ => r = .none ∧ ∃ h' tk c, s₂ = { s with heap := h', toks := tk } ∧ SetR w h' s.heap.objs.size (fun j => decide (j ∈ ns)) c ∧ c ≤ ns.length ∧ ∀ b o, s.heap.get? b = some o → h'.get? b = some o) E)
        F.called_set.init.plain F.entry_set_init (check_set_init_1 isT ?_)) fun r₂ s₂ hr₂ => ?_
      · obtain ⟨ol, atL, e1, nl, e2⟩ := hl
        obtain ⟨lc, ld, ldt, lsl⟩ := ol
        dsimp only at e1 e2
        subst e1 e2
        have atL1 : (s.heap.push (newSetO w)).get? l = some { cls := .type "list", dict := ld, data := .seq its nl, slots := lsl } := Heap.get?_push_of_some _ atL
        have n1 := F.sub_list_set
        have n2 := F.sub_list_frozenset
        have n3 : (Value.type "list" == Value.type "dict") = false := by decide
        have isL1 : (s.heap.push (newSetO w)).IsList l its := ⟨_, atL1, rfl, nl, rfl⟩
        unfold Builtin.«set.__init__» noKeywords Builtin.Frozenset.updateFrom
        generalize ePI : pyIter = PI
        wp_walk
        subst ePI
        refine wpAny_pyIter_list isL1 (wpAny_bind (wpAny_runValue ?_))
        have ltL : l < s.heap.objs.size := Heap.lt_size atL
        have sz : (s.heap.push (newSetO w)).objs.size = s.heap.objs.size + 1 := Heap.size_push ..
        have calm3 : A.in1.in1.in1.handled = none := calm
        have apart : s.heap.objs.size ∉ [(s.heap.push (newSetO w)).objs.size, l] := fun z => by
          rw [sz] at z
          rcases List.mem_cons.mp z with z | z
          · exact absurd z (Nat.ne_of_lt (Nat.lt_succ_self _))
          · exact absurd (List.mem_singleton.mp z) (Nat.ne_of_gt ltL)
        have notI : l ≠ (s.heap.push (newSetO w)).objs.size := by
          rw [sz]
          exact Nat.ne_of_lt (Nat.lt_succ_of_lt ltL)
        refine set_update_ints ((Walks.list calm3 _ l notI its).toS) s.heap.objs.size apart ns lens few (fun i v hv => ?_) (its.size - 0) 0 _ (by omega) (Nat.zero_le _)
          ⟨⟨_, Heap.get?_push_size _ rfl, rfl, rfl⟩, isL1.push _⟩ ?start ?stop
        · have hi : i < ns.length := lens ▸ (Array.getElem?_eq_some_iff.mp hv).1
          obtain ⟨t, e⟩ := PyProof.Rows.IntsAre.int_at hit i v ((Array.getElem?_toList (xs := its)).trans hv)
          exact ⟨ns[i], t, List.getElem?_eq_getElem hi, by rw [e, List.getD_eq_getElem?_getD, List.getElem?_eq_getElem hi] <;> rfl⟩
        case start => exact ⟨0, Nat.le_refl 0, setR_new_at (Heap.get?_push_of_some _ atS)⟩
        case stop =>
          intro s' c' hm hc' hS'
          obtain ⟨h2, g2, d2, t2, o2⟩ := s'
          obtain rfl : g2 = s.gens := hm.gens
          obtain rfl : d2 = s.drawn := hm.drawn
          obtain rfl : o2 = s.os := hm.os
          refine wpAny_pure (show wpAny _ _ (ret Value.none) _ _ _ from wpAny_pure ⟨rfl, h2, t2, c', rfl, hS', lens ▸ hc', fun b o e => ?_⟩)
          have lt := Heap.lt_size e
          refine hm.heap b o (fun z => ?_) (Heap.get?_push_of_some _ (Heap.get?_push_of_some _ e))
          rcases List.mem_cons.mp z with z | z
          · exact Nat.ne_of_lt lt z
          · rw [sz] at z
            exact Nat.ne_of_lt (Nat.lt_succ_of_lt lt) (List.mem_singleton.mp z)
      · cases r₂ with
        | error e => exact hr₂
        | ok f2 =>
          cases f2 with
          | ret u =>
            obtain ⟨rfl, h', tk, c', rfl, a1, a2, a3⟩ := hr₂
            repeat any_goals (first | assumption | wp_step)
            exact h h' tk c' a1 a2 a3
          | next => exact hr₂.elim
          | brk => exact hr₂.elim
          | cont => exact hr₂.elim
    | next => exact hr.elim
    | brk => exact hr.elim
    | cont => exact hr.elim
end
def rSetL (K : PySem.W.Frag) (w : World) : List V → Hp → VK → Prop := fun xs H Q => ∃ (l : Addr) (ns : List Int), xs = [.ref l] ∧ SqL K H l (ns.map V.int) ∧ ns.length ≤ 1000 ∧
  ∀ (p : Addr) (c : Nat), c ≤ ns.length → H p = none → Q (.ref p) (upd H p (SetO w p (fun j => decide (j ∈ ns)) c))
theorem cr_setL {X : Cx} {K : PySem.W.Frag} (hK : X.K = K) (hc : X.calm = true) : CallR X (.type "set") (rSetL K X.w) := by
  subst hK
  rintro pins s σ H xs us Q I rs ⟨l, ns, rfl, hs, few, q⟩
  rw [Vals.ref1 rs]
  obtain ⟨its, rv, hl, hz⟩ := I.list hs
  refine set_of_list ns (I.ok.hd hc) hl.isList (by simpa using ints_of_vals rv) (by unfold scanBound; omega) fun h' tk c hS hc keep => ?_
  have hn := I.hok.fresh (Nat.le_refl _)
  exact ⟨.ref s.heap.objs.size, _, I.laid keep (Nat.le_refl _) (setO_new hS), rfl, q _ c hc hn⟩
end G
set_option Elab.async false
set_option linter.all false
set_option maxRecDepth 100000
set_option maxHeartbeats 4000000
namespace G
open PySem PySem.Spec PyProof.Rows L2
/-! ### own errors -/
abbrev veB : List Value := [.type "ValueError", .type "Exception", .type "BaseException", .type "object"]
/-- what is known of an own error class, under ValueError or another own one -/
structure OwnE (K : PySem.W.Frag) (mg : Str → Option Value) (x : Str) (C : Addr) : Prop where
  g : mg x = some (.ref C)
  x : PySem.W.excIn K C veB "ValueError.__new__" = true
  k : PySem.W.keepIn K (.ref C) = true
  s : PySem.W.subIn K (.ref C) (.type "BaseException") = some true
  t : PySem.W.typeIn K (.ref C) = some (.type "type")
  e : ExcC K C
def excCB (K : PySem.W.Frag) (D : Addr) : Bool :=
  decide (PySem.W.findIn K (.ref D) "__getattribute__" = some (some (.builtin "BaseException.__getattribute__"))) && (decide (PySem.W.findIn K (.ref D) "__getattr__" = some none) && (decide (PySem.W.subIn K (.ref D) (.type "BaseException") = some true) && (PySem.W.hasDictIn K D &&
  (decide (PySem.W.findIn K (.ref D) "__class__" = some (some (.builtin "object.__class__"))) && (decide (PySem.W.specialIn K (.builtin "object.__class__") "__get__" = some (some (.builtin "getset_descriptor.__get__"))) && (decide (PySem.W.takesIn K (.builtin "object.__class__") = some true) && decide (PySem.W.mroIn K D (.type "object") = some true)))))))
theorem excCB_ok {K : PySem.W.Frag} {D : Addr} (h : excCB K D = true) : ExcC K D := by
  unfold excCB at h
  simp only [Bool.and_eq_true, decide_eq_true_eq] at h
  obtain ⟨a1, a2, a3, a4, a5, a6, a7, a8⟩ := h
  exact ⟨a1, a2, a3, a4, a5, a6, a7, a8⟩
/-- raise C(e) -/
def tRaise1 (C : Addr) (W : WX) (ta : TE) : TS := fun _ σ H => ta σ H fun _ H1 => W (.ref C) none σ H1
section
variable {X : Cx}
theorem ps_raise1 {K : PySem.W.Frag} {mg : Str → Option Value} {C : Addr} {x : Str} {e : Expr} {ta : TE} {W : WX} {p pos pos2 : Pos} (O : OwnE K mg x C) (hK : X.K = K) (hmg : X.mg = mg) (hc : X.calm = true) (tk : Takes X W) (hg : Gl X x) (he : PE X e ta)
    (hs : starEach [e] X.env = (false, eval e X.env) :: starEach [] X.env := by rfl) (hdb : (x == ("__debug__" : Str)) = false := by decide) :
    PS X (.Raise (some (.Call (.Name x p) [e] [] pos)) none pos2) (tRaise1 C W ta) := by
  subst hK hmg
  exact ps_raise hc tk (SkE.pmk_own1 PySem.F.excBase_ValueError O.x O.g O.k (raises_own O.s O.t) hg he hs hdb)
theorem r_raise1 {C : Addr} {W : WX} {ta : TE} {D : Ends} {σ : L2.St} {H : Hp} (h : ta σ H fun _ H1 => W (.ref C) none σ H1) : tRaise1 C W ta D σ H := h
theorem r_callS {sp : Sp} {E : L2.St → XK} {t : TA} {σ : L2.St} {H : Hp} {Q : VK} (h : t σ H fun vs H1 => sp vs H1 Q (E σ)) : tCallS sp E t σ H Q := h
/-- isinstance(e, c), e the error that the suite holds -/
def rIsEx (K : PySem.W.Frag) (a : Addr) (cls : Value) (d : Option Addr) : List V → Hp → VK → Prop := fun xs H Q => ∃ D, cls = .ref D ∧ d = none ∧ ExcC K D ∧ rIsE K D a xs H Q
theorem call_isEx {a : Addr} {oe : Obj} {cls : Value} {d : Option Addr} {pn : List (Addr × Obj)} (hz : Zc cls d oe) (hf : ∃ vs, oe.data = .fields vs) : CallR (X.suite a ((a, oe) :: pn)) (.builtin "isinstance") (rIsEx X.K a cls d) := by
  intro pins s σ H xs us Q I r h
  obtain ⟨D, rfl, rfl, hE, q⟩ := h
  exact call_isE hE hz hf pins s σ H xs us Q I r q
theorem r_isEx {K : PySem.W.Frag} {a D : Addr} {c : V} {cv : Value} {b : Bool} {H : Hp} {Q : VK} (hE : ExcC K D) (hc : ∀ u, RelV c u → u = cv) (k : PySem.W.kitOne K (.ref D) cv = some b) (q : Q (.bl b) H) : rIsEx K a (.ref D) none [.ref a, c] H Q :=
  ⟨D, rfl, rfl, hE, c, cv, b, rfl, hc, k, q⟩
/-- try: .. except C as n: .. -/
def tTryAs (K : PySem.W.Frag) (c : Value) (i : Nat) (tb : WX → TS) (ts : Addr → Value → Option Addr → TS) (Wout : WX) : TS := fun D σ H => tb (wAs K c i ts Wout D) D σ H
theorem r_tryAs {K : PySem.W.Frag} {c : Value} {i : Nat} {tb : WX → TS} {ts : Addr → Value → Option Addr → TS} {Wout : WX} {D : Ends} {σ : L2.St} {H : Hp} (h : tb (wAs K c i ts Wout D) D σ H) : tTryAs K c i tb ts Wout D σ H := h
theorem ps_tryAs {x n : Str} {c : Value} {i : Nat} {body suite : List Stmt} {b₀ : Stmt} {np pos pos' : Pos} {tb : WX → TS} {ts : Addr → Value → Option Addr → TS} {Wout : WX} (hs : X.stack = X.env :: X.outer) (hf : X.env.frame = some X.env.locals) (hN : X.N.Nodup) (hi : X.N[i]? = some n) (hln : X.env.kindOf n = some .local) (hc : Names X x c) (tk : Takes X Wout)
    (hb : ∀ (W : WX) (pn : List (Addr × Obj)) (xe : Value → Shared → Prop), Takes (X.tr pn xe) W → PassesOwn (model X.prog X.w) X.A X.env xe → PSs (X.tr pn xe) body (tb W))
    (hsu : ∀ (a : Addr) (oe : Obj) (cls : Value) (d : Option Addr) (pn : List (Addr × Obj)), Zc cls d oe → (∃ vs, oe.data = .fields vs) → PSs (X.suite a ((a, oe) :: pn)) (b₀ :: suite) (ts a cls d)) :
    PS X (.Try body [.ExceptHandler (some (.Name x np)) (some n) (b₀ :: suite) pos'] [] [] pos) (tTryAs X.K c i tb ts Wout) := ps_try_as hs hf hN hi hln hc tk hb hsu
end
/-! ### f-strings whose text nobody asks for -/
section
variable {σ : L2.St} {H : Hp}
def Part (σ : L2.St) (H : Hp) (t : TE) : Prop := ∀ Q : VK, (∀ y : Str, y.length ≤ 2000 → Q (.str y) H) → t σ H Q
theorem part_c {z : Str} (h : z.length ≤ 2000) : Part σ H (tC (.str z)) := fun _ q => r_c (q z h)
theorem part_i {te : TE} {i : Int} (hi : i.natAbs.log2 < 1920) (h : ∀ Q : VK, Q (.int i) H → te σ H Q) : Part σ H (tFmt te) := fun Q q =>
  h (fun x H1 => (∃ y, x = .str y ∧ y.length ≤ sizeLine ∧ Q (.str y) H1) ∨ ∃ i, x = .int i ∧ i.natAbs.log2 < 1920 ∧ Q (.str (Str.ofString (toString i))) H1)
    (.inr ⟨i, rfl, hi, q _ (Nat.le_trans (PyProof.Rows.int_text_len_1921 hi) (by decide))⟩)
theorem js_ok {R : Str → Hp → Prop} : ∀ (ts : List TE) (acc : Str), (∀ t ∈ ts, Part σ H t) → acc.length + 2000 * ts.length ≤ 100000 → (∀ out, R out H) → tJs ts acc σ H R
  | [], acc, _, _, r => r acc
  | t :: ts, acc, hp, hl, r => by
    refine hp t List.mem_cons_self _ fun y hy => ?_
    have e : (acc ++ y).length = acc.length + y.length := by
      show (acc.cps ++ y.cps).size = acc.cps.size + y.cps.size
      exact Array.size_append
    rw [List.length_cons] at hl
    have zl : (sizeLine : Nat) = 16777216 := by decide
    exact ⟨y, rfl, by rw [e]; omega, js_ok ts _ (fun t ht => hp t (List.mem_cons_of_mem _ ht)) (by rw [e]; omega) r⟩
end
theorem log_lt {i : Int} (h : i.natAbs < 1000000) : i.natAbs.log2 < 1920 := by
  rcases Nat.eq_zero_or_pos i.natAbs with e | e
  · rw [e]; decide
  · have e2 : i.natAbs.log2 < 20 := (Nat.log2_lt (by omega)).mpr (Nat.lt_of_lt_of_le h (by decide))
    omega
/-! ### enumerate of a list -/
theorem for_enL {K : PySem.W.Frag} {a : Addr} {xs : List V} {g : TG} {tb : TS} {D : Ends} {σ : L2.St} {H : Hp} (Pv : Nat → L2.St → Hp → Prop) (h0 : Pv 0 σ H) (hl : ∀ i σ H, i ≤ xs.length → Pv i σ H → SqL K H a xs)
    (hs : ∀ i x σ H T, xs[i]? = some x → Pv i σ H → H T = none → g (.ref T) σ (upd H T (.tup [.int (i : Nat), x])) fun σ2 H2 => tb { D with nx := Pv (i + 1), ct := Pv (i + 1), bk := D.nx } σ2 H2) (hd : ∀ σ H, Pv xs.length σ H → D.nx σ H) :
    ∃ W : Nat → Nat → L2.St → Hp → Prop, (∃ m, W 0 m σ H) ∧ ∀ i m σ H, W i m σ H → ((Ite K a).stop i H ∧ D.nx σ H) ∨
      ((Ite K a).go i H ∧ ∃ N : L2.St → Hp → Prop, (∀ σ' H', N σ' H' → ∃ m', m' < m ∧ W (i + 1) m' σ' H') ∧ ∀ x H', (Ite K a).yld i H x H' → g x σ H' fun σ2 H2 => tb { D with nx := N, ct := N, bk := D.nx } σ2 H2) := by
  refine ⟨fun i m σ H => m + i = xs.length ∧ Pv i σ H, ⟨xs.length, rfl, h0⟩, ?_⟩
  rintro i m σ H ⟨hm, p⟩
  have q := hl i σ H (by omega) p
  by_cases hlt : i < xs.length
  · refine .inr ⟨⟨xs, xs[i], q, List.getElem?_eq_getElem hlt⟩, Pv (i + 1), fun σ' H' p' => ⟨m - 1, by omega, by omega, p'⟩, ?_⟩
    rintro v H' ⟨T, x, rfl, hT, rfl, hx⟩
    exact hs i x σ H T (hx xs q) p hT
  · have e : i = xs.length := by omega
    subst e
    exact .inl ⟨⟨xs, q, Nat.le_refl _⟩, hd σ H p⟩
theorem pi_enumK {X : Cx} {K : PySem.W.Frag} {e : Expr} {ta : TA} {p pos tpos : Pos} {elts : List Expr} {kk : Nat} (hK : X.K = K) (hg : Gl X "enumerate") (hm : X.mg "enumerate" = none) (ha : PA X [e] ta) (hs : starEach [e] X.env = [(false, eval e X.env)] := by rfl) :
    PI X (.Tuple elts kk tpos) (.Call (.Name "enumerate" p) [e] [] pos) (iEnum K ta) := hK ▸ pi_enum hg hm ha hs
theorem r_iEnum {K : PySem.W.Frag} {ta : TA} {σ : L2.St} {H : Hp} {R : It → Hp → Prop} (h : ta σ H fun vs H1 => ∃ a xs, vs = [.ref a] ∧ SqL K H1 a xs ∧ R (Ite K a) H1) : iEnum K ta σ H R := h
/-! ### lists of lists of ints -/
def refsI (ps : List (Addr × List Int)) : List V := ps.map fun p => V.ref p.1
theorem refsI_len (ps : List (Addr × List Int)) : (refsI ps).length = ps.length := List.length_map _
theorem refsI_at {ps : List (Addr × List Int)} {i : Nat} {x : V} (h : (refsI ps)[i]? = some x) : ∃ p, ps[i]? = some p ∧ V.ref p.1 = x := by
  unfold refsI at h
  rw [List.getElem?_map] at h
  exact Option.map_eq_some_iff.mp h
theorem at_refsI {ps : List (Addr × List Int)} {z : Int} {i : Nat} {p : Addr × List Int} (e : z = (i : Int)) (h : ps[i]? = some p) : atI (refsI ps) z = some (.ref p.1) := by
  refine at_of e ?_
  unfold refsI
  rw [List.getElem?_map, h]
  rfl
theorem ints_at {xs : List Int} {i : Nat} {x : V} (h : (xs.map V.int)[i]? = some x) : ∃ z, xs[i]? = some z ∧ V.int z = x := by
  rw [List.getElem?_map] at h
  exact Option.map_eq_some_iff.mp h
/-! ### the world named -/
theorem cr_setLw {X : Cx} {K : PySem.W.Frag} {w : World} (hK : X.K = K) (hw : X.w = w) (hc : X.calm = true) : CallR X (.type "set") (_root_.G.rSetL K w) := hw ▸ cr_setL hK hc
theorem cr_sortedSetW {X : Cx} {w : World} (hw : X.w = w) (hc : X.calm = true) : CallR X (.builtin "sorted") (rSortedSet w) := hw ▸ cr_sortedSet hc
end G
set_option Elab.async false
set_option linter.all false
set_option maxRecDepth 100000
set_option maxHeartbeats 4000000
namespace G
open PySem PySem.Spec PyProof.Rows L2 LamX NdefX
open PySem.W (KeyPure EachIs dataLe AllAlike Sortable)
def eKwv (k : Nat) : Expr → Expr
  | .Call _ _ ks _ => (ks[k]?.map (·.value)).getD noE
  | _ => noE
/-! ### sorted(rows, key = a lambda that gives -len(row), or (-len(row), row)) -/
def IsNegLen (x : Str) (e : Expr) : Prop := ∃ (p1 p2 p3 p4 : Pos), e = .UnaryOp .USub (.Call (.Name "len" p1) [.Name x p2] [] p3) p4
section
variable {X : Cx} {pins : List (Addr × Obj)} {σ : L2.St} {H : Hp} {s : Shared} {E : Value → Shared → Prop}
theorem name_ref {x : Str} {pos : Pos} {i : Nat} {b : Addr} {Q : Value → Shared → Prop} (I : Inv X pins σ H s) (hN : X.N[i]? = some x) (hs : σ[i]? = some (some (.ref b))) (hv : Vis X.env.scope x) (hd : (x == ("__debug__" : Str)) = false) (hcd : (x == ("__classdict__" : Str)) = false)
    (h : Q (.ref b) s) : wpAny (model X.prog X.w) X.A (eval (.Name x pos) X.env) Q E s := by
  obtain ⟨m, hn, hl⟩ := I.loc
  obtain ⟨u, r, l⟩ := hl i x _ hN hs hv
  obtain rfl : u = Value.ref b := r
  rcases l with ⟨hk, hm⟩ | ⟨hk, c, hc, hcell⟩
  · exact wpAny_Name (wpAny_loadName_local I.ok.kind hk hn hm h) hd
  · rcases hk with hk | hk
    · exact wpAny_Name (wpAny_loadName_cell I.ok.kind hk hc hcell h) hd
    · exact wpAny_Name (wpAny_loadName_free I.ok.kind hk hc hcell h hcd) hd
theorem neglen_run {x : Str} {e : Expr} {i : Nat} {b : Addr} {xs : List V} {Q : Value → Shared → Prop} (he : IsNegLen x e) (I : Inv X pins σ H s) (hN : X.N[i]? = some x) (hs : σ[i]? = some (some (.ref b))) (hv : Vis X.env.scope x) (hd : (x == ("__debug__" : Str)) = false) (hcd : (x == ("__classdict__" : Str)) = false)
    (hg : Gl X "len") (hm : X.mg "len" = none) (hT : SqT X.K H b xs) (h : ∀ t k, Q (.int (-(xs.length : Nat)) t) { s with toks := k }) : wpAny (model X.prog X.w) X.A (eval e X.env) Q E s := by
  obtain ⟨p1, p2, p3, p4, rfl⟩ := he
  obtain ⟨its, r', pl, hz⟩ := I.tuple hT
  have hlen := r'.length
  have hn := line63
  have zl : (sizeLine : Nat) = 16777216 := by decide
  have e1 : starEach [Expr.Name x p2] X.env = (false, eval (.Name x p2) X.env) :: starEach [] X.env := rfl
  refine UnaryOp_ ?_
  refine wpAny_Call_Name_kw (ld_blt (u := Value.builtin "len") I hg hm (by decide +kernel) ?_)
  refine PyProof.Rows.callWith_builtin1 ?_ e1 rfl
  rw [e1]
  show wpAny _ _ (spliced ((false, eval (.Name x p2) X.env) :: backTo p3 (starEach [] X.env))) _ _ s
  refine Calls.spliced_cons (name_ref I hN hs hv hd hcd ?_)
  show wpAny _ _ (spliced (backTo p3 (starEach [] X.env))) _ _ s
  refine Calls.spliced_nil ?_
  obtain ⟨o, ho, hc, n, hdt⟩ := pl
  refine len_tuple ⟨o, ho, hc, n, hdt⟩ (by simp only [List.size_toArray]; omega) ?_
  refine neg_int ?_
  rw [List.size_toArray, ← hlen]
  exact h _ _
end
/-! the lambda is called -/
section
variable {P : Program} {w : World} {K : PySem.W.Frag} {mg : Str → Option Value} {base : Heap} {A : Around} {outer : List Env} {s : Shared} {H : Hp} {f b : Addr} {F : NF} {e : Expr} {x : Str}
theorem keyLam_run {k : PyData} (S : NScope [x] [x] [] F.scope) (hcl : F.cl = []) (hb : ∀ (pm ctv u : Value), bindArgs (lamFd F e pm ctv) ⟨[u], []⟩ = pure [(x, u)]) (hr : Room 1 A) (e0 : Env0 P w K mg base A outer s H)
    (hf : H f = some (LamO f F e)) (hc : H F.c = some (CodeO F.c F.qual))
    (body : ∀ (s1 : Shared) (E : Value → Shared → Prop), Inv (ncx CX0 P w K mg base [x] F f A outer s H E0) [] [some (.ref b)] H s1 → wpAny (model P w) (A.deeper (envF F f s.heap.objs.size)) (eval e (envF F f s.heap.objs.size)) (KeyPure k s1) E s1) :
    wpAny (model P w) A (call (.ref f) [.ref b]) (KeyPure k s) (fun _ _ => False) s := by
  have lim : s.heap.NoLimit := e0.mod.nolimit.keeps fun b o z => (e0.bs b o z).1
  obtain ⟨od, sl, pm, ctv, ho⟩ := lamO_at e0.hok hf
  refine wpAny_call ?_
  refine PySem.W.kla_callFunE hr.depth ho rfl S.co S.gen rfl (codeO_at e0.hok hc) ?_
  rw [hb pm ctv (.ref b)]
  refine wpAny_pure (wpAny_newFunctionEnv S.nocell (fun y hy => S.par y.1 (by rw [List.mem_singleton.mp hy]; exact List.mem_singleton.mpr rfl)) (fun h₁ hns hsb => ⟨lim.fresh _ hsb, ?_⟩) S.kind)
  show codeAny _ _ (.expr e (envF F f s.heap.objs.size)) _ _
  have kp : ∀ b o, s.heap.get? b = some o → h₁.get? b = some o := fun b o z =>
    hsb.extBut b o (Nat.ne_of_lt (Heap.lt_size z)) (Heap.get?_push_of_some _ z)
  have C : CellsAt F.cl [] [] s.heap H := by
    rw [hcl]
    exact ⟨rfl, (fun y c z => nomatch z), (fun y z c h => nomatch h), (fun i y h => nomatch h)⟩
  have I := inv_startN (CX := CX0) (E := E0) (f := f) (tk := s.toks + ([x].zip [Value.ref b]).length) (N := [x]) (ps := [x]) (fr := []) (ws := []) (vs := [V.ref b]) (us := [Value.ref b]) S hr.hd e0 rfl (.cons rfl .nil) C hns kp
  refine PySem.W.kla_codeExpr (wpAny_mono (body _ _ I) (fun u s' hs => ?_) fun _ _ hs => hs)
  obtain ⟨h', tk, rfl, kp', rd⟩ := hs
  exact ⟨h', tk, rfl, fun c o z => kp' c o (kp c o z), rd⟩
end
def keyLen (r : List Nat) : PyData := .int (-(r.length : Nat))
def keyLot (r : List Nat) : PyData := .tuple [.int (-(r.length : Nat)), rowD r]
theorem reads_row {h : Heap} : ∀ (r : List Nat) (its : List Value), Vals (r.map iV) its → ReadsAll h its (r.map nD) []
  | [], _, v => by
    cases v
    exact .nil
  | n :: r, _, v => by
    cases v with
    | cons v1 v2 =>
      obtain ⟨t, rfl⟩ := v1
      exact ReadsAll.cons (as := []) (bs := []) (Reads.int _ _) (reads_row r _ v2)
/-- which lambda it is -/
inductive KeyE (x : Str) : Expr → (List Nat → PyData) → Prop
  | len {e : Expr} : IsNegLen x e → KeyE x e keyLen
  | lot {e : Expr} {p2 p5 : Pos} {c : Nat} : IsNegLen x e → KeyE x (.Tuple [e, .Name x p2] c p5) keyLot
section
variable {P : Program} {w : World} {K : PySem.W.Frag} {mg : Str → Option Value} {base : Heap} {A : Around} {outer : List Env} {s : Shared} {H : Hp} {f b : Addr} {F : NF} {e : Expr} {x : Str}
theorem keyE_run {kd : List Nat → PyData} {r : List Nat} (ke : KeyE x e kd) (S : NScope [x] [x] [] F.scope) (hcl : F.cl = []) (hb : ∀ (pm ctv u : Value), bindArgs (lamFd F e pm ctv) ⟨[u], []⟩ = pure [(x, u)]) (hr : Room 1 A) (e0 : Env0 P w K mg base A outer s H)
    (hf : H f = some (LamO f F e)) (hc : H F.c = some (CodeO F.c F.qual)) (hg : F.scope.names.lookup ("len" : Str) = some NameKind.globalImplicit) (hm : mg "len" = none) (hd : (x == ("__debug__" : Str)) = false) (hcd : (x == ("__classdict__" : Str)) = false) (hT : SqT K H b (r.map iV)) :
    wpAny (model P w) A (call (.ref f) [.ref b]) (KeyPure (kd r) s) (fun _ _ => False) s := by
  refine keyLam_run S hcl hb hr e0 hf hc fun s1 E I => ?_
  have hv : Vis (ncx CX0 P w K mg base [x] F f A outer s H E0).env.scope x := .inl (S.par x (List.mem_singleton.mpr rfl))
  cases ke with
  | len he =>
    refine neglen_run (i := 0) (b := b) (X := ncx CX0 P w K mg base [x] F f A outer s H E0) he I rfl rfl hv hd hcd hg hm hT fun t k => ?_
    refine ⟨s1.heap, k, rfl, fun b o z => z, ?_⟩
    rw [List.length_map]
    exact Reads.int _ _
  | @lot e' p2 p5 c he =>
    refine wpAny_Tuple_spliced ?_
    have e1 : starEach [e', Expr.Name x p2] (envF F f s.heap.objs.size) = (false, eval e' (envF F f s.heap.objs.size)) :: starEach [Expr.Name x p2] (envF F f s.heap.objs.size) := by
      obtain ⟨q1, q2, q3, q4, rfl⟩ := he
      rfl
    rw [e1]
    show wpAny _ _ (spliced ((false, eval e' _) :: backTo p5 (starEach [Expr.Name x p2] _))) _ _ s1
    refine Calls.spliced_cons (neglen_run (i := 0) (b := b) (X := ncx CX0 P w K mg base [x] F f A outer s H E0) he I rfl rfl hv hd hcd hg hm hT fun t k => ?_)
    have I2 : Inv (ncx CX0 P w K mg base [x] F f A outer s H E0) [] [some (.ref b)] H { s1 with toks := k } := I.tok k
    show wpAny _ _ (spliced ((false, eval (.Name x p2) _) :: backTo p5 (starEach [] _))) _ _ _
    refine Calls.spliced_cons (name_ref (i := 0) (X := ncx CX0 P w K mg base [x] F f A outer s H E0) I2 rfl rfl hv hd hcd ?_)
    show wpAny _ _ (spliced (backTo p5 (starEach [] _))) _ _ _
    refine Calls.spliced_nil ⟨by show 2 ≤ sizeLine; decide, ?_⟩
    obtain ⟨its, rv, ⟨o, ho, hcc, n, hdt⟩, _⟩ := I.tuple hT
    refine ⟨_, k, rfl, fun c o z => Heap.get?_push_of_some _ z, ?_⟩
    refine Reads.tuple (as := []) (Heap.get?_push_size _ rfl) rfl rfl ?_
    rw [List.length_map]
    refine ReadsAll.cons (as := []) (bs := []) (Reads.int _ _) (ReadsAll.cons (as := []) (bs := []) ?_ .nil)
    exact Reads.tuple (as := []) (Heap.get?_push_of_some _ ho) hcc hdt (reads_row r its rv)
end

theorem r_ckw {r : List V → List V → Hp → VK → Prop} {t tk : TA} {σ : L2.St} {H : Hp} {Q : VK} (h : t σ H fun vs H1 => tk σ H1 fun zs H2 => r vs zs H2 Q) : tCKw r t tk σ H Q := h
def leD (kd : List Nat → PyData) (a b : Addr × List Nat) : Bool := !PySem.W.dataLt (kd b.2) (kd a.2)
theorem eachRef : ∀ ps : List (Addr × List Nat), EachIs (fun (v : Value) (q : Addr × List Nat) => v = .ref q.1) (ps.map fun q => Value.ref q.1) ps
  | [] => .nil
  | q :: ps => .cons rfl (eachRef ps)
theorem valsRef : ∀ (ps : List (Addr × List Nat)) (out : List Value), EachIs (fun (v : Value) (q : Addr × List Nat) => v = .ref q.1) out ps → Vals (refsV ps) out
  | [], _, h => by
    cases h
    exact .nil
  | q :: ps, _, h => by
    cases h with
    | cons h1 h2 => exact .cons h1 (valsRef ps _ h2)
theorem alike_row (a b : List Nat) : PySem.W.alike (rowD a) (rowD b) = true := by
  unfold rowD
  show PySem.W.alikeAll (a.map nD) (b.map nD) = true
  rw [nat_ints, nat_ints]
  exact PySem.W.alike_ints _ _
theorem keyE_alike {x : Str} {e : Expr} {kd : List Nat → PyData} (h : KeyE x e kd) (a b : List Nat) : PySem.W.alike (kd a) (kd b) = true := by
  cases h with
  | len _ => rfl
  | lot _ =>
    show PySem.W.alikeAll [.int _, rowD a] [.int _, rowD b] = true
    simp only [PySem.W.alikeAll, PySem.W.alike, alike_row]
    simp [alike_row]
theorem keyE_sortable {x : Str} {e : Expr} {kd : List Nat → PyData} (h : KeyE x e kd) (ps : List (Addr × List Nat)) : Sortable (ps.map fun q => kd q.2) := by
  cases h with
  | len _ => exact Sortable.others fun b => ⟨fun z => (nomatch z), fun xs z => (nomatch z)⟩
  | lot _ => exact Sortable.tuples fun b => ⟨_, _, rfl⟩
theorem keyE_depth {x : Str} {e : Expr} {kd : List Nat → PyData} (h : KeyE x e kd) (r : List Nat) : (kd r).depth ≤ 2 := by
  cases h with
  | len _ => exact Nat.zero_le _
  | lot _ =>
    have e1 : (rowD r).depth = PyData.depthAll (r.map nD) + 1 := rfl
    have e2 : PyData.depthAll (r.map nD) = 0 := by rw [nat_ints]; exact depth_ints _
    show PyData.depthAll [.int _, rowD r] + 1 ≤ 2
    show max 0 (max (rowD r).depth 0) + 1 ≤ 2
    rw [e1, e2]
    decide
def rSortKey (K : PySem.W.Frag) (kd : List Nat → PyData) : List V → List V → Hp → VK → Prop := fun vs zs H Q => ∃ (p : Addr) (ps : List (Addr × List Nat)) (f : Addr) (F : NF) (e : Expr) (x : Str), vs = [.ref p] ∧ zs = [.ref f] ∧ SqL K H p (refsV ps) ∧ (∀ q ∈ ps, SqT K H q.1 (q.2.map iV)) ∧
  KeyE x e kd ∧ NScope [x] [x] [] F.scope ∧ F.cl = [] ∧ (∀ (pm ctv u : Value), bindArgs (lamFd F e pm ctv) ⟨[u], []⟩ = pure [(x, u)]) ∧ F.scope.names.lookup ("len" : Str) = some NameKind.globalImplicit ∧ (x == ("__debug__" : Str)) = false ∧ (x == ("__classdict__" : Str)) = false ∧
  H f = some (LamO f F e) ∧ H F.c = some (CodeO F.c F.qual) ∧ ∀ p', H p' = none → Q (.ref p') (upd H p' (.lst (refsV (ps.mergeSort (leD kd)))))
theorem cr_sortKey {X : Cx} {K : PySem.W.Frag} {kd : List Nat → PyData} (hK : X.K = K) (hr : Room 3 X.A) (hm : X.mg "len" = none) : CallRK X (.builtin "sorted") [Str.ofString "key"] (rSortKey K kd) := by
  subst hK
  intro pins s σ H vs zs us ws Q I r rz h
  obtain ⟨p, ps, f, F, e, x, rfl, rfl, hs, hrow, ke, S, hcl, hb, hg, hd, hcd, hf, hc, q⟩ := h
  obtain rfl := Vals.ref1 r
  obtain ⟨w1, rfl, e1⟩ := vals1 rz
  obtain rfl : w1 = Value.ref f := e1
  obtain ⟨its, rv, hl, hz⟩ := I.list hs
  obtain rfl := refs_eq ps its rv
  have un := hr.un
  refine PySem.W.sorted_key_data (b := false) (β := Addr × List Nat) (R := fun (v : Value) (q : Addr × List Nat) => v = .ref q.1) (fun q => kd q.2) hl.isList (eachRef ps) (AllAlike.of fun a b => keyE_alike ke a.2 b.2) (keyE_sortable ke ps) (by
      have : (refsV ps).length = ps.length := List.length_map _
      omega) (fun q _ => ?_) (PyProof.Rows.ksk_s1 _ _) (fun _ => PyProof.Rows.ksk_l1 _ _) (fun _ => PyProof.Rows.ksk_t1 _ _) (fun v q hv hq h tk kp => ?_) fun out c h' tk kp hn hD hlen eo => ?_
  · have := keyE_depth ke q.2
    omega
  · subst hv
    have I' : Inv X pins σ H { s with heap := h, toks := tk } := I.kept (t' := tk) kp
    have e0 := I'.env0
    exact keyE_run ke S hcl hb hr.in1.in1 ⟨e0.frames, e0.mod, e0.bs, e0.bsz, e0.funs, e0.frf, e0.hok, e0.bare⟩ hf hc hg hm hd hcd (hrow q hq)
  · have hlen2 : (refsV (ps.mergeSort (leD kd))).length ≤ sizeLine := by
      have e2 : (refsV (ps.mergeSort (leD kd))).length = ps.length := by
        show (List.map _ _).length = _
        rw [List.length_map, List.length_mergeSort]
      have : (refsV ps).length = ps.length := List.length_map _
      omega
    refine ⟨.ref _, upd H (s.heap.objs.size + 1) (.lst (refsV (ps.mergeSort (leD kd)))), I.laid (t' := tk) (fun b o z => kp b o z) (Nat.le_succ _) ⟨hlen2, out, c, valsRef _ _ eo, hD⟩, rfl, q _ (I.hok.fresh (Nat.le_succ _))⟩
end G
set_option Elab.async false
set_option linter.all false
set_option maxRecDepth 100000
set_option maxHeartbeats 4000000
namespace G
open PySem PySem.Spec PyProof.Rows L2
/-! ### set(xs), xs a list of tuples of ints, fewer than 64 of them different -/
/-- fewer than 64 differ -/
def Few (ks : List (Addr × List Int)) : Prop := ∀ L : List (Addr × List Int), (L.map (·.2)).Nodup → (∀ p ∈ L, p ∈ ks) → L.length < 64
section
variable {P : Program} {w : World} {A : Around} {E : Value → Shared → Prop} {s : Shared}
theorem put_row {a : Addr} {L : List (Addr × List Int)} {es : Array (Int × Value)} {ep : Nat} {t : SetTable} (R : SetTR P w s.heap a L es ep t) {x : Addr} {k : List Int} (hx : IsT P w s.heap k x) (room : A.units < cLine) (few : k ∉ L.map (·.2) → L.length + 1 < 64)
    {Q : Bool → Shared → Prop} (key : ∀ b h1 L1 es1 ep1 t1, Heap.SameBut a s.heap h1 → SetTR P w h1 a L1 es1 ep1 t1 → (k ∈ L.map (·.2) → L1 = L) → (k ∉ L.map (·.2) → L1.Perm ((x, k) :: L)) → Q b { s with heap := h1 }) :
    wpAny (model P w) A (setAddHashed a (.ref x) (thash P w k)) Q E s := by
  rcases Classical.em (k ∈ L.map (·.2)) with there | new
  · obtain ⟨o, at_, _, dat⟩ := R.ob
    unfold setAddHashed
    refine wpAny_holding (show wpAny _ _ (setAddHashedIn a (.ref x) _ (99999 + 1)) _ _ _ from ?_)
    rw [setAddHashedIn_succ]
    refine wpAny_bind (wpAny_setState_of at_ dat R.fits (show wpAny _ _ _ _ _ _ from ?_))
    refine wp_if_neg (show ¬ _ from by simp [byScan, Value.scannable]) ?_
    try refine wpAny_bind (wpAny_pure (show wpAny _ _ _ _ _ _ from ?_))
    refine wpAny_bind (search_at R hx room (fun _ => (show wpAny _ _ _ _ _ _ from ?_)) fun _ no _ _ => absurd there no)
    exact wpAny_pure (key false _ _ _ _ _ (Heap.SameBut.refl _ _) R (fun _ => rfl) fun no => absurd there no)
  · exact add_at R hx room (few new) key
theorem update_rows {I S : Addr} {fp wr : List Addr} {G : Array GenState → Array GenState → Prop} {n : Nat} {Pv : Nat → Value → Prop} {St : Nat → Shared → Prop} {R : Result → Shared → Prop} (W : WalksS P w A.in1 I fp wr G n Pv St) (apart : S ∉ fp)
    {ks : List (Addr × List Int)} (en : n = ks.length) (few : Few ks) (val : ∀ i v, Pv i v → ∃ p, ks[i]? = some p ∧ v = .ref p.1) {g : Heap} (rows : ∀ p ∈ ks, IsT P w g p.2 p.1) (gS : g.get? S = none) (gw : ∀ b ∈ wr, g.get? b = none) (room : A.in1.units < cLine)
    (stop : ∀ s1 L es ep t, Moved (S :: wr) G s s1 → SetTR P w s1.heap S L es ep t → Got ks n L → (∀ b o, g.get? b = some o → s1.heap.get? b = some o) → R (.ok (.ret .none)) s1) :
    ∀ (m i : Nat) (s2 : Shared), n - i = m → i ≤ n → St i s2 → (∀ b o, g.get? b = some o → s2.heap.get? b = some o) → (∃ L es ep t, SetTR P w s2.heap S L es ep t ∧ Got ks i L) → (∀ s3, Moved (S :: wr) G s2 s3 → Moved (S :: wr) G s s3) →
      codeAny (model P w) A (.builtin "set.update.loop" ⟨[.ref S, .ref I], []⟩) R s2 := by
  have sw : S ∉ wr := fun z => apart (W.sub _ z)
  have wide : ∀ b ∈ wr, b ∈ S :: wr := fun b z => List.mem_cons_of_mem _ z
  have stay : ∀ {x y : Shared}, Moved wr G x y → (∀ b o, g.get? b = some o → x.heap.get? b = some o) → ∀ b o, g.get? b = some o → y.heap.get? b = some o := fun mv k b o e =>
    mv.heap b o (fun z => absurd ((gw b z).symm.trans e) (by simp)) (k b o e)
  intro m
  induction m with
  | zero =>
    intro i s2 em hi st k ⟨L, es, ep, t, hR, got⟩ way
    obtain rfl : i = n := by omega
    refine codeAny_builtin F.entry_set_update_loop (show wpAny _ _ _ _ _ _ from ?_)
    rw [Around.under_plainId F.plain_set_update_loop _]
    refine wpAny_bind (show wpAny _ A.in1 (pyNext (.ref I)) _ _ _ from W.done s2 _ _ st fun s3 mv => wpAny_pure (stop s3 L es ep t (way s3 (mv.mono wide)) ?_ got (stay mv k)))
    exact hR.keep (fun o e => mv.heap S o sw e) fun p z => isT_keep (rows p (List.mem_of_mem_take (got.sub p z))) (stay mv k)
  | succ m ih =>
    intro i s2 em hi st k ⟨L, es, ep, t, hR, got⟩ way
    have lt : i < n := by omega
    refine codeAny_builtin F.entry_set_update_loop (show wpAny _ _ _ _ _ _ from ?_)
    rw [Around.under_plainId F.plain_set_update_loop _]
    refine wpAny_bind (show wpAny _ A.in1 (pyNext (.ref I)) _ _ _ from W.item i s2 _ _ lt st fun v s3 pv st3 mv => ?_)
    obtain ⟨p, hp, rfl⟩ := val i v pv
    have k3 := stay mv k
    have inside : ∀ q ∈ L, q ∈ ks := fun q z => List.mem_of_mem_take (got.sub q z)
    have R3 : SetTR P w s3.heap S L es ep t := hR.keep (fun o e => mv.heap S o sw e) fun q z => isT_keep (rows q (inside q z)) k3
    have row : IsT P w s3.heap p.2 p.1 := isT_keep (rows p (List.mem_of_getElem? hp)) k3
    refine wpAny_bind (wpAny_holding (show wpAny _ A.in1 (setAdd S (.ref p.1)) _ _ _ from ?_))
    unfold setAdd
    refine wpAny_holding (wpAny_bind (wpAny_pyHash_tuple room row (show wpAny _ _ (setAddHashed S (.ref p.1) (thash P w p.2)) _ _ _ from ?_)))
    refine put_row (s := { s3 with toks := s3.toks + (p.2.length + 1) }) R3 row room (fun no => ?_) fun b h1 L1 es1 ep1 t1 but R1 same more => ?_
    · exact few (p :: L) (by rw [List.map_cons]; exact List.nodup_cons.mpr ⟨no, hR.nd⟩) fun q z => (List.mem_cons.mp z).elim (fun e => e ▸ List.mem_of_getElem? hp) (inside q)
    · have got1 : Got ks (i + 1) L1 := (Classical.em (p.2 ∈ L.map (·.2))).elim (fun y => by rw [same y]; exact got.same hp y) fun y => got.more hp (more y)
      have k4 : ∀ b o, g.get? b = some o → h1.get? b = some o := fun b o e => (but.2 b (fun z => absurd (gS.symm.trans (z ▸ e)) (by simp))).trans (k3 b o e)
      refine wpAny_pure ⟨plainId_quiet F.plain_set_update_loop _, ih (i + 1) _ (by omega) lt (W.frame _ s3 _ _ st3 (Nat.le_add_right _ _) fun b z o e => ?_) k4 ⟨L1, es1, ep1, t1, R1, got1⟩ fun s5 mv5 => way s5 ?_⟩
      · exact (but.2 b fun z2 => apart (z2 ▸ z)).trans e
      · exact Moved.trans W.gtrans ((mv.mono wide).then_heap (Nat.le_add_right _ _) fun b o z e => (but.2 b fun z2 => z (z2 ▸ List.mem_cons_self)).trans e) mv5
theorem set_of_rows {l : Addr} {its : Array Value} (ks : List (Addr × List Int)) {Q : Value → Shared → Prop} (calm : A.handled = none) (hl : s.heap.IsList l its) (hit : its.toList = ks.map fun p => Value.ref p.1) (rows : ∀ p ∈ ks, IsT P w s.heap p.2 p.1) (few : Few ks) (room : A.units + 3 < cLine)
    (h : ∀ (h' : Heap) (tk : Nat) L es ep t, SetTR P w h' s.heap.objs.size L es ep t → Got ks ks.length L → (∀ b o, s.heap.get? b = some o → h'.get? b = some o) →
      Q (.ref s.heap.objs.size) { s with heap := h', toks := tk }) :
    wpAny (model P w) A (call (.type "set") [.ref l]) Q E s := by
  have lens : its.size = ks.length := (Array.length_toList (xs := its)).symm.trans (by rw [hit, List.length_map])
  have k0 := F.called_set.mro
  obtain ⟨mc, mtl, k0⟩ := k0
  have k1 := F.called_set.made
  have k2 := F.called_set.sub
  have k3 := F.called_set.notType
  have k4 := F.called_set.canCreate
  have k5 := F.typeCall_set_1 (.ref l)
  refine wpAny_call (codeAny_of_tree (show wpAny _ _ (callAny (.type "set") _) _ _ _ from ?_))
  refine wpAny_pure (And.intro (Code.quiet_builtin _ (by decide +kernel)) (codeAny_builtin F.entry_type_call ?_))
  rw [Around.under_plain (weight_type_call_type "set" [Value.ref l] []) rfl]
  repeat any_goals (first | assumption | wp_step)
  refine codeAny_mono (code_set_led1 (.ref l) (E := E)
    (Q₁ := fun obj s₁ => obj = .ref s.heap.objs.size ∧ s₁ = { s with heap := s.heap.push (newSetO w) }) (And.intro rfl rfl)) fun r s₁ hr => ?_
  cases r with
  | error e => exact hr
  | ok fl =>
    cases fl with
    | ret obj =>
      obtain ⟨eo, es⟩ := hr
      subst eo es
      have atS : (s.heap.push (newSetO w)).get? s.heap.objs.size = some (newSetO w) := Heap.get?_push_size _ rfl
      have isT : Shared.TypeIs { s with heap := s.heap.push (newSetO w) } (.ref s.heap.objs.size) "set" := ⟨_, atS, rfl⟩
      have j1 := F.called_set.init.lookup
      have j2 := F.called_set.init.bind (Value.ref s.heap.objs.size)
      repeat any_goals (first | assumption | wp_step)
      refine codeAny_mono (codeAny_call_builtin
        (R := wants (fun r s₂ => r = .none ∧ ∃ h' tk L es ep t, s₂ = { s with heap := h', toks := tk } ∧ SetTR P w h' s.heap.objs.size L es ep t ∧ Got ks ks.length L ∧ ∀ b o, s.heap.get? b = some o → h'.get? b = some o) E)
        F.called_set.init.plain F.entry_set_init (check_set_init_1 isT ?_)) fun r₂ s₂ hr₂ => ?_
      · obtain ⟨ol, atL, e1, nl, e2⟩ := hl
        obtain ⟨lc, ld, ldt, lsl⟩ := ol
        dsimp only at e1 e2
        subst e1 e2
        have atL1 : (s.heap.push (newSetO w)).get? l = some { cls := .type "list", dict := ld, data := .seq its nl, slots := lsl } := Heap.get?_push_of_some _ atL
        have n1 := F.sub_list_set
        have n2 := F.sub_list_frozenset
        have n3 : (Value.type "list" == Value.type "dict") = false := by decide
        have isL1 : (s.heap.push (newSetO w)).IsList l its := ⟨_, atL1, rfl, nl, rfl⟩
        unfold Builtin.«set.__init__» noKeywords Builtin.Frozenset.updateFrom
        generalize ePI : pyIter = PI
        wp_walk
        subst ePI
        refine wpAny_pyIter_list isL1 (wpAny_bind (wpAny_runValue ?_))
        have ltL : l < s.heap.objs.size := Heap.lt_size atL
        have sz : (s.heap.push (newSetO w)).objs.size = s.heap.objs.size + 1 := Heap.size_push ..
        have calm3 : A.in1.in1.in1.handled = none := calm
        have apart : s.heap.objs.size ∉ [(s.heap.push (newSetO w)).objs.size, l] := fun z => by
          rw [sz] at z
          rcases List.mem_cons.mp z with z | z
          · exact absurd z (Nat.ne_of_lt (Nat.lt_succ_self _))
          · exact absurd (List.mem_singleton.mp z) (Nat.ne_of_gt ltL)
        have notI : l ≠ (s.heap.push (newSetO w)).objs.size := by
          rw [sz]
          exact Nat.ne_of_lt (Nat.lt_succ_of_lt ltL)
        have free : ∀ b, s.heap.objs.size ≤ b → s.heap.get? b = none := fun b hb => by
          cases q : s.heap.get? b with
          | none => rfl
          | some o => exact absurd (Nat.lt_of_lt_of_le (Heap.lt_size q) hb) (Nat.lt_irrefl _)
        refine update_rows (g := s.heap) ((Walks.list calm3 _ l notI its).toS) apart lens few (fun i v hv => ?val) rows (free _ (Nat.le_refl _)) (fun b hb => ?out) room ?stop (its.size - 0) 0 _ (by omega) (Nat.zero_le _)
          ⟨⟨_, Heap.get?_push_size _ rfl, rfl, rfl⟩, isL1.push _⟩ (fun b o e => Heap.get?_push_of_some _ (Heap.get?_push_of_some _ e)) ⟨[], #[], 0, _, setTR_fresh (Heap.get?_push_of_some _ atS), Got.zero ks⟩ (fun _ z => z)
        case val =>
          have q : its.toList[i]? = some v := (Array.getElem?_toList (xs := its)).trans hv
          rw [hit, List.getElem?_map] at q
          obtain ⟨p, e1, e2⟩ := Option.map_eq_some_iff.mp q
          exact ⟨p, e1, e2.symm⟩
        case out =>
          rw [List.mem_singleton.mp hb, sz]
          exact free _ (Nat.le_succ _)
        case stop =>
          intro s' L es ep t hm hS' got k
          obtain ⟨h2, g2, d2, t2, o2⟩ := s'
          obtain rfl : g2 = s.gens := hm.gens
          obtain rfl : d2 = s.drawn := hm.drawn
          obtain rfl : o2 = s.os := hm.os
          refine wpAny_pure (show wpAny _ _ (ret Value.none) _ _ _ from wpAny_pure ⟨rfl, h2, t2, L, es, ep, t, rfl, hS', lens ▸ got, k⟩)
      · cases r₂ with
        | error e => exact hr₂
        | ok f2 =>
          cases f2 with
          | ret u =>
            obtain ⟨rfl, h', tk, L, es, ep, t, rfl, a1, a2, a3⟩ := hr₂
            repeat any_goals (first | assumption | wp_step)
            exact h h' tk L es ep t a1 a2 a3
          | next => exact hr₂.elim
          | brk => exact hr₂.elim
          | cont => exact hr₂.elim
    | next => exact hr.elim
    | brk => exact hr.elim
    | cont => exact hr.elim
end
/-! ### rows of whole numbers as such tuples -/
def toI (p : Addr × List Nat) : Addr × List Int := (p.1, p.2.map fun n : Nat => (n : Int))
theorem toI_row (r : List Nat) : (r.map fun n : Nat => (n : Int)).map V.int = r.map iV := by rw [List.map_map]; rfl
theorem ofNat_inj {a b : List Nat} (h : (a.map fun n : Nat => (n : Int)) = b.map fun n : Nat => (n : Int)) : a = b := by
  have e : ∀ r : List Nat, (r.map fun n : Nat => (n : Int)).map Int.toNat = r := fun r => by
    rw [List.map_map]
    exact (List.map_congr_left fun x _ => Int.toNat_natCast x).trans (List.map_id' r)
  rw [← e a, h, e b]
theorem back_of {qs : List (Addr × List Nat)} : ∀ L : List (Addr × List Int), (∀ p ∈ L, p ∈ qs.map toI) → ∃ ps : List (Addr × List Nat), L = ps.map toI ∧ ∀ p ∈ ps, p ∈ qs
  | [], _ => ⟨[], rfl, fun _ h => nomatch h⟩
  | x :: L, h => by
    obtain ⟨ps, e, hs⟩ := back_of L fun p hp => h p (List.mem_cons_of_mem _ hp)
    obtain ⟨q, hq, rfl⟩ := List.mem_map.mp (h x List.mem_cons_self)
    refine ⟨q :: ps, by rw [e]; rfl, fun p hp => ?_⟩
    rcases List.mem_cons.mp hp with rfl | hp
    · exact hq
    · exact hs p hp
/-- fewer than 64 rows differ -/
def FewN (qs : List (Addr × List Nat)) : Prop := ∀ rs : List (List Nat), rs.Nodup → (∀ r ∈ rs, r ∈ qs.map (·.2)) → rs.length < 64
theorem FewN.few {qs : List (Addr × List Nat)} (h : FewN qs) : Few (qs.map toI) := fun L nd hs => by
  obtain ⟨ps, rfl, hp⟩ := back_of L hs
  have e : (ps.map toI).map (·.2) = (ps.map (·.2)).map fun r : List Nat => r.map fun n : Nat => (n : Int) := by rw [List.map_map, List.map_map]; rfl
  rw [e] at nd
  have := h (ps.map (·.2)) (nodup_of_map nd) fun r hr => by
    obtain ⟨p, z, rfl⟩ := List.mem_map.mp hr
    exact List.mem_map_of_mem (hp p z)
  rw [List.length_map] at this ⊢
  exact this
def rSetR (K : PySem.W.Frag) (P : Program) (w : World) : List V → Hp → VK → Prop := fun xs H Q => ∃ (l : Addr) (qs : List (Addr × List Nat)), xs = [.ref l] ∧ SqL K H l (refsV qs) ∧ (∀ p ∈ qs, SqT K H p.1 (p.2.map iV)) ∧ FewN qs ∧
  ∀ (a : Addr) (ps : List (Addr × List Nat)), H a = none → (∀ p ∈ ps, p ∈ qs) → (∀ q ∈ qs, q.2 ∈ ps.map (·.2)) → (ps.map (·.2)).Nodup → Q (.ref a) (upd H a (SetTO P w a (ps.map toI)))
theorem cr_setR {X : Cx} {K : PySem.W.Frag} {P : Program} {w : World} (hK : X.K = K) (hP : X.prog = P) (hw : X.w = w) (hc : X.calm = true) (room : X.A.units + 64 < cLine) : CallR X (.type "set") (rSetR K P w) := by
  subst hK hP hw
  rintro pins s σ H xs us Q I rs ⟨l, qs, rfl, hl, hrow, few, key⟩
  rw [Vals.ref1 rs]
  obtain ⟨its, rv, pl, hz⟩ := I.list hl
  obtain rfl := refs_eq qs its rv
  refine set_of_rows (P := X.prog) (w := X.w) (qs.map toI) (I.ok.hd hc) pl.isList (by rw [List.map_map]; simp [refsU, toI]) (fun p hp => ?_) few.few (by omega) fun h' tk L es ep t R got k => ?_
  · obtain ⟨q, hq, rfl⟩ := List.mem_map.mp hp
    exact I.isT (by rw [show (toI q).2.map V.int = q.2.map iV from toI_row q.2]; exact hrow q hq)
  · obtain ⟨ps, rfl, hs⟩ := back_of (qs := qs) L fun p hp => List.mem_of_mem_take (got.sub p hp)
    refine ⟨.ref s.heap.objs.size, _, I.laid (t' := tk) k (Nat.le_refl _) (setTO_new R.t0), rfl, key _ ps (I.hok.fresh (Nat.le_refl _)) hs (fun q hq => ?_) ?_⟩
    · have := got.all (toI q) (by rw [List.take_length]; exact List.mem_map_of_mem hq)
      rw [List.map_map] at this
      obtain ⟨p, hp, e⟩ := List.mem_map.mp this
      exact List.mem_map.mpr ⟨p, hp, ofNat_inj e⟩
    · have nd := R.nd
      rw [List.map_map] at nd
      refine nodup_of_map (f := fun r : List Nat => r.map fun n : Nat => (n : Int)) ?_
      rw [List.map_map]
      exact nd
/-! ### sorted(s), s such a set: rows of any lengths -/
def rSortSR (K : PySem.W.Frag) (P : Program) (w : World) : List V → Hp → VK → Prop := fun vs H Q => ∃ (a : Addr) (ps : List (Addr × List Nat)), vs = [.ref a] ∧ H a = some (SetTO P w a (ps.map toI)) ∧ (∀ p ∈ ps, SqT K H p.1 (p.2.map iV) ∧ p.2 ≠ []) ∧
  ∀ (zs : List (Addr × List Nat)) (p : Addr), zs.Perm ps → sortedR zs → H p = none → Q (.ref p) (upd H p (.lst (refsV zs)))
theorem cr_sortSR {X : Cx} {K : PySem.W.Frag} {P : Program} {w : World} (hK : X.K = K) (hP : X.prog = P) (hw : X.w = w) (hc : X.calm = true) : CallR X (.builtin "sorted") (rSortSR K P w) := by
  subst hK hP hw
  rintro pins s σ H vs us Q I rs ⟨a, ps, rfl, hS, hall, key⟩
  have R0 : SetT0 X.prog X.w s.heap a (ps.map toI) := (I.hok a _ hS).1
  obtain ⟨es, ep, t, R⟩ := R0.full fun p hp => by
    obtain ⟨q, hq, rfl⟩ := List.mem_map.mp hp
    exact I.isT (by rw [show (toI q).2.map V.int = q.2.map iV from toI_row q.2]; exact (hall q hq).1)
  obtain ⟨o, at_, ex, dat⟩ := R.ob
  have size := R.size
  have few := R.few
  rw [List.length_map] at size few
  rw [Vals.ref1 rs]
  refine Calls.call_function_entry kind_sorted plain_sorted entry_sorted (args_sorted1 _) (show wpAny _ _ _ _ _ _ from ?_)
  unfold Builtin.«sorted»
  refine wpAny_bind (show wpAny _ _ (checkCount "sorted" 1 1 _) _ _ _ from wpAny_pure (show wpAny _ _ _ _ _ _ from ?_))
  refine wpAny_bind (collect_set (A := X.A.in1) (I.ok.hd hc) ⟨o, at_, ex.1, dat⟩ R.fits (by rw [size]; unfold scanBound; omega) R.tab.ris R.led fun s1 us1 k1 z1 g1 o1 pm => ?_)
  have ees : es.toList.map (·.2) = refsU ps := by
    rw [R.rows]
    simp [rowsOf, refsU, toI]
  rw [ees] at pm
  obtain ⟨qs, pq, eq⟩ := perm_lift (fun p : Addr × List Nat => Value.ref p.1) pm ps rfl
  obtain rfl : us1 = refsU qs := eq.symm
  have lq : (refsU qs).length = ps.length := by rw [show (refsU qs).length = qs.length from List.length_map _, pq.length_eq]
  have zl : (sizeLine : Nat) = 16777216 := by decide
  refine wpAny_bind (wpAny_newList (show wpAny _ _ _ _ _ _ from ?_) (by omega))
  have hl : (s1.heap.push (seqObj "list" (refsU qs).toArray 0)).get? s1.heap.objs.size = some (seqObj "list" (refsU qs).toArray 0) := Heap.get?_push_size _ rfl
  have hrow : ∀ p ∈ qs, RowAt (s1.heap.push (seqObj "list" (refsU qs).toArray 0)) p.1 p.2 := fun p hp => by
    have hp := pq.mem_iff.mp hp
    obtain ⟨js, jv, jt, _⟩ := I.tuple (hall p hp).1
    exact RowAt.keep (h := s.heap) ⟨(hall p hp).2, js, jv, jt⟩ fun b u e => Heap.get?_push_of_some _ (k1 b u e)
  obtain ⟨fs, hfs⟩ := tups_of qs hrow
  refine wpAny_bind (wpAny_holding (wpAny_call_entry slot_list_sort ⟨_, hl, rfl⟩ entry_list_sort (PyProof.Rows.G.list_sort_tups (s := { s1 with heap := s1.heap.push (seqObj "list" (refsU qs).toArray 0) }) hl hfs (keys_of hrow) (by omega) fun st p1 p2 _ => ⟨_, rfl, ?_⟩) (args_list_sort _)))
  obtain ⟨zs, g4, g5, g6⟩ := out_rows hrow p1 p2
  obtain ⟨c, hat⟩ := sortedHeap_at (vs := refsU qs) (out := (arrOf st).map (·.2)) hl
  obtain ⟨h1, n1, d1, tk1, os1⟩ := s1
  obtain rfl : n1 = s.gens := g1
  obtain rfl : os1 = s.os := o1
  have keep : ∀ b u, s.heap.get? b = some u → (sortedHeap (h1.push (seqObj "list" (refsU qs).toArray 0)) h1.objs.size (refsU qs) ((arrOf st).map (·.2))).get? b = some u := fun b u e => by
    have e1 := k1 b u e
    have lt := Heap.lt_size e1
    rw [sortedHeap_old (Nat.ne_of_lt lt) (by rw [size_push']; exact Nat.lt_succ_of_lt lt)]
    exact Heap.get?_push_of_some _ e1
  have free : H h1.objs.size = none := I.hok.fresh z1
  have lz : (refsV zs).length ≤ sizeLine := by
    rw [show (refsV zs).length = zs.length from List.length_map _, g4.length_eq, pq.length_eq]
    omega
  have vz : Vals (refsV zs) ((arrOf st).map (·.2)).toList := by
    rw [g5]
    exact refs_vals zs
  have new : ObjOk X.prog X.w (upd H h1.objs.size (.lst (refsV zs))) (sortedHeap (h1.push (seqObj "list" (refsU qs).toArray 0)) h1.objs.size (refsU qs) ((arrOf st).map (·.2))) h1.objs.size (.lst (refsV zs)) := ⟨lz, _, c, vz, hat⟩
  have J := I.call (ch := []) (d' := d1) (t' := tk1) (Un.laid keep z1 free) (I.hok.laid keep z1 new) I.bare (fun _ z => nomatch z)
  exact wpAny_pure ⟨_, rfl, .ref h1.objs.size, _, J, rfl, key zs _ (g4.trans pq) g6 free⟩
end G
set_option Elab.async false
set_option linter.all false
set_option maxRecDepth 100000
set_option maxHeartbeats 4000000
namespace G
open PySem PySem.Spec PyProof.Rows L2
/-! ### the order of lots: those with more states first, the others as rows -/
def leLot (a b : List Nat) : Prop := b.length < a.length ∨ (a.length = b.length ∧ rle a b)
theorem leLot_anti {a b : List Nat} (h1 : leLot a b) (h2 : leLot b a) : a = b := by
  rcases h1 with h1 | ⟨e1, h1⟩ <;> rcases h2 with h2 | ⟨e2, h2⟩
  · omega
  · omega
  · omega
  · exact rle_anti h1 h2
theorem perm_uniq {α : Type} {R : α → α → Prop} (anti : ∀ a b, R a b → R b a → a = b) : ∀ {a b : List α}, a.Perm b → a.Pairwise R → b.Pairwise R → a = b
  | [], b, h, _, _ => by rw [h.nil_eq]
  | x :: a, [], h, _, _ => by have := h.length_eq; simp at this
  | x :: a, y :: b, h, ha, hb => by
    obtain ⟨ha1, ha2⟩ := List.pairwise_cons.mp ha
    obtain ⟨hb1, hb2⟩ := List.pairwise_cons.mp hb
    have e : x = y := by
      rcases List.mem_cons.mp (h.mem_iff.mp List.mem_cons_self) with e | hx
      · exact e
      · rcases List.mem_cons.mp (h.mem_iff.mpr List.mem_cons_self) with e | hy
        · exact e.symm
        · exact anti _ _ (ha1 y hy) (hb1 x hx)
    subst e
    rw [perm_uniq anti (List.Perm.cons_inv h) ha2 hb2]
theorem lex_kk : ∀ a b : List Nat, PyProof.Rows.lexLt itemOrd (kk a) (kk b) = decide ((a.map fun n : Nat => (n : Int)) < (b.map fun n : Nat => (n : Int)))
  | [], [] => by
    rw [decide_eq_false (by simp)]
    rfl
  | [], y :: b => by
    rw [decide_eq_true (by simp)]
    rfl
  | x :: a, [] => by
    rw [decide_eq_false (by simp)]
    rfl
  | x :: a, y :: b => by
    have ih := lex_kk a b
    show PyProof.Rows.lexLt itemOrd (Sum.inl (x : Int) :: kk a) (Sum.inl (y : Int) :: kk b) = _
    rw [PyProof.Rows.lex_cons, ih]
    have e1 : itemOrd.blt (Sum.inl (x : Int)) (Sum.inl (y : Int)) = decide ((x : Int) < (y : Int)) := rfl
    have e2 : itemOrd.blt (Sum.inl (y : Int)) (Sum.inl (x : Int)) = decide ((y : Int) < (x : Int)) := rfl
    rw [e1, e2, List.map_cons, List.map_cons]
    by_cases h1 : (x : Int) < (y : Int)
    · rw [decide_eq_true h1, Bool.true_or, decide_eq_true (List.cons_lt_cons_iff.mpr (.inl h1))]
    · by_cases h2 : (y : Int) < (x : Int)
      · rw [decide_eq_false h1, decide_eq_true h2, Bool.not_true, Bool.false_and, Bool.false_or, decide_eq_false (fun z => by
          rcases List.cons_lt_cons_iff.mp z with z | z
          · omega
          · omega)]
      · have e : (x : Int) = (y : Int) := by omega
        rw [decide_eq_false h1, decide_eq_false h2, Bool.not_false, Bool.true_and, Bool.false_or, e]
        by_cases h3 : (a.map fun n : Nat => (n : Int)) < (b.map fun n : Nat => (n : Int))
        · rw [decide_eq_true h3, decide_eq_true (List.cons_lt_cons_iff.mpr (.inr ⟨rfl, h3⟩))]
        · rw [decide_eq_false h3, decide_eq_false (fun z => by
            rcases List.cons_lt_cons_iff.mp z with z | z
            · omega
            · exact h3 z.2)]
theorem rowLt_lex (a b : List Nat) : PySem.W.dataLt (rowD a) (rowD b) = PyProof.Rows.lexLt itemOrd (kk a) (kk b) := by
  unfold rowD
  rw [PySem.W.dataLt_tuple, lex_kk, nat_ints, nat_ints]
  exact PySem.W.dataLt_ints _ _
theorem rowLt_rle (a b : List Nat) : PySem.W.dataLt (rowD b) (rowD a) = false ↔ rle a b := by
  rw [rowLt_lex]
  exact Iff.rfl
theorem rle_trans {a b c : List Nat} (h1 : rle a b) (h2 : rle b c) : rle a c := KeyOrd.kle_trans h1 h2
theorem rle_lt (a b : List Nat) : rle a b ↔ ¬ (b.map fun n : Nat => (n : Int)) < (a.map fun n : Nat => (n : Int)) := by
  show PyProof.Rows.lexLt itemOrd (kk b) (kk a) = false ↔ _
  rw [lex_kk, decide_eq_false_iff_not]
theorem rle_total (a b : List Nat) : rle a b ∨ rle b a := by
  rw [rle_lt, rle_lt]
  by_cases h : (b.map fun n : Nat => (n : Int)) < (a.map fun n : Nat => (n : Int))
  · exact .inr fun z => List.lt_irrefl _ (List.lt_trans h z)
  · exact .inl h
theorem leLot_trans {a b c : List Nat} (h1 : leLot a b) (h2 : leLot b c) : leLot a c := by
  rcases h1 with h1 | ⟨e1, h1⟩ <;> rcases h2 with h2 | ⟨e2, h2⟩
  · exact .inl (by omega)
  · exact .inl (by omega)
  · exact .inl (by omega)
  · exact .inr ⟨by omega, rle_trans h1 h2⟩
theorem leLot_total (a b : List Nat) : leLot a b ∨ leLot b a := by
  rcases Nat.lt_trichotomy a.length b.length with h | h | h
  · exact .inr (.inl h)
  · exact (rle_total a b).elim (fun z => .inl (.inr ⟨h, z⟩)) fun z => .inr (.inr ⟨h.symm, z⟩)
  · exact .inl (.inl h)
theorem leD_len (p q : Addr × List Nat) : leD keyLen p q = decide (q.2.length ≤ p.2.length) := by
  unfold leD keyLen
  rw [PySem.W.dataLt_int, PySem.W.not_lt_int]
  by_cases h : q.2.length ≤ p.2.length
  · rw [decide_eq_true h, decide_eq_true (by omega)]
  · rw [decide_eq_false h, decide_eq_false (by omega)]
theorem leD_lot (p q : Addr × List Nat) : leD keyLot p q = true ↔ leLot p.2 q.2 := by
  have e : leD keyLot p q = !(if PyData.eqv (.int (-(q.2.length : Nat))) (.int (-(p.2.length : Nat))) = true then (if PyData.eqv (rowD q.2) (rowD p.2) = true then false else PySem.W.dataLt (rowD q.2) (rowD p.2)) else PySem.W.dataLt (.int (-(q.2.length : Nat))) (.int (-(p.2.length : Nat)))) := by
    unfold leD keyLot
    rw [PySem.W.dataLt_pair (by simp [PySem.W.alike]) (alike_row _ _)]
  rw [e, eqv_rows, PySem.W.dataLt_int]
  have ei : PyData.eqv (.int (-(q.2.length : Nat))) (.int (-(p.2.length : Nat))) = decide (q.2.length = p.2.length) := by
    rw [PyData.eqv]
    by_cases h : q.2.length = p.2.length
    · rw [decide_eq_true h, h]
      exact beq_self_eq_true _
    · rw [decide_eq_false h]
      exact beq_eq_false_iff_ne.mpr fun z => h (by omega)
  rw [ei]
  unfold leLot
  by_cases h : q.2.length = p.2.length
  · rw [decide_eq_true h, if_pos rfl]
    by_cases h2 : q.2 = p.2
    · rw [decide_eq_true h2, if_pos rfl, Bool.not_false]
      refine ⟨fun _ => .inr ⟨h.symm, ?_⟩, fun _ => rfl⟩
      rw [h2]
      exact (rle_total p.2 p.2).elim id id
    · rw [decide_eq_false h2, if_neg Bool.false_ne_true]
      constructor
      · intro z
        exact .inr ⟨h.symm, (rowLt_rle _ _).mp (by simpa using z)⟩
      · rintro (z | ⟨_, z⟩)
        · omega
        · rw [(rowLt_rle _ _).mpr z]
          rfl
  · rw [decide_eq_false h, if_neg Bool.false_ne_true]
    constructor
    · intro z
      have : ¬ (-(q.2.length : Int) < -(p.2.length : Int)) := by simpa using z
      exact .inl (by omega)
    · rintro (z | ⟨z, _⟩)
      · rw [decide_eq_false (by omega)]
        rfl
      · exact absurd z.symm h
theorem sorted_lot (ps : List (Addr × List Nat)) : (ps.mergeSort (leD keyLot)).Pairwise fun p q => leLot p.2 q.2 :=
  (List.pairwise_mergeSort (le := leD keyLot) (fun a b c h1 h2 => (leD_lot a c).mpr (leLot_trans ((leD_lot a b).mp h1) ((leD_lot b c).mp h2))) (fun a b => by
    rw [Bool.or_eq_true]
    exact (leLot_total a.2 b.2).elim (fun z => .inl ((leD_lot a b).mpr z)) fun z => .inr ((leD_lot b a).mpr z)) ps).imp fun h => (leD_lot _ _).mp h
theorem stable_len {zs : List (Addr × List Nat)} (h : sortedR zs) : (zs.mergeSort (leD keyLen)).Pairwise fun p q => leLot p.2 q.2 := by
  have tr : ∀ a b c : Addr × List Nat, leD keyLen a b = true → leD keyLen b c = true → leD keyLen a c = true := fun a b c h1 h2 => by
    rw [leD_len] at h1 h2 ⊢
    have := of_decide_eq_true h1
    have := of_decide_eq_true h2
    exact decide_eq_true (by omega)
  have to : ∀ a b : Addr × List Nat, (leD keyLen a b || leD keyLen b a) = true := fun a b => by
    rw [leD_len, leD_len, Bool.or_eq_true, decide_eq_true_eq, decide_eq_true_eq]
    omega
  refine List.pairwise_iff_forall_sublist.mpr fun {a b} hab => ?_
  have h1 := List.pairwise_iff_forall_sublist.mp (List.pairwise_mergeSort tr to zs) hab
  rw [leD_len, decide_eq_true_eq] at h1
  rcases Nat.lt_or_ge b.2.length a.2.length with hl | hl
  · exact .inl hl
  · have e : a.2.length = b.2.length := by omega
    refine .inr ⟨e, ?_⟩
    let f : Addr × List Nat → Bool := fun q => decide (q.2.length = a.2.length)
    have s1 : (zs.filter f).Sublist (zs.mergeSort (leD keyLen)) := List.sublist_mergeSort tr to (List.pairwise_iff_forall_sublist.mpr fun {x y} hxy => by
      have hx := (List.mem_filter.mp (hxy.subset (show x ∈ [x, y] from List.mem_cons_self))).2
      have hy := (List.mem_filter.mp (hxy.subset (show y ∈ [x, y] from List.mem_cons_of_mem _ List.mem_cons_self))).2
      have hx := of_decide_eq_true hx
      have hy := of_decide_eq_true hy
      rw [leD_len]
      exact decide_eq_true (by omega)) List.filter_sublist
    have s2 : (zs.filter f).Sublist ((zs.mergeSort (leD keyLen)).filter f) := by
      have := s1.filter f
      rw [List.filter_filter] at this
      simpa using this
    have el : (zs.filter f).length = ((zs.mergeSort (leD keyLen)).filter f).length := ((List.mergeSort_perm zs (leD keyLen)).filter f).length_eq.symm
    have eq := s2.eq_of_length el
    have s3 : [a, b].Sublist ((zs.mergeSort (leD keyLen)).filter f) := by
      have := hab.filter f
      have fa : f a = true := decide_eq_true rfl
      have fb : f b = true := decide_eq_true e.symm
      rw [List.filter_cons_of_pos fa, List.filter_cons_of_pos fb, List.filter_nil] at this
      exact this
    rw [← eq] at s3
    exact List.pairwise_iff_forall_sublist.mp h (s3.trans List.filter_sublist)
theorem lots_uniq {a b : List (Addr × List Nat)} (h : (a.map (·.2)).Perm (b.map (·.2))) (ha : a.Pairwise fun p q => leLot p.2 q.2) (hb : b.Pairwise fun p q => leLot p.2 q.2) : a.map (·.2) = b.map (·.2) :=
  perm_uniq (fun _ _ => leLot_anti) h (List.pairwise_map.mpr ha) (List.pairwise_map.mpr hb)
end G
set_option Elab.async false
set_option linter.all false
set_option maxRecDepth 100000
set_option maxHeartbeats 4000000
namespace G
open PySem PySem.Spec PyProof.Rows L2
/-! wheels -/
def rot (n j : Nat) : List Nat := (List.range n).map fun k => (k + j) % n
theorem rot_len (n j : Nat) : (rot n j).length = n := by unfold rot; rw [List.length_map, List.length_range]
theorem rot_row {n j : Nat} : RowN n (rot n j) := by
  refine ⟨rot_len n j, fun x hx => ?_⟩
  obtain ⟨k, hk, rfl⟩ := List.mem_map.mp hx
  have := List.mem_range.mp hk
  exact Nat.mod_lt _ (by omega)
theorem at_rot {n j i : Nat} (h : i < n) : at0 (rot n j) i = (i + j) % n := by
  unfold at0 rot
  rw [List.getD_eq_getElem?_getD, List.getElem?_map, List.getElem?_range h]
  rfl
theorem then_rot (n i j : Nat) : thenN (rot n i) (rot n j) = rot n ((i + j) % n) := by
  show (rot n i).map (at0 (rot n j)) = _
  unfold rot
  rw [List.map_map]
  refine List.map_congr_left fun k hk => ?_
  have hk' := List.mem_range.mp hk
  show at0 (rot n j) ((k + i) % n) = _
  rw [at_rot (Nat.mod_lt _ (by omega)), Nat.mod_add_mod, Nat.add_mod_mod, Nat.add_assoc]
theorem rot_zero (n : Nat) : rot n 0 = idN n := by
  unfold rot idN
  conv => rhs; rw [← List.map_id (List.range n)]
  refine List.map_congr_left fun k hk => ?_
  rw [Nat.add_zero]
  exact Nat.mod_eq_of_lt (List.mem_range.mp hk)
theorem bnd_wheel {n : Nat} (h1 : 1 ≤ n) : Bnd n [rot n 1] ((List.range n).map (rot n)) n where
  rows := fun m hm => by rw [List.mem_singleton.mp hm]; exact rot_row
  one := List.mem_map.mpr ⟨0, List.mem_range.mpr h1, rot_zero n⟩
  step := fun x hx m hm => by
    obtain ⟨j, _, rfl⟩ := List.mem_map.mp hx
    rw [List.mem_singleton.mp hm, then_rot]
    exact List.mem_map.mpr ⟨_, List.mem_range.mpr (Nat.mod_lt _ (by omega)), rfl⟩
  len := by rw [List.length_map, List.length_range]; exact Nat.le_refl _
def rot2 (f o i j : Nat) : List Nat := rot f i ++ (rot o j).map fun x => f + x
theorem rot2_row {f o i j : Nat} : RowN (f + o) (rot2 f o i j) := by
  unfold rot2
  refine ⟨by rw [List.length_append, List.length_map, rot_len, rot_len], fun x hx => ?_⟩
  rcases List.mem_append.mp hx with hx | hx
  · have := rot_row.2 x hx
    omega
  · obtain ⟨k, hk, rfl⟩ := List.mem_map.mp hx
    have := rot_row.2 k hk
    show f + k < f + o
    omega
theorem at_rot2 {f o i j x : Nat} (h : x < f) : at0 (rot2 f o i j) x = at0 (rot f i) x := by
  unfold at0 rot2
  rw [List.getD_eq_getElem?_getD, List.getD_eq_getElem?_getD, List.getElem?_append_left (by rw [rot_len]; exact h)]
theorem at_rot2' {f o i j x : Nat} (h : x < o) : at0 (rot2 f o i j) (f + x) = f + at0 (rot o j) x := by
  have e := at0_some (p := rot o j) (i := x) (by rw [rot_len]; exact h)
  unfold at0 rot2
  rw [List.getD_eq_getElem?_getD, List.getElem?_append_right (by rw [rot_len]; omega), rot_len, Nat.add_sub_cancel_left, List.getElem?_map, e]
  rfl
theorem then_rot2 (f o i j a b : Nat) : thenN (rot2 f o i j) (rot2 f o a b) = rot2 f o ((i + a) % f) ((j + b) % o) := by
  show (rot f i ++ (rot o j).map fun x => f + x).map (at0 (rot2 f o a b)) = rot f ((i + a) % f) ++ (rot o ((j + b) % o)).map fun x => f + x
  rw [List.map_append, List.map_map, ← then_rot, ← then_rot]
  have e1 : (rot f i).map (at0 (rot2 f o a b)) = thenN (rot f i) (rot f a) := List.map_congr_left fun x hx => at_rot2 (rot_row.2 x hx)
  have e2 : (rot o j).map (at0 (rot2 f o a b) ∘ fun x => f + x) = (thenN (rot o j) (rot o b)).map fun x => f + x := by
    show _ = ((rot o j).map (at0 (rot o b))).map fun x => f + x
    rw [List.map_map]
    exact List.map_congr_left fun x hx => at_rot2' (rot_row.2 x hx)
  rw [e1, e2]
theorem id_two (f o : Nat) : rot2 f o 0 0 = idN (f + o) := by
  unfold rot2
  rw [rot_zero, rot_zero]
  unfold idN
  rw [List.range_add]
theorem bnd_two {f o : Nat} (hf : 1 ≤ f) (ho : 1 ≤ o) : Bnd (f + o) [rot2 f o 1 0, rot2 f o 0 1] ((List.range f).flatMap fun i => (List.range o).map fun j => rot2 f o i j) (f * o) where
  rows := fun m hm => by
    rcases List.mem_cons.mp hm with rfl | hm
    · exact rot2_row
    · rw [List.mem_singleton.mp hm]; exact rot2_row
  one := List.mem_flatMap.mpr ⟨0, List.mem_range.mpr hf, List.mem_map.mpr ⟨0, List.mem_range.mpr ho, id_two f o⟩⟩
  step := fun x hx m hm => by
    obtain ⟨i, hi, h2⟩ := List.mem_flatMap.mp hx
    obtain ⟨j, hj, rfl⟩ := List.mem_map.mp h2
    have go : ∀ a b, thenN (rot2 f o i j) (rot2 f o a b) ∈ (List.range f).flatMap fun i => (List.range o).map fun j => rot2 f o i j := fun a b => by
      rw [then_rot2]
      exact List.mem_flatMap.mpr ⟨_, List.mem_range.mpr (Nat.mod_lt _ (by omega)), List.mem_map.mpr ⟨_, List.mem_range.mpr (Nat.mod_lt _ (by omega)), rfl⟩⟩
    rcases List.mem_cons.mp hm with rfl | hm
    · exact go 1 0
    · rw [List.mem_singleton.mp hm]; exact go 0 1
  len := by
    have : ∀ l : List Nat, (l.flatMap fun i => (List.range o).map fun j => rot2 f o i j).length = l.length * o := by
      intro l
      induction l with
      | nil => simp
      | cons x l ih => rw [List.flatMap_cons, List.length_append, ih, List.length_map, List.length_range, List.length_cons, Nat.succ_mul, Nat.add_comm]
    rw [this, List.length_range]
    exact Nat.le_refl _
/-! the small ones of the law -/
def reflN (n : Nat) : List Nat := (List.range n).map fun k => (n - k) % n
def permB (n : Nat) (p : List Nat) : Bool := decide (p.length = n) && p.all (fun x => decide (x < n)) && decide p.Nodup
theorem perm_of {n : Nat} {p : List Nat} (h : permB n p = true) : Perm n p := by
  unfold permB at h
  simp only [Bool.and_eq_true, List.all_eq_true, decide_eq_true_eq] at h
  exact ⟨h.1.1, h.1.2, h.2⟩
theorem wheel_perm {n : Nat} (h1 : 1 ≤ n) (h : n ≤ 6) : Perm n (rot n 1) ∧ Perm n (reflN n) := by
  match n, h1, h with
  | 1, _, _ => exact ⟨perm_of (by decide +kernel), perm_of (by decide +kernel)⟩
  | 2, _, _ => exact ⟨perm_of (by decide +kernel), perm_of (by decide +kernel)⟩
  | 3, _, _ => exact ⟨perm_of (by decide +kernel), perm_of (by decide +kernel)⟩
  | 4, _, _ => exact ⟨perm_of (by decide +kernel), perm_of (by decide +kernel)⟩
  | 5, _, _ => exact ⟨perm_of (by decide +kernel), perm_of (by decide +kernel)⟩
  | 6, _, _ => exact ⟨perm_of (by decide +kernel), perm_of (by decide +kernel)⟩
end G
set_option Elab.async false
set_option linter.all false
set_option maxRecDepth 100000
set_option maxHeartbeats 4000000
namespace G
open PySem PySem.Spec PyProof.Rows L2
/-! ### walking a dict whose keys are tuples: it is locked as the walk begins -/
theorem frzTv {X : Cx} {pins : List (Addr × Obj)} {σ : L2.St} {H : Hp} {s : Shared} {d : Addr} {o : Obj} {kvs : List (List Key × V)} (I : Inv X pins σ H s) (h : H d = some (.frz o (.dT kvs))) :
    (d == sysModules) = false ∧ s.heap.get? d = some o ∧ o.ExactDict ∧ ∃ (es : Array DictEntry) (ep : Nat), o.data = .dict es ep ∧ es.size = kvs.length ∧
      ∀ (i : Nat) (k : List Key) (v : V), kvs[i]? = some (k, v) → ∃ (en : DictEntry) (q : Addr), es[i]? = some en ∧ en.key = .ref q ∧ H q = some (.tup (k.map kV)) ∧ RelV v en.val := by
  obtain ⟨hd, z, hs, xs, pr, o', es, ep, ho, hx, hdt, he, _⟩ := I.hok d _ h
  rw [hd] at ho
  cases ho
  refine ⟨hs, hd, hx, es, ep, hdt, ?_, fun i k v e => ?_⟩
  · have l1 : es.size = xs.length := size_of_entries he
    have l2 : kvs.length = xs.length := Paired.length pr
    omega
  · obtain ⟨b, hb, e1, e2, e3⟩ := paired_get pr e
    have q := entry_at he i
    rw [hb] at q
    exact ⟨_, b.2.1, q, rfl, e2, e3⟩
/-- the pairs, each a new tuple of the key's own tuple and the value -/
def Itit (d : Addr) (o : Obj) (kvs : List (List Key × V)) : It :=
  ⟨fun i H => H d = some (.frz o (.dT kvs)) ∧ i < kvs.length, fun i H x H' => ∃ (T : Addr) (k : List Key) (v : V) (q : Addr), kvs[i]? = some (k, v) ∧ x = .ref T ∧ H T = none ∧ H q = some (.tup (k.map kV)) ∧ H' = upd H T (.tup [.ref q, v]), fun i H => H d = some (.frz o (.dT kvs)) ∧ kvs.length ≤ i⟩
section
variable {P : Program} {w : World} {K : PySem.W.Frag} {tg : Expr} {d : Addr} {o : Obj} {es : Array DictEntry} {ep : Nat}
theorem turn_itemsT {kvs : List (List Key × V)} {elts : List Expr} {kk : Nat} {tpos : Pos} (it : Addr) (hod : o.data = .dict es ep) :
    Turn P w K (.Tuple elts kk tpos) (Itit d o kvs) [it] it (fun i h => ∃ ok ov, IsItemIter h it d i kvs.length ep ok ov) where
  mem := by simp
  obj := fun i h st b hb => by
    have e : b = it := by simpa using hb
    subst e
    obtain ⟨ok, ov, e⟩ := st
    exact ⟨_, e, fun v z => nomatch z⟩
  keep := fun i h h' st k => let ⟨ok, ov, e⟩ := st; ⟨ok, ov, k it (by simp) _ e⟩
  item := by
    intro X hP hw hK hc i pins s σ H E I hf st hg
    subst hP hw hK
    obtain ⟨hd, hi⟩ := hg
    obtain ⟨hs, hgd, hx, es', ep', hdt, hsz, ent⟩ := frzTv I hd
    obtain ⟨rfl, rfl⟩ := dict_ep hod hdt
    obtain ⟨⟨k, v⟩, hkv⟩ : ∃ p, kvs[i]? = some p := ⟨kvs[i], List.getElem?_eq_getElem hi⟩
    obtain ⟨en, q, hen, hkey, hq, rv⟩ := ent i k v hkv
    obtain ⟨ok, ov, he⟩ := st
    rw [← hsz] at he
    have hlt : it < s.heap.objs.size := Heap.lt_size he
    have hie : i < es'.size := by omega
    obtain rfl : es'[i] = en := by
      rw [Array.getElem?_eq_getElem hie] at hen
      exact Option.some.inj hen
    refine wpAny_pyNext_items_item_raw he ⟨o, hgd, hx, hdt⟩ hie fun h' ho hT hz hk => ?_
    refine ⟨_, rfl, wpAny_letOwnedTupleGo_items (s := { s with heap := h' }) ho fun h'' he' sb => ?_⟩
    have hT2 : h''.get? s.heap.objs.size = some { cls := .type "tuple", data := .seq #[es'[i].key, es'[i].val] } := (sb.2 _ (Nat.ne_of_gt hlt)).trans hT
    have new : ObjOk X.prog X.w (upd H s.heap.objs.size (.tup [.ref q, v])) h'' s.heap.objs.size (.tup [.ref q, v]) :=
      ⟨by show 2 ≤ sizeLine; decide, [es'[i].key, es'[i].val], .cons hkey (.cons rv .nil), ⟨_, hT2, rfl, _, rfl⟩⟩
    have I1 : Inv X pins σ (upd H s.heap.objs.size (.tup [.ref q, v])) { s with heap := h'' } :=
      I.turnedNew (t' := s.toks) (ch := [it]) (fun b ob hb e => (sb.2 b (by simpa using hb)).trans (hk b ob (by simpa using hb) e)) hf (Nat.le_refl _) new
    refine ⟨.ref s.heap.objs.size, _, I1, rfl, ⟨_, k, v, q, hkv, rfl, I.hok.fresh (Nat.le_refl _), hq, rfl⟩, ⟨es'[i].key, es'[i].val, ?_⟩, fun b hb => ?_⟩
    · rw [← hsz]; exact he'
    · have e : b = it := by simpa using hb
      rw [e, upd_ne (Nat.ne_of_lt hlt)]
      exact (hf it (by simp)).1
  done := by
    intro X hP hw hK hc i pins s σ H E I hf st hg
    subst hP hw hK
    obtain ⟨hd, hi⟩ := hg
    obtain ⟨f0, f1, f2, f3, f4, f5⟩ := hf it (by simp)
    obtain ⟨hs, hgd, hx, es', ep', hdt, hsz, ent⟩ := frzTv I hd
    obtain ⟨rfl, rfl⟩ := dict_ep hod hdt
    obtain ⟨ok, ov, he⟩ := st
    rw [← hsz] at he
    exact wpAny_pyNext_items_end_raw (I.ok.hd hc) he ⟨o, hgd, hx, hdt⟩ (by omega) fun h' eb => ⟨rfl, I.turned (t' := s.toks) (fun b ob hb e => eb b ob hb e) f0 f1 f3 f4 f5⟩
  self := fun A i s Q E st h => let ⟨_, _, e⟩ := st; PySem.W.kcp_self e h
end
def iKeysL (td : TE) : TI := fun σ H R => td σ H fun x H1 => ∃ (d : Addr) (kvs : List (List Key × V)), x = .ref d ∧ ((H1 d = some (.dT kvs) ∧ ∀ o, R (Itkt d o kvs) (upd H1 d (.frz o (.dT kvs)))) ∨ ∃ o, H1 d = some (.frz o (.dT kvs)) ∧ R (Itkt d o kvs) H1)
def iItemsL (td : TE) : TI := fun σ H R => td σ H fun x H1 => ∃ (d : Addr) (kvs : List (List Key × V)), x = .ref d ∧ ((H1 d = some (.dT kvs) ∧ ∀ o, R (Itit d o kvs) (upd H1 d (.frz o (.dT kvs)))) ∨ ∃ o, H1 d = some (.frz o (.dT kvs)) ∧ R (Itit d o kvs) H1)
section
variable {X : Cx} {tg e : Expr} {td : TE} {apos cpos : Pos}
theorem pi_keysL (he : PE X e td) : PI X tg e (iKeysL td) := by
  refine ⟨fun pins s σ H R I h => ?_⟩
  refine thn (he.run pins s σ H _ I h) fun u s1 ⟨x, H1, I1, rx, d, kvs, ex, q⟩ => ?_
  subst ex
  obtain rfl : u = Value.ref d := rx
  rcases q with ⟨hd, q⟩ | ⟨o, hd, q⟩
  · obtain ⟨od, I2⟩ := I1.lock hd trivial
    obtain ⟨hs, hgd, hx, es, ep, hdt, hsz, ent⟩ := I2.frzT upd_same
    refine iter_keys hs hgd hx hdt (pi_one (tk := s1.toks) I2 _ (turn_keysT _ hdt) ⟨_, Heap.get?_push_size _ rfl, rfl, ?_⟩ (q od))
    rw [hsz] <;> rfl
  · obtain ⟨hs, hgd, hx, es, ep, hdt, hsz, ent⟩ := I1.frzT hd
    refine iter_keys hs hgd hx hdt (pi_one (tk := s1.toks) I1 _ (turn_keysT _ hdt) ⟨_, Heap.get?_push_size _ rfl, rfl, ?_⟩ q)
    rw [hsz] <;> rfl
theorem pi_itemsF {pins : List (Addr × Obj)} {σ : L2.St} {H1 : Hp} {s1 : Shared} {R : It → Hp → Prop} {d : Addr} {o : Obj} {kvs : List (List Key × V)} {elts : List Expr} {kk : Nat} {tpos : Pos}
    (I1 : Inv X pins σ H1 s1) (hd : H1 d = some (.frz o (.dT kvs))) (q : R (Itit d o kvs) H1) :
    (s1.TypeIs (.ref d) "dict") ∧ wpAny (model X.prog X.w) X.A (pyIter (.ref s1.heap.objs.size)) (PIE X pins σ (.Tuple elts kk tpos) R) X.xe { s1 with heap := s1.heap.push { cls := .type "dict_items", data := .fields #[.ref d] } } := by
  obtain ⟨hs, hgd, hx, es, ep, hdt, hsz, ent⟩ := frzTv I1 hd
  refine ⟨⟨o, hgd, hx.1⟩, ?_⟩
  have I2 : Inv X pins σ H1 { s1 with heap := s1.heap.push { cls := .type "dict_items", data := .fields #[.ref d] } } := I1.kept (t' := s1.toks) fun b o q => Heap.get?_push_of_some _ q
  refine wpAny_pyIter_items_raw (d := d) ⟨_, Heap.get?_push_size _ rfl, rfl, rfl⟩ ⟨o, Heap.get?_push_of_some _ hgd, hx, hdt⟩ (pi_one (tk := s1.toks) I2 _ (turn_itemsT _ hdt) ⟨.none, .none, ?_⟩ q)
  rw [← hsz]
  exact Heap.get?_push_size _ rfl
theorem pi_itemsL {elts : List Expr} {kk : Nat} {tpos : Pos} (he : PE X e td) (hbase : attributeBase e "items" X.env (eval e X.env) = eval e X.env := by rfl) (hline : (apos.endLine == cpos.line) = true := by rfl) :
    PI X (.Tuple elts kk tpos) (.Call (.Attribute e "items" apos) [] [] cpos) (iItemsL td) := by
  refine ⟨fun pins s σ H R I h => ?_⟩
  refine wpAny_Call_method (T := "dict") (id := "dict.items") hbase rfl hline F.plainAttrs_dict F.slot_dict_items F.type_dict_items (thn (he.run pins s σ H _ I h) fun u s1 ⟨x, H1, I1, rx, d, kvs, ex, q⟩ => ?_)
  subst ex
  obtain rfl : u = Value.ref d := rx
  obtain ⟨H2, o, I2, hd, q2⟩ : ∃ H2 o, Inv X pins σ H2 s1 ∧ H2 d = some (.frz o (.dT kvs)) ∧ R (Itit d o kvs) H2 := by
    rcases q with ⟨hd, q⟩ | ⟨o, hd, q⟩
    · obtain ⟨od, I2⟩ := I1.lock hd trivial
      exact ⟨_, od, I2, upd_same, q od⟩
    · exact ⟨_, o, I1, hd, q⟩
  obtain ⟨hs, hgd, hx, es, ep, hdt, hsz, ent⟩ := frzTv I2 hd
  obtain ⟨ht, fin⟩ := pi_itemsF (elts := elts) (kk := kk) (tpos := tpos) I2 hd q2
  refine ⟨ht, (fun b z => by cases z; exact ⟨o, hgd, hx.2.1⟩), ?_⟩
  show wpAny _ _ (callWith cpos (.builtin "dict.items") [.ref d] [] []) _ X.xe s1
  exact method_meetsIn F.slot_dict_items F.entry_dict_items rfl (PySem.evalArgs_none ⟨rfl, ht, F.args_dict_items_1 _, _, meets_dict_items_raw d hs, ⟨es, ep, o, hgd, hx, hdt⟩, fin⟩)
end
/-! the readings -/
section
variable {σ : L2.St} {H : Hp} {td : TE} {R : It → Hp → Prop} {d : Addr} {kvs : List (List Key × V)}
theorem r_iKeysL (h : td σ H fun x H1 => ∃ (d : Addr) (kvs : List (List Key × V)), x = .ref d ∧ ((H1 d = some (.dT kvs) ∧ ∀ o, R (Itkt d o kvs) (upd H1 d (.frz o (.dT kvs)))) ∨ ∃ o, H1 d = some (.frz o (.dT kvs)) ∧ R (Itkt d o kvs) H1)) : iKeysL td σ H R := h
theorem r_iItemsL (h : td σ H fun x H1 => ∃ (d : Addr) (kvs : List (List Key × V)), x = .ref d ∧ ((H1 d = some (.dT kvs) ∧ ∀ o, R (Itit d o kvs) (upd H1 d (.frz o (.dT kvs)))) ∨ ∃ o, H1 d = some (.frz o (.dT kvs)) ∧ R (Itit d o kvs) H1)) : iItemsL td σ H R := h
theorem lockQ {C : Obj → Prop} {C2 : Obj → Prop} (h : H d = some (.dT kvs)) (q : ∀ o, C o) : (H d = some (.dT kvs) ∧ ∀ o, C o) ∨ ∃ o, H d = some (.frz o (.dT kvs)) ∧ C2 o := .inl ⟨h, q⟩
end
theorem walk_itemsT {d : Addr} {o : Obj} {kvs : List (List Key × V)} : Walk (Itit d o kvs) kvs.length (fun H => H d = some (.frz o (.dT kvs)))
    (fun i H x H' => ∃ (T : Addr) (k : List Key) (v : V) (q : Addr), kvs[i]? = some (k, v) ∧ x = .ref T ∧ H T = none ∧ H q = some (.tup (k.map kV)) ∧ H' = upd H T (.tup [.ref q, v])) :=
  ⟨fun _ _ hi q => ⟨q, hi⟩, fun _ q => ⟨q, Nat.le_refl _⟩, fun _ _ _ _ _ _ y => y⟩
/-! dicts from rows to texts -/
theorem dictW_get {m : Wm} {i : Nat} {p : List Nat × List Nat} (h : m[i]? = some p) : (dictW m)[i]? = some (kN p.1, sV p.2) := by
  unfold dictW
  rw [List.getElem?_map, h]
  rfl
theorem for_keysW {d : Addr} {o : Obj} {m : Wm} {g : TG} {tb : TS} {D : Ends} {σ : L2.St} {H : Hp} (Pv : Nat → L2.St → Hp → Prop) (h0 : Pv 0 σ H) (hG : ∀ i σ H, i ≤ m.length → Pv i σ H → H d = some (.frz o (.dT (dictW m))))
    (hs : ∀ i (p : List Nat × List Nat) (q : Addr) σ H, m[i]? = some p → Pv i σ H → H q = some (.tup (p.1.map iV)) → g (.ref q) σ H fun σ2 H2 => tb { D with nx := Pv (i + 1), ct := Pv (i + 1), bk := D.nx } σ2 H2) (hd : ∀ σ H, Pv m.length σ H → D.nx σ H) :
    ∃ W : Nat → Nat → L2.St → Hp → Prop, (∃ m, W 0 m σ H) ∧ ∀ i m' σ H, W i m' σ H →
      ((Itkt d o (dictW m)).stop i H ∧ D.nx σ H) ∨ ((Itkt d o (dictW m)).go i H ∧ ∃ N : L2.St → Hp → Prop, (∀ σ' H', N σ' H' → ∃ m2, m2 < m' ∧ W (i + 1) m2 σ' H') ∧ ∀ x H', (Itkt d o (dictW m)).yld i H x H' → g x σ H' fun σ2 H2 => tb { D with nx := N, ct := N, bk := D.nx } σ2 H2) := by
  have el : (dictW m).length = m.length := dictW_len m
  refine for_it (walk_keysT (d := d) (o := o) (kvs := dictW m)) Pv h0 (fun i σ H hi p => hG i σ H (by omega) p) (fun i x σ H H' hi p y => ?_) (fun σ H p => hd σ H (by rw [← el]; exact p))
  obtain ⟨rfl, k, v, q, h1, rfl, h2⟩ := y
  obtain ⟨z, hz⟩ : ∃ z, m[i]? = some z := ⟨_, List.getElem?_eq_getElem (by omega)⟩
  rw [dictW_get hz] at h1
  cases Option.some.inj h1
  rw [kN_row] at h2
  exact hs i z q σ _ hz p h2
theorem lc_keysW {d : Addr} {o : Obj} {m : Wm} {g : TG} {tt : TT} {te : TE} {vs : List Nat} {σ : L2.St} {H1 : Hp} {D : Addr} {Qd : Hp → Prop} (Pv : Nat → Hp → Prop) (h0 : Pv 0 (upd H1 D (.lst []))) (hG : ∀ i H, i ≤ m.length → Pv i H → H d = some (.frz o (.dT (dictW m))))
    (hs : ∀ i (p : List Nat × List Nat) (q : Addr) H, m[i]? = some p → Pv i H → H q = some (.tup (p.1.map iV)) → g (.ref q) (wipe σ vs) H fun σ2 H2 => wipe σ2 vs = wipe σ vs ∧ tt σ2 H2 fun b H3 =>
      if b = true then te σ2 H3 fun y H4 => ∃ acc, H4 D = some (.lst acc) ∧ acc.length < sizeLine ∧ Pv (i + 1) (upd H4 D (.lst (acc ++ [y]))) else Pv (i + 1) H3) (hd : ∀ H, Pv m.length H → Qd H) :
    ∃ W : Nat → Nat → Hp → Prop, (∃ m, W 0 m (upd H1 D (.lst []))) ∧ ∀ i m' H, W i m' H →
      ((Itkt d o (dictW m)).stop i H ∧ Qd H) ∨ ((Itkt d o (dictW m)).go i H ∧ ∃ Nx : Hp → Prop, (∀ H', Nx H' → ∃ m2, m2 < m' ∧ W (i + 1) m2 H') ∧ ∀ x H', (Itkt d o (dictW m)).yld i H x H' → g x (wipe σ vs) H' fun σ2 H2 => wipe σ2 vs = wipe σ vs ∧ tt σ2 H2 fun b H3 =>
        if b = true then te σ2 H3 fun y H4 => ∃ acc, H4 D = some (.lst acc) ∧ acc.length < sizeLine ∧ Nx (upd H4 D (.lst (acc ++ [y]))) else Nx H3) := by
  have el : (dictW m).length = m.length := dictW_len m
  refine lc_it (walk_keysT (d := d) (o := o) (kvs := dictW m)) Pv h0 (fun i H hi p => hG i H (by omega) p) (fun i x H H' hi p y => ?_) (fun H p => hd H (by rw [← el]; exact p))
  obtain ⟨rfl, k, v, q, h1, rfl, h2⟩ := y
  obtain ⟨z, hz⟩ : ∃ z, m[i]? = some z := ⟨_, List.getElem?_eq_getElem (by omega)⟩
  rw [dictW_get hz] at h1
  cases Option.some.inj h1
  rw [kN_row] at h2
  exact hs i z q _ hz p h2
theorem for_itemsW {d : Addr} {o : Obj} {m : Wm} {g : TG} {tb : TS} {D : Ends} {σ : L2.St} {H : Hp} (Pv : Nat → L2.St → Hp → Prop) (h0 : Pv 0 σ H) (hG : ∀ i σ H, i ≤ m.length → Pv i σ H → H d = some (.frz o (.dT (dictW m))))
    (hs : ∀ i (p : List Nat × List Nat) (T q : Addr) σ H, m[i]? = some p → Pv i σ H → H q = some (.tup (p.1.map iV)) → H T = none → g (.ref T) σ (upd H T (.tup [.ref q, sV p.2])) fun σ2 H2 => tb { D with nx := Pv (i + 1), ct := Pv (i + 1), bk := D.nx } σ2 H2) (hd : ∀ σ H, Pv m.length σ H → D.nx σ H) :
    ∃ W : Nat → Nat → L2.St → Hp → Prop, (∃ m, W 0 m σ H) ∧ ∀ i m' σ H, W i m' σ H →
      ((Itit d o (dictW m)).stop i H ∧ D.nx σ H) ∨ ((Itit d o (dictW m)).go i H ∧ ∃ N : L2.St → Hp → Prop, (∀ σ' H', N σ' H' → ∃ m2, m2 < m' ∧ W (i + 1) m2 σ' H') ∧ ∀ x H', (Itit d o (dictW m)).yld i H x H' → g x σ H' fun σ2 H2 => tb { D with nx := N, ct := N, bk := D.nx } σ2 H2) := by
  have el : (dictW m).length = m.length := dictW_len m
  refine for_it (walk_itemsT (d := d) (o := o) (kvs := dictW m)) Pv h0 (fun i σ H hi p => hG i σ H (by omega) p) (fun i x σ H H' hi p y => ?_) (fun σ H p => hd σ H (by rw [← el]; exact p))
  obtain ⟨T, k, v, q, h1, rfl, hT, h2, rfl⟩ := y
  obtain ⟨z, hz⟩ : ∃ z, m[i]? = some z := ⟨_, List.getElem?_eq_getElem (by omega)⟩
  rw [dictW_get hz] at h1
  cases Option.some.inj h1
  rw [kN_row] at h2
  exact hs i z T q σ _ hz p h2 hT
/-! min of a list -/
theorem cr_minQ {X : Cx} {K : PySem.W.Frag} (hK : X.K = K) (hc : X.calm = true) : CallR X (.builtin "min") (rMin K) := hK ▸ cr_min hc
theorem r_min {K : PySem.W.Frag} {H : Hp} {Q : VK} {p : Addr} {ns : List Int} (h : SqL K H p (ns.map V.int)) (hn : 0 < ns.length) (q : ∀ m, m ∈ ns → (∀ y, y ∈ ns → m ≤ y) → Q (.int m) H) : rMin K [.ref p] H Q := ⟨p, ns, rfl, h, hn, q⟩
end G
set_option Elab.async false
set_option linter.all false
set_option maxRecDepth 100000
set_option maxHeartbeats 4000000
namespace G
open PySem PySem.Spec PyProof.Rows L2
/-! ### max of a tuple of numbers -/
theorem reads_ints {h : Heap} {its : List Value} {ns : List Int} (r : IntsAre its ns) : ReadsAll h its (ns.map PyData.int) [] := by
  induction r with
  | nil => exact .nil
  | cons n t _ ih => exact ReadsAll.cons (as := []) (.int n t) ih
theorem alike_ints (ns : List Int) : PySem.W.AlikeAll (ns.map PyData.int) := by
  refine ⟨fun x hx y hy => ?_, fun x hx => ?_⟩
  · obtain ⟨i, _, rfl⟩ := List.mem_map.mp hx
    obtain ⟨j, _, rfl⟩ := List.mem_map.mp hy
    rfl
  · obtain ⟨i, _, rfl⟩ := List.mem_map.mp hx
    exact fun z => nomatch z
theorem fold_max : ∀ (ns : List Int) (n : Int), (List.foldl max n ns = n ∨ List.foldl max n ns ∈ ns) ∧ n ≤ List.foldl max n ns ∧ ∀ y ∈ ns, y ≤ List.foldl max n ns
  | [], n => ⟨.inl rfl, Int.le_refl _, fun y hy => nomatch hy⟩
  | x :: ns, n => by
    obtain ⟨h1, h2, h3⟩ := fold_max ns (max n x)
    rw [List.foldl_cons]
    refine ⟨?_, by omega, fun y hy => ?_⟩
    · rcases h1 with h1 | h1
      · rw [h1]
        by_cases e : n ≤ x
        · exact .inr (by rw [show max n x = x by omega]; exact List.mem_cons_self)
        · exact .inl (by omega)
      · exact .inr (List.mem_cons_of_mem _ h1)
    · rcases List.mem_cons.mp hy with rfl | hy
      · omega
      · exact h3 y hy
def rMaxT (K : PySem.W.Frag) : List V → Hp → VK → Prop := fun vs H Q => ∃ (a : Addr) (ns : List Int), vs = [V.ref a] ∧ SqT K H a (ns.map V.int) ∧ 0 < ns.length ∧ ∀ m, m ∈ ns → (∀ y, y ∈ ns → y ≤ m) → Q (.int m) H
theorem cr_maxT {X : Cx} {K : PySem.W.Frag} (hK : X.K = K) (hc : X.calm = true) (hu : X.A.units + 64 < cLine) : CallR X (.builtin "max") (rMaxT K) := by
  subst hK
  rintro pins s σ H vs us Q I rs ⟨a, ns, rfl, hs, h0, q⟩
  rw [Vals.ref1 rs]
  obtain ⟨its, rv, pl, hz⟩ := I.tuple hs
  have hi := rv.ints
  obtain ⟨n, ms, rfl⟩ : ∃ n ms, ns = n :: ms := by
    cases ns with
    | nil => exact absurd h0 (Nat.lt_irrefl 0)
    | cons n ms => exact ⟨n, ms, rfl⟩
  have hd : PyData.depthAll ((n :: ms).map PyData.int) = 0 := depth_ints _
  refine PySem.W.max_tuple_data (x := PyData.int n) (xs := ms.map PyData.int) (as := []) (I.ok.hd hc) (show s.heap.IsTuple a its.toArray from pl) (reads_ints hi) (alike_ints (n :: ms)) (by rw [← List.map_cons, hd]; omega) (fun i v h' tk bs hv hr hk => ?_)
  rw [PySem.W.maxD_ints] at hr
  obtain ⟨f1, f2, f3⟩ := fold_max ms n
  cases hr with
  | int j t =>
    refine ⟨.int (List.foldl max n ms), H, I.kept (t' := tk) (fun b o e => hk b o e), ⟨t, rfl⟩, q _ ?_ fun y hy => ?_⟩
    · rcases f1 with f1 | f1
      · rw [f1]; exact List.mem_cons_self
      · exact List.mem_cons_of_mem _ f1
    · rcases List.mem_cons.mp hy with rfl | hy
      · exact f2
      · exact f3 y hy
theorem cr_maxLK {X : Cx} {K : PySem.W.Frag} (hK : X.K = K) (hc : X.calm = true) : CallR X (.builtin "max") (rMax K) := hK ▸ cr_max hc
theorem op_catAK {X : Cx} {K : PySem.W.Frag} (hK : X.K = K) : OpR X (binaryOp .Add) (rCatA K) := hK ▸ op_catA
/-! ### rows of whole numbers, also such below zero -/
def rowZ (z : List Int) : PyData := .tuple (z.map PyData.int)
theorem rowD_Z (r : List Nat) : rowD r = rowZ (r.map fun n : Nat => (n : Int)) := by
  unfold rowD rowZ
  rw [nat_ints]
theorem shaped_rowZ (z : List Int) : SeqAt.shaped (rowZ z) = true := by
  refine Bool.and_eq_true_iff.mpr ⟨lay_ints _, decide_eq_true ?_⟩
  show PyData.depthAll (z.map PyData.int) + 1 ≤ 64
  rw [depth_ints]
  decide
theorem eqv_rowZ (a b : List Int) : PyData.eqv (rowZ a) (rowZ b) = decide (a = b) := by
  unfold rowZ
  rw [PyData.eqv, eqv_ints_all]
theorem dtZ {K : PySem.W.Frag} {H : Hp} {p : Addr} {z : List Int} (h : SqT K H p (z.map V.int)) : Dt K H (.ref p) (rowZ z) := .tup h (DtAll.map (α := Int) (f := V.int) (g := PyData.int) (fun n => .int n) z)
theorem any_rowsZ (rs : List (List Nat)) (z : List Int) : ((rs.map rowD).any fun y => PyData.eqv y (rowZ z)) = decide (∃ r ∈ rs, z = r.map fun n : Nat => (n : Int)) := by
  rw [List.any_map]
  by_cases h : ∃ r ∈ rs, z = r.map fun n : Nat => (n : Int)
  · rw [decide_eq_true h]
    obtain ⟨r, hr, rfl⟩ := h
    exact List.any_eq_true.mpr ⟨r, hr, by show PyData.eqv (rowD r) (rowZ (r.map fun n : Nat => (n : Int))) = true; rw [rowD_Z, eqv_rowZ]; simp⟩
  · rw [decide_eq_false h]
    refine List.any_eq_false.mpr fun y hy e => h ⟨y, hy, ?_⟩
    have e2 : PyData.eqv (rowD y) (rowZ z) = true := e
    rw [rowD_Z, eqv_rowZ] at e2
    exact (of_decide_eq_true e2).symm
theorem r_inZ {K : PySem.W.Frag} {H : Hp} {Q : VK} {b p : Addr} {z : List Int} {qs : List (Addr × List Nat)} (h1 : SqT K H b (z.map V.int)) (h2 : SqL K H p (refsV qs)) (hall : ∀ q ∈ qs, SqT K H q.1 (q.2.map iV)) (q : Q (.bl (decide (∃ r ∈ qs.map (·.2), z = r.map fun n : Nat => (n : Int)))) H) : rInD K (.ref b) (.ref p) H Q :=
  ⟨rowZ z, (qs.map (·.2)).map rowD, (dtZ h1).dp, dp_rows h2 hall, shaped_rowZ z, shaped_rows _, by rw [any_rowsZ]; exact q⟩
/-! ### dicts with numbers as keys -/
theorem r_dsetd {td ty tx : TE} {σ : L2.St} {H : Hp} {Q : VK} (h : td σ H fun x H1 => ∃ a, x = .ref a ∧ IsD H1 a ∧ ty σ H1 fun y H2 => tx σ H2 fun z H3 => ∃ (kvs : List (Key × V)) (k : Key), H3 a = some (.dK kvs) ∧ y = kV k ∧ kvs.length < sizeLine ∧ (∀ v, valV kvs k = some v → Q v H3) ∧ (valV kvs k = none → Q z (upd H3 a (.dK (putK kvs k z))))) : tDSetd td ty tx σ H Q := h
/-- the marks found, each with its number -/
def dictF : Nat → List Int → List (Key × V)
  | _, [] => []
  | k, x :: l => (.inl x, iV k) :: dictF (k + 1) l
theorem dictF_len : ∀ (l : List Int) (k : Nat), (dictF k l).length = l.length
  | [], _ => rfl
  | x :: l, k => by
    show (dictF (k + 1) l).length + 1 = _
    rw [dictF_len l (k + 1), List.length_cons]
theorem dictF_val : ∀ (l : List Int) (k : Nat) (y : Int), valV (dictF k l) (.inl y) = if y ∈ l then some (iV (k + l.idxOf y)) else none
  | [], k, y => by simp [dictF, valV]
  | x :: l, k, y => by
    have ih := dictF_val l (k + 1) y
    by_cases e : x = y
    · subst e
      rw [if_pos List.mem_cons_self, List.idxOf_cons_self]
      simp [dictF, valV]
    · have e2 : y ≠ x := fun z => e z.symm
      have h1 : valV (dictF k (x :: l)) (Sum.inl y) = valV (dictF (k + 1) l) (Sum.inl y) := by
        show Option.map _ (List.find? _ ((Sum.inl x, iV k) :: dictF (k + 1) l)) = _
        rw [List.find?_cons_of_neg (by simp [e])]
        rfl
      have h3 : (x :: l).idxOf y = l.idxOf y + 1 := by rw [List.idxOf_cons, show (x == y) = false from by simp [e]]; rfl
      rw [h1, ih, h3]
      by_cases m : y ∈ l
      · rw [if_pos m, if_pos (List.mem_cons_of_mem _ m), show k + 1 + l.idxOf y = k + (l.idxOf y + 1) by omega]
      · rw [if_neg m, if_neg (fun z => (List.mem_cons.mp z).elim e2 m)]
theorem dictF_snoc : ∀ (l : List Int) (k : Nat) (y : Int), dictF k (l ++ [y]) = dictF k l ++ [(.inl y, iV (k + l.length))]
  | [], k, y => rfl
  | x :: l, k, y => by
    show (Sum.inl x, iV k) :: dictF (k + 1) (l ++ [y]) = (Sum.inl x, iV k) :: (dictF (k + 1) l ++ _)
    rw [dictF_snoc l (k + 1) y, List.length_cons, show k + 1 + l.length = k + (l.length + 1) by omega]
theorem put_new {kvs : List (Key × V)} {k : Key} {v : V} (h : valV kvs k = none) : putK kvs k v = kvs ++ [(k, v)] := by
  unfold putK
  rw [if_neg]
  intro z
  obtain ⟨p, hp, e⟩ := List.any_eq_true.mp z
  unfold valV at h
  rw [Option.map_eq_none_iff, List.find?_eq_none] at h
  exact h p hp e
/-- rows kept by a number -/
def dictL (ls : List (Int × Addr)) : List (Key × V) := ls.map fun p => (.inl p.1, .ref p.2)
theorem dictL_some {ls : List (Int × Addr)} {y : Int} {v : V} (h : valV (dictL ls) (.inl y) = some v) : ∃ p ∈ ls, p.1 = y ∧ v = .ref p.2 := by
  unfold valV at h
  obtain ⟨kv, h1, rfl⟩ := Option.map_eq_some_iff.mp h
  have h2 := List.mem_of_find?_eq_some h1
  have h3 := of_decide_eq_true (List.find?_some (p := fun kv : Key × V => decide (kv.1 = Sum.inl y)) h1)
  obtain ⟨p, hp, rfl⟩ := List.mem_map.mp h2
  exact ⟨p, hp, Sum.inl.inj h3, rfl⟩
theorem dictL_none {ls : List (Int × Addr)} {y : Int} (h : valV (dictL ls) (.inl y) = none) : ∀ p ∈ ls, p.1 ≠ y := fun p hp e => by
  unfold valV at h
  rw [Option.map_eq_none_iff, List.find?_eq_none] at h
  exact h _ (List.mem_map_of_mem hp) (decide_eq_true (by rw [e]))
/-! ### partitions, as the document writes them -/
def numGo : List Int → List Int → List Nat
  | _, [] => []
  | ds, x :: l => ds.idxOf x :: numGo (if x ∈ ds then ds else ds ++ [x]) l
def rgsGo : Nat → List Int → Prop
  | _, [] => True
  | k, x :: l => (0 ≤ x ∧ x ≤ (k : Int)) ∧ rgsGo (if x = (k : Int) then k + 1 else k) l
def topGo : Nat → List Int → Nat
  | k, [] => k
  | k, x :: l => topGo (if x = (k : Int) then k + 1 else k) l
def upZ (k : Nat) : List Int := (List.range k).map fun n : Nat => (n : Int)
theorem upZ_mem {k : Nat} {x : Int} : x ∈ upZ k ↔ 0 ≤ x ∧ x < (k : Int) := by
  unfold upZ
  rw [List.mem_map]
  constructor
  · rintro ⟨n, hn, rfl⟩
    have := List.mem_range.mp hn
    omega
  · rintro ⟨h1, h2⟩
    exact ⟨x.toNat, List.mem_range.mpr (by omega), by omega⟩
theorem upZ_succ (k : Nat) : upZ (k + 1) = upZ k ++ [(k : Int)] := by
  unfold upZ
  rw [List.range_succ, List.map_append]
  rfl
theorem upZ_len (k : Nat) : (upZ k).length = k := by
  unfold upZ
  rw [List.length_map, List.length_range]
theorem upZ_nd (k : Nat) : (upZ k).Nodup := by
  unfold upZ List.Nodup
  rw [List.pairwise_map]
  exact List.Pairwise.imp (fun h e => h (by omega)) (List.nodup_range (n := k))
theorem upZ_idx {k : Nat} {x : Int} (h : x ∈ upZ k) : (((upZ k).idxOf x : Nat) : Int) = x := by
  have h1 := List.idxOf_lt_length_of_mem h
  have h2 : (upZ k)[(upZ k).idxOf x]? = some x := by
    rw [List.getElem?_eq_getElem h1, List.getElem_idxOf h1]
  unfold upZ at h2
  rw [List.getElem?_map] at h2
  obtain ⟨n, e1, e2⟩ := Option.map_eq_some_iff.mp h2
  have e3 := List.getElem?_eq_some_iff.mp e1
  obtain ⟨e4, e5⟩ := e3
  rw [List.getElem_range] at e5
  unfold upZ
  omega
theorem num_rgs : ∀ (l : List Int) (k : Nat), (numGo (upZ k) l).map (fun n : Nat => (n : Int)) = l ↔ rgsGo k l
  | [], k => ⟨fun _ => trivial, fun _ => rfl⟩
  | x :: l, k => by
    show (((upZ k).idxOf x : Nat) : Int) :: (numGo (if x ∈ upZ k then upZ k else upZ k ++ [x]) l).map (fun n : Nat => (n : Int)) = x :: l ↔ (0 ≤ x ∧ x ≤ (k : Int)) ∧ rgsGo (if x = (k : Int) then k + 1 else k) l
    rw [List.cons.injEq]
    by_cases h : x ∈ upZ k
    · have h1 := upZ_mem.mp h
      rw [if_pos h, if_neg (by omega), num_rgs l k]
      exact ⟨fun z => ⟨by omega, z.2⟩, fun z => ⟨upZ_idx h, z.2⟩⟩
    · have h1 : (upZ k).idxOf x = k := by rw [List.idxOf_eq_length h, upZ_len]
      rw [if_neg h, h1]
      by_cases e : x = (k : Int)
      · subst e
        rw [if_pos rfl, ← upZ_succ, num_rgs l (k + 1)]
        exact ⟨fun z => ⟨by omega, z.2⟩, fun z => ⟨rfl, z.2⟩⟩
      · constructor
        · exact fun z => absurd z.1.symm e
        · intro z
          exact absurd (upZ_mem.mpr ⟨z.1.1, by omega⟩) h
theorem rgs_snoc : ∀ (l : List Int) (k : Nat) (b : Int), rgsGo k (l ++ [b]) ↔ rgsGo k l ∧ 0 ≤ b ∧ b ≤ (topGo k l : Int)
  | [], k, b => by
    show (0 ≤ b ∧ b ≤ (k : Int)) ∧ True ↔ True ∧ 0 ≤ b ∧ b ≤ (k : Int)
    simp
  | x :: l, k, b => by
    show (0 ≤ x ∧ x ≤ (k : Int)) ∧ rgsGo _ (l ++ [b]) ↔ ((0 ≤ x ∧ x ≤ (k : Int)) ∧ rgsGo _ l) ∧ 0 ≤ b ∧ b ≤ (topGo _ l : Int)
    rw [rgs_snoc l _ b]
    simp [and_assoc]
/-- one more than the greatest -/
def mxN (r : List Nat) : Nat := r.foldl (fun m x => max m (x + 1)) 0
theorem top_mx : ∀ (r : List Nat) (k : Nat), rgsGo k (r.map fun n : Nat => (n : Int)) → topGo k (r.map fun n : Nat => (n : Int)) = r.foldl (fun m x => max m (x + 1)) k
  | [], k, _ => rfl
  | x :: r, k, h => by
    obtain ⟨h1, h2⟩ := h
    show topGo (if (x : Int) = (k : Int) then k + 1 else k) _ = r.foldl (fun m x => max m (x + 1)) (max k (x + 1))
    rw [top_mx r _ h2]
    congr 1
    have h3 : (0 : Int) ≤ (x : Int) ∧ (x : Int) ≤ (k : Int) := h1
    by_cases e : x = k
    · subst e
      rw [if_pos rfl]
      exact (Nat.max_eq_right (Nat.le_succ _)).symm
    · rw [if_neg (fun z => e (by have z2 : (x : Int) = (k : Int) := z; omega))]
      exact (Nat.max_eq_left (by omega)).symm
def partsN : Nat → List (List Nat)
  | 0 => [[]]
  | n + 1 => (partsN n).flatMap fun r => (List.range (mxN r + 1)).map fun b => r ++ [b]
theorem parts_len : ∀ n, n < 7 → (partsN n).length ≤ 203 := by decide +kernel
theorem parts_mem : ∀ (n : Nat) (r : List Nat), r ∈ partsN n ↔ r.length = n ∧ rgsGo 0 (r.map fun n : Nat => (n : Int))
  | 0, r => by
    constructor
    · intro h
      rw [List.mem_singleton.mp h]
      exact ⟨rfl, trivial⟩
    · rintro ⟨h, _⟩
      rw [List.length_eq_zero_iff.mp h]
      exact List.mem_singleton.mpr rfl
  | n + 1, r => by
    constructor
    · intro h
      obtain ⟨t, ht, h2⟩ := List.mem_flatMap.mp h
      obtain ⟨b, hb, rfl⟩ := List.mem_map.mp h2
      obtain ⟨a1, a2⟩ := (parts_mem n t).mp ht
      have hb := List.mem_range.mp hb
      refine ⟨by rw [List.length_append, a1]; rfl, ?_⟩
      rw [List.map_append]
      refine (rgs_snoc _ 0 (b : Int)).mpr ⟨a2, by omega, ?_⟩
      rw [top_mx t 0 a2]
      unfold mxN at hb
      omega
    · rintro ⟨h1, h2⟩
      obtain ⟨t, b, rfl⟩ : ∃ t b, r = t ++ [b] := by
        have : r ≠ [] := fun e => by rw [e] at h1; exact nomatch h1
        exact ⟨r.dropLast, r.getLast this, (List.dropLast_concat_getLast this).symm⟩
      rw [List.map_append] at h2
      obtain ⟨a1, a2, a3⟩ := (rgs_snoc _ 0 (b : Int)).mp h2
      rw [top_mx t 0 a1] at a3
      refine List.mem_flatMap.mpr ⟨t, (parts_mem n t).mpr ⟨?_, a1⟩, List.mem_map.mpr ⟨b, List.mem_range.mpr ?_, rfl⟩⟩
      · rw [List.length_append] at h1
        exact Nat.succ.inj h1
      · unfold mxN
        omega
theorem rgs_nat {k : Nat} : ∀ {z : List Int}, rgsGo k z → ∃ r : List Nat, z = r.map fun n : Nat => (n : Int)
  | [], _ => ⟨[], rfl⟩
  | x :: z, h => by
    obtain ⟨r, rfl⟩ := rgs_nat h.2
    exact ⟨x.toNat :: r, by rw [List.map_cons]; congr 1; have := h.1.1; omega⟩
theorem rgs_head {n : Nat} {r : List Nat} (h : r ∈ partsN (n + 1)) : ∃ t, r = 0 :: t := by
  obtain ⟨h1, h2⟩ := (parts_mem (n + 1) r).mp h
  cases r with
  | nil => exact nomatch h1
  | cons x t => exact ⟨t, by have h3 : (0 : Int) ≤ (x : Int) ∧ (x : Int) ≤ ((0 : Nat) : Int) := h2.1; congr 1; omega⟩
theorem rgs_lt : ∀ (r : List Nat) (k : Nat), rgsGo k (r.map fun n : Nat => (n : Int)) → ∀ x ∈ r, x < k + r.length
  | [], _, _, x, hx => nomatch hx
  | y :: r, k, h, x, hx => by
    obtain ⟨h1, h2⟩ := h
    have h3 : (0 : Int) ≤ (y : Int) ∧ (y : Int) ≤ (k : Int) := h1
    rw [List.length_cons]
    rcases List.mem_cons.mp hx with rfl | hx
    · omega
    · have := rgs_lt r _ h2 x hx
      split at this <;> omega
end G
set_option Elab.async false
set_option linter.all false
set_option maxRecDepth 100000
set_option maxHeartbeats 4000000
namespace G
open PySem PySem.Spec PyProof.Rows L2
/-! ### two dicts with tuples as keys that hold the same -/
section
variable {prog : Program} {w : World} {K : Type} [DecidableEq K] {knd : HeapKind prog w K} {A : Around} {E : Value → Shared → Prop} {s : Shared}
theorem samePairsT {nm : String} {a b : Addr} {xa xb : List (K × Addr × Value)} {Q : Bool → Shared → Prop} (hu : knd.room A) (ha : (a == sysModules) = false) (hb : (b == sysModules) = false)
    (da : s.heap.DictOfH knd a xa) (db : s.heap.DictOfH knd b xb) (hl : xa.length = xb.length) (hits : ∀ (i : Nat) (x : K × Addr × Value), xa[i]? = some x → ∃ p : Addr × Value, xb[i]? = some (x.1, p) ∧ SeqAt.EqAt A s x.2.2 p.2 true) (h : Q true s) :
    wpAny (model prog w) A (Builtin.Dict.samePairs nm a b) Q E s := by
  obtain ⟨oa, es, ep, hoa, _, hda, hea, hia, hna⟩ := da
  obtain ⟨ob, es', ep', hob, _, hdb, heb, hib, hnb⟩ := db
  have hla : es.size = xa.length := size_of_entries hea
  have hlb : es'.size = xb.length := size_of_entries heb
  have hsz : es.size = es'.size := by omega
  unfold Builtin.Dict.samePairs Builtin.Dict.showsAll
  rw [if_neg (show ¬ (a == sysModules) = true by rw [ha]; exact Bool.false_ne_true), if_neg (show ¬ (b == sysModules) = true by rw [hb]; exact Bool.false_ne_true)]
  refine wpAny_bind (wpAny_pure (wpAny_bind (wpAny_pure ?_)))
  refine wpAny_bind (wpAny_dictEntries hoa hda ?_)
  dsimp only
  refine wpAny_bind (wpAny_dictEntries hob hdb ?_)
  rw [if_neg (by rw [hsz]; simp)]
  refine wpAny_bind (wpAny_dictEpoch hoa hda ?_)
  refine wpAny_bind ?_
  rw [Std.Legacy.Range.forIn_eq_forIn_range']
  simp only [Std.Legacy.Range.size, Nat.sub_zero, Nat.add_sub_cancel, Nat.div_one]
  refine wpAny_forIn_list _
    (fun rest q s' => s' = s ∧ q = (none, ()) ∧ ∃ i, rest = List.range' i (es.size - i) ∧ i ≤ es.size)
    _ ?_ ?_ _ _ ⟨rfl, rfl, 0, by simp, Nat.zero_le _⟩
  · rintro x rest q s' ⟨rfl, rfl, i, hr, hi⟩
    have hlt : i < es.size := by
      rcases Nat.lt_or_ge i es.size with h | h
      · exact h
      · rw [Nat.sub_eq_zero_of_le h] at hr; simp at hr
    obtain ⟨rfl, hrest⟩ : x = i ∧ rest = List.range' (i + 1) (es.size - (i + 1)) := by
      have e : es.size - i = (es.size - (i + 1)) + 1 := by omega
      rw [e, List.range'_succ] at hr
      injection hr with h1 h2
      exact ⟨h1, h2⟩
    refine wpAny_bind (wpAny_dictEntries hoa hda ?_)
    rw [Array.getElem?_eq_getElem hlt]
    obtain ⟨y, hy⟩ : ∃ y, xa[x]? = some y := ⟨_, List.getElem?_eq_getElem (by omega)⟩
    have hen : es[x] = entryOfKey knd y := by
      have q := entry_at hea x
      rw [hy, Array.getElem?_eq_getElem hlt] at q
      exact Option.some.inj q
    obtain ⟨p, hp, heq⟩ := hits x y hy
    show wpAny _ _ (holding [es[x].key, es[x].val] _ >>= _) _ _ _
    rw [hen]
    refine wpAny_bind (wpAny_holding (wpAny_bind (wpAny_dictFind_heap (k := y.1) hu (hia y (List.mem_of_getElem? hy)) hob hdb heb hib hnb (fun hno => absurd hp (hno x p)) fun j p' hj => ?_)))
    obtain rfl : j = x := by
      have a1 : (xb.map (·.1))[j]? = some y.1 := by rw [List.getElem?_map, hj]; rfl
      have a2 : (xb.map (·.1))[x]? = some y.1 := by rw [List.getElem?_map, hp]; rfl
      obtain ⟨b1, c1⟩ := List.getElem?_eq_some_iff.mp a1
      obtain ⟨b2, c2⟩ := List.getElem?_eq_some_iff.mp a2
      rcases Nat.lt_trichotomy j x with h | h | h
      · exact absurd (c1.trans c2.symm) (List.pairwise_iff_getElem.mp hnb j x b1 b2 h)
      · exact h
      · exact absurd (c2.trans c1.symm) (List.pairwise_iff_getElem.mp hnb x j b2 b1 h)
    refine wpAny_bind (wpAny_dictEntries hob hdb ?_)
    have hjlt : j < es'.size := by omega
    rw [Array.getElem?_eq_getElem hjlt]
    have hen' : es'[j] = entryOfKey knd (y.1, p) := by
      have q := entry_at heb j
      rw [hp, Array.getElem?_eq_getElem hjlt] at q
      exact Option.some.inj q
    show wpAny _ _ (holding [es'[j].val] (eqBool (entryOfKey knd y).val es'[j].val)) _ _ _
    rw [hen']
    refine wpAny_holding (heq prog w _ _ ?_)
    show wpAny _ _ (if (!true) = true then _ else _) _ _ _
    rw [if_neg (by decide)]
    refine wpAny_bind (wpAny_dictEpoch hoa hda ?_)
    rw [if_neg (by simp)]
    exact wpAny_pure ⟨rfl, rfl, j + 1, hrest, hlt⟩
  · rintro q s' ⟨rfl, rfl, i, hr, hi⟩
    exact wpAny_pure h
end
section
variable {prog : Program} {w : World} {K : Type} [DecidableEq K] {knd : HeapKind prog w K} {A : Around} {E : Value → Shared → Prop} {s : Shared}
theorem eqT {a b : Addr} {xa xb : List (K × Addr × Value)} {Q : Value → Shared → Prop} (hr : knd.room A.in1) (ha : (a == sysModules) = false) (hb : (b == sysModules) = false)
    (da : s.heap.DictOfH knd a xa) (db : s.heap.DictOfH knd b xb) (hu : A.units < cLine) (hl : xa.length = xb.length) (hits : ∀ (i : Nat) (x : K × Addr × Value), xa[i]? = some x → ∃ p : Addr × Value, xb[i]? = some (x.1, p) ∧ SeqAt.EqAt A.in1 s x.2.2 p.2 true) (h : Q (.bool true) s) :
    wpAny (model prog w) A (compareOp .Eq (.ref a) (.ref b)) Q E s := by
  refine wpAny_richCompare_same_room (op := .Eq) da.typeIs db.typeIs PySem.F.slot_dict_eq (wpAny_call_entry PySem.F.slot_dict_eq da.typeIs PySem.F.entry_dict_eq ?_ (PySem.F.args_dict_eq_2 _ _)) hu
  show wpAny _ _ (Builtin.Dict.dictSlotArgs "__eq__" ⟨[.ref a, .ref b], []⟩ >>= _) _ _ s
  refine wpAny_bind ?_
  unfold Builtin.Dict.dictSlotArgs
  refine wpAny_bind (wpAny_notOrdered_dict da.typeIs ?_)
  show wpAny _ _ (pure (Value.ref a, Value.ref b)) _ _ s
  refine wpAny_pure ?_
  refine wpAny_bind (wpAny_isInstance (T := "dict") db.typeIs PySem.F.sub_dict_dict ?_)
  simp only [Bool.not_true, Bool.false_eq_true, if_false]
  refine wpAny_bind (wpAny_pure (wpAny_bind (wpAny_pure ?_)))
  refine wpAny_bind (samePairsT hr ha hb da db hl hits ?_)
  refine wpAny_pure ⟨_, rfl, ?_, ?_⟩
  · exact fun x => nomatch x
  · simpa using h
theorem neT {a b : Addr} {xa xb : List (K × Addr × Value)} {Q : Value → Shared → Prop} (hr : knd.room A.in1) (ha : (a == sysModules) = false) (hb : (b == sysModules) = false)
    (da : s.heap.DictOfH knd a xa) (db : s.heap.DictOfH knd b xb) (hu : A.units < cLine) (hl : xa.length = xb.length) (hits : ∀ (i : Nat) (x : K × Addr × Value), xa[i]? = some x → ∃ p : Addr × Value, xb[i]? = some (x.1, p) ∧ SeqAt.EqAt A.in1 s x.2.2 p.2 true) (h : Q (.bool false) s) :
    wpAny (model prog w) A (compareOp .NotEq (.ref a) (.ref b)) Q E s := by
  refine wpAny_richCompare_same_room (op := .NotEq) da.typeIs db.typeIs PySem.F.slot_dict_ne (wpAny_call_entry PySem.F.slot_dict_ne da.typeIs PySem.F.entry_dict_ne ?_ (PySem.F.args_dict_ne_2 _ _)) hu
  show wpAny _ _ (Builtin.Dict.dictSlotArgs "__ne__" ⟨[.ref a, .ref b], []⟩ >>= _) _ _ s
  refine wpAny_bind ?_
  unfold Builtin.Dict.dictSlotArgs
  refine wpAny_bind (wpAny_notOrdered_dict da.typeIs ?_)
  show wpAny _ _ (pure (Value.ref a, Value.ref b)) _ _ s
  refine wpAny_pure ?_
  refine wpAny_bind (wpAny_isInstance (T := "dict") db.typeIs PySem.F.sub_dict_dict ?_)
  simp only [Bool.not_true, Bool.false_eq_true, if_false]
  refine wpAny_bind (wpAny_pure (wpAny_bind (wpAny_pure ?_)))
  refine wpAny_bind (samePairsT hr ha hb da db hl hits ?_)
  refine wpAny_pure ⟨_, rfl, ?_, ?_⟩
  · exact fun x => nomatch x
  · simpa using h
end
theorem paired_at {α β : Type} {G : α → β → Prop} {l₁ : List α} {l₂ : List β} (h : Paired G l₁ l₂) : ∀ {i : Nat} {b : β}, l₂[i]? = some b → ∃ a, l₁[i]? = some a ∧ G a b := by
  induction h with
  | nil => intro i a e; simp at e
  | @cons a b l₁ l₂ r t ih =>
    intro i b' e
    cases i with
    | zero =>
      simp only [List.getElem?_cons_zero, Option.some.injEq] at e
      subst e
      exact ⟨a, rfl, r⟩
    | succ j =>
      simp only [List.getElem?_cons_succ] at e ⊢
      exact ih e
theorem kt_hits {H : Hp} {kvs : List (List Key × V)} {xa xb : List (List Key × Addr × Value)} {A : Around} {s : Shared} (ra : KT H kvs xa) (rb : KT H kvs xb) (fl : ∀ p ∈ kvs, flatB p.2 = true) :
    ∀ (i : Nat) (x : List Key × Addr × Value), xa[i]? = some x → ∃ p : Addr × Value, xb[i]? = some (x.1, p) ∧ SeqAt.EqAt A s x.2.2 p.2 true := fun i x hx => by
  obtain ⟨p, hp, e1, _, e3⟩ := paired_at ra hx
  obtain ⟨y, hy, f1, _, f3⟩ := paired_get rb hp
  refine ⟨y.2, ?_, eqAt_same e3 f3 (fl p (List.mem_of_getElem? hp))⟩
  rw [hy, ← e1, f1]
def rEqT : R2 := fun x y H Q => ∃ (a b : Addr) (kvs : List (List Key × V)), x = .ref a ∧ y = .ref b ∧ Rd H a (.dT kvs) ∧ Rd H b (.dT kvs) ∧ (∀ p ∈ kvs, flatB p.2 = true) ∧ Q (.bl true) H
def rNeT : R2 := fun x y H Q => ∃ (a b : Addr) (kvs : List (List Key × V)), x = .ref a ∧ y = .ref b ∧ Rd H a (.dT kvs) ∧ Rd H b (.dT kvs) ∧ (∀ p ∈ kvs, flatB p.2 = true) ∧ Q (.bl false) H
section
variable {X : Cx}
theorem op_eqT (hu : X.A.units + 1 < cLine) : OpR X (compareOp .Eq) rEqT := by
  intro pins s σ H x y v u Q I rx ry h
  obtain ⟨a, b, kvs, rfl, rfl, ea, eb, fl, q⟩ := h
  obtain rfl : v = Value.ref a := rx
  obtain rfl : u = Value.ref b := ry
  obtain ⟨_, ya, xa, ra, da⟩ := dt_rd I.hok ea
  obtain ⟨_, yb, xb, rb, db⟩ := dt_rd I.hok eb
  exact eqT (tupleKind_room_in1 hu) ya yb da db (by omega) (ra.length.symm.trans rb.length) (kt_hits ra rb fl) (fin_bl I q rfl)
theorem op_neT (hu : X.A.units + 1 < cLine) : OpR X (compareOp .NotEq) rNeT := by
  intro pins s σ H x y v u Q I rx ry h
  obtain ⟨a, b, kvs, rfl, rfl, ea, eb, fl, q⟩ := h
  obtain rfl : v = Value.ref a := rx
  obtain rfl : u = Value.ref b := ry
  obtain ⟨_, ya, xa, ra, da⟩ := dt_rd I.hok ea
  obtain ⟨_, yb, xb, rb, db⟩ := dt_rd I.hok eb
  exact neT (tupleKind_room_in1 hu) ya yb da db (by omega) (ra.length.symm.trans rb.length) (kt_hits ra rb fl) (fin_bl I q rfl)
theorem r_eqT {a b : Addr} {m : Wm} {H : Hp} {Q : VK} (h1 : Rd H a (.dT (dictW m))) (h2 : Rd H b (.dT (dictW m))) (q : Q (.bl true) H) : rEqT (.ref a) (.ref b) H Q :=
  ⟨a, b, _, rfl, rfl, h1, h2, fun p hp => by obtain ⟨x, _, rfl⟩ := List.mem_map.mp hp; rfl, q⟩
theorem r_neT {a b : Addr} {m : Wm} {H : Hp} {Q : VK} (h1 : Rd H a (.dT (dictW m))) (h2 : Rd H b (.dT (dictW m))) (q : Q (.bl false) H) : rNeT (.ref a) (.ref b) H Q :=
  ⟨a, b, _, rfl, rfl, h1, h2, fun p hp => by obtain ⟨x, _, rfl⟩ := List.mem_map.mp hp; rfl, q⟩
/-! d.clear() -/
def rDClearT : V → List V → Hp → VK → Prop := fun x vs H Q => ∃ (a : Addr) (kvs : List (List Key × V)), x = .ref a ∧ vs = [] ∧ H a = some (.dT kvs) ∧ Q .non (upd H a (.dT []))
theorem mt_dclearT : MtR X "dict.clear" rDClearT := by
  intro pins s σ H x vs v us Q I rx rv h
  obtain ⟨a, kvs, ex, ev, e, q⟩ := h
  subst ex
  subst ev
  obtain rfl : v = Value.ref a := rx
  have hus := rv.zero
  subst hus
  obtain ⟨hl, hd, xs, rel, o, es, ep, ho, hx, hdt, he, _⟩ := dt_of I.hok e
  have hsz : es.size ≤ sizeLine := by
    have l1 : es.size = xs.length := size_of_entries he
    have l2 : kvs.length = xs.length := Paired.length rel
    omega
  refine call_meetsIn PySem.F.slot_dict_clear ⟨o, ho, hx.1⟩ PySem.F.entry_dict_clear (PySem.F.args_dict_clear_1 _) (meets_dict_clear_raw a) ⟨es, ep, ⟨o, ho, hx, hdt⟩, hsz, fun h' dr hs => ?_⟩
  obtain ⟨o', ho', hx', hdt'⟩ := dr
  have I4 := d_write (t' := s.toks) (ob := .dT []) I (by rw [e]; exact True.intro) hs ⟨o', ho'⟩ ⟨Nat.zero_le _, hd, [], .nil, o', #[], ep + 1, ho', hx', hdt', rfl, List.nodup_nil⟩
  exact ⟨.non, _, I4, rfl, q⟩
end
end G
set_option Elab.async false
set_option linter.all false
set_option maxRecDepth 100000
set_option maxHeartbeats 4000000
namespace G
open PySem PySem.Spec PyProof.Rows L2
def tLenSetT (K : PySem.W.Frag) (ta : TE) : TE := fun σ H Q => ta σ H fun x H1 =>
  ∃ (l : Addr) (ns : List Int), x = .ref l ∧ SqT K H1 l (ns.map V.int) ∧ ns.length ≤ 4000 ∧
  ∀ ks : List Int, ks.Nodup → (∀ k, k ∈ ks ↔ k ∈ ns) → Q (.int (ks.length : Nat)) H1
theorem pe_lenSetT {X : Cx} {K : PySem.W.Frag} {a : Expr} {ta : TE} {p p2 q pos : Pos} (hK : X.K = K) (hc : X.calm = true)
    (hg : Gl X "len") (hm : X.mg "len" = none) (hg2 : Gl X "set") (hm2 : X.mg "set" = none) (ha : PE X a ta)
    (na : starEach [a] X.env = (false, eval a X.env) :: starEach [] X.env := by rfl) :
    PE X (.Call (.Name "len" p) [.Call (.Name "set" p2) [a] [] q] [] pos) (tLenSetT K ta) := by
  subst hK
  constructor
  intro pins s σ H Q I h
  refine Call_ (ld_blt I hg hm boot_len (callWith_builtin1 (args_cons ?_ rfl) rfl rfl))
  refine Call_ (ld_blt I hg2 hm2 boot_set ?_)
  refine callWith_type1 (args_cons (thn (ha.run pins s σ H _ I h) ?_) na) na rfl
  rintro v s1 ⟨x, H1, I1, r1, l, ns, rfl, hq, hl, q1⟩
  refine args_nil ?_
  cases r1
  obtain ⟨its, r, pl, hz⟩ := I1.tuple hq
  have hi : IntsAre its.toArray.toList ns := ints_of_vals r
  refine call_set_tupI ns (I1.ok.hd hc) (show s1.heap.IsTuple l its.toArray from pl) hi (by unfold scanBound; omega) ?_
  rintro h' tk c ⟨o, es, ep, t, ho, hex, hd, g, nd, hmem, hb, hf, hn, _, _⟩ hcn kk
  refine args_nil ?_
  have I2 : Inv X pins σ H1 { s1 with heap := h', toks := tk } := I1.kept kk
  have e1 : (es.toList.map keyOf).length = es.size := by rw [List.length_map, Array.length_toList]
  have q2 := q1 (es.toList.map keyOf) nd (fun k => ⟨fun hk => of_decide_eq_true ((hmem k).mpr hk), fun hk => (hmem k).mp (decide_eq_true hk)⟩)
  rw [e1] at q2
  exact call_len_set ho hex hd hf (by unfold scanBound at hb; omega) ⟨.int es.size, H1, I2.tok _, ⟨_, rfl⟩, q2⟩
theorem pa_starK {X : Cx} {K : PySem.W.Frag} {e : Expr} {es : List Expr} {te : TE} {t : TA} {p : Pos} (hK : X.K = K) (he : PE X e te) (hr : PA X es t)
    (hs : starEach (.Starred e p :: es) X.env = (true, eval e X.env) :: starEach es X.env := by rfl) : PA X (.Starred e p :: es) (StX.tStar K te t) := hK ▸ StX.pa_star he hr hs
theorem r_star {K : PySem.W.Frag} {σ : L2.St} {H : Hp} {te : TE} {t : TA} {QA : List V → Hp → Prop} (h : te σ H fun x H1 => ∃ p xs, x = V.ref p ∧ (SqT K H1 p xs ∨ SqL K H1 p xs) ∧ t σ H1 fun ys H2 => QA (xs ++ ys) H2) : StX.tStar K te t σ H QA := h
theorem pe_revLK {X : Cx} {K : PySem.W.Frag} {e : Expr} {te : TE} {k : Nat} {p1 p2 p3 pos : Pos} (hK : X.K = K) (he : PE X e te) : PE X (.Subscript e (.Slice none none (some (.UnaryOp .USub (.Constant (.int 1) k p1) p2)) p3) pos) (tRevL K te) := hK ▸ pe_revL he
end G
set_option Elab.async false
set_option linter.all false
set_option maxRecDepth 100000
set_option maxHeartbeats 4000000
namespace G
open PySem PySem.Spec PyProof.Rows L2
/-! ### setdefault with rows for keys -/
section
variable {X : Cx} {K : PySem.W.Frag} {H : Hp} {Q : VK}
def rSetdT : V → List V → Hp → VK → Prop := fun o xs H Q => ∃ (d : Addr) (kvs : List (List Key × V)) (b : Addr) (k : List Key) (z : V), o = .ref d ∧ xs = [.ref b, z] ∧ H d = some (.dT kvs) ∧ H b = some (.tup (k.map kV)) ∧ kvs.length < sizeLine ∧
  (∀ v, valV kvs k = some v → Q v H) ∧ (valV kvs k = none → Q z (upd H d (.dT (putK kvs k z))))
theorem mt_setdT (hu : X.A.units + 1 < cLine) : MtR X "dict.setdefault" rSetdT := by
  intro pins s σ H x vs v us Q I rx rv h
  obtain ⟨d, kvs, b, k, z, ex, ev, e, hb, hl, qs, qn⟩ := h
  subst ex
  subst ev
  obtain rfl : v = Value.ref d := rx
  obtain ⟨u1, u2, rfl, r1, r2⟩ := vals2 rv
  obtain rfl : u1 = Value.ref b := r1
  obtain ⟨_, hd, xs, rel, dd⟩ := dt_of I.hok e
  have lx : kvs.length = xs.length := Paired.length rel
  have hv := rel.val k
  refine call_setdefault_heap (knd := tupleKind (mixKind X.prog X.w)) (tupleKind_room_in1 hu) (key_of I.hok hb) hd dd (fun p hp => ?_) (fun hn h' dd' hs => ?_) (by omega)
  · rw [hp] at hv
    cases ev : valV kvs k with
    | none =>
      rw [ev] at hv
      exact False.elim hv
    | some y =>
      rw [ev] at hv
      exact ⟨y, H, I.tok _, hv, qs y ev⟩
  · rw [hn] at hv
    have ev : valV kvs k = none := by
      cases ev : valV kvs k with
      | none => rfl
      | some y => rw [ev] at hv; exact False.elim hv
    have rel2 := rel.put k hb r2
    obtain ⟨ob, es, ep, hq, h2, h3, h4, _, h5⟩ := dd'
    have I4 := d_write (t' := s.toks + (tupleKind (mixKind X.prog X.w)).draws k) (ob := .dT (putK kvs k z)) I (by rw [e]; exact True.intro) hs ⟨ob, hq⟩ ⟨by rw [putK_new _ ev, List.length_append]; exact hl, hd, _, rel2.keeps (fun b ys hb => by rw [upd_ne (ne_of hb e fun z => nomatch z)]; exact hb), ob, es, ep, hq, h2, h3, h4, h5⟩
    exact ⟨z, _, I4, r2, qn ev⟩
theorem r_setdT {d b : Addr} {kvs : List (List Key × V)} {k : List Key} {z : V} (h : H d = some (.dT kvs)) (hb : H b = some (.tup (k.map kV))) (hl : kvs.length < sizeLine) (qs : ∀ v, valV kvs k = some v → Q v H) (qn : valV kvs k = none → Q z (upd H d (.dT (putK kvs k z)))) : rSetdT (.ref d) [.ref b, z] H Q := ⟨d, kvs, b, k, z, rfl, rfl, h, hb, hl, qs, qn⟩
theorem r_dg2 {td ty tx : TE} {σ : L2.St} (h : td σ H fun x H1 => ∃ a, x = V.ref a ∧ IsD H1 a ∧ ty σ H1 fun y H2 => tx σ H2 fun z H3 => ∃ o, DGet H3 a y o ∧ Q (o.getD z) H3) : tDGet2 td ty tx σ H Q := h
end
/-! ### len(set(..)) of a list -/
def tLenSetL (K : PySem.W.Frag) (ta : TE) : TE := fun σ H Q => ta σ H fun x H1 =>
  ∃ (l : Addr) (ns : List Int), x = .ref l ∧ SqL K H1 l (ns.map V.int) ∧ ns.length ≤ 4000 ∧
  ∀ ks : List Int, ks.Nodup → (∀ k, k ∈ ks ↔ k ∈ ns) → Q (.int (ks.length : Nat)) H1
theorem pe_lenSetL {X : Cx} {K : PySem.W.Frag} {a : Expr} {ta : TE} {p p2 q pos : Pos} (hK : X.K = K) (hc : X.calm = true)
    (hg : Gl X "len") (hm : X.mg "len" = none) (hg2 : Gl X "set") (hm2 : X.mg "set" = none) (ha : PE X a ta)
    (na : starEach [a] X.env = (false, eval a X.env) :: starEach [] X.env := by rfl) :
    PE X (.Call (.Name "len" p) [.Call (.Name "set" p2) [a] [] q] [] pos) (tLenSetL K ta) := by
  subst hK
  constructor
  intro pins s σ H Q I h
  refine Call_ (ld_blt I hg hm boot_len (callWith_builtin1 (args_cons ?_ rfl) rfl rfl))
  refine Call_ (ld_blt I hg2 hm2 boot_set ?_)
  refine callWith_type1 (args_cons (thn (ha.run pins s σ H _ I h) ?_) na) na rfl
  rintro v s1 ⟨x, H1, I1, r1, l, ns, rfl, hq, hl, q1⟩
  refine args_nil ?_
  cases r1
  obtain ⟨its, r, pl, hz⟩ := I1.list hq
  refine set_of_list ns (I1.ok.hd hc) pl.isList (by simpa using ints_of_vals r) (by unfold scanBound; omega) ?_
  rintro h' tk c ⟨o, es, ep, t, ho, hex, hd, g, nd, hmem, hb, hf, hn, _, _⟩ hcn kk
  refine args_nil ?_
  have I2 : Inv X pins σ H1 { s1 with heap := h', toks := tk } := I1.kept kk
  have e1 : (es.toList.map keyOf).length = es.size := by rw [List.length_map, Array.length_toList]
  have q2 := q1 (es.toList.map keyOf) nd (fun k => ⟨fun hk => of_decide_eq_true ((hmem k).mpr hk), fun hk => (hmem k).mp (decide_eq_true hk)⟩)
  rw [e1] at q2
  exact call_len_set ho hex hd hf (by unfold scanBound at hb; omega) ⟨.int es.size, H1, I2.tok _, ⟨_, rfl⟩, q2⟩
end G
set_option Elab.async false
set_option linter.all false
set_option maxRecDepth 100000
set_option maxHeartbeats 4000000
namespace G
open PySem PySem.Spec PyProof.Rows L2
/-! ### dicts whose keys are tuples of any depth -/
mutual
/-- the value is the key: whole numbers (a bool is 0 or 1), texts, None, tuples of such -/
inductive Dn (K : PySem.W.Frag) (H : Hp) : V → NestedKey → Prop
  | non : Dn K H .non .none
  | bl (b : Bool) : Dn K H (.bl b) (.num (if b = true then 1 else 0))
  | int (i : Int) : Dn K H (.int i) (.num i)
  | str (x : Str) : Dn K H (.str x) (.text x)
  | tup {a : Addr} {xs : List V} {ks : List NestedKey} : SqT K H a xs → DnAll K H xs ks → Dn K H (.ref a) (.tup ks)
inductive DnAll (K : PySem.W.Frag) (H : Hp) : List V → List NestedKey → Prop
  | nil : DnAll K H [] []
  | cons {v : V} {vs : List V} {k : NestedKey} {ks : List NestedKey} : Dn K H v k → DnAll K H vs ks → DnAll K H (v :: vs) (k :: ks)
end
mutual
theorem Dn.keep {K : PySem.W.Frag} {H H' : Hp} (e : SameT H H') : ∀ (k : NestedKey) (v : V), Dn K H v k → Dn K H' v k
  | .none, _, h => by cases h; exact .non
  | .num i, _, h => by
    cases h with
    | bl b => exact .bl b
    | int i => exact .int i
  | .text x, _, h => by cases h; exact .str x
  | .tup ks, _, h => by
    cases h with
    | tup hs ha => exact .tup (e.sq hs) (DnAll.keep e ks _ ha)
theorem DnAll.keep {K : PySem.W.Frag} {H H' : Hp} (e : SameT H H') : ∀ (ks : List NestedKey) (vs : List V), DnAll K H vs ks → DnAll K H' vs ks
  | [], _, h => by cases h; exact .nil
  | k :: ks, _, h => by
    cases h with
    | cons h1 h2 => exact .cons (Dn.keep e k _ h1) (DnAll.keep e ks _ h2)
end
theorem Dn.k {K : PySem.W.Frag} {H H' : Hp} {v : V} {k : NestedKey} (h : Dn K H v k) (e : SameT H H') : Dn K H' v k := Dn.keep e k v h
theorem DnAll.k {K : PySem.W.Frag} {H H' : Hp} {vs : List V} {ks : List NestedKey} (h : DnAll K H vs ks) (e : SameT H H') : DnAll K H' vs ks := DnAll.keep e ks vs h
section
variable {X : Cx} {pins : List (Addr × Obj)} {σ : L2.St} {H : Hp} {s : Shared}
mutual
theorem Dn.is (I : Inv X pins σ H s) : ∀ (k : NestedKey) (v : V) (u : Value), Dn X.K H v k → RelV v u → NestedIs s.heap k u
  | .none, v, u, h, r => by
    cases h
    obtain rfl : u = Value.none := r
    exact .none
  | .num i, v, u, h, r => by
    cases h with
    | bl b =>
      obtain rfl : u = Value.bool b := r
      exact .bool rfl
    | int i =>
      obtain ⟨t, rfl⟩ := r
      exact .int i t
  | .text x, v, u, h, r => by
    cases h
    obtain ⟨t, rfl⟩ := r
    exact .text x t
  | .tup ks, v, u, h, r => by
    cases h with
    | @tup a xs _ hs ha =>
      obtain rfl : u = Value.ref a := r
      obtain ⟨its, rv, ⟨⟨cls, dd, dt, sl⟩, ho, hc, n, hd⟩, hz⟩ := I.tuple hs
      exact .tup ho hc hd (by rw [List.toList_toArray]; exact DnAll.is I ks xs its ha rv)
theorem DnAll.is (I : Inv X pins σ H s) : ∀ (ks : List NestedKey) (vs : List V) (us : List Value), DnAll X.K H vs ks → Vals vs us → NestedAll s.heap ks us
  | [], vs, us, h, r => by
    cases h
    cases r
    exact .nil
  | k :: ks, vs, us, h, r => by
    cases h with
    | cons h1 h2 =>
      cases r with
      | cons r1 r2 => exact .cons (Dn.is I k _ _ h1 r1) (DnAll.is I ks _ _ h2 r2)
end
end
/-- the entries: key, its own tuple, value -/
abbrev NL := List (NestedKey × Addr × V)
def atN (L : NL) (k : NestedKey) : Option (Addr × V) := (L.find? fun x => decide (x.1 = k)).map (·.2)
def valN (L : NL) (k : NestedKey) : Option V := (atN L k).map (·.2)
def putNd (L : NL) (k : NestedKey) (a : Addr) (v : V) : NL := if (atN L k).isSome = true then L.map (fun x => if x.1 = k then (x.1, x.2.1, v) else x) else L ++ [(k, a, v)]
def RelN (p : NestedKey × Addr × V) (q : NestedKey × Addr × Value) : Prop := p.1 = q.1 ∧ p.2.1 = q.2.1 ∧ RelV p.2.2 q.2.2
theorem relN_at : ∀ {L : NL} {xs : List (NestedKey × Addr × Value)}, Paired RelN L xs → ∀ k, (atN L k = none ∧ atKey xs k = none) ∨ ∃ a v u, atN L k = some (a, v) ∧ atKey xs k = some (a, u) ∧ RelV v u
  | [], [], .nil, k => .inl ⟨rfl, rfl⟩
  | p :: L, q :: xs, .cons r t, k => by
    obtain ⟨r1, r2, r3⟩ := r
    by_cases e : p.1 = k
    · refine .inr ⟨p.2.1, p.2.2, q.2.2, ?_, ?_, r3⟩
      · show Option.map _ (List.find? _ (p :: L)) = _
        rw [List.find?_cons_of_pos (by exact decide_eq_true e)]
        rfl
      · show Option.map _ (List.find? _ (q :: xs)) = _
        rw [List.find?_cons_of_pos (by rw [← r1]; exact decide_eq_true e), r2]
        rfl
    · have ih := relN_at t k
      have e1 : atN (p :: L) k = atN L k := by
        show Option.map _ (List.find? _ (p :: L)) = _
        rw [List.find?_cons_of_neg (by rw [decide_eq_true_eq]; exact e)]
        rfl
      have e2 : atKey (q :: xs) k = atKey xs k := by
        show Option.map _ (List.find? _ (q :: xs)) = _
        rw [List.find?_cons_of_neg (by rw [← r1, decide_eq_true_eq]; exact e)]
        rfl
      rw [e1, e2]
      exact ih
theorem relN_map {k : NestedKey} {v : V} {u : Value} (r : RelV v u) : ∀ {L : NL} {xs : List (NestedKey × Addr × Value)}, Paired RelN L xs → Paired RelN (L.map fun x => if x.1 = k then (x.1, x.2.1, v) else x) (xs.map (PySem.putAt k u))
  | [], [], .nil => .nil
  | p :: L, q :: xs, .cons h t => by
    refine .cons ?_ (relN_map r t)
    obtain ⟨r1, r2, r3⟩ := h
    unfold PySem.putAt
    dsimp only
    by_cases e : p.1 = k
    · rw [if_pos e, if_pos (by rw [← r1]; exact e)]
      exact ⟨r1, r2, r⟩
    · rw [if_neg e, if_neg (by rw [← r1]; exact e)]
      exact ⟨r1, r2, r3⟩
theorem paired_app {α β : Type} {R : α → β → Prop} : ∀ {l : List α} {m : List β} {l' : List α} {m' : List β}, Paired R l m → Paired R l' m' → Paired R (l ++ l') (m ++ m')
  | [], [], _, _, .nil, h => h
  | _ :: _, _ :: _, _, _, .cons r t, h => .cons r (paired_app t h)
theorem relN_put {L : NL} {xs : List (NestedKey × Addr × Value)} (h : Paired RelN L xs) (k : NestedKey) (a : Addr) {v : V} {u : Value} (r : RelV v u) : Paired RelN (putNd L k a v) (storedH xs k a u) := by
  unfold putNd storedH
  rcases relN_at h k with ⟨e1, e2⟩ | ⟨b, v0, u0, e1, e2, _⟩
  · rw [e1, e2]
    exact paired_app h (.cons ⟨rfl, rfl, r⟩ .nil)
  · rw [e1, e2]
    exact relN_map r h
def ND0 (P : Program) (w : World) (h : Heap) (d : Addr) (L : NL) : Prop := L.length ≤ sizeLine ∧ (d == sysModules) = false ∧ ∃ xs : List (NestedKey × Addr × Value), Paired RelN L xs ∧
  ∃ o es ep, h.get? d = some o ∧ o.ExactDict ∧ o.data = .dict es ep ∧ es.toList = xs.map (entryOfKey (nestedKind P w)) ∧ (xs.map (·.1)).Nodup
/-- the dict at d -/
def NDO (P : Program) (w : World) (d : Addr) (L : NL) : HO := .ext fun h => ND0 P w h d L
theorem ndo_new {P : Program} {w : World} {H : Hp} {h : Heap} {d : Addr} {L : NL} (R : ND0 P w h d L) : ObjOk P w H h d (NDO P w d L) := by
  obtain ⟨_, _, _, _, o, _, _, ho, _⟩ := id R
  refine ⟨R, ⟨o, ho⟩, fun h1 h2 r k => ?_⟩
  obtain ⟨a1, a2, xs, a3, o, es, ep, b1, b2⟩ := r
  exact ⟨a1, a2, xs, a3, o, es, ep, k o b1, b2⟩
/-- the keys stand, and are not too deep -/
def KeysN (K : PySem.W.Frag) (H : Hp) (L : NL) : Prop := ∀ p ∈ L, Dn K H (.ref p.2.1) p.1 ∧ p.1.depth ≤ 8
theorem KeysN.k {K : PySem.W.Frag} {H H' : Hp} {L : NL} (h : KeysN K H L) (e : SameT H H') : KeysN K H' L := fun p hp => ⟨(h p hp).1.k e, (h p hp).2⟩
theorem KeysN.put {K : PySem.W.Frag} {H : Hp} {L : NL} (h : KeysN K H L) {k : NestedKey} {a : Addr} {v : V} (hk : Dn K H (.ref a) k) (hd : k.depth ≤ 8) : KeysN K H (putNd L k a v) := fun p hp => by
  unfold putNd at hp
  split at hp
  · obtain ⟨x, hx, rfl⟩ := List.mem_map.mp hp
    split
    · exact h x hx
    · exact h x hx
  · rcases List.mem_append.mp hp with hp | hp
    · exact h p hp
    · rw [List.mem_singleton.mp hp]
      exact ⟨hk, hd⟩
theorem putNd_len {L : NL} {k : NestedKey} {a : Addr} {v : V} : (putNd L k a v).length ≤ L.length + 1 := by
  unfold putNd
  split
  · rw [List.length_map]; omega
  · rw [List.length_append]; exact Nat.le_refl _
/-- the dict at d, walked or not -/
def RdN (P : Program) (w : World) (H : Hp) (d : Addr) (L : NL) : Prop := H d = some (NDO P w d L) ∨ ∃ o, H d = some (.frz o (NDO P w d L))
section
variable {X : Cx} {pins : List (Addr × Obj)} {σ : L2.St} {H : Hp} {s : Shared} {d : Addr} {L : NL}
theorem nd_of (I : Inv X pins σ H s) (h : RdN X.prog X.w H d L) : ND0 X.prog X.w s.heap d L := by
  rcases h with h | ⟨o, h⟩
  · exact (I.hok d _ h).1
  · exact (I.hok d _ h).2.1
theorem nd_dict (I : Inv X pins σ H s) (h : RdN X.prog X.w H d L) (ks : KeysN X.K H L) : L.length ≤ sizeLine ∧ (d == sysModules) = false ∧ ∃ xs : List (NestedKey × Addr × Value), Paired RelN L xs ∧ s.heap.DictOfH (nestedKind X.prog X.w) d xs := by
  obtain ⟨a1, a2, xs, pr, o, es, ep, b1, b2, b3, b4, b5⟩ := nd_of I h
  refine ⟨a1, a2, xs, pr, o, es, ep, b1, b2, b3, b4, fun x hx => ?_, b5⟩
  have go : ∀ {L : NL} {xs : List (NestedKey × Addr × Value)}, Paired RelN L xs → KeysN X.K H L → ∀ x ∈ xs, Dn X.K H (.ref x.2.1) x.1 ∧ x.1.depth ≤ 8 := by
    intro L xs pr
    induction pr with
    | nil => intro _ x hx; exact nomatch hx
    | cons r _ ih =>
      intro ks x hx
      rcases List.mem_cons.mp hx with rfl | hx
      · have := ks _ List.mem_cons_self
        rw [← r.1, ← r.2.1]
        exact this
      · exact ih (fun p hp => ks p (List.mem_cons_of_mem _ hp)) x hx
  obtain ⟨h1, h2⟩ := go pr ks x hx
  exact ⟨Dn.is I _ _ _ h1 rfl, h2⟩
theorem nd_room {A : Around} (hu : A.units + 64 < cLine) : (nestedKind X.prog X.w).room A.in1 := by
  show A.units + 1 + 8 < cLine
  omega
theorem nd_facts (I : Inv X pins σ H s) (h : RdN X.prog X.w H d L) : s.TypeIs (.ref d) "dict" ∧ (∀ b, Value.ref d = .ref b → ∃ ob, s.heap.get? b = some ob ∧ ob.dict = none) ∧ (d == sysModules) = false := by
  obtain ⟨a1, a2, xs, pr, o, es, ep, b1, b2, b3, b4, b5⟩ := nd_of I h
  exact ⟨⟨o, b1, b2.1⟩, fun b q => by cases q; exact ⟨o, b1, b2.2.1⟩, a2⟩
theorem nd_key (I : Inv X pins σ H s) {b : Addr} {k : NestedKey} (h : Dn X.K H (.ref b) k) (hd : k.depth ≤ 8) : (nestedKind X.prog X.w).is s.heap k b := ⟨Dn.is I k _ _ h rfl, hd⟩
theorem nd_mut (h : H d = some (NDO X.prog X.w d L)) : Mut (H d) := by rw [h]; trivial
end
/-! the readings -/
/-- what is looked up: the dict at d has the entries L, y is the key k -/
def NAt (K : PySem.W.Frag) (P : Program) (w : World) (x y : V) (H : Hp) (C : NL → NestedKey → Prop) : Prop := ∃ (d b : Addr) (k : NestedKey) (L : NL), x = .ref d ∧ y = .ref b ∧ RdN P w H d L ∧ KeysN K H L ∧ Dn K H (.ref b) k ∧ k.depth ≤ 8 ∧ C L k
def tNGet (K : PySem.W.Frag) (P : Program) (w : World) (td ty : TE) : TE := fun σ H Q => td σ H fun x H1 => ty σ H1 fun y H2 => NAt K P w x y H2 fun L k => ∃ v, valN L k = some v ∧ Q v H2
def tNIn (K : PySem.W.Frag) (P : Program) (w : World) (neg : Bool) (ty td : TE) : TE := fun σ H Q => ty σ H fun y H1 => td σ H1 fun x H2 => NAt K P w x y H2 fun L k => Q (.bl (if neg = true then !(valN L k).isSome else (valN L k).isSome)) H2
def tNGet1 (K : PySem.W.Frag) (P : Program) (w : World) (td ty : TE) : TE := fun σ H Q => td σ H fun x H1 => ∃ d L, x = .ref d ∧ RdN P w H1 d L ∧ ty σ H1 fun y H2 => NAt K P w x y H2 fun L k => Q ((valN L k).getD .non) H2
def tNSetd (K : PySem.W.Frag) (P : Program) (w : World) (td ty tx : TE) : TE := fun σ H Q => td σ H fun x H1 => ∃ d L, x = .ref d ∧ RdN P w H1 d L ∧ ty σ H1 fun y H2 => tx σ H2 fun z H3 =>
  ∃ (d b : Addr) (k : NestedKey) (L : NL), x = .ref d ∧ y = .ref b ∧ H3 d = some (NDO P w d L) ∧ KeysN K H3 L ∧ Dn K H3 (.ref b) k ∧ k.depth ≤ 8 ∧ L.length < sizeLine ∧ (∀ v, valN L k = some v → Q v H3) ∧ (valN L k = none → Q z (upd H3 d (NDO P w d (L ++ [(k, b, z)]))))
def sNPut (K : PySem.W.Frag) (P : Program) (w : World) (td ty tv : TE) : TS := fun D σ H => tv σ H fun v H1 => td σ H1 fun x H2 => ty σ H2 fun y H3 =>
  ∃ (d b : Addr) (k : NestedKey) (L : NL), x = .ref d ∧ y = .ref b ∧ H3 d = some (NDO P w d L) ∧ KeysN K H3 L ∧ Dn K H3 (.ref b) k ∧ k.depth ≤ 8 ∧ L.length < sizeLine ∧ D.nx σ (upd H3 d (NDO P w d (putNd L k b v)))
section
variable {X : Cx} {o i e f value : Expr} {pos pos' apos cpos : Pos} {td ty tx tv : TE}
theorem pe_nget (hu : X.A.units + 64 < cLine) (ho : PE X o td) (hi : PE X i ty) (hs : NoSl i) : PE X (.Subscript o i pos) (tNGet X.K X.prog X.w td ty) := by
  refine ⟨fun pins s σ H Q I h => ?_⟩
  refine subD_of PySem.F.slot_dict_getitem.lookup hs (thn (ho.run pins s σ H _ I h) fun u s1 ⟨x, H1, I1, rx, q1⟩ => thn (hi.run pins s1 σ H1 _ I1 q1) fun iv s2 ⟨y, H2, I2, ry, d, b, k, L, ex, ey, g, ks, hk, hd, v, hv, q2⟩ => ?_)
  subst ex ey
  obtain rfl : u = Value.ref d := rx
  obtain rfl : iv = Value.ref b := ry
  obtain ⟨_, _, xs, pr, dd⟩ := nd_dict I2 g ks
  refine ⟨(nd_facts I2 g).1, ?_⟩
  rcases relN_at pr k with ⟨e1, e2⟩ | ⟨a, v0, u0, e1, e2, r⟩
  · unfold valN at hv
    rw [e1] at hv
    exact nomatch hv
  · unfold valN at hv
    rw [e1] at hv
    obtain rfl : v0 = v := Option.some.inj hv
    exact wpAny_getItem_heap (nd_room hu) (nd_key I2 hk hd) dd e2 ⟨v0, H2, I2.tok _, r, q2⟩
theorem pe_nin {neg : Bool} {op : CmpOp} (hop : op = if neg = true then .NotIn else .In) (hu : X.A.units + 64 < cLine) (hi : PE X i ty) (ho : PE X o td) : PC X op i o (tNIn X.K X.prog X.w neg ty td) := by
  refine ⟨fun pins s σ H Q I h => ?_⟩
  refine thn (hi.run pins s σ H _ I h) fun iv s1 ⟨y, H1, I1, ry, q1⟩ => thn (ho.run pins s1 σ H1 _ I1 q1) fun u s2 ⟨x, H2, I2, rx, d, b, k, L, ex, ey, g, ks, hk, hd, q2⟩ => ?_
  subst ex ey
  obtain rfl : u = Value.ref d := rx
  obtain rfl : iv = Value.ref b := ry
  obtain ⟨_, hsm, xs, pr, dd⟩ := nd_dict I2 g ks
  have ev : (valN L k).isSome = (atKey xs k).isSome := by
    unfold valN
    rcases relN_at pr k with ⟨e1, e2⟩ | ⟨a, v0, u0, e1, e2, r⟩ <;> rw [e1, e2] <;> rfl
  cases neg with
  | false =>
    subst hop
    refine wpAny_in_heap (nd_room hu) (nd_key I2 hk hd) hsm dd ?_
    rw [← ev]
    exact ⟨.bl (valN L k).isSome, H2, I2.tok _, rfl, q2⟩
  | true =>
    subst hop
    refine wpAny_notIn_heap (nd_room hu) (nd_key I2 hk hd) hsm dd ?_
    rw [← ev]
    exact ⟨.bl (!(valN L k).isSome), H2, I2.tok _, rfl, q2⟩
theorem pe_nget1 (hu : X.A.units + 64 < cLine) (ho : PE X o td) (he : PE X e ty) (m : M1 X o "get" apos e cpos) : PE X (.Call (.Attribute o "get" apos) [e] [] cpos) (tNGet1 X.K X.prog X.w td ty) := by
  refine ⟨fun pins s σ H Q I h => ?_⟩
  refine wpAny_Call_method m.base m.few m.line PySem.F.plainAttrs_dict PySem.F.slot_dict_get PySem.F.type_dict_get (thn (ho.run pins s σ H _ I h) fun u s1 ⟨x, H1, I1, rx, d0, L0, ex0, g0, q1⟩ => ?_)
  subst ex0
  obtain rfl : u = Value.ref d0 := rx
  obtain ⟨t1, t2, _⟩ := nd_facts I1 g0
  refine ⟨t1, t2, ?_⟩
  rw [m.trees]
  refine Calls.callWith_builtin rfl (Calls.evalArgs_plain (Calls.spliced_cons (thn (he.run pins s1 σ H1 _ I1 q1) fun iv s2 ⟨y, H2, I2, ry, d, b, k, L, ex, ey, g, ks, hk, hd, q2⟩ => Calls.spliced_nil ?_)))
  subst ey
  cases ex
  obtain rfl : iv = Value.ref b := ry
  obtain ⟨_, hsm, xs, pr, dd⟩ := nd_dict I2 g ks
  refine call_meetsIn F.slot_dict_get dd.typeIs F.entry_dict_get (F.args_dict_get_2 _ _) (meetsH_dict_get (nestedKind X.prog X.w) d0 b hsm) ⟨nd_room hu, k, xs, nd_key I2 hk hd, dd, ?_⟩
  have ev : RelV ((valN L k).getD .non) (((atKey xs k).map (·.2)).getD .none) := by
    unfold valN
    rcases relN_at pr k with ⟨e1, e2⟩ | ⟨a, v0, u0, e1, e2, r⟩ <;> rw [e1, e2]
    · exact rfl
    · exact r
  exact ⟨_, H2, I2.tok _, ev, q2⟩
theorem pe_nsetd (hu : X.A.units + 64 < cLine) (ho : PE X o td) (he : PE X e ty) (hf : PE X f tx) (m : M2 X o "setdefault" apos e f cpos) : PE X (.Call (.Attribute o "setdefault" apos) [e, f] [] cpos) (tNSetd X.K X.prog X.w td ty tx) := by
  refine ⟨fun pins s σ H Q I h => ?_⟩
  refine wpAny_Call_method m.base m.few m.line PySem.F.plainAttrs_dict PySem.F.slot_dict_setdefault PySem.F.type_dict_setdefault (thn (ho.run pins s σ H _ I h) fun u s1 ⟨x, H1, I1, rx, d0, L0, ex0, g0, q1⟩ => ?_)
  subst ex0
  obtain rfl : u = Value.ref d0 := rx
  obtain ⟨t1, t2, _⟩ := nd_facts I1 g0
  refine ⟨t1, t2, ?_⟩
  rw [m.trees]
  refine Calls.callWith_builtin rfl (Calls.evalArgs_plain (Calls.spliced_cons (thn (he.run pins s1 σ H1 _ I1 q1) fun iv s2 ⟨y, H2, I2, ry, q2⟩ =>
    Calls.spliced_cons (thn (hf.run pins s2 σ H2 _ I2 q2) fun fv s3 ⟨z, H3, I3, rz, d, b, k, L, ex, ey, g, ks, hk, hd, hl, q3, q4⟩ => Calls.spliced_nil ?_))))
  subst ey
  cases ex
  obtain rfl : iv = Value.ref b := ry
  obtain ⟨_, hsm, xs, pr, dd⟩ := nd_dict I3 (.inl g) ks
  have lx : L.length = xs.length := Paired.length pr
  refine call_setdefault_heap (nd_room hu) (nd_key I3 hk hd) hsm dd (fun p hp => ?_) (fun hn h' dd' hs => ?_) (by omega)
  · rcases relN_at pr k with ⟨e1, e2⟩ | ⟨a, v0, u0, e1, e2, r⟩
    · rw [e2] at hp
      exact nomatch hp
    · rw [e2] at hp
      cases hp
      exact ⟨v0, H3, I3.tok _, r, q3 v0 (by unfold valN; rw [e1]; rfl)⟩
  · rcases relN_at pr k with ⟨e1, e2⟩ | ⟨a, v0, u0, e1, e2, r⟩
    · have rel2 := relN_put pr k b rz
      have e3 : putNd L k b z = L ++ [(k, b, z)] := by
        unfold putNd
        rw [e1]
        rfl
      rw [e3] at rel2
      obtain ⟨ob, es, ep, hq, h2, h3, h4, _, h5⟩ := dd'
      refine ⟨z, _, d_write (t' := s3.toks + (nestedKind X.prog X.w).draws k) I3 (nd_mut g) hs ⟨ob, hq⟩ (ndo_new ⟨?_, hsm, _, rel2, ob, es, ep, hq, h2, h3, h4, h5⟩), rz, q4 (by unfold valN; rw [e1]; rfl)⟩
      rw [List.length_append]
      exact hl
    · rw [e2] at hn
      exact nomatch hn
theorem ps_nput (hu : X.A.units + 64 < cLine) (ho : PE X o td) (hi : PE X i ty) (hv : PE X value tv) (hs : swapsWith value (some (.Subscript o i pos')) pos.line X.env = pure false) :
    PS X (.Assign [.Subscript o i pos'] value pos) (sNPut X.K X.prog X.w td ty tv) := by
  refine ⟨fun pins s σ H D I h => ?_⟩
  refine wpAny_Assign_Subscript (thn (hv.run pins s σ H _ I h) fun r s1 ⟨v, H1, I1, rv, q1⟩ => thn (ho.run pins s1 σ H1 _ I1 q1) fun u s2 ⟨x, H2, I2, rx, q2⟩ => thn (hi.run pins s2 σ H2 _ I2 q2) fun iv s3 ⟨y, H3, I3, ry, d, b, k, L, ex, ey, g, ks, hk, hd, hl, q3⟩ => ?_) hs
  subst ex ey
  obtain rfl : u = Value.ref d := rx
  obtain rfl : iv = Value.ref b := ry
  obtain ⟨_, hsm, xs, pr, dd⟩ := nd_dict I3 (.inl g) ks
  have lx : L.length = xs.length := Paired.length pr
  refine wpAny_setItem_heap (nd_room hu) (nd_key I3 hk hd) dd (fun h' dd' hs' => ?_) (by omega)
  obtain ⟨ob, es, ep, hq, h2, h3, h4, _, h5⟩ := dd'
  refine ⟨σ, _, d_write (t' := s3.toks + (nestedKind X.prog X.w).draws k) I3 (nd_mut g) hs' ⟨ob, hq⟩ (ndo_new ⟨?_, hsm, _, relN_put pr k b rv, ob, es, ep, hq, h2, h3, h4, h5⟩), q3⟩
  exact Nat.le_trans putNd_len hl
end
/-- a new one -/
def tDNewN (P : Program) (w : World) : TE := fun _ H Q => ∀ p, H p = none → Q (.ref p) (upd H p (NDO P w p []))
theorem nd_empty {P : Program} {w : World} {H : Hp} (h : Heap) (hb : sysModules < h.objs.size) : ObjOk P w H (h.push { cls := .type "dict", data := .dict #[] }) h.objs.size (NDO P w h.objs.size []) :=
  ndo_new ⟨Nat.zero_le _, beq_eq_false_iff_ne.mpr (Ne.symm (Nat.ne_of_lt hb)), [], .nil, _, #[], 0, Heap.get?_push_size _ rfl, ⟨rfl, rfl, rfl⟩, rfl, rfl, List.nodup_nil⟩
theorem pe_dnewN {X : Cx} {pos : Pos} : PE X (.Dict [] [] pos) (tDNewN X.prog X.w) := ⟨fun pins s σ H Q I h =>
  wpAny_Dict_empty ⟨.ref s.heap.objs.size, _, I.laid (t' := s.toks) (fun _ _ q => Heap.get?_push_of_some _ q) (Nat.le_refl _) (nd_empty s.heap I.big), rfl, h _ (I.hok.fresh (Nat.le_refl _))⟩⟩
/-! len -/
def rLenN (K : PySem.W.Frag) (P : Program) (w : World) : List V → Hp → VK → Prop := fun vs H Q => ∃ d L, vs = [.ref d] ∧ RdN P w H d L ∧ KeysN K H L ∧ Q (.int (L.length : Nat)) H
theorem call_lenN {X : Cx} : CallR X (.builtin "len") (rLenN X.K X.prog X.w) := by
  intro pins s σ H xs us Q I r h
  obtain ⟨d, L, rfl, hp, ks, q⟩ := h
  obtain ⟨u, rfl, rx⟩ := vals1 r
  obtain rfl : u = .ref d := rx
  obtain ⟨z, hd, ys, rel, dd⟩ := nd_dict I hp ks
  have hl : L.length = ys.length := Paired.length rel
  refine call_len_dictH hd dd (by rw [← hl]; rw [sizeLine_eq] at z; omega) ?_
  rw [← hl]
  exact ⟨.int ((L.length : Nat) : Int), H, I.tok _, ⟨_, rfl⟩, q⟩
end G
set_option Elab.async false
set_option linter.all false
set_option maxRecDepth 100000
set_option maxHeartbeats 4000000
namespace G
open PySem PySem.Spec PyProof.Rows L2
/-! ### walking a dict with keys of any depth: it is locked as the walk begins -/
theorem paired_getN : ∀ {L : NL} {xs : List (NestedKey × Addr × Value)}, Paired RelN L xs → ∀ {i : Nat} {p : NestedKey × Addr × V}, L[i]? = some p → ∃ q, xs[i]? = some q ∧ RelN p q
  | [], _, _, i, _, e => by simp at e
  | p :: L, q :: xs, .cons r t, 0, _, e => by
    cases Option.some.inj (show some p = some _ from e)
    exact ⟨q, rfl, r⟩
  | p :: L, q :: xs, .cons r t, i + 1, p', e => by
    obtain ⟨q', h1, h2⟩ := paired_getN t (i := i) (p := p') e
    exact ⟨q', h1, h2⟩
theorem frzN {X : Cx} {pins : List (Addr × Obj)} {σ : L2.St} {H : Hp} {s : Shared} {d : Addr} {o : Obj} {L : NL} (I : Inv X pins σ H s) (h : H d = some (.frz o (NDO X.prog X.w d L))) :
    (d == sysModules) = false ∧ s.heap.get? d = some o ∧ o.ExactDict ∧ L.length ≤ sizeLine ∧ ∃ (es : Array DictEntry) (ep : Nat), o.data = .dict es ep ∧ es.size = L.length ∧
      ∀ (i : Nat) (k : NestedKey) (a : Addr) (v : V), L[i]? = some (k, a, v) → ∃ en : DictEntry, es[i]? = some en ∧ en.key = .ref a ∧ RelV v en.val := by
  obtain ⟨hd, ⟨z, hs, xs, pr, o', es, ep, ho, hx, hdt, he, _⟩, _⟩ := I.hok d _ h
  rw [hd] at ho
  cases ho
  refine ⟨hs, hd, hx, z, es, ep, hdt, ?_, fun i k a v e => ?_⟩
  · have l1 : es.size = xs.length := size_of_entries he
    have l2 : L.length = xs.length := Paired.length pr
    omega
  · obtain ⟨b, hb, e1, e2, e3⟩ := paired_getN pr e
    have q := entry_at he i
    rw [hb] at q
    exact ⟨_, q, congrArg Value.ref e2.symm, e3⟩
/-- the keys: each key's own tuple -/
def Itkn (P : Program) (w : World) (d : Addr) (o : Obj) (L : NL) : It :=
  ⟨fun i H => H d = some (.frz o (NDO P w d L)) ∧ i < L.length, fun i H x H' => H' = H ∧ ∃ k a v, L[i]? = some (k, a, v) ∧ x = .ref a, fun i H => H d = some (.frz o (NDO P w d L)) ∧ L.length ≤ i⟩
/-- the pairs, each a new tuple of the key's own tuple and the value -/
def Itin (P : Program) (w : World) (d : Addr) (o : Obj) (L : NL) : It :=
  ⟨fun i H => H d = some (.frz o (NDO P w d L)) ∧ i < L.length, fun i H x H' => ∃ (T : Addr) (k : NestedKey) (a : Addr) (v : V), L[i]? = some (k, a, v) ∧ x = .ref T ∧ H T = none ∧ H' = upd H T (.tup [.ref a, v]), fun i H => H d = some (.frz o (NDO P w d L)) ∧ L.length ≤ i⟩
section
variable {P : Program} {w : World} {K : PySem.W.Frag} {tg : Expr} {d : Addr} {o : Obj} {es : Array DictEntry} {ep : Nat} {L : NL}
theorem turn_keysN (it : Addr) (hod : o.data = .dict es ep) : Turn P w K tg (Itkn P w d o L) [it] it (fun i h => h.IsKeyIter it d i L.length ep) where
  mem := by simp
  obj := fun i h st b hb => by
    have e : b = it := by simpa using hb
    rw [e]
    obtain ⟨oi, e1, c, dd⟩ := st
    exact ⟨oi, e1, fun v z => by rw [dd] at z; cases z⟩
  keep := fun i h h' st k => st.at fun oi e => k it (by simp) oi e
  item := by
    intro X hP hw hK hc i pins s σ H E I hf st hg
    subst hP hw hK
    obtain ⟨hd, hi⟩ := hg
    obtain ⟨g0, g1, g2, g3, g4, g5⟩ := hf it (List.mem_singleton.mpr rfl)
    obtain ⟨hs, hgd, hx, _, es', ep', hdt, hsz, ent⟩ := frzN I hd
    obtain ⟨rfl, rfl⟩ := dict_ep hod hdt
    obtain ⟨⟨k, a, v⟩, hkv⟩ : ∃ p, L[i]? = some p := ⟨L[i], List.getElem?_eq_getElem hi⟩
    obtain ⟨en, hen, hkey, hrv⟩ := ent i k a v hkv
    refine next_key_item st hgd hdt hsz hen fun h' st' sb => ?_
    have I1 : Inv X pins σ H { s with heap := h' } := I.turned (t' := s.toks) (fun b ob hb e => (sb.2 b hb).trans e) g0 g1 g3 g4 g5
    obtain ⟨oi, e, c, dd⟩ := id st'
    exact ⟨en.key, rfl, go_of (s := { s with heap := h' }) e c dd (by decide) ⟨.ref a, H, I1, hkey, ⟨rfl, k, a, v, hkv, rfl⟩, st', fun b hb => (hf b hb).1⟩⟩
  done := by
    intro X hP hw hK hc i pins s σ H E I hf st hg
    subst hP hw hK
    obtain ⟨hd, hi⟩ := hg
    obtain ⟨g0, g1, g2, g3, g4, g5⟩ := hf it (List.mem_singleton.mpr rfl)
    obtain ⟨hs, hgd, hx, _, es', ep', hdt, hsz, ent⟩ := frzN I hd
    obtain ⟨rfl, rfl⟩ := dict_ep hod hdt
    exact next_key_end (I.ok.hd hc) st hgd hdt hsz hi fun h1 ek => ⟨rfl, I.turned (t' := s.toks) (fun b ob nb e => ek b ob nb e) g0 g1 g3 g4 g5⟩
  self := fun A i s Q E st h => by
    have ty := st.typeIs
    refine wpAny_pyIter_slot ty F.slot_dict_keyiterator_iter (wpAny_call_entry F.slot_dict_keyiterator_iter ty F.entry_dict_keyiterator_iter ?_ (F.args_dict_keyiterator_iter_1 _))
    show wpAny _ _ (ret (Value.ref it)) _ _ _
    exact wpAny_pure ⟨_, rfl, "dict_keyiterator", _, ty, F.slot_dict_keyiterator_next.lookup, h⟩
theorem turn_itemsN {elts : List Expr} {kk : Nat} {tpos : Pos} (it : Addr) (hod : o.data = .dict es ep) :
    Turn P w K (.Tuple elts kk tpos) (Itin P w d o L) [it] it (fun i h => ∃ ok ov, IsItemIter h it d i L.length ep ok ov) where
  mem := by simp
  obj := fun i h st b hb => by
    have e : b = it := by simpa using hb
    subst e
    obtain ⟨ok, ov, e⟩ := st
    exact ⟨_, e, fun v z => nomatch z⟩
  keep := fun i h h' st k => let ⟨ok, ov, e⟩ := st; ⟨ok, ov, k it (by simp) _ e⟩
  item := by
    intro X hP hw hK hc i pins s σ H E I hf st hg
    subst hP hw hK
    obtain ⟨hd, hi⟩ := hg
    obtain ⟨hs, hgd, hx, _, es', ep', hdt, hsz, ent⟩ := frzN I hd
    obtain ⟨rfl, rfl⟩ := dict_ep hod hdt
    obtain ⟨⟨k, a, v⟩, hkv⟩ : ∃ p, L[i]? = some p := ⟨L[i], List.getElem?_eq_getElem hi⟩
    obtain ⟨en, hen, hkey, rv⟩ := ent i k a v hkv
    obtain ⟨ok, ov, he⟩ := st
    rw [← hsz] at he
    have hlt : it < s.heap.objs.size := Heap.lt_size he
    have hie : i < es'.size := by omega
    obtain rfl : es'[i] = en := by
      rw [Array.getElem?_eq_getElem hie] at hen
      exact Option.some.inj hen
    refine wpAny_pyNext_items_item_raw he ⟨o, hgd, hx, hdt⟩ hie fun h' ho hT hz hk => ?_
    refine ⟨_, rfl, wpAny_letOwnedTupleGo_items (s := { s with heap := h' }) ho fun h'' he' sb => ?_⟩
    have hT2 : h''.get? s.heap.objs.size = some { cls := .type "tuple", data := .seq #[es'[i].key, es'[i].val] } := (sb.2 _ (Nat.ne_of_gt hlt)).trans hT
    have new : ObjOk X.prog X.w (upd H s.heap.objs.size (.tup [.ref a, v])) h'' s.heap.objs.size (.tup [.ref a, v]) :=
      ⟨by show 2 ≤ sizeLine; decide, [es'[i].key, es'[i].val], .cons hkey (.cons rv .nil), ⟨_, hT2, rfl, _, rfl⟩⟩
    have I1 : Inv X pins σ (upd H s.heap.objs.size (.tup [.ref a, v])) { s with heap := h'' } :=
      I.turnedNew (t' := s.toks) (ch := [it]) (fun b ob hb e => (sb.2 b (by simpa using hb)).trans (hk b ob (by simpa using hb) e)) hf (Nat.le_refl _) new
    refine ⟨.ref s.heap.objs.size, _, I1, rfl, ⟨_, k, a, v, hkv, rfl, I.hok.fresh (Nat.le_refl _), rfl⟩, ⟨es'[i].key, es'[i].val, ?_⟩, fun b hb => ?_⟩
    · rw [← hsz]; exact he'
    · have e : b = it := by simpa using hb
      rw [e, upd_ne (Nat.ne_of_lt hlt)]
      exact (hf it (by simp)).1
  done := by
    intro X hP hw hK hc i pins s σ H E I hf st hg
    subst hP hw hK
    obtain ⟨hd, hi⟩ := hg
    obtain ⟨g0, g1, g2, g3, g4, g5⟩ := hf it (List.mem_singleton.mpr rfl)
    obtain ⟨hs, hgd, hx, _, es', ep', hdt, hsz, ent⟩ := frzN I hd
    obtain ⟨rfl, rfl⟩ := dict_ep hod hdt
    obtain ⟨ok, ov, he⟩ := st
    rw [← hsz] at he
    exact wpAny_pyNext_items_end_raw (I.ok.hd hc) he ⟨o, hgd, hx, hdt⟩ (by omega) fun h' eb => ⟨rfl, I.turned (t' := s.toks) (fun b ob hb e => eb b ob hb e) g0 g1 g3 g4 g5⟩
  self := fun A i s Q E st h => let ⟨_, _, e⟩ := st; PySem.W.kcp_self e h
end
/-- locked as the walk begins, or locked already -/
def LockN (P : Program) (w : World) (d : Addr) (L : NL) (H : Hp) (C : Obj → Hp → Prop) : Prop := (H d = some (NDO P w d L) ∧ ∀ o, C o (upd H d (.frz o (NDO P w d L)))) ∨ ∃ o, H d = some (.frz o (NDO P w d L)) ∧ C o H
theorem LockN.get {X : Cx} {pins : List (Addr × Obj)} {σ : L2.St} {H : Hp} {s : Shared} {d : Addr} {L : NL} {C : Obj → Hp → Prop} (I : Inv X pins σ H s) (h : LockN X.prog X.w d L H C) : ∃ o H2, Inv X pins σ H2 s ∧ H2 d = some (.frz o (NDO X.prog X.w d L)) ∧ C o H2 := by
  rcases h with ⟨hd, q⟩ | ⟨o, hd, q⟩
  · obtain ⟨od, I2⟩ := I.lock hd trivial
    exact ⟨od, _, I2, upd_same, q od⟩
  · exact ⟨o, _, I, hd, q⟩
def iKeysN (P : Program) (w : World) (td : TE) : TI := fun σ H R => td σ H fun x H1 => ∃ (d : Addr) (L : NL), x = .ref d ∧ LockN P w d L H1 fun o H2 => R (Itkn P w d o L) H2
def iItemsN (P : Program) (w : World) (td : TE) : TI := fun σ H R => td σ H fun x H1 => ∃ (d : Addr) (L : NL), x = .ref d ∧ LockN P w d L H1 fun o H2 => R (Itin P w d o L) H2
section
variable {X : Cx} {tg e : Expr} {td : TE} {apos cpos : Pos}
theorem pi_keysN (he : PE X e td) : PI X tg e (iKeysN X.prog X.w td) := by
  refine ⟨fun pins s σ H R I h => ?_⟩
  refine thn (he.run pins s σ H _ I h) fun u s1 ⟨x, H1, I1, rx, d, L, ex, q⟩ => ?_
  subst ex
  obtain rfl : u = Value.ref d := rx
  obtain ⟨o, H2, I2, hd, q2⟩ := q.get I1
  obtain ⟨hs, hgd, hx, _, es, ep, hdt, hsz, ent⟩ := frzN I2 hd
  refine iter_keys hs hgd hx hdt (pi_one (tk := s1.toks) I2 _ (turn_keysN _ hdt) ⟨_, Heap.get?_push_size _ rfl, rfl, ?_⟩ q2)
  rw [hsz] <;> rfl
theorem pi_itemsN {elts : List Expr} {kk : Nat} {tpos : Pos} (he : PE X e td) (hbase : attributeBase e "items" X.env (eval e X.env) = eval e X.env := by rfl) (hline : (apos.endLine == cpos.line) = true := by rfl) :
    PI X (.Tuple elts kk tpos) (.Call (.Attribute e "items" apos) [] [] cpos) (iItemsN X.prog X.w td) := by
  refine ⟨fun pins s σ H R I h => ?_⟩
  refine wpAny_Call_method (T := "dict") (id := "dict.items") hbase rfl hline F.plainAttrs_dict F.slot_dict_items F.type_dict_items (thn (he.run pins s σ H _ I h) fun u s1 ⟨x, H1, I1, rx, d, L, ex, q⟩ => ?_)
  subst ex
  obtain rfl : u = Value.ref d := rx
  obtain ⟨o, H2, I2, hd, q2⟩ := q.get I1
  obtain ⟨hs, hgd, hx, _, es, ep, hdt, hsz, ent⟩ := frzN I2 hd
  have ht : s1.TypeIs (.ref d) "dict" := ⟨o, hgd, hx.1⟩
  have fin : wpAny (model X.prog X.w) X.A (pyIter (.ref s1.heap.objs.size)) (PIE X pins σ (.Tuple elts kk tpos) R) X.xe { s1 with heap := s1.heap.push { cls := .type "dict_items", data := .fields #[.ref d] } } := by
    have I3 : Inv X pins σ H2 { s1 with heap := s1.heap.push { cls := .type "dict_items", data := .fields #[.ref d] } } := I2.kept (t' := s1.toks) fun b o q => Heap.get?_push_of_some _ q
    refine wpAny_pyIter_items_raw (d := d) ⟨_, Heap.get?_push_size _ rfl, rfl, rfl⟩ ⟨o, Heap.get?_push_of_some _ hgd, hx, hdt⟩ (pi_one (tk := s1.toks) I3 _ (turn_itemsN _ hdt) ⟨.none, .none, ?_⟩ q2)
    rw [← hsz]
    exact Heap.get?_push_size _ rfl
  refine ⟨ht, (fun b z => by cases z; exact ⟨o, hgd, hx.2.1⟩), ?_⟩
  show wpAny _ _ (callWith cpos (.builtin "dict.items") [.ref d] [] []) _ X.xe s1
  exact method_meetsIn F.slot_dict_items F.entry_dict_items rfl (PySem.evalArgs_none ⟨rfl, ht, F.args_dict_items_1 _, _, meets_dict_items_raw d hs, ⟨es, ep, o, hgd, hx, hdt⟩, fin⟩)
end
theorem walk_keysN {P : Program} {w : World} {d : Addr} {o : Obj} {L : NL} : Walk (Itkn P w d o L) L.length (fun H => H d = some (.frz o (NDO P w d L))) (fun i H x H' => H' = H ∧ ∃ k a v, L[i]? = some (k, a, v) ∧ x = .ref a) :=
  ⟨fun _ _ hi q => ⟨q, hi⟩, fun _ q => ⟨q, Nat.le_refl _⟩, fun _ _ _ _ _ _ y => y⟩
theorem walk_itemsN {P : Program} {w : World} {d : Addr} {o : Obj} {L : NL} : Walk (Itin P w d o L) L.length (fun H => H d = some (.frz o (NDO P w d L))) (fun i H x H' => ∃ (T : Addr) (k : NestedKey) (a : Addr) (v : V), L[i]? = some (k, a, v) ∧ x = .ref T ∧ H T = none ∧ H' = upd H T (.tup [.ref a, v])) :=
  ⟨fun _ _ hi q => ⟨q, hi⟩, fun _ q => ⟨q, Nat.le_refl _⟩, fun _ _ _ _ _ _ y => y⟩
end G
set_option Elab.async false
set_option linter.all false
set_option maxRecDepth 100000
set_option maxHeartbeats 4000000
namespace G
open PySem PySem.Spec PyProof.Rows L2
/-! ### rows as keys that stay known as plain tuples: dicts with nested keys -/
def rowK (r : List Nat) : NestedKey := .tup (r.map fun n : Nat => NestedKey.num (n : Int))
theorem rowK_inj {a b : List Nat} (h : rowK a = rowK b) : a = b := by
  have h1 : (a.map fun n : Nat => NestedKey.num (n : Int)) = b.map fun n : Nat => NestedKey.num (n : Int) := by
    injection h
  clear h
  induction a generalizing b with
  | nil => cases b with
    | nil => rfl
    | cons y b => exact nomatch h1
  | cons x a ih => cases b with
    | nil => exact nomatch h1
    | cons y b =>
      rw [List.map_cons, List.map_cons] at h1
      injection h1 with h2 h3
      injection h2 with h4
      rw [ih h3, Int.ofNat.inj h4]
theorem dn_row {K : PySem.W.Frag} {H : Hp} {b : Addr} {r : List Nat} (h : SqT K H b (r.map iV)) : Dn K H (.ref b) (rowK r) := by
  refine .tup h ?_
  clear h
  induction r with
  | nil => exact .nil
  | cons x r ih => exact .cons (.int _) ih
theorem rowK_depth (r : List Nat) : (rowK r).depth ≤ 8 := by
  have h : NestedKey.depthAll (r.map fun n : Nat => NestedKey.num (n : Int)) = 0 := by
    induction r with
    | nil => rfl
    | cons x r ih =>
      rw [List.map_cons]
      show max 0 (NestedKey.depthAll _) = 0
      rw [ih]
      rfl
  show NestedKey.depthAll _ + 1 ≤ 8
  rw [h]
  decide
def NLs (qs : List (Addr × List Nat)) : NL := qs.map fun q => (rowK q.2, q.1, V.bl true)
theorem NLs_len (qs : List (Addr × List Nat)) : (NLs qs).length = qs.length := List.length_map _
def PlR (H : Hp) (qs : List (Addr × List Nat)) : Prop := ∀ q ∈ qs, PlT H q.1 (q.2.map iV)
theorem PlR.k {H H' : Hp} {qs : List (Addr × List Nat)} (h : PlR H qs) (e : Same H H') : PlR H' qs := fun q hq => (h q hq).k e
theorem PlR.sq {K : PySem.W.Frag} {H : Hp} {qs : List (Addr × List Nat)} (h : PlR H qs) : ∀ q ∈ qs, SqT K H q.1 (q.2.map iV) := fun q hq => (h q hq).sq
theorem PlR.snoc {H : Hp} {qs : List (Addr × List Nat)} {t : Addr} {r : List Nat} (h : PlR H qs) (ht : PlT H t (r.map iV)) : PlR H (qs ++ [(t, r)]) := fun q hq => by
  rcases List.mem_append.mp hq with hq | hq
  · exact h q hq
  · rw [List.mem_singleton.mp hq]
    exact ht
/-- a plain tuple is none of the lists and dicts that change -/
theorem PlT.put {H : Hp} {p c : Addr} {xs : List V} {o : HO} {u : HO} (h : PlT H p xs) (hc : H c = some u) (hu : ∀ ob, u ≠ .frz ob (.tup xs)) : PlT (upd H c o) p xs := by
  obtain ⟨ob, h1, h2⟩ := h
  refine ⟨ob, ?_, h2⟩
  rw [upd_ne (fun e => by rw [e, hc] at h1; exact hu ob (Option.some.inj h1))]
  exact h1
theorem PlR.put {H : Hp} {c : Addr} {qs : List (Addr × List Nat)} {o : HO} {u : HO} (h : PlR H qs) (hc : H c = some u) (hu : ∀ ob xs, u ≠ .frz ob (.tup xs)) : PlR (upd H c o) qs := fun q hq => (h q hq).put hc fun ob => hu ob _
theorem keysR {K : PySem.W.Frag} {H : Hp} {qs : List (Addr × List Nat)} (h : ∀ q ∈ qs, SqT K H q.1 (q.2.map iV)) : KeysN K H (NLs qs) := fun p hp => by
  obtain ⟨q, hq, rfl⟩ := List.mem_map.mp hp
  exact ⟨dn_row (h q hq), rowK_depth _⟩
theorem val_in {qs : List (Addr × List Nat)} {r : List Nat} (h : r ∈ qs.map (·.2)) : (valN (NLs qs) (rowK r)).isSome = true := by
  unfold valN atN
  rw [Option.isSome_map, Option.isSome_map, List.find?_isSome]
  obtain ⟨q, hq, rfl⟩ := List.mem_map.mp h
  exact ⟨(rowK q.2, q.1, V.bl true), List.mem_map_of_mem hq, decide_eq_true rfl⟩
theorem at_out {qs : List (Addr × List Nat)} {r : List Nat} (h : r ∉ qs.map (·.2)) : atN (NLs qs) (rowK r) = none := by
  unfold atN
  rw [Option.map_eq_none_iff, List.find?_eq_none]
  intro x hx e
  obtain ⟨q, hq, rfl⟩ := List.mem_map.mp hx
  have e2 := rowK_inj (of_decide_eq_true e)
  rw [← e2] at h
  exact h (List.mem_map_of_mem hq)
theorem val_out {qs : List (Addr × List Nat)} {r : List Nat} (h : r ∉ qs.map (·.2)) : (valN (NLs qs) (rowK r)).isSome = false := by
  unfold valN
  rw [at_out h]
  rfl
theorem put_R {qs : List (Addr × List Nat)} {r : List Nat} {b : Addr} (h : r ∉ qs.map (·.2)) : putNd (NLs qs) (rowK r) b (.bl true) = NLs (qs ++ [(b, r)]) := by
  unfold putNd
  rw [at_out h]
  show NLs qs ++ [(rowK r, b, V.bl true)] = _
  unfold NLs
  rw [List.map_append]
  rfl
/-! the readings -/
section
variable {K : PySem.W.Frag} {P : Program} {w : World} {H : Hp} {Q : VK} {σ : L2.St} {D : Ends} {td ty tv : TE}
open Classical in
theorem r_ninR {d b : Addr} {qs : List (Addr × List Nat)} {r : List Nat} (h : H d = some (NDO P w d (NLs qs))) (hq : ∀ q ∈ qs, SqT K H q.1 (q.2.map iV)) (hb : SqT K H b (r.map iV)) (q : Q (.bl (decide (r ∉ qs.map (·.2)))) H) : NAt K P w (.ref d) (.ref b) H fun L k => Q (.bl (if true = true then !(valN L k).isSome else (valN L k).isSome)) H := by
  refine ⟨d, b, rowK r, NLs qs, rfl, rfl, .inl h, keysR hq, dn_row hb, rowK_depth _, ?_⟩
  show Q (.bl (!(valN (NLs qs) (rowK r)).isSome)) H
  by_cases e : r ∈ qs.map (·.2)
  · rw [val_in e]
    rw [decide_eq_false (fun z => z e)] at q
    exact q
  · rw [val_out e]
    rw [decide_eq_true e] at q
    exact q
open Classical in
theorem r_ninT {C : Bool → Prop} {d b : Addr} {qs : List (Addr × List Nat)} {r : List Nat} (h : H d = some (NDO P w d (NLs qs))) (hq : ∀ q ∈ qs, SqT K H q.1 (q.2.map iV)) (hb : SqT K H b (r.map iV)) (q : C (decide (r ∉ qs.map (·.2)))) : NAt K P w (.ref d) (.ref b) H fun L k => ∃ k1, V.bl (if true = true then !(valN L k).isSome else (valN L k).isSome) = V.bl k1 ∧ C k1 :=
  r_ninR (Q := fun v _ => ∃ k1, v = V.bl k1 ∧ C k1) h hq hb ⟨_, rfl, q⟩
theorem r_nputR {d b : Addr} {qs : List (Addr × List Nat)} {r : List Nat} (h : H d = some (NDO P w d (NLs qs))) (hq : ∀ q ∈ qs, SqT K H q.1 (q.2.map iV)) (hb : SqT K H b (r.map iV)) (hr : r ∉ qs.map (·.2)) (hl : qs.length < sizeLine) (q : D.nx σ (upd H d (NDO P w d (NLs (qs ++ [(b, r)]))))) :
    ∃ (d' b' : Addr) (k : NestedKey) (L : NL), V.ref d = .ref d' ∧ V.ref b = .ref b' ∧ H d' = some (NDO P w d' L) ∧ KeysN K H L ∧ Dn K H (.ref b') k ∧ k.depth ≤ 8 ∧ L.length < sizeLine ∧ D.nx σ (upd H d' (NDO P w d' (putNd L k b' (.bl true)))) := by
  refine ⟨d, b, rowK r, NLs qs, rfl, rfl, h, keysR hq, dn_row hb, rowK_depth _, by rw [NLs_len]; exact hl, ?_⟩
  rw [put_R hr]
  exact q
end
theorem r_nin {K : PySem.W.Frag} {P : Program} {w : World} {neg : Bool} {ty td : TE} {σ : L2.St} {H : Hp} {Q : VK} (h : ty σ H fun y H1 => td σ H1 fun x H2 => NAt K P w x y H2 fun L k => Q (.bl (if neg = true then !(valN L k).isSome else (valN L k).isSome)) H2) : tNIn K P w neg ty td σ H Q := h
theorem r_nput {K : PySem.W.Frag} {P : Program} {w : World} {td ty tv : TE} {D : Ends} {σ : L2.St} {H : Hp} (h : tv σ H fun v H1 => td σ H1 fun x H2 => ty σ H2 fun y H3 =>
  ∃ (d b : Addr) (k : NestedKey) (L : NL), x = .ref d ∧ y = .ref b ∧ H3 d = some (NDO P w d L) ∧ KeysN K H3 L ∧ Dn K H3 (.ref b) k ∧ k.depth ≤ 8 ∧ L.length < sizeLine ∧ D.nx σ (upd H3 d (NDO P w d (putNd L k b v)))) : sNPut K P w td ty tv D σ H := h
/-- {t: True}, t a row -/
def tDispZ (K : PySem.W.Frag) (P : Program) (w : World) (tk tv : TE) : TE := fun σ H Q => ∀ p, H p = none → tk σ (upd H p (NDO P w p [])) fun x H1 => tv σ H1 fun y H2 => ∃ b r, x = .ref b ∧ SqT K H2 b ((r : List Nat).map iV) ∧ H2 p = some (NDO P w p []) ∧ y = .bl true ∧ Q (.ref p) (upd H2 p (NDO P w p (NLs [(b, r)])))
theorem r_dispZ {K : PySem.W.Frag} {P : Program} {w : World} {tk tv : TE} {σ : L2.St} {H : Hp} {Q : VK} (h : ∀ p, H p = none → tk σ (upd H p (NDO P w p [])) fun x H1 => tv σ H1 fun y H2 => ∃ b r, x = .ref b ∧ SqT K H2 b ((r : List Nat).map iV) ∧ H2 p = some (NDO P w p []) ∧ y = .bl true ∧ Q (.ref p) (upd H2 p (NDO P w p (NLs [(b, r)])))) : tDispZ K P w tk tv σ H Q := h
/-- list(d) -/
def rListZ (P : Program) (w : World) : List V → Hp → VK → Prop := fun xs H Q => ∃ (d : Addr) (qs : List (Addr × List Nat)), xs = [V.ref d] ∧ H d = some (NDO P w d (NLs qs)) ∧ ∀ p, H p = none → Q (.ref p) (upd H p (.lst (refsV qs)))
theorem r_listZ {P : Program} {w : World} {H : Hp} {Q : VK} {d : Addr} {qs : List (Addr × List Nat)} (h : H d = some (NDO P w d (NLs qs))) (q : ∀ p, H p = none → Q (.ref p) (upd H p (.lst (refsV qs)))) : rListZ P w [.ref d] H Q := ⟨d, qs, rfl, h, q⟩
/-- tuple(range(n)), known as plain -/
def tTupRgZ (te : L2.St → Hp → (Int → Int → Hp → Prop) → Prop) : TE := fun σ H Q => te σ H fun a b H1 => RgOk a b ∧ ∀ q G, Same H1 G → PlT G q (rgV a b) → Q (.ref q) G
theorem r_tupRgZ {n : Nat} {te : TE} {σ : L2.St} {H : Hp} {Q : VK} (h1 : n ≤ 16777216) (q : ∀ p G, Same H G → PlT G p ((List.range n).map iV) → Q (.ref p) G) (h : ∀ R : VK, R (iV n) H → te σ H R) : tTupRgZ (tRg1 te) σ H Q := by
  refine h _ ⟨(n : Int), rfl, RgOk.of_le (Int.le_refl _) (by omega) (by decide) (by omega), fun p G s hp => ?_⟩
  rw [rg_nat] at hp
  exact q p G s hp
section
variable {X : Cx} {K : PySem.W.Frag} {P : Program} {w : World}
theorem pe_dispZ {k v : Expr} {tk tv : TE} {pos : Pos} (eK : X.K = K) (eP : X.prog = P) (ew : X.w = w) (hu : X.A.units + 64 < cLine) (hk : PE X k tk) (hv : PE X v tv) : PE X (.Dict [some k] [v] pos) (tDispZ K P w tk tv) := by
  subst eK eP ew
  constructor
  intro pins s σ H Q I q
  have hn := I.hok.fresh (Nat.le_refl s.heap.objs.size)
  have I1 := I.laid (a := s.heap.objs.size) (o := NDO X.prog X.w s.heap.objs.size []) (h' := s.heap.push { cls := .type "dict", data := .dict #[] }) (t' := s.toks) (fun _ _ e => Heap.get?_push_of_some _ e) (Nat.le_refl _) (nd_empty s.heap I.big)
  rw [arm_eval_Dict, zip_pairTrees [some k] [v] X.env pos rfl rfl, dictDisplay_pairs (pairTrees [some k] [v] X.env pos) (by simp [pairTrees]) (by simp [pairTrees])]
  refine wpAny_bind (wpAny_standAt (wpAny_bind ?_))
  refine wpAny_subDictH (knd := nestedKind X.prog X.w) (Q := fun d s' => wpAny (model X.prog X.w) X.A (pure (Value.ref d)) (EP X pins σ Q) X.xe s') (show X.A.units + 8 < cLine by omega) (by simp [pairTrees]) ?_
  refine pairTrees_cons_walk (thn (hk.run pins _ σ _ _ I1 (q _ hn)) fun u s1 ⟨x, H1, I2, rx, q1⟩ => thn (hv.run pins s1 σ H1 _ I2 q1) fun w2 s2 ⟨y, H2, I3, ry, b, r, ex, hb, hp, ey, q2⟩ => pairTrees_nil_walk ?_)
  subst ex ey
  cases rx
  obtain ⟨z, hd, xs, rel, dd⟩ := nd_dict I3 (.inl hp) fun p hp => (nomatch hp)
  cases rel
  refine ⟨[(rowK r, b, w2)], ⟨rfl, rfl, nd_key I3 (dn_row hb) (rowK_depth r), trivial⟩, dd, fun h' tk dd' hs => wpAny_pure ?_⟩
  obtain ⟨ob, es, ep, hq, h2, h3, h4, _, h5⟩ := dd'
  have I4 := d_write (t' := tk) (ob := NDO X.prog X.w s.heap.objs.size (NLs [(b, r)])) I3 (nd_mut hp) hs ⟨ob, hq⟩ (ndo_new ⟨by show 1 ≤ sizeLine; decide, hd, [(rowK r, b, w2)], .cons ⟨rfl, rfl, ry⟩ .nil, ob, es, ep, hq, h2, h3, h4, h5⟩)
  exact ⟨.ref _, _, I4, rfl, q2⟩
theorem pe_ninK {op : CmpOp} {i o : Expr} {ty td : TE} {neg : Bool} (eK : X.K = K) (eP : X.prog = P) (ew : X.w = w) (hop : op = if neg = true then .NotIn else .In) (hu : X.A.units + 64 < cLine) (hi : PE X i ty) (ho : PE X o td) : PC X op i o (tNIn K P w neg ty td) := by
  subst eK eP ew
  exact pe_nin hop hu hi ho
theorem ps_nputK {o i value : Expr} {pos pos' : Pos} {td ty tv : TE} (eK : X.K = K) (eP : X.prog = P) (ew : X.w = w) (hu : X.A.units + 64 < cLine) (ho : PE X o td) (hi : PE X i ty) (hv : PE X value tv) (hs : swapsWith value (some (.Subscript o i pos')) pos.line X.env = pure false) :
    PS X (.Assign [.Subscript o i pos'] value pos) (sNPut K P w td ty tv) := by
  subst eK eP ew
  exact ps_nput hu ho hi hv hs
theorem call_listZ (hc : X.calm = true) (eP : X.prog = P) (ew : X.w = w) : CallR X (.type "list") (rListZ P w) := by
  subst eP ew
  intro pins s σ H xs us Q I r h
  obtain ⟨d, qs, rfl, hd, q⟩ := h
  obtain ⟨u, rfl, rx⟩ := vals1 r
  cases rx
  obtain ⟨z, hs, ks, pr, o, es, ep, ho, hx, hdt, he, hn⟩ := nd_of I (.inl hd)
  have l1 : es.size = ks.length := size_of_entries he
  have l2 : (NLs qs).length = ks.length := Paired.length pr
  have l3 := NLs_len qs
  refine PySem.W.kdl_call (kdl_raw hs hx hdt) (I.ok.hd hc) ho (by omega) fun h' tk acc' c' kp e it => ?_
  have ea : acc'.toList = (qs.map (·.1)).map Value.ref := by
    have hl : acc'.toList.length = ks.length := by rw [Array.length_toList, it.1]; exact l1
    apply List.ext_getElem?
    intro j
    rw [List.getElem?_map, List.getElem?_map]
    cases hj : acc'.toList[j]? with
    | none =>
      have h1 := List.getElem?_eq_none_iff.mp hj
      rw [List.getElem?_eq_none (by omega)]
      rfl
    | some v =>
      obtain ⟨en, hen, hv⟩ := it.2 j v (by rw [← Array.getElem?_toList]; exact hj)
      have hjl := (List.getElem?_eq_some_iff.mp hj).1
      have hq : qs[j]? = some qs[j] := List.getElem?_eq_getElem (by omega)
      have hL : (NLs qs)[j]? = some (rowK qs[j].2, qs[j].1, V.bl true) := by
        unfold NLs
        rw [List.getElem?_map, hq]
        rfl
      obtain ⟨b, hb, e1, e2, _⟩ := paired_getN pr hL
      have qe := entry_at he j
      rw [hen, hb] at qe
      rw [hq, hv, Option.some.inj qe]
      show some (Value.ref b.2.1) = some (Value.ref qs[j].1)
      rw [← e2]
  have rv : Vals (refsV qs) acc'.toList := by
    rw [ea]
    have : refsV qs = (qs.map (·.1)).map V.ref := by unfold refsV; rw [List.map_map]; rfl
    rw [this]
    exact vals_refs _
  have hz : (refsV qs).length ≤ sizeLine := by
    show (qs.map _).length ≤ _
    rw [List.length_map]
    omega
  refine ⟨.ref s.heap.objs.size, _, I.laid (t' := tk) (o := .lst (refsV qs)) kp (Nat.le_refl _) ?_, rfl, q _ (I.hok.fresh (Nat.le_refl _))⟩
  exact ⟨hz, acc'.toList, c', rv, by rw [Array.toArray_toList]; exact e⟩
theorem pe_tupRgZ {e : Expr} {te : L2.St → Hp → (Int → Int → Hp → Prop) → Prop} {p pos : Pos} (hc : X.calm = true) (hg : Gl X "tuple") (hm : X.mg "tuple" = none) (he : PRg X e te) (na : starEach [e] X.env = (false, eval e X.env) :: starEach [] X.env := by rfl) : PE X (.Call (.Name "tuple" p) [e] [] pos) (tTupRgZ te) := by
  refine ⟨fun pins s σ H Q I h => ?_⟩
  refine Call_ (ld_blt I hg hm boot_tuple (PyProof.Rows.callWith_type1 (args_cons (thn (he pins s σ H _ I h) fun x s1 ⟨r, a, b, t, u, v, H1, ex, hr, I1, ok, q⟩ => args_nil ?_) na) na))
  subst ex
  obtain ⟨b1, b2, b3, b4, b5⟩ := ok
  refine call_tuple_range (n := (b - a).toNat) (I1.ok.hd hc) hr (small_one b1 b2 b3 b4) (rangeSize_nat a b) b5 fun h' tk acc hk hi => ?_
  have I2 : Inv X pins σ H1 { s1 with heap := h', toks := tk } := I1.kept hk
  have hfree := I2.hok.fresh (Nat.le_refl h'.objs.size)
  have gnew : (h'.push { cls := .type "tuple", data := .seq acc }).get? h'.objs.size = some { cls := .type "tuple", data := .seq acc } := Heap.get?_push_size _ rfl
  refine ⟨.ref h'.objs.size, upd H1 h'.objs.size (.frz { cls := .type "tuple", data := .seq acc } (.tup (rgV a b))), I2.laid (t' := tk) (fun c o e => Heap.get?_push_of_some _ e) (Nat.le_refl _) ⟨gnew, ?_, acc.toList, vals_rg hi, ?_⟩, rfl, q _ _ (same_new hfree) ⟨_, upd_same, rfl, rfl⟩⟩
  · rw [rgV_length, sizeLine_eq]; omega
  · rw [Array.toArray_toList]; exact IsTup.new _ _
end
end G
namespace L19
open PySem PySem.Spec PyProof.Rows L2 G
local macro_rules | `(tactic| walk_at "rd1") => `(tactic| first
  | (with_reducible refine r_seq ?_) | (with_reducible refine r_set ?_)
  | ((with_reducible refine' r_var ?rdh ?_); (case rdh => exact rfl))
  | (with_reducible refine r_c ?_) | (with_reducible refine r_op ?_) | (with_reducible refine r_un ?_) | (with_reducible refine r_cb ?_)
  | (with_reducible refine r_cons ?_) | (with_reducible refine r_nil ?_) | (with_reducible refine r_call ?_)
  | (with_reducible refine r_test ?_) | (with_reducible refine r_tb ?_) | (with_reducible refine r_bl ?_)
  | (with_reducible refine r_if ?_) | (with_reducible refine r_yes ?_) | (with_reducible refine r_ifx ?_) | (with_reducible refine r_and ?_) | (with_reducible refine r_or ?_) | (with_reducible refine r_not ?_)
  | (with_reducible refine r_andV ?_) | (with_reducible refine r_orV ?_) | (with_reducible refine r_notV ?_)
  | (with_reducible refine r_ret ?_) | (with_reducible refine r_retN ?_) | (with_reducible refine r_next ?_) | (with_reducible refine r_drop ?_) | (with_reducible refine r_asg ?_)
  | (with_reducible refine r_tup ?_) | (with_reducible refine r_lst ?_)
  | (with_reducible refine r_I0 ?_) | (with_reducible refine r_U ?_) | (with_reducible refine r_eqI ?_) | (with_reducible refine r_neI ?_) | (with_reducible refine r_eqS ?_) | (with_reducible refine r_neS ?_) | (with_reducible refine r_eqB ?_) | (with_reducible refine r_neB ?_)
  | (with_reducible refine r_int1 ?_) | (with_reducible refine r_isN ?_) | (with_reducible refine r_notN ?_)
  | (with_reducible refine iteT ?_) | (with_reducible refine iteF ?_)
  | (with_reducible refine r_sl ?_) | (with_reducible refine r_noPart ?_) | (with_reducible refine r_part ?_) | (with_reducible refine r_pint ?_)
  | ((with_reducible refine' r_isi (.ty _) ?rdt ?rdk ?_); (case rdt => first | exact .base (.int _) | exact .base (.str _) | exact .base (.bl _) | exact .base .non | exact tyx_sqL (by assumption) | exact tyx_sqT (by assumption)); (case rdk => first | exact kt_NoneType_list | exact kt_NoneType_tuple | exact kt_NoneType_bool | exact kt_NoneType_int | exact kt_NoneType_str | exact kt_bool_list | exact kt_bool_tuple | exact kt_bool_bool | exact kt_bool_int | exact kt_bool_str | exact kt_int_list | exact kt_int_tuple | exact kt_int_bool | exact kt_int_int | exact kt_int_str | exact kt_str_list | exact kt_str_tuple | exact kt_str_bool | exact kt_str_int | exact kt_str_str | exact kt_list_list | exact kt_list_tuple | exact kt_list_bool | exact kt_list_int | exact kt_list_str | exact kt_tuple_list | exact kt_tuple_tuple | exact kt_tuple_bool | exact kt_tuple_int | exact kt_tuple_str))
  | (with_reducible refine r_gn ?_) | (with_reducible refine r_gsub ?_) | (with_reducible refine r_chain ?_) | (with_reducible refine r_inSg ?_) | (with_reducible refine r_notInSg ?_) | (with_reducible refine r_bmS ?_) | ((with_reducible show tLc _ _ _ _ _ _ _ _); (first | show iStr _ _ _ _ | show iList _ _ _ _ _ | show iTup _ _ _ _ _ | show iRng1 _ _ _ _ | show iRng2 _ _ _ _)) | (with_reducible refine r_iStr ?_) | (with_reducible refine r_iList ?_) | (with_reducible refine r_iTup ?_) | (with_reducible refine r_str1 ?_) | (with_reducible refine r_ref1 ?_)
  | (with_reducible refine iteNT ?_) | (with_reducible refine iteNF ?_)
  | (with_reducible refine r_fdiv ⟨by decide, by decide⟩ ?_) | (with_reducible refine r_mod (by first | decide | assumption) ?_) | (with_reducible refine r_mul (.inr ⟨by decide, by decide⟩) ?_) | (with_reducible refine r_mul (.inl ⟨by decide, by decide⟩) ?_) | (with_reducible refine r_pow ⟨by decide, by decide, by decide⟩ ?_)
  | ((with_reducible show tFor _ _ _ _ _ _); (first | show iStr _ _ _ _ | show iList _ _ _ _ _ | show iTup _ _ _ _ _ | show iRng1 _ _ _ _ | show iRng2 _ _ _ _)) | (with_reducible refine r_rng1 ?_) | (with_reducible refine r_bmL ?_) | (with_reducible refine r_break ?_) | (with_reducible refine r_cont ?_))
local macro_rules | `(tactic| walk_at "rd") => `(tactic| repeat walk_at "rd1")
section
def topS (i : Nat) : Stmt := PySem.Challenge.pw_turnsandthrows_k19_normal_part.main.body.getD i (.Pass ⟨0, 0, 0, 0⟩)
abbrev s_then : Stmt := topS 2
abbrev N_then : List Str := ["p", "q", "place"]
theorem sc_then : FnScope N_then ["p", "q"] (defScope s_then) := ⟨rfl, rfl, rfl, by decide +kernel, rfl, by decide +kernel, by decide +kernel⟩
abbrev s_generated : Stmt := topS 3
abbrev N_generated : List Str := ["places", "permutations"]
theorem sc_generated : FnScope N_generated ["places", "permutations"] (defScope s_generated) := ⟨rfl, rfl, rfl, by decide +kernel, rfl, by decide +kernel, by decide +kernel⟩
abbrev s_grown : Stmt := topS 4
abbrev N_grown : List Str := ["places", "permutations", "most", "makers", "group", "permutation"]
theorem sc_grown : FnScope N_grown ["places", "permutations", "most"] (defScope s_grown) := ⟨rfl, rfl, rfl, by decide +kernel, rfl, by decide +kernel, by decide +kernel⟩
abbrev s_products : Stmt := topS 5
abbrev N_products : List Str := ["places", "makers", "most", "queue", "found", "at", "maker", "product"]
theorem sc_products : FnScope N_products ["places", "makers", "most"] (defScope s_products) := ⟨rfl, rfl, rfl, by decide +kernel, rfl, by decide +kernel, by decide +kernel⟩
abbrev s_normal_part : Stmt := topS 7
abbrev N_normal_part : List Str := ["group", "element"]
theorem sc_normal_part : FnScope N_normal_part ["group", "element"] (defScope s_normal_part) := ⟨rfl, rfl, rfl, by decide +kernel, rfl, by decide +kernel, by decide +kernel⟩
abbrev s_turned : Stmt := topS 8
abbrev N_turned : List Str := ["group", "element", "found", "g", "image", "place", "there"]
theorem sc_turned : FnScope N_turned ["group", "element"] (defScope s_turned) := ⟨rfl, rfl, rfl, by decide +kernel, rfl, by decide +kernel, by decide +kernel⟩
abbrev s_l_cell : Stmt := topS 10
abbrev N_l_cell : List Str := ["script", "k"]
theorem sc_l_cell : FnScope N_l_cell ["script", "k"] (defScope s_l_cell) := ⟨rfl, rfl, rfl, by decide +kernel, rfl, by decide +kernel, by decide +kernel⟩
abbrev s_l_numbers : Stmt := topS 11
abbrev N_l_numbers : List Str := ["cell", "count", "numbers", "k", "mixed"]
theorem sc_l_numbers : FnScope N_l_numbers ["cell", "count"] (defScope s_l_numbers) := ⟨rfl, rfl, rfl, by decide +kernel, rfl, by decide +kernel, by decide +kernel⟩
abbrev s_l_same : Stmt := topS 12
abbrev N_l_same : List Str := ["actual", "due", "k"]
theorem sc_l_same : FnScope N_l_same ["actual", "due"] (defScope s_l_same) := ⟨rfl, rfl, rfl, by decide +kernel, rfl, by decide +kernel, by decide +kernel⟩
abbrev s_l_permutation : Stmt := topS 13
abbrev N_l_permutation : List Str := ["numbers", "places", "p", "k", "j", "held"]
theorem sc_l_permutation : FnScope N_l_permutation ["numbers", "places"] (defScope s_l_permutation) := ⟨rfl, rfl, rfl, by decide +kernel, rfl, by decide +kernel, by decide +kernel⟩
abbrev s_l_then : Stmt := topS 14
abbrev N_l_then : List Str := ["p", "q", "place"]
theorem sc_l_then : FnScope N_l_then ["p", "q"] (defScope s_l_then) := ⟨rfl, rfl, rfl, by decide +kernel, rfl, by decide +kernel, by decide +kernel⟩
abbrev s_l_closed : Stmt := topS 15
abbrev N_l_closed : List Str := ["places", "permutations", "found", "waiting", "turn", "current", "p", "target"]
theorem sc_l_closed : FnScope N_l_closed ["places", "permutations"] (defScope s_l_closed) := ⟨rfl, rfl, rfl, by decide +kernel, rfl, by decide +kernel, by decide +kernel⟩
abbrev s_l_generators : Stmt := topS 16
abbrev N_l_generators : List Str := ["numbers", "places", "sort", "wheel", "square", "other", "k"]
theorem sc_l_generators : FnScope N_l_generators ["numbers", "places"] (defScope s_l_generators) := ⟨rfl, rfl, rfl, by decide +kernel, rfl, by decide +kernel, by decide +kernel⟩
abbrev s_l_back : Stmt := topS 17
abbrev N_l_back : List Str := ["p", "place"]
theorem sc_l_back : FnScope N_l_back ["p"] (defScope s_l_back) := ⟨rfl, rfl, rfl, by decide +kernel, rfl, by decide +kernel, by decide +kernel⟩
abbrev s_l_normal : Stmt := topS 18
abbrev N_l_normal : List Str := ["group", "part", "element", "made", "g"]
theorem sc_l_normal : FnScope N_l_normal ["group", "part", "element"] (defScope s_l_normal) := ⟨rfl, rfl, rfl, by decide +kernel, rfl, by decide +kernel, by decide +kernel⟩
abbrev s_law : Stmt := topS 19
abbrev N_law : List Str := ["script", "numbers", "places", "group", "handed", "k", "element", "told"]
theorem sc_law : FnScope N_law ["script"] (defScope s_law) := ⟨rfl, rfl, rfl, by decide +kernel, rfl, by decide +kernel, by decide +kernel⟩
structure Ad where
  f_then : Addr
  d_then : FuncData
  f_generated : Addr
  d_generated : FuncData
  f_grown : Addr
  d_grown : FuncData
  f_products : Addr
  d_products : FuncData
  f_normal_part : Addr
  d_normal_part : FuncData
  f_turned : Addr
  d_turned : FuncData
  f_l_cell : Addr
  d_l_cell : FuncData
  f_l_numbers : Addr
  d_l_numbers : FuncData
  f_l_same : Addr
  d_l_same : FuncData
  f_l_permutation : Addr
  d_l_permutation : FuncData
  f_l_then : Addr
  d_l_then : FuncData
  f_l_closed : Addr
  d_l_closed : FuncData
  f_l_generators : Addr
  d_l_generators : FuncData
  f_l_back : Addr
  d_l_back : FuncData
  f_l_normal : Addr
  d_l_normal : FuncData
  f_law : Addr
  d_law : FuncData
structure Txt (K : PySem.W.Frag) (mg : Str → Option Value) (a : Ad) : Prop where
  F_then : Fun K "then" "then" s_then a.f_then a.d_then
  b_then : Binds K a.d_then ["p", "q"] []
  g_then : mg "then" = some (.ref a.f_then)
  F_generated : Fun K "generated" "generated" s_generated a.f_generated a.d_generated
  b_generated : Binds K a.d_generated ["places", "permutations"] []
  g_generated : mg "generated" = some (.ref a.f_generated)
  F_grown : Fun K "grown" "grown" s_grown a.f_grown a.d_grown
  b_grown : Binds K a.d_grown ["places", "permutations", "most"] []
  g_grown : mg "grown" = some (.ref a.f_grown)
  F_products : Fun K "products" "products" s_products a.f_products a.d_products
  b_products : Binds K a.d_products ["places", "makers", "most"] []
  g_products : mg "products" = some (.ref a.f_products)
  F_normal_part : Fun K "normal_part" "normal_part" s_normal_part a.f_normal_part a.d_normal_part
  b_normal_part : Binds K a.d_normal_part ["group", "element"] []
  g_normal_part : mg "normal_part" = some (.ref a.f_normal_part)
  F_turned : Fun K "turned" "turned" s_turned a.f_turned a.d_turned
  b_turned : Binds K a.d_turned ["group", "element"] []
  g_turned : mg "turned" = some (.ref a.f_turned)
  F_l_cell : Fun K "_law_cell" "_law_cell" s_l_cell a.f_l_cell a.d_l_cell
  b_l_cell : Binds K a.d_l_cell ["script", "k"] []
  g_l_cell : mg "_law_cell" = some (.ref a.f_l_cell)
  F_l_numbers : Fun K "_law_numbers" "_law_numbers" s_l_numbers a.f_l_numbers a.d_l_numbers
  b_l_numbers : Binds K a.d_l_numbers ["cell", "count"] []
  g_l_numbers : mg "_law_numbers" = some (.ref a.f_l_numbers)
  F_l_same : Fun K "_law_same" "_law_same" s_l_same a.f_l_same a.d_l_same
  b_l_same : Binds K a.d_l_same ["actual", "due"] []
  g_l_same : mg "_law_same" = some (.ref a.f_l_same)
  F_l_permutation : Fun K "_law_permutation" "_law_permutation" s_l_permutation a.f_l_permutation a.d_l_permutation
  b_l_permutation : Binds K a.d_l_permutation ["numbers", "places"] []
  g_l_permutation : mg "_law_permutation" = some (.ref a.f_l_permutation)
  F_l_then : Fun K "_law_then" "_law_then" s_l_then a.f_l_then a.d_l_then
  b_l_then : Binds K a.d_l_then ["p", "q"] []
  g_l_then : mg "_law_then" = some (.ref a.f_l_then)
  F_l_closed : Fun K "_law_closed" "_law_closed" s_l_closed a.f_l_closed a.d_l_closed
  b_l_closed : Binds K a.d_l_closed ["places", "permutations"] []
  g_l_closed : mg "_law_closed" = some (.ref a.f_l_closed)
  F_l_generators : Fun K "_law_generators" "_law_generators" s_l_generators a.f_l_generators a.d_l_generators
  b_l_generators : Binds K a.d_l_generators ["numbers", "places"] []
  g_l_generators : mg "_law_generators" = some (.ref a.f_l_generators)
  F_l_back : Fun K "_law_back" "_law_back" s_l_back a.f_l_back a.d_l_back
  b_l_back : Binds K a.d_l_back ["p"] []
  g_l_back : mg "_law_back" = some (.ref a.f_l_back)
  F_l_normal : Fun K "_law_normal" "_law_normal" s_l_normal a.f_l_normal a.d_l_normal
  b_l_normal : Binds K a.d_l_normal ["group", "part", "element"] []
  g_l_normal : mg "_law_normal" = some (.ref a.f_l_normal)
  F_law : Fun K "law" "law" s_law a.f_law a.d_law
  b_law : Binds K a.d_law ["script"] []
  g_law : mg "law" = some (.ref a.f_law)
  z_bool : mg "bool" = none
  z_enumerate : mg "enumerate" = none
  z_int : mg "int" = none
  z_isinstance : mg "isinstance" = none
  z_len : mg "len" = none
  z_list : mg "list" = none
  z_range : mg "range" = none
  z_set : mg "set" = none
  z_sorted : mg "sorted" = none
  z_str : mg "str" = none
  z_tuple : mg "tuple" = none
  m_factorial : mg "factorial" = some (.builtin "math.factorial")
end

section
variable {P : Program} {w : World} {K : PySem.W.Frag} {mg : Str → Option Value} {base : Heap} {a : Ad}
theorem ok_l_cell (T : Txt K mg a) : FnOk P w K mg base CX0 1 a.f_l_cell a.d_l_cell ["script", "k"] (spCellG K) := by
  refine T.F_l_cell.ok sc_l_cell (fun vs H Q E h => ?_) (fun cdv A outer s H vs Q E hr h => ?_)
  · obtain ⟨l, ns, k, rfl, _⟩ := h
    rfl
  · obtain ⟨l, ns, k, rfl, hS, h0, q⟩ := h
    refine ⟨_, (pss_cons (ps_if (pt_cmpR op_lt (pv 1) (pe_callB (call_lenQK (K := K) rfl) (by rfl) T.z_len (by decide +kernel) (pa_cons (pv 0) pa_nil)) (nomark _)) (pss_one (ps_ret (pe_ix (ix_listK (K := K) rfl) (pv 0) (pv 1) (fun _ _ => rfl)))) pss_nil)
      (pss_one (ps_ret pe_int))), ?_⟩
    walk_at "rd"
    refine r_lenL hS ?_
    walk_at "rd"
    rw [List.length_map]
    refine r_iteD (fun hk => ?_) (fun hk => ?_)
    · walk_at "rd"
      have hk' : k.toNat < ns.length := by omega
      refine r_ixL hS (at_of (j := k.toNat) (by omega) (by rw [List.getElem?_map, List.getElem?_eq_getElem hk']; rfl)) ?_
      have e : cellV ns k = ns[k.toNat] := by unfold cellV; rw [List.getD_eq_getElem?_getD, List.getElem?_eq_getElem hk']; rfl
      rw [e] at q
      exact q
    · walk_at "rd"
      have e : cellV ns k = 0 := by unfold cellV; rw [List.getD_eq_getElem?_getD, List.getElem?_eq_none (by omega)]; rfl
      rw [e] at q
      exact q

theorem ok_l_numbers (T : Txt K mg a) : FnOk P w K mg base CX0 1 a.f_l_numbers a.d_l_numbers ["cell", "count"] (spNums K) := by
  refine T.F_l_numbers.ok sc_l_numbers (fun vs H Q E h => ?_) (fun cdv A outer s H vs Q E hr h => ?_)
  · obtain ⟨c, n, rfl, _⟩ := h
    rfl
  · obtain ⟨c, n, rfl, hn, q⟩ := h
    refine ⟨_, (pss_cons (ps_set (i := 2) sc_l_numbers.nd rfl (Or.inl rfl) (pe_lst pa_nil))
      (pss_cons (ps_if (pt_cmpR op_ge (pv 0) (pe_op op_pow pe_int pe_int) (nomark _)) (pss_cons (ps_for PassesOwn.never rfl (pi_range1 (by rfl) T.z_range (pa_cons (pv 1) pa_nil)) (pg_name (i := 3) sc_l_numbers.nd rfl (Or.inl rfl)) (pss_cons (ps_expr (bmK (K := K) rfl (pe_bm PySem.F.plainAttrs_list PySem.F.slot_list_append PySem.F.type_list_append mt_append (pv 2) (pa_cons (pe_op op_mod (pe_callTy call_int1' (by rfl) T.z_int (by decide +kernel) (pa_cons (pv 0) pa_nil)) pe_int) pa_nil))))
      (pss_one (ps_set (i := 0) sc_l_numbers.nd rfl (Or.inl rfl) (pe_op op_fdiv (pv 0) pe_int)))))
      (pss_one (ps_ret (pv 2)))) pss_nil)
      (pss_cons (ps_set (i := 4) sc_l_numbers.nd rfl (Or.inl rfl) (pe_op op_mod (pe_callTy call_int1' (by rfl) T.z_int (by decide +kernel) (pa_cons (pv 0) pa_nil)) pe_int))
      (pss_cons (ps_for PassesOwn.never rfl (pi_range1 (by rfl) T.z_range (pa_cons (pv 1) pa_nil)) (pg_name (i := 3) sc_l_numbers.nd rfl (Or.inl rfl)) (pss_cons (ps_set (i := 4) sc_l_numbers.nd rfl (Or.inl rfl) (pe_op op_mod (pe_callTy call_int1' (by rfl) T.z_int (by decide +kernel) (pa_cons (pe_op op_add (pe_op op_mul (pv 4) pe_int) (pe_op op_mul pe_int (pe_op op_add (pv 3) pe_int))) pa_nil)) pe_int))
      (pss_one (ps_expr (bmK (K := K) rfl (pe_bm PySem.F.plainAttrs_list PySem.F.slot_list_append PySem.F.type_list_append mt_append (pv 2) (pa_cons (pe_op op_mod (pe_op op_fdiv (pv 4) pe_int) pe_int) pa_nil)))))))
      (pss_one (ps_ret (pv 2))))))), ?_⟩
    have zl : (sizeLine : Nat) = 16777216 := by decide
    walk_at "rd"
    refine ⟨by decide, fun p hp => ?_⟩
    walk_at "rd"
    refine r_iteD (fun _ => ?_) (fun _ => ?_)
    · walk_at "rd"
      refine r_rng1' (by omega) (by omega) ?_
      rw [Int.toNat_natCast]
      refine for_range (lo := 0) (n := n) (fun i σ H' => ∃ c' ns y3, σ = [some (.int c'), some (.int (n : Int)), some (.ref p), y3, none] ∧ Same H H' ∧ H' p = some (.lst (ns.map V.int)) ∧ ns.length = i ∧ ∀ z ∈ ns, 0 ≤ z ∧ z < 1000)
        ⟨c, [], none, rfl, same_new hp, upd_same, rfl, fun z hz => nomatch hz⟩ (fun i σ H' hi hP => ?_) (fun σ H' hP => ?_)
      · obtain ⟨c', ns, y3, rfl, sm, hN, hl, hz⟩ := hP
        walk_at "rd"
        refine ⟨ty_l (SqL.of hN), ?_⟩
        walk_at "rd"
        refine r_append hN (by rw [List.length_map]; omega) ?_
        walk_at "rd"
        refine ⟨_, ns ++ [c' % 1000], _, rfl, same_mut sm hp, by rw [upd_same, List.map_append]; rfl, by rw [List.length_append, hl]; rfl, fun z h => ?_⟩
        rcases List.mem_append.mp h with h | h
        · exact hz z h
        · rw [List.mem_singleton.mp h]; exact emod_rng _ (by decide)
      · obtain ⟨c', ns, y3, rfl, sm, hN, hl, hz⟩ := hP
        walk_at "rd"
        exact q H' p ns sm hp hN hl hz
    · walk_at "rd"
      refine r_rng1' (by omega) (by omega) ?_
      rw [Int.toNat_natCast]
      refine for_range (lo := 0) (n := n) (fun i σ H' => ∃ m ns y3, σ = [some (.int c), some (.int (n : Int)), some (.ref p), y3, some (.int m)] ∧ Same H H' ∧ H' p = some (.lst (ns.map V.int)) ∧ ns.length = i ∧ ∀ z ∈ ns, 0 ≤ z ∧ z < 1000)
        ⟨_, [], none, rfl, same_new hp, upd_same, rfl, fun z hz => nomatch hz⟩ (fun i σ H' hi hP => ?_) (fun σ H' hP => ?_)
      · obtain ⟨m, ns, y3, rfl, sm, hN, hl, hz⟩ := hP
        walk_at "rd"
        refine ⟨ty_l (SqL.of hN), ?_⟩
        walk_at "rd"
        refine r_append hN (by rw [List.length_map]; omega) ?_
        refine ⟨_, ns ++ [_ / 7 % 1000], _, rfl, same_mut sm hp, by rw [upd_same, List.map_append]; rfl, by rw [List.length_append, hl]; rfl, fun z h => ?_⟩
        rcases List.mem_append.mp h with h | h
        · exact hz z h
        · rw [List.mem_singleton.mp h]; exact emod_rng _ (by decide)
      · obtain ⟨m, ns, y3, rfl, sm, hN, hl, hz⟩ := hP
        walk_at "rd"
        exact q H' p ns sm hp hN hl hz

end

section
variable {P : Program} {w : World} {K : PySem.W.Frag} {mg : Str → Option Value} {base : Heap} {a : Ad}
theorem ok_l_same_n (T : Txt K mg a) : ∀ n, FnOk P w K mg base CX0 n a.f_l_same a.d_l_same ["actual", "due"] (spSame K n)
  | 0 => fn_vac fun vs H Q E h => by
    obtain ⟨x, y, d, _, _, _, hf, _⟩ := h
    cases d <;> exact hf
  | n + 1 => by
    have G_l_same := ok_l_same_n T n
    refine T.F_l_same.ok sc_l_same (fun vs H Q E h => ?_) (fun cdv A outer s H vs Q E hr h => ?_)
    · obtain ⟨x, y, d, rfl, _⟩ := h
      rfl
    · obtain ⟨x, y, d, rfl, hx, hy, hf, q⟩ := h
      refine ⟨_, (pss_cons (ps_if (pt_cmpR op_isN1 (pv 1) pe_non (nomark _)) (pss_one (ps_ret (pe_cmpR op_isN1 (pv 0) pe_non (nomark _)))) pss_nil)
      (pss_cons (ps_if (PW.pt (pw_or (pt_val (pe_callB (call_isiK1 (K := K) rfl) (by rfl) T.z_isinstance (by decide +kernel) (pa_cons (pv 1) (pa_cons (pe_bltn (by rfl) T.z_list (v := V.ty "list") (u := Value.type "list") (by decide +kernel) rfl) pa_nil)))) (pw_or1 (pt_val (pe_callB (call_isiK1 (K := K) rfl) (by rfl) T.z_isinstance (by decide +kernel) (pa_cons (pv 1) (pa_cons (pe_bltn (by rfl) T.z_tuple (v := V.ty "tuple") (u := Value.type "tuple") (by decide +kernel) rfl) pa_nil))))))) (pss_cons (ps_if (PW.pt (pw_or (pt_cmpR op_ne (pe_callB (call_isiK1 (K := K) rfl) (by rfl) T.z_isinstance (by decide +kernel) (pa_cons (pv 1) (pa_cons (pe_bltn (by rfl) T.z_list (v := V.ty "list") (u := Value.type "list") (by decide +kernel) rfl) pa_nil))) (pe_callB (call_isiK1 (K := K) rfl) (by rfl) T.z_isinstance (by decide +kernel) (pa_cons (pv 0) (pa_cons (pe_bltn (by rfl) T.z_list (v := V.ty "list") (u := Value.type "list") (by decide +kernel) rfl) pa_nil))) (nomark _)) (pw_or1 (pt_cmpR op_ne (pe_callB (call_isiK1 (K := K) rfl) (by rfl) T.z_isinstance (by decide +kernel) (pa_cons (pv 1) (pa_cons (pe_bltn (by rfl) T.z_tuple (v := V.ty "tuple") (u := Value.type "tuple") (by decide +kernel) rfl) pa_nil))) (pe_callB (call_isiK1 (K := K) rfl) (by rfl) T.z_isinstance (by decide +kernel) (pa_cons (pv 0) (pa_cons (pe_bltn (by rfl) T.z_tuple (v := V.ty "tuple") (u := Value.type "tuple") (by decide +kernel) rfl) pa_nil))) (nomark _))))) (pss_one (ps_ret pe_bl)) pss_nil)
      (pss_cons (ps_if (pt_cmpR op_ne (pe_callB (call_lenQK (K := K) rfl) (by rfl) T.z_len (by decide +kernel) (pa_cons (pv 0) pa_nil)) (pe_callB (call_lenQK (K := K) rfl) (by rfl) T.z_len (by decide +kernel) (pa_cons (pv 1) pa_nil)) (nomark _)) (pss_one (ps_ret pe_bl)) pss_nil)
      (pss_cons (ps_for PassesOwn.never rfl (pi_range1 (by rfl) T.z_range (pa_cons (pe_callB (call_lenQK (K := K) rfl) (by rfl) T.z_len (by decide +kernel) (pa_cons (pv 1) pa_nil)) pa_nil)) (pg_name (i := 2) sc_l_same.nd rfl (Or.inl rfl)) (pss_one (ps_if (pt_not (pt_val (pe_call (G_l_same) (hr.mono (by first | decide | omega)) (by rfl) T.g_l_same T.F_l_same.kp T.b_l_same .nil pass0 (pa_cons (pe_ix (ix_seqK (K := K) rfl) (pv 0) (pv 2) (fun _ _ => rfl)) (pa_cons (pe_ix (ix_seqK (K := K) rfl) (pv 1) (pv 2) (fun _ _ => rfl)) pa_nil))))) (pss_one (ps_ret pe_bl)) pss_nil)))
      (pss_one (ps_ret pe_bl))))) pss_nil)
      (pss_cons (ps_if (PW.pt (pw_or (pt_cmpR op_ne (pe_callB (call_isiK1 (K := K) rfl) (by rfl) T.z_isinstance (by decide +kernel) (pa_cons (pv 1) (pa_cons (pe_bltn (by rfl) T.z_bool (v := V.ty "bool") (u := Value.type "bool") (by decide +kernel) rfl) pa_nil))) (pe_callB (call_isiK1 (K := K) rfl) (by rfl) T.z_isinstance (by decide +kernel) (pa_cons (pv 0) (pa_cons (pe_bltn (by rfl) T.z_bool (v := V.ty "bool") (u := Value.type "bool") (by decide +kernel) rfl) pa_nil))) (nomark _)) (pw_or1 (pt_cmpR op_ne (pe_callB (call_isiK1 (K := K) rfl) (by rfl) T.z_isinstance (by decide +kernel) (pa_cons (pv 1) (pa_cons (pe_bltn (by rfl) T.z_int (v := V.ty "int") (u := Value.type "int") (by decide +kernel) rfl) pa_nil))) (pe_callB (call_isiK1 (K := K) rfl) (by rfl) T.z_isinstance (by decide +kernel) (pa_cons (pv 0) (pa_cons (pe_bltn (by rfl) T.z_int (v := V.ty "int") (u := Value.type "int") (by decide +kernel) rfl) pa_nil))) (nomark _))))) (pss_one (ps_ret pe_bl)) pss_nil)
      (pss_one (ps_ret (pe_and (pe_cmpR op_eq (pe_callB (call_isiK1 (K := K) rfl) (by rfl) T.z_isinstance (by decide +kernel) (pa_cons (pv 1) (pa_cons (pe_bltn (by rfl) T.z_str (v := V.ty "str") (u := Value.type "str") (by decide +kernel) rfl) pa_nil))) (pe_callB (call_isiK1 (K := K) rfl) (by rfl) T.z_isinstance (by decide +kernel) (pa_cons (pv 0) (pa_cons (pe_bltn (by rfl) T.z_str (v := V.ty "str") (u := Value.type "str") (by decide +kernel) rfl) pa_nil))) (nomark _)) (pe_one (pe_cmpR op_eq (pv 0) (pv 1) (nomark _))))))))), ?_⟩
      walk_at "rd"
      cases d with
      | none =>
        cases hx; cases hy
        refine r_iteD (fun _ => ?_) (fun e => absurd rfl e)
        walk_at "rd"
        exact q
      | bool b =>
        cases hx; cases hy
        refine r_iteD (fun e => nomatch e) (fun _ => ?_)
        walk_at "rd"
        refine r_iteN (fun e => absurd rfl e) (fun _ => ?_)
        walk_at "rd"
        refine r_iteN (fun e => absurd rfl e) (fun _ => ?_)
        walk_at "rd"
        refine r_iteD (fun _ => ?_) (fun e => absurd rfl e)
        walk_at "rd"
        rw [decide_eq_true rfl]
        exact q
      | int b =>
        cases hx; cases hy
        refine r_iteD (fun e => nomatch e) (fun _ => ?_)
        walk_at "rd"
        refine r_iteN (fun e => absurd rfl e) (fun _ => ?_)
        walk_at "rd"
        refine r_iteN (fun e => absurd rfl e) (fun _ => ?_)
        walk_at "rd"
        refine r_iteD (fun _ => ?_) (fun e => absurd rfl e)
        walk_at "rd"
        rw [decide_eq_true rfl]
        exact q
      | str b =>
        cases hx; cases hy
        refine r_iteD (fun e => nomatch e) (fun _ => ?_)
        walk_at "rd"
        refine r_iteN (fun e => absurd rfl e) (fun _ => ?_)
        walk_at "rd"
        refine r_iteN (fun e => absurd rfl e) (fun _ => ?_)
        walk_at "rd"
        refine r_iteD (fun _ => ?_) (fun e => absurd rfl e)
        walk_at "rd"
        rw [decide_eq_true rfl]
        exact q
      | dict _ => exact hf.elim
      | list ds =>
        cases hx with
        | lst hs1 ha1 =>
        cases hy with
        | lst hs2 ha2 =>
        have e1 := dpAll_len ha1
        have e2 := dpAll_len ha2
        refine r_iteD (fun e => nomatch e) (fun _ => ?_)
        walk_at "rd"
        refine r_iteN (fun e => absurd rfl e) (fun _ => ?_)
        walk_at "rd"
        refine r_iteN (fun e => absurd rfl e) (fun _ => ?_)
        walk_at "rd"
        refine r_lenL hs1 ?_
        walk_at "rd"
        refine r_lenL hs2 ?_
        walk_at "rd"
        refine r_iteN (fun e => absurd (by rw [e1, e2]) e) (fun _ => ?_)
        walk_at "rd"
        refine r_lenL hs2 ?_
        walk_at "rd"
        have hz : ds.length ≤ 16777216 := hf.1
        refine r_rng1' (by omega) (by omega) ?_
        rw [e2, Int.toNat_natCast]
        refine for_range (lo := 0) (n := ds.length) (fun i σ H' => H' = H ∧ ∃ kv, σ = [some _, some _, kv]) ⟨rfl, _, rfl⟩ (fun i σ H' hi hP => ?_) (fun σ H' hP => ?_)
        · obtain ⟨rfl, kv, rfl⟩ := hP
          obtain ⟨v1, g1, d1⟩ := dpAll_get ha1 (List.getElem?_eq_getElem hi)
          obtain ⟨v2, g2, d2⟩ := dpAll_get ha2 (List.getElem?_eq_getElem hi)
          show tIfS _ _ _ _ _ _
          walk_at "rd"
          refine r_xL hs1 (at_of (j := i) (by omega) g1) ?_
          walk_at "rd"
          refine r_xL hs2 (at_of (j := i) (by omega) g2) ?_
          walk_at "rd"
          refine ⟨v1, v2, ds[i], rfl, d1, d2, hf.2 _ (List.getElem_mem hi), ?_⟩
          walk_at "rd"
          exact ⟨rfl, _, rfl⟩
        · obtain ⟨rfl, kv, rfl⟩ := hP
          walk_at "rd"
          exact q
      | tuple ds =>
        cases hx with
        | tup hs1 ha1 =>
        cases hy with
        | tup hs2 ha2 =>
        have e1 := dpAll_len ha1
        have e2 := dpAll_len ha2
        refine r_iteD (fun e => nomatch e) (fun _ => ?_)
        walk_at "rd"
        refine r_iteN (fun e => absurd rfl e) (fun _ => ?_)
        walk_at "rd"
        refine r_iteN (fun e => absurd rfl e) (fun _ => ?_)
        walk_at "rd"
        refine r_lenT hs1 ?_
        walk_at "rd"
        refine r_lenT hs2 ?_
        walk_at "rd"
        refine r_iteN (fun e => absurd (by rw [e1, e2]) e) (fun _ => ?_)
        walk_at "rd"
        refine r_lenT hs2 ?_
        walk_at "rd"
        have hz : ds.length ≤ 16777216 := hf.1
        refine r_rng1' (by omega) (by omega) ?_
        rw [e2, Int.toNat_natCast]
        refine for_range (lo := 0) (n := ds.length) (fun i σ H' => H' = H ∧ ∃ kv, σ = [some _, some _, kv]) ⟨rfl, _, rfl⟩ (fun i σ H' hi hP => ?_) (fun σ H' hP => ?_)
        · obtain ⟨rfl, kv, rfl⟩ := hP
          obtain ⟨v1, g1, d1⟩ := dpAll_get ha1 (List.getElem?_eq_getElem hi)
          obtain ⟨v2, g2, d2⟩ := dpAll_get ha2 (List.getElem?_eq_getElem hi)
          show tIfS _ _ _ _ _ _
          walk_at "rd"
          refine r_xT hs1 (at_of (j := i) (by omega) g1) ?_
          walk_at "rd"
          refine r_xT hs2 (at_of (j := i) (by omega) g2) ?_
          walk_at "rd"
          refine ⟨v1, v2, ds[i], rfl, d1, d2, hf.2 _ (List.getElem_mem hi), ?_⟩
          walk_at "rd"
          exact ⟨rfl, _, rfl⟩
        · obtain ⟨rfl, kv, rfl⟩ := hP
          walk_at "rd"
          exact q
theorem ok_l_same (T : Txt K mg a) : FnOk P w K mg base CX0 4 a.f_l_same a.d_l_same ["actual", "due"] (spSame K 4) := ok_l_same_n T _

end

def spThenT (K : PySem.W.Frag) : Sp := fun vs H Q _ => ∃ (v u : V) (p q : List Nat), vs = [v, u] ∧ Dt K H v (rowD p) ∧ Dt K H u (rowD q) ∧ (∀ x ∈ p, x < q.length) ∧ p.length ≤ 1000 ∧
  ∀ (H' : Hp) (t : Addr), Same H H' → H' t = some (.tup ((thenN p q).map iV)) → Q (.ref t) H'
section
variable {P : Program} {w : World} {K : PySem.W.Frag} {mg : Str → Option Value} {base : Heap} {a : Ad}
theorem ok_then (T : Txt K mg a) : FnOk P w K mg base CX0 1 a.f_then a.d_then ["p", "q"] (spThenT K) := by
  refine T.F_then.ok sc_then (fun vs H Q E h => ?_) (fun cdv A outer s H vs Q E hr h => ?_)
  · obtain ⟨v, u, p, q, rfl, _⟩ := h
    rfl
  · obtain ⟨v, u, p, q, rfl, hp, hq, hlt, hl, q1⟩ := h
    have zl : (sizeLine : Nat) = 16777216 := by decide
    obtain ⟨pa, rfl, hA⟩ := rowE hp
    obtain ⟨qa, rfl, hB⟩ := rowE hq
    refine ⟨_, (pss_one (ps_ret (pe_callTy (call_tupOfK (K := K) rfl) (by rfl) T.z_tuple (by decide +kernel) (pa_cons (pe_lc (own := [("place", 2)]) (g := gName 2) (tt := tYes) rfl sc_then.nd (pi_tupK (K := K) rfl (pv 0)) (blkOk_by (N := N_then) (sc := (defScope s_then)) (by decide +kernel)) (fun _ _ _ _ _ => pg_name (i := 2) sc_then.nd rfl (by first | exact Or.inl rfl | exact Or.inr rfl)) (fun _ _ _ _ _ => pts_nil) (fun _ _ _ _ _ => (pe_ix (ix_tupK (K := K) rfl) (pv 1) (pv 2) (fun _ _ => rfl)))) pa_nil)))), ?_⟩
    walk_at "rd"
    refine ⟨⟨_, hA⟩, fun D hD => ?_⟩
    refine lc_tup (xs := p.map iV) (fun i G => Same H G ∧ G D = some (.lst (((p.take i).map (at0 q)).map iV))) ⟨same_new hD, by rw [upd_same]; rfl⟩ (fun i G _ hP => ?_) (fun i x G hx hP => ?_) (fun G hP => ?_)
    · exact same_t hP.1 hA
    · obtain ⟨sG, hG⟩ := hP
      obtain ⟨y, hy, rfl⟩ : ∃ y, p[i]? = some y ∧ iV y = x := by
        rw [List.getElem?_map] at hx
        obtain ⟨y, h1, h2⟩ := Option.map_eq_some_iff.mp hx
        exact ⟨y, h1, h2⟩
      have hil := (List.getElem?_eq_some_iff.mp hy).1
      refine ⟨rfl, r_yes (iteT ?_)⟩
      walk_at "rd"
      refine r_ixT (same_t sG hB) (at_row (hlt y (List.mem_of_getElem? hy))) ?_
      refine ⟨_, hG, by rw [List.length_map, List.length_map, List.length_take]; omega, same_mut sG hD, ?_⟩
      rw [upd_same, List.take_add_one, hy, List.map_append, List.map_append]
      rfl
    · obtain ⟨sG, hG⟩ := hP
      rw [List.length_map, List.take_length] at hG
      walk_at "rd"
      refine r_tupL (SqL.of hG) (fun t ht => ?_)
      exact q1 _ t (sG.trans (same_new ht)) upd_same

def spThenZ (K : PySem.W.Frag) : Sp := fun vs H Q _ => ∃ (v u : V) (p q : List Nat), vs = [v, u] ∧ Dt K H v (rowD p) ∧ Dt K H u (rowD q) ∧ (∀ x ∈ p, x < q.length) ∧ p.length ≤ 1000 ∧
  ∀ (H' : Hp) (t : Addr), Same H H' → PlT H' t ((thenN p q).map iV) → Q (.ref t) H'
theorem ok_l_then (T : Txt K mg a) : FnOk P w K mg base CX0 1 a.f_l_then a.d_l_then ["p", "q"] (spThenZ K) := by
  refine T.F_l_then.ok sc_l_then (fun vs H Q E h => ?_) (fun cdv A outer s H vs Q E hr h => ?_)
  · obtain ⟨v, u, p, q, rfl, _⟩ := h
    rfl
  · obtain ⟨v, u, p, q, rfl, hp, hq, hlt, hl, q1⟩ := h
    have zl : (sizeLine : Nat) = 16777216 := by decide
    obtain ⟨pa, rfl, hA⟩ := rowE hp
    obtain ⟨qa, rfl, hB⟩ := rowE hq
    refine ⟨_, (pss_one (ps_ret (pe_callTy (call_tupZ (K := K) rfl) (by rfl) T.z_tuple (by decide +kernel) (pa_cons (pe_lc (own := [("place", 2)]) (g := gName 2) (tt := tYes) rfl sc_l_then.nd (pi_tupK (K := K) rfl (pv 0)) (blkOk_by (N := N_l_then) (sc := (defScope s_l_then)) (by decide +kernel)) (fun _ _ _ _ _ => pg_name (i := 2) sc_l_then.nd rfl (by first | exact Or.inl rfl | exact Or.inr rfl)) (fun _ _ _ _ _ => pts_nil) (fun _ _ _ _ _ => (pe_ix (ix_tupK (K := K) rfl) (pv 1) (pv 2) (fun _ _ => rfl)))) pa_nil)))), ?_⟩
    walk_at "rd"
    refine ⟨⟨_, hA⟩, fun D hD => ?_⟩
    refine lc_tup (xs := p.map iV) (fun i G => Same H G ∧ G D = some (.lst (((p.take i).map (at0 q)).map iV))) ⟨same_new hD, by rw [upd_same]; rfl⟩ (fun i G _ hP => ?_) (fun i x G hx hP => ?_) (fun G hP => ?_)
    · exact same_t hP.1 hA
    · obtain ⟨sG, hG⟩ := hP
      obtain ⟨y, hy, rfl⟩ : ∃ y, p[i]? = some y ∧ iV y = x := by
        rw [List.getElem?_map] at hx
        obtain ⟨y, h1, h2⟩ := Option.map_eq_some_iff.mp hx
        exact ⟨y, h1, h2⟩
      have hil := (List.getElem?_eq_some_iff.mp hy).1
      refine ⟨rfl, r_yes (iteT ?_)⟩
      walk_at "rd"
      refine r_ixT (same_t sG hB) (at_row (hlt y (List.mem_of_getElem? hy))) ?_
      refine ⟨_, hG, by rw [List.length_map, List.length_map, List.length_take]; omega, same_mut sG hD, ?_⟩
      rw [upd_same, List.take_add_one, hy, List.map_append, List.map_append]
      rfl
    · obtain ⟨sG, hG⟩ := hP
      rw [List.length_map, List.take_length] at hG
      walk_at "rd"
      refine r_tupZ (SqL.of hG) (fun t G2 s2 ht => ?_)
      exact q1 G2 t (sG.trans s2) ht

def spPerm (K : PySem.W.Frag) : Sp := fun vs H Q _ => ∃ (p : Addr) (ns : List Int) (n : Nat), vs = [.ref p, .int (n : Int)] ∧ SqL K H p (ns.map V.int) ∧ n ≤ ns.length ∧ n ≤ 1000 ∧
  ∀ (H' : Hp) (t : Addr) (r : List Nat), Same H H' → H' t = some (.tup (r.map iV)) → Perm n r → Q (.ref t) H'
theorem swap_perm {n : Nat} {r : List Nat} (h : Perm n r) {i j : Nat} (hi : i < n) (hj : j < n) : Perm n ((r.set i (at0 r j)).set j (at0 r i)) := by
  have hl := h.len
  have gi := at0_some (p := r) (i := i) (by omega)
  have gj := at0_some (p := r) (i := j) (by omega)
  refine ⟨by rw [List.length_set, List.length_set]; exact hl, fun x hx => ?_, ?_⟩
  · rcases List.mem_or_eq_of_mem_set hx with hx | hx
    · rcases List.mem_or_eq_of_mem_set hx with hx | hx
      · exact h.lt x hx
      · rw [hx]; exact h.at_lt hj
    · rw [hx]; exact h.at_lt hi
  · refine List.pairwise_iff_getElem.mpr fun a b ha hb hab e => ?_
    rw [List.length_set, List.length_set] at ha hb
    have val : ∀ k (hk : k < r.length), ((r.set i (at0 r j)).set j (at0 r i))[k]? = some (if k = j then at0 r i else if k = i then at0 r j else at0 r k) := fun k hk => by
      by_cases e1 : j = k
      · subst e1
        rw [List.getElem?_set_self (by rw [List.length_set]; exact hk), if_pos rfl]
      · rw [List.getElem?_set_ne e1, if_neg (Ne.symm e1)]
        by_cases e2 : i = k
        · subst e2
          rw [List.getElem?_set_self hk, if_pos rfl]
        · rw [List.getElem?_set_ne e2, if_neg (Ne.symm e2)]
          exact at0_some hk
    have va := val a ha
    have vb := val b hb
    rw [List.getElem?_eq_getElem (by rw [List.length_set, List.length_set]; exact ha)] at va
    rw [List.getElem?_eq_getElem (by rw [List.length_set, List.length_set]; exact hb)] at vb
    have e3 := (Option.some.inj va).symm.trans (e.trans (Option.some.inj vb))
    have inj : ∀ x y, x < n → y < n → at0 r x = at0 r y → x = y := fun x y hx hy e => h.inj hx hy e
    clear va vb val e
    repeat' split at e3
    all_goals
      have h5 := inj _ _ (by omega) (by omega) e3
      omega
theorem ok_l_permutation (T : Txt K mg a) : FnOk P w K mg base CX0 1 a.f_l_permutation a.d_l_permutation ["numbers", "places"] (spPerm K) := by
  refine T.F_l_permutation.ok sc_l_permutation (fun vs H Q E h => ?_) (fun cdv A outer s H vs Q E hr h => ?_)
  · obtain ⟨p, ns, n, rfl, _⟩ := h
    rfl
  · obtain ⟨pn, ns, n, rfl, hS, hnl, h1000, q⟩ := h
    have zl : (sizeLine : Nat) = 16777216 := by decide
    refine ⟨_, (pss_cons (ps_set (i := 2) sc_l_permutation.nd rfl (Or.inl rfl) (pe_listRg rfl (by rfl) T.z_list (prg_1 (by rfl) T.z_range (pv 1))))
      (pss_cons (ps_for PassesOwn.never rfl (pi_range1 (by rfl) T.z_range (pa_cons (pv 1) pa_nil)) (pg_name (i := 3) sc_l_permutation.nd rfl (Or.inl rfl)) (pss_cons (ps_set (i := 4) sc_l_permutation.nd rfl (Or.inl rfl) (pe_op op_mod (pe_ix (ix_listK (K := K) rfl) (pv 0) (pv 3) (fun _ _ => rfl)) (pv 1)))
      (pss_cons (ps_set (i := 5) sc_l_permutation.nd rfl (Or.inl rfl) (pe_ix (ix_listK (K := K) rfl) (pv 2) (pv 3) (fun _ _ => rfl)))
      (pss_cons (ps_asg (pe_ix (ix_listK (K := K) rfl) (pv 2) (pv 4) (fun _ _ => rfl)) (pg_sub (pv 2) (pv 3) set_list))
      (pss_one (ps_asg (pv 5) (pg_sub (pv 2) (pv 4) set_list)))))))
      (pss_one (ps_ret (pe_callTy (call_tupOfK (K := K) rfl) (by rfl) T.z_tuple (by decide +kernel) (pa_cons (pv 2) pa_nil)))))), ?_⟩
    walk_at "rd"
    refine r_lstRg1 (j := (n : Int)) (by omega) (by omega) (fun pa hpa => ?_) ⟨_, rfl, rfl, rfl⟩ (fun R R' h1 h2 => ?_)
    rotate_left
    · obtain ⟨v, e, h3⟩ := h2
      exact ⟨v, e, h1 _ _ h3⟩
    rw [Int.toNat_natCast, ← ints_nat]
    walk_at "rd"
    refine r_rng1' (by omega) (by omega) ?_
    rw [Int.toNat_natCast]
    refine for_range (lo := 0) (n := n) (fun i σ G => ∃ y3 y4 y5 r, σ = [some (.ref pn), some (.int (n : Int)), some (.ref pa), y3, y4, y5] ∧ Same H G ∧ G pa = some (.lst (r.map iV)) ∧ Perm n r)
      ⟨none, none, none, List.range n, rfl, same_new hpa, upd_same, ⟨List.length_range, fun x hx => List.mem_range.mp hx, List.nodup_range⟩⟩ (fun i σ G hi hP => ?_) (fun σ G hP => ?_)
    · obtain ⟨y3, y4, y5, r, rfl, sG, hG, hp⟩ := hP
      have hn0 : (0 : Int) < (n : Int) := by omega
      have hl := hp.len
      rw [Int.zero_add]
      walk_at "rd"
      refine r_ixL (sG.seq hS) (at_int (by omega) (by omega)) ?_
      walk_at "rd"
      have g := emod_rng (ns.getD ((i : Nat) : Int).toNat 0) hn0
      obtain ⟨j, ej, hj⟩ := nat_of g.1 g.2
      rw [ej]
      refine r_ixL (SqL.of hG) (at_row (by omega)) ?_
      walk_at "rd"
      refine r_ixL (SqL.of hG) (at_row (by omega)) ?_
      walk_at "rd"
      refine r_setL hG (by omega) (by rw [List.length_map]; omega) ?_
      walk_at "rd"
      refine r_setL upd_same (by omega) (by rw [List.length_set, List.length_map]; omega) ?_
      rw [upd_upd, Int.toNat_natCast, Int.toNat_natCast, ← List.map_set, ← List.map_set]
      exact ⟨_, _, _, _, rfl, same_mut sG hpa, upd_same, swap_perm hp hi (by omega)⟩
    · obtain ⟨y3, y4, y5, r, rfl, sG, hG, hp⟩ := hP
      walk_at "rd"
      refine r_tupL (SqL.of hG) (fun t ht => ?_)
      exact q _ t r (sG.trans (same_new ht)) upd_same hp

end

structure Seen (n : Nat) (M rows : List (List Nat)) (i : Nat) : Prop where
  nd : rows.Nodup
  one : idN n ∈ rows
  gen : ∀ x ∈ rows, Gen n M x
  done : ∀ j, j < i → ∀ x, rows[j]? = some x → ∀ m ∈ M, thenN x m ∈ rows
  le : i ≤ rows.length
theorem Seen.add {n : Nat} {M rows : List (List Nat)} {i : Nat} (h : Seen n M rows i) {r : List Nat} (hr : r ∉ rows) (g : Gen n M r) : Seen n M (rows ++ [r]) i where
  nd := List.nodup_append.mpr ⟨h.nd, by simp, fun x hx y hy e => by
    rw [List.mem_singleton.mp hy] at e
    subst e
    exact hr hx⟩
  one := List.mem_append_left _ h.one
  gen := fun x hx => by
    rcases List.mem_append.mp hx with hx | hx
    · exact h.gen x hx
    · rw [List.mem_singleton.mp hx]; exact g
  done := fun j hj x hx m hm => by
    have hle := h.le
    rw [List.getElem?_append_left (by omega)] at hx
    exact List.mem_append_left _ (h.done j hj x hx m hm)
  le := by
    have hle := h.le
    rw [List.length_append]; omega
theorem Seen.up {n : Nat} {M rows : List (List Nat)} {i : Nat} (h : Seen n M rows i) {x0 : List Nat} (hx : rows[i]? = some x0) (hall : ∀ m ∈ M, thenN x0 m ∈ rows) : Seen n M rows (i + 1) where
  nd := h.nd
  one := h.one
  gen := h.gen
  done := fun j hj x hjx m hm => by
    by_cases e : j = i
    · subst e
      rw [hx] at hjx
      rw [← Option.some.inj hjx]
      exact hall m hm
    · exact h.done j (by omega) x hjx m hm
  le := (List.getElem?_eq_some_iff.mp hx).1
structure Made (n : Nat) (M rs : List (List Nat)) (most : Int) : Prop where
  nd : rs.Nodup
  one : idN n ∈ rs
  gen : ∀ x ∈ rs, Gen n M x
  done : (∀ x ∈ rs, ∀ m ∈ M, thenN x m ∈ rs) ∨ most < (rs.length : Int)
section
variable {P : Program} {w : World} {K : PySem.W.Frag} {mg : Str → Option Value} {base : Heap} {a : Ad}
def spProd (K : PySem.W.Frag) : Sp := fun vs H Q _ => ∃ (n : Nat) (pm : Addr) (ms : List (Addr × List Nat)) (most : Int) (gs L : List (List Nat)) (B : Nat), vs = [iV n, .ref pm, .int most] ∧ SqL K H pm (refsV ms) ∧ TupR H ms ∧
  Bnd n gs L B ∧ (∀ p ∈ ms, p.2 ∈ gs) ∧ 1 ≤ n ∧ n ≤ 64 ∧ B ≤ 999 ∧
  ∀ (H' : Hp) (d : Addr) (rs : List (List Nat)), Same H H' → H' d = some (.dT (dictN rs)) → Made n (ms.map (·.2)) rs most → Q (.ref d) H'
theorem ok_products (T : Txt K mg a) : FnOk P w K mg base CX0 2 a.f_products a.d_products ["places", "makers", "most"] (spProd K) := by
  have G_then := ok_then (P := P) (w := w) (base := base) T
  refine T.F_products.ok sc_products (fun vs H Q E h => ?_) (fun cdv A outer s H vs Q E hr h => ?_)
  · obtain ⟨n, pm, ms, most, gs, L, B, rfl, _⟩ := h
    rfl
  · obtain ⟨n, pm, ms, most, gs, L, B, rfl, hM, hMT, hB, hsub, n1, n64, B999, q⟩ := h
    have zl : (sizeLine : Nat) = 16777216 := by decide
    have hms : ∀ m ∈ ms.map (·.2), m ∈ gs := fun m hm => by
      obtain ⟨p, hp, rfl⟩ := List.mem_map.mp hm
      exact hsub p hp
    have hrow : ∀ m ∈ ms.map (·.2), RowN n m := fun m hm => hB.rows m (hms m hm)
    refine ⟨_, (pss_cons (ps_set (i := 3) sc_products.nd rfl (Or.inl rfl) (pe_lst (pa_cons (pe_tupRg rfl (by rfl) T.z_tuple (prg_1 (by rfl) T.z_range (pv 0))) pa_nil)))
      (pss_cons (ps_set (i := 4) sc_products.nd rfl (Or.inl rfl) (pe_dispT (hu_of hr) (pe_ix (ix_listK (K := K) rfl) (pv 3) pe_int (fun _ _ => rfl)) pe_bl))
      (pss_cons (ps_set (i := 5) sc_products.nd rfl (Or.inl rfl) pe_int)
      (pss_cons (ps_while PassesOwn.never (PW.pt (pw_and (pt_cmpR op_lt (pv 5) (pe_callB (call_lenQK (K := K) rfl) (by rfl) T.z_len (by decide +kernel) (pa_cons (pv 3) pa_nil)) (nomark _)) (pw_and1 (pt_cmpR op_le (pe_callB (call_lenQK (K := K) rfl) (by rfl) T.z_len (by decide +kernel) (pa_cons (pv 3) pa_nil)) (pv 2) (nomark _))))) (pss_cons (ps_for PassesOwn.never rfl (pi_listK (K := K) rfl (pv 1)) (pg_name (i := 6) sc_products.nd rfl (Or.inl rfl)) (pss_cons (ps_set (i := 7) sc_products.nd rfl (Or.inl rfl) (pe_call (G_then) (hr.mono (by first | decide | omega)) (by rfl) T.g_then T.F_then.kp T.b_then .nil pass0 (pa_cons (pe_ix (ix_listK (K := K) rfl) (pv 3) (pv 5) (fun _ _ => rfl)) (pa_cons (pv 6) pa_nil))))
      (pss_one (ps_if (pt_cmp (pc_dnotin (hu_of hr) (pv 7) (pv 4))) (pss_cons (ps_dput (hu_of hr) (pv 4) (pv 7) pe_bl (by rfl))
      (pss_one (ps_expr (bmK (K := K) rfl (pe_bm PySem.F.plainAttrs_list PySem.F.slot_list_append PySem.F.type_list_append mt_append (pv 3) (pa_cons (pv 7) pa_nil)))))) pss_nil))))
      (pss_one (ps_aug (i := 5) sc_products.nd rfl (Or.inl rfl) pe_int ip_add))))
      (pss_one (ps_ret (pv 4))))))), ?_⟩
    walk_at "rd"
    show tTupRg (tRg1 _) _ _ _
    refine r_tupRgN (n := n) (by omega) (fun p0 hp0 => ?_) (fun R hR => ?_)
    rotate_left
    · walk_at "rd"
      exact hR
    walk_at "rd"
    refine ⟨ln1, fun qd hqd => ?_⟩
    walk_at "rd"
    refine r_dispT (fun fd hfd => ?_)
    walk_at "rd"
    have t1 := same_new (o := .tup ((List.range n).map iV)) hp0
    have t2 := same_new (o := .lst [V.ref p0]) hqd
    have t3 := same_new (o := .dT []) hfd
    refine r_ixL (SqL.of (t3 _ _ upd_same)) (at_refs (ps := [(p0, idN n)]) (i := 0) rfl) ?_
    walk_at "rd"
    refine ⟨p0, idN n, rfl, t3 _ _ (t2 _ _ upd_same), upd_same, rfl, ?_⟩
    rw [upd_upd]
    have t4 := same_new (o := .dT (dictN [idN n])) hfd
    have hT0 := t4 _ _ (t2 _ _ upd_same)
    have hQ0 := t4 _ _ upd_same
    have hF0 : (upd (upd (upd H p0 (.tup ((List.range n).map iV))) qd (.lst [V.ref p0])) fd (.dT (dictN [idN n]))) fd = _ := upd_same
    have s0 := t1.trans (t2.trans t4)
    have hqH : H qd = none := t1.free hqd
    have hfH : H fd = none := (t1.trans t2).free hfd
    have hne : fd ≠ qd := fun e => by
      subst e
      rw [upd_same] at hfd
      exact nomatch hfd
    clear t1 t2 t3 t4
    generalize (upd (upd (upd H p0 (.tup ((List.range n).map iV))) qd (.lst [V.ref p0])) fd (.dT (dictN [idN n]))) = H1 at *
    walk_at "rd"
    refine ⟨fun m σ G => ∃ ps i y6 y7, σ = [some (iV n), some (.ref pm), some (.int most), some (.ref qd), some (.ref fd), some (iV i), y6, y7] ∧ m = B + 1 - i ∧ Same H G ∧ G qd = some (.lst (refsV ps)) ∧ G fd = some (.dT (dictN (ps.map (·.2)))) ∧ TupR G ps ∧ Seen n (ms.map (·.2)) (ps.map (·.2)) i,
      ⟨_, [(p0, idN n)], 0, none, none, rfl, rfl, s0, hQ0, hF0, (fun p hp => by rw [List.mem_singleton.mp hp]; exact hT0), ⟨by simp, List.mem_cons_self, (fun x hx => by rw [List.mem_singleton.mp hx]; exact .one), (fun j hj => absurd hj (Nat.not_lt_zero _)), Nat.zero_le _⟩⟩, ?_⟩
    rintro m σ G ⟨ps, i, y6, y7, rfl, rfl, sG, hQ, hF, hT, seen⟩
    have hlen := hB.le hms seen.nd seen.gen
    rw [List.length_map] at hlen
    have hle := seen.le
    rw [List.length_map] at hle
    have lq : (refsV ps).length = ps.length := List.length_map _
    have fin : ((∀ x ∈ ps.map (·.2), ∀ m ∈ ms.map (·.2), thenN x m ∈ ps.map (·.2)) ∨ most < ((ps.map (·.2)).length : Int)) → Q (.ref fd) G := fun hd => q G fd _ sG hF ⟨seen.nd, seen.one, seen.gen, hd⟩
    walk_at "rd"
    refine r_lenL (SqL.of hQ) ?_
    rw [lq]
    refine ⟨(i : Int), (ps.length : Int), rfl, rfl, ?_⟩
    walk_at "rd"
    refine r_iteD (fun e1 => ?_) (fun e1 => ?_)
    rotate_left
    · walk_at "rd"
      refine fin (.inl fun x hx m hm => ?_)
      obtain ⟨j, hj⟩ := List.mem_iff_getElem?.mp hx
      have hjl := (List.getElem?_eq_some_iff.mp hj).1
      rw [List.length_map] at hjl
      exact seen.done j (by omega) x hj m hm
    walk_at "rd"
    refine r_lenL (SqL.of hQ) ?_
    rw [lq]
    walk_at "rd"
    refine r_iteD (fun e2 => ?_) (fun e2 => ?_)
    rotate_left
    · walk_at "rd"
      exact fin (.inr (by rw [List.length_map]; omega))
    clear fin
    obtain ⟨⟨b, x0⟩, hpi⟩ : ∃ p, ps[i]? = some p := ⟨_, List.getElem?_eq_getElem (by omega)⟩
    refine ⟨fun σ' H' => ∃ ps2 y6 y7, σ' = [some (iV n), some (.ref pm), some (.int most), some (.ref qd), some (.ref fd), some (iV (i + 1)), y6, y7] ∧ Same H H' ∧ H' qd = some (.lst (refsV ps2)) ∧ H' fd = some (.dT (dictN (ps2.map (·.2)))) ∧ TupR H' ps2 ∧ Seen n (ms.map (·.2)) (ps2.map (·.2)) (i + 1), fun σ' H' hN => ?_, ?_⟩
    · obtain ⟨ps2, z6, z7, rfl, a1, a2, a3, a4, a5⟩ := hN
      exact ⟨B + 1 - (i + 1), by omega, ps2, i + 1, z6, z7, rfl, rfl, a1, a2, a3, a4, a5⟩
    · with_reducible refine r_cutJ (fun σ' H' => ∃ ps2 y6 y7, σ' = [some (iV n), some (.ref pm), some (.int most), some (.ref qd), some (.ref fd), some (iV i), y6, y7] ∧ Same H H' ∧ H' qd = some (.lst (refsV ps2)) ∧ H' fd = some (.dT (dictN (ps2.map (·.2)))) ∧ TupR H' ps2 ∧ Seen n (ms.map (·.2)) (ps2.map (·.2)) (i + 1)) (fun σ' H' hJ => ?_) (fun key => ?_)
      rotate_left
      · walk_at "rd"
        refine ⟨⟨_, sG.seq hM⟩, ?_⟩
        refine for_list (xs := refsV ms) (fun j σ' H' => ∃ ps2 y6 y7, σ' = [some (iV n), some (.ref pm), some (.int most), some (.ref qd), some (.ref fd), some (iV i), y6, y7] ∧ Same H H' ∧ H' qd = some (.lst (refsV ps2)) ∧ H' fd = some (.dT (dictN (ps2.map (·.2)))) ∧ TupR H' ps2 ∧ Seen n (ms.map (·.2)) (ps2.map (·.2)) i ∧ ps2[i]? = some (b, x0) ∧ ∀ k, k < j → ∀ m, (ms.map (·.2))[k]? = some m → thenN x0 m ∈ ps2.map (·.2))
          ⟨ps, y6, y7, rfl, sG, hQ, hF, hT, seen, hpi, fun k hk => absurd hk (Nat.not_lt_zero _)⟩ (fun j σ' H' _ hP => ?_) (fun j x σ' H' hx hP => ?_) (fun σ' H' hP => ?_)
        · obtain ⟨ps2, z6, z7, rfl, a1, _⟩ := hP
          exact a1.seq hM
        · clear hQ hF hT seen hlen hle sG
          obtain ⟨ps2, z6, z7, rfl, sG, hQ, hF, hT, seen, hp2, hk⟩ := hP
          obtain ⟨q1, hq1, rfl⟩ : ∃ q1, ms[j]? = some q1 ∧ V.ref q1.1 = x := by
            unfold refsV at hx
            rw [List.getElem?_map] at hx
            obtain ⟨y, h1, h2⟩ := Option.map_eq_some_iff.mp hx
            exact ⟨y, h1, h2⟩
          have hq1m := List.mem_of_getElem? hq1
          have hxm : x0 ∈ ps2.map (·.2) := List.mem_map.mpr ⟨(b, x0), List.mem_of_getElem? hp2, rfl⟩
          have hx0 := (seen.gen x0 hxm).row hrow
          have hq0 := hrow q1.2 (List.mem_map_of_mem hq1m)
          have hlen := hB.le hms seen.nd seen.gen
          rw [List.length_map] at hlen
          walk_at "rd"
          refine r_ixL (SqL.of hQ) (at_refs hp2) ?_
          walk_at "rd"
          refine ⟨.ref b, .ref q1.1, x0, q1.2, rfl, row_of (SqT.of (hT _ (List.mem_of_getElem? hp2))), row_of (SqT.of ((hMT.k sG) q1 hq1m)), fun y hy => by rw [hq0.1]; exact hx0.2 y hy, by rw [hx0.1]; omega, fun G3 t s3 ht => ?_⟩
          have hQ3 := s3 _ _ hQ
          have hF3 := s3 _ _ hF
          have hT3 := hT.k s3
          have sG3 := sG.trans s3
          walk_at "rd"
          refine r_dni ?_
          walk_at "rd"
          obtain ⟨o3, ho3, eo3⟩ := dni_at hF3 ht
          refine ⟨_, o3, rfl, ho3, ?_⟩
          rw [eo3]
          walk_at "rd"
          refine r_iteD (fun e3 => ?_) (fun e3 => ?_)
          · walk_at "rd"
            refine r_dput ?_
            walk_at "rd"
            refine r_dputE hF3 ht e3 (by rw [List.length_map]; omega) ?_
            have hF4 : (upd G3 fd (.dT (dictN (ps2.map (·.2) ++ [thenN x0 q1.2])))) fd = _ := upd_same
            have hQ4 : (upd G3 fd (.dT (dictN (ps2.map (·.2) ++ [thenN x0 q1.2])))) qd = _ := (upd_ne hne.symm).trans hQ3
            have s4 := same_mut (o := .dT (dictN (ps2.map (·.2) ++ [thenN x0 q1.2]))) sG3 hfH
            have tup4 : ∀ (c : Addr) (ys : List V), G3 c = some (.tup ys) → (upd G3 fd (.dT (dictN (ps2.map (·.2) ++ [thenN x0 q1.2])))) c = some (.tup ys) := fun c ys hc => by
              rw [upd_ne (fun e => by rw [e, hF3] at hc; exact nomatch hc)]
              exact hc
            have ht4 := tup4 _ _ ht
            have hT4 : TupR (upd G3 fd (.dT (dictN (ps2.map (·.2) ++ [thenN x0 q1.2])))) ps2 := fun p hp => tup4 _ _ (hT3 p hp)
            clear tup4
            generalize upd G3 fd (.dT (dictN (ps2.map (·.2) ++ [thenN x0 q1.2]))) = G4 at *
            walk_at "rd"
            refine ⟨ty_l (SqL.of hQ4), ?_⟩
            walk_at "rd"
            refine r_append hQ4 (by show (ps2.map _).length < _; rw [List.length_map]; omega) ?_
            have eR : (ps2 ++ [(t, thenN x0 q1.2)]).map (·.2) = ps2.map (·.2) ++ [thenN x0 q1.2] := by rw [List.map_append]; rfl
            have tup5 : ∀ (c : Addr) (ys : List V), G4 c = some (.tup ys) → (upd G4 qd (.lst (refsV ps2 ++ [V.ref t]))) c = some (.tup ys) := fun c ys hc => by
              rw [upd_ne (fun e => by rw [e, hQ4] at hc; exact nomatch hc)]
              exact hc
            refine ⟨ps2 ++ [(t, thenN x0 q1.2)], _, _, rfl, same_mut s4 hqH, ?_, ?_, ?_, ?_, ?_, ?_⟩
            · rw [upd_same]
              unfold refsV
              rw [List.map_append]
              rfl
            · rw [upd_ne hne, eR]
              exact hF4
            · exact TupR.snoc (fun p hp => tup5 _ _ (hT4 p hp)) (tup5 _ _ ht4)
            · rw [eR]
              exact seen.add e3 (.step (seen.gen x0 hxm) (List.mem_map_of_mem hq1m))
            · rw [List.getElem?_append_left (List.getElem?_eq_some_iff.mp hp2).1]
              exact hp2
            · intro k hkj m hm
              rw [eR]
              by_cases e : k = j
              · subst e
                rw [List.getElem?_map, hq1] at hm
                rw [← Option.some.inj hm]
                exact List.mem_append_right _ List.mem_cons_self
              · exact List.mem_append_left _ (hk k (by omega) m hm)
          · walk_at "rd"
            refine ⟨ps2, _, _, rfl, sG3, hQ3, hF3, hT3, seen, hp2, fun k hkj m hm => ?_⟩
            by_cases e : k = j
            · subst e
              rw [List.getElem?_map, hq1] at hm
              rw [← Option.some.inj hm]
              exact Classical.not_not.mp e3
            · exact hk k (by omega) m hm
        · obtain ⟨ps2, z6, z7, rfl, a1, a2, a3, a4, a5, a6, a7⟩ := hP
          refine key _ _ ⟨ps2, z6, z7, rfl, a1, a2, a3, a4, a5.up (by rw [List.getElem?_map, a6]; rfl) fun m hm => ?_⟩
          obtain ⟨k, hk⟩ := List.mem_iff_getElem?.mp hm
          have hkl := (List.getElem?_eq_some_iff.mp hk).1
          exact a7 k (by show k < (ms.map _).length; rw [List.length_map] at hkl ⊢; exact hkl) m hk
      · obtain ⟨ps2, z6, z7, rfl, a1, a2, a3, a4, a5⟩ := hJ
        walk_at "rd"
        exact ⟨_, rfl, _, _, rfl, rfl, ps2, z6, z7, rfl, a1, a2, a3, a4, a5⟩
end

section
variable {P : Program} {w : World} {K : PySem.W.Frag} {mg : Str → Option Value} {base : Heap} {a : Ad}
theorem Made.all {n : Nat} {M rs : List (List Nat)} {most : Int} (h : Made n M rs most) (hl : (rs.length : Int) ≤ most) {x : List Nat} (g : Gen n M x) : x ∈ rs := by
  rcases h.done with d | d
  · exact g.sub h.one d
  · omega
def spGrown (K : PySem.W.Frag) : Sp := fun vs H Q _ => ∃ (n : Nat) (pp : Addr) (ps : List (Addr × List Nat)) (most : Int) (L : List (List Nat)) (B : Nat), vs = [iV n, .ref pp, .int most] ∧ SqL K H pp (refsV ps) ∧ TupR H ps ∧
  Bnd n (ps.map (·.2)) L B ∧ 1 ≤ n ∧ n ≤ 64 ∧ B ≤ 999 ∧ ps.length ≤ 1000 ∧
  ∀ (H' : Hp) (d : Addr) (rs : List (List Nat)), Same H H' → H' d = some (.dT (dictN rs)) → rs.Nodup → (∀ x ∈ rs, Gen n (ps.map (·.2)) x) → (Group n (ps.map (·.2)) rs ∨ most < (rs.length : Int)) → Q (.ref d) H'
theorem ok_grown (T : Txt K mg a) : FnOk P w K mg base CX0 3 a.f_grown a.d_grown ["places", "permutations", "most"] (spGrown K) := by
  have G_products := ok_products (P := P) (w := w) (base := base) T
  refine T.F_grown.ok sc_grown (fun vs H Q E h => ?_) (fun cdv A outer s H vs Q E hr h => ?_)
  · obtain ⟨n, pp, ps, most, L, B, rfl, _⟩ := h
    rfl
  · obtain ⟨n, pp, ps, most, L, B, rfl, hS, hT, hB, n1, n64, B999, p1000, q⟩ := h
    have zl : (sizeLine : Nat) = 16777216 := by decide
    refine ⟨_, (pss_cons (ps_set (i := 3) sc_grown.nd rfl (Or.inl rfl) (pe_lst pa_nil))
      (pss_cons (ps_set (i := 4) sc_grown.nd rfl (Or.inl rfl) (pe_call (G_products) (hr.mono (by first | decide | omega)) (by rfl) T.g_products T.F_products.kp T.b_products .nil pass0 (pa_cons (pv 0) (pa_cons (pv 3) (pa_cons (pv 2) pa_nil)))))
      (pss_cons (ps_for PassesOwn.never rfl (pi_listK (K := K) rfl (pv 1)) (pg_name (i := 5) sc_grown.nd rfl (Or.inl rfl)) (pss_one (ps_if (PW.pt (pw_and (pt_cmp (pc_dnotin (hu_of hr) (pv 5) (pv 4))) (pw_and1 (pt_cmpR op_le (pe_callB call_len_dT (by rfl) T.z_len (by decide +kernel) (pa_cons (pv 4) pa_nil)) (pv 2) (nomark _))))) (pss_cons (ps_expr (bmK (K := K) rfl (pe_bm PySem.F.plainAttrs_list PySem.F.slot_list_append PySem.F.type_list_append mt_append (pv 3) (pa_cons (pv 5) pa_nil))))
      (pss_one (ps_set (i := 4) sc_grown.nd rfl (Or.inl rfl) (pe_call (G_products) (hr.mono (by first | decide | omega)) (by rfl) T.g_products T.F_products.kp T.b_products .nil pass0 (pa_cons (pv 0) (pa_cons (pv 3) (pa_cons (pv 2) pa_nil))))))) pss_nil)))
      (pss_one (ps_ret (pv 4)))))), ?_⟩
    walk_at "rd"
    refine ⟨Nat.zero_le _, fun pm hpm => ?_⟩
    walk_at "rd"
    have s1 := same_new (o := .lst []) hpm
    refine ⟨n, pm, [], most, ps.map (·.2), L, B, rfl, SqL.of upd_same, (fun p hp => nomatch hp), hB, (fun p hp => nomatch hp), n1, n64, B999, fun G1 gd rows s2 hG md => ?_⟩
    have hm1 := s2 _ _ (upd_same (H := H) (a := pm) (o := .lst []))
    walk_at "rd"
    refine ⟨⟨_, (s1.trans s2).seq hS⟩, ?_⟩
    refine for_list (xs := refsV ps) (fun j σ G => ∃ ms gd rows y5, σ = [some (iV n), some (.ref pp), some (.int most), some (.ref pm), some (.ref gd), y5] ∧ Same H G ∧ G pm = some (.lst (refsV ms)) ∧ TupR G ms ∧ (∀ p ∈ ms, p.2 ∈ ps.map (·.2)) ∧ ms.length ≤ j ∧ G gd = some (.dT (dictN rows)) ∧ Made n (ms.map (·.2)) rows most ∧ (most < (rows.length : Int) ∨ ∀ k, k < j → ∀ x, (ps.map (·.2))[k]? = some x → x ∈ rows))
      ⟨[], gd, rows, none, rfl, s1.trans s2, hm1, (fun p hp => nomatch hp), (fun p hp => nomatch hp), Nat.le_refl _, hG, md, .inr fun k hk => absurd hk (Nat.not_lt_zero _)⟩ (fun j σ G _ hP => ?_) (fun j x σ G hx hP => ?_) (fun σ G hP => ?_)
    · obtain ⟨ms, gd, rows, y5, rfl, sG, _⟩ := hP
      exact sG.seq hS
    · clear hG md hm1 s2 s1
      clear gd rows G1
      obtain ⟨ms, gd, rows, y5, rfl, sG, hM, hMT, hsub, hml, hG, md, hall⟩ := hP
      obtain ⟨q1, hq1, rfl⟩ : ∃ q1, ps[j]? = some q1 ∧ V.ref q1.1 = x := by
        unfold refsV at hx
        rw [List.getElem?_map] at hx
        obtain ⟨y, h1, h2⟩ := Option.map_eq_some_iff.mp hx
        exact ⟨y, h1, h2⟩
      have hq1m := List.mem_of_getElem? hq1
      have hjl := (List.getElem?_eq_some_iff.mp hq1).1
      have hq0 : q1.2 ∈ ps.map (·.2) := List.mem_map_of_mem hq1m
      have stay : (q1.2 ∈ rows ∨ most < (rows.length : Int)) → (most < (rows.length : Int) ∨ ∀ k, k < j + 1 → ∀ x, (ps.map (·.2))[k]? = some x → x ∈ rows) := fun h => by
        rcases h with h | h
        · rcases hall with h2 | h2
          · exact .inl h2
          · refine .inr fun k hk x hkx => ?_
            by_cases e : k = j
            · subst e
              rw [List.getElem?_map, hq1] at hkx
              rw [← Option.some.inj hkx]
              exact h
            · exact h2 k (by omega) x hkx
        · exact .inl h
      walk_at "rd"
      refine r_dni ?_
      walk_at "rd"
      obtain ⟨o3, ho3, eo3⟩ := dni_at hG (sG _ _ (hT q1 hq1m))
      refine ⟨_, o3, rfl, ho3, ?_⟩
      rw [eo3]
      walk_at "rd"
      refine r_iteD (fun e3 => ?_) (fun e3 => ?_)
      · walk_at "rd"
        refine r_lenDT hG ?_
        walk_at "rd"
        refine r_iteD (fun e4 => ?_) (fun e4 => ?_)
        · walk_at "rd"
          refine ⟨ty_l (SqL.of hM), ?_⟩
          walk_at "rd"
          refine r_append hM (by show (ms.map _).length < _; rw [List.length_map]; omega) ?_
          have eV : refsV ms ++ [V.ref q1.1] = refsV (ms ++ [q1]) := by
            unfold refsV
            rw [List.map_append]
            rfl
          rw [eV]
          have sG1 := same_mut (o := .lst (refsV (ms ++ [q1]))) sG hpm
          have tup : ∀ (c : Addr) (ys : List V), G c = some (.tup ys) → (upd G pm (.lst (refsV (ms ++ [q1])))) c = some (.tup ys) := fun c ys hc => by
            rw [upd_ne (fun e => by rw [e, hM] at hc; exact nomatch hc)]
            exact hc
          have hT1 : TupR (upd G pm (.lst (refsV (ms ++ [q1])))) (ms ++ [q1]) := fun p hp => by
            rcases List.mem_append.mp hp with hp | hp
            · exact tup _ _ (hMT p hp)
            · rw [List.mem_singleton.mp hp]
              exact tup _ _ (sG _ _ (hT q1 hq1m))
          have hsub1 : ∀ p ∈ ms ++ [q1], p.2 ∈ ps.map (·.2) := fun p hp => by
            rcases List.mem_append.mp hp with hp | hp
            · exact hsub p hp
            · rw [List.mem_singleton.mp hp]
              exact hq0
          have hM1 : (upd G pm (.lst (refsV (ms ++ [q1])))) pm = _ := upd_same
          clear tup
          generalize upd G pm (.lst (refsV (ms ++ [q1]))) = G1 at *
          walk_at "rd"
          refine ⟨n, pm, ms ++ [q1], most, ps.map (·.2), L, B, rfl, SqL.of hM1, hT1, hB, hsub1, n1, n64, B999, fun G2 gd2 rows2 s2 hG2 md2 => ?_⟩
          refine ⟨ms ++ [q1], gd2, rows2, _, rfl, sG1.trans s2, s2 _ _ hM1, hT1.k s2, hsub1, by rw [List.length_append]; show ms.length + 1 ≤ _; omega, hG2, md2, ?_⟩
          by_cases hl : (rows2.length : Int) ≤ most
          · refine .inr fun k hk y hky => ?_
            have inc : ∀ m ∈ ms.map (·.2), m ∈ (ms ++ [q1]).map (·.2) := fun m hm => by
              rw [List.map_append]
              exact List.mem_append_left _ hm
            by_cases e : k = j
            · subst e
              rw [List.getElem?_map, hq1] at hky
              rw [← Option.some.inj hky]
              exact md2.all hl (Gen.of (hB.rows _ hq0) (List.mem_map_of_mem (List.mem_append_right _ List.mem_cons_self)))
            · rcases hall with h | h
              · omega
              · exact md2.all hl ((md.gen y (h k (by omega) y hky)).mono inc)
          · exact .inl (by omega)
        · walk_at "rd"
          exact ⟨ms, gd, rows, _, rfl, sG, hM, hMT, hsub, by omega, hG, md, stay (.inr (by omega))⟩
      · walk_at "rd"
        exact ⟨ms, gd, rows, _, rfl, sG, hM, hMT, hsub, by omega, hG, md, stay (.inl (Classical.not_not.mp e3))⟩
    · obtain ⟨ms, gd, rows, y5, rfl, sG, hM, hMT, hsub, hml, hG, md, hall⟩ := hP
      walk_at "rd"
      have hms : ∀ m ∈ ms.map (·.2), m ∈ ps.map (·.2) := fun m hm => by
        obtain ⟨p, hp, rfl⟩ := List.mem_map.mp hm
        exact hsub p hp
      refine q G gd rows sG hG md.nd (fun x hx => (md.gen x hx).mono hms) ?_
      rcases hall with h | h
      · exact .inr h
      · rcases md.done with d | d
        · refine .inl (group_of hB.rows hms md.nd md.one d md.gen fun m hm => ?_)
          obtain ⟨k, hk⟩ := List.mem_iff_getElem?.mp hm
          have hkl := (List.getElem?_eq_some_iff.mp hk).1
          exact h k (by show k < (ps.map _).length; rw [List.length_map] at hkl ⊢; exact hkl) m hk
        · exact .inr d
end

section
variable {P : Program} {w : World} {K : PySem.W.Frag} {mg : Str → Option Value} {base : Heap} {a : Ad}
theorem group_by {n : Nat} {gs a b : List (List Nat)} (h : Group n gs a) (p : b.Perm a) : Group n gs b := ⟨p.nodup_iff.mpr h.nd, fun x => p.mem_iff.trans (h.all x)⟩
def spGroup (K : PySem.W.Frag) : Sp := fun vs H Q _ => ∃ (n : Nat) (pp : Addr) (ps : List (Addr × List Nat)) (L : List (List Nat)) (B : Nat), vs = [iV n, .ref pp] ∧ SqL K H pp (refsV ps) ∧ TupR H ps ∧
  Bnd n (ps.map (·.2)) L B ∧ 1 ≤ n ∧ n ≤ 64 ∧ B ≤ 999 ∧ B ≤ Builtin.Math.factorialNat n ∧ ps.length ≤ 1000 ∧
  ∀ (H' : Hp) (p : Addr) (zs : List (Addr × List Nat)), Same H H' → H p = none → H' p = some (.lst (refsV zs)) → TupR H' zs → sortedR zs → Group n (ps.map (·.2)) (zs.map (·.2)) → Q (.ref p) H'
theorem ok_generated (T : Txt K mg a) : FnOk P w K mg base CX0 4 a.f_generated a.d_generated ["places", "permutations"] (spGroup K) := by
  have G_grown := ok_grown (P := P) (w := w) (base := base) T
  refine T.F_generated.ok sc_generated (fun vs H Q E h => ?_) (fun cdv A outer s H vs Q E hr h => ?_)
  · obtain ⟨n, pp, ps, L, B, rfl, _⟩ := h
    rfl
  · obtain ⟨n, pp, ps, L, B, rfl, hS, hT, hB, n1, n64, B999, Bf, p1000, q⟩ := h
    refine ⟨_, (pss_one (ps_ret (pe_callB (cr_sortD rfl) (by rfl) T.z_sorted (by decide +kernel) (pa_cons (pe_call (G_grown) (hr.mono (by first | decide | omega)) (by rfl) T.g_grown T.F_grown.kp T.b_grown .nil pass0 (pa_cons (pv 0) (pa_cons (pv 1) (pa_cons (pe_callBfun call_factorial (by rfl) T.m_factorial (pa_cons (pv 0) pa_nil)) pa_nil)))) pa_nil)))), ?_⟩
    walk_at "rd"
    refine ⟨n, rfl, n64, ?_⟩
    walk_at "rd"
    refine ⟨n, pp, ps, _, L, B, rfl, hS, hT, hB, n1, n64, B999, p1000, fun G d rs sG hG nd gen done => ?_⟩
    have hle := hB.le (fun m hm => hm) nd gen
    have hg : Group n (ps.map (·.2)) rs := by
      rcases done with h | h
      · exact h
      · exact absurd h (by omega)
    walk_at "rd"
    refine r_sortD hG (fun r hr e => ?_) (fun zs p pz sz tz hp => ?_)
    · have h1 := ((gen r hr).row hB.rows).1
      rw [e] at h1
      have h2 : (0 : Nat) = n := h1
      omega
    · exact q _ p zs (sG.trans (same_new hp)) (sG.free hp) upd_same (tz.k (same_new hp)) sz (group_by hg pz)
end

structure Wait (n : Nat) (M rows ws : List (List Nat)) (x0 : Option (List Nat)) : Prop where
  nd : rows.Nodup
  one : idN n ∈ rows
  gen : ∀ x ∈ rows, Gen n M x
  sub : ∀ x ∈ ws, x ∈ rows
  done : ∀ x ∈ rows, x ∈ ws ∨ some x = x0 ∨ ∀ m ∈ M, thenN x m ∈ rows
theorem Wait.add {n : Nat} {M rows ws : List (List Nat)} {x0 : Option (List Nat)} (h : Wait n M rows ws x0) {r : List Nat} (hr : r ∉ rows) (g : Gen n M r) : Wait n M (rows ++ [r]) (ws ++ [r]) x0 where
  nd := List.nodup_append.mpr ⟨h.nd, by simp, fun x hx y hy e => by
    rw [List.mem_singleton.mp hy] at e
    subst e
    exact hr hx⟩
  one := List.mem_append_left _ h.one
  gen := fun x hx => by
    rcases List.mem_append.mp hx with hx | hx
    · exact h.gen x hx
    · rw [List.mem_singleton.mp hx]; exact g
  sub := fun x hx => by
    rcases List.mem_append.mp hx with hx | hx
    · exact List.mem_append_left _ (h.sub x hx)
    · exact List.mem_append_right _ hx
  done := fun x hx => by
    rcases List.mem_append.mp hx with hx | hx
    · rcases h.done x hx with h | h | h
      · exact .inl (List.mem_append_left _ h)
      · exact .inr (.inl h)
      · exact .inr (.inr fun m hm => List.mem_append_left _ (h m hm))
    · exact .inl (List.mem_append_right _ hx)
section
variable {P : Program} {w : World} {K : PySem.W.Frag} {mg : Str → Option Value} {base : Heap} {a : Ad}
def spClosed (K : PySem.W.Frag) : Sp := fun vs H Q _ => ∃ (n : Nat) (pp : Addr) (ps : List (Addr × List Nat)) (L : List (List Nat)) (B : Nat), vs = [iV n, .ref pp] ∧ SqL K H pp (refsV ps) ∧ (∀ p ∈ ps, SqT K H p.1 (p.2.map iV)) ∧
  Bnd n (ps.map (·.2)) L B ∧ 1 ≤ n ∧ n ≤ 64 ∧ B ≤ 999 ∧
  ∀ (H' : Hp) (p : Addr) (zs : List (Addr × List Nat)), Same H H' → H p = none → H' p = some (.lst (refsV zs)) → PlR H' zs → sortedR zs → Group n (ps.map (·.2)) (zs.map (·.2)) → Q (.ref p) H'
theorem ok_l_closed (T : Txt K mg a) : FnOk P w K mg base CX0 2 a.f_l_closed a.d_l_closed ["places", "permutations"] (spClosed K) := by
  have G_l_then := ok_l_then (P := P) (w := w) (base := base) T
  refine T.F_l_closed.ok sc_l_closed (fun vs H Q E h => ?_) (fun cdv A outer s H vs Q E hr h => ?_)
  · obtain ⟨n, pp, ps, L, B, rfl, _⟩ := h
    rfl
  · obtain ⟨n, pp, ps, L, B, rfl, hS, hPT, hB, n1, n64, B999, q⟩ := h
    have zl : (sizeLine : Nat) = 16777216 := by decide
    have hsub0 : ∀ m ∈ ps.map (·.2), m ∈ ps.map (·.2) := fun m hm => hm
    refine ⟨_, (pss_cons (ps_set (i := 2) sc_l_closed.nd rfl (Or.inl rfl) (pe_dispZ (K := K) (P := P) (w := w) rfl rfl rfl (hu64 hr) (pe_tupRgZ rfl (by rfl) T.z_tuple (prg_1 (by rfl) T.z_range (pv 0))) pe_bl))
      (pss_cons (ps_set (i := 3) sc_l_closed.nd rfl (Or.inl rfl) (pe_lst (pa_cons (pe_tupRgZ rfl (by rfl) T.z_tuple (prg_1 (by rfl) T.z_range (pv 0))) pa_nil)))
      (pss_cons (ps_for PassesOwn.never rfl (pi_range1 (by rfl) T.z_range (pa_cons pe_int pa_nil)) (pg_name (i := 4) sc_l_closed.nd rfl (Or.inl rfl)) (pss_cons (ps_if (pt_cmpR (op_eqDK (K := K) rfl hr.units) (pv 3) (pe_lst pa_nil) (nomark _)) (pss_one ps_break) pss_nil)
      (pss_cons (ps_set (i := 5) sc_l_closed.nd rfl (Or.inl rfl) (bm0K (K := K) rfl (pe_bm0 PySem.F.plainAttrs_list PySem.F.slot_list_pop PySem.F.type_list_pop mt_pop (pv 3))))
      (pss_one (ps_for PassesOwn.never rfl (pi_listK (K := K) rfl (pv 1)) (pg_name (i := 6) sc_l_closed.nd rfl (Or.inl rfl)) (pss_cons (ps_set (i := 7) sc_l_closed.nd rfl (Or.inl rfl) (pe_call (G_l_then) (hr.mono (by first | decide | omega)) (by rfl) T.g_l_then T.F_l_then.kp T.b_l_then .nil pass0 (pa_cons (pv 5) (pa_cons (pv 6) pa_nil))))
      (pss_one (ps_if (pt_cmp (pe_ninK (K := K) (P := P) (w := w) (neg := true) rfl rfl rfl rfl (hu64 hr) (pv 7) (pv 2))) (pss_cons (ps_nputK (K := K) (P := P) (w := w) rfl rfl rfl (hu64 hr) (pv 2) (pv 7) pe_bl (by rfl))
      (pss_one (ps_expr (bmK (K := K) rfl (pe_bm PySem.F.plainAttrs_list PySem.F.slot_list_append PySem.F.type_list_append mt_append (pv 3) (pa_cons (pv 7) pa_nil)))))) pss_nil))))))))
      (pss_one (ps_ret (pe_callB (cr_sortT (K := K) rfl) (by rfl) T.z_sorted (by decide +kernel) (pa_cons (pe_callTy (call_listZ (P := P) (w := w) rfl rfl rfl) (by rfl) T.z_list (by decide +kernel) (pa_cons (pv 2) pa_nil)) pa_nil))))))), ?_⟩
    walk_at "rd"
    refine r_dispZ (fun fd hfd => ?_)
    show tTupRgZ (tRg1 _) _ _ _
    refine r_tupRgZ (n := n) (by omega) (fun p0 G0 g0 hp0 => ?_) (fun R hR => ?_)
    rotate_left
    · walk_at "rd"
      exact hR
    walk_at "rd"
    have hfp : G0 fd = some (NDO P w fd []) := g0 _ _ upd_same
    refine ⟨p0, idN n, rfl, hp0.sq, hfp, rfl, ?_⟩
    have sF : Same H (upd G0 fd (NDO P w fd (NLs [(p0, idN n)]))) := same_mut ((same_new hfd).trans g0) hfd
    have hF0 : (upd G0 fd (NDO P w fd (NLs [(p0, idN n)]))) fd = _ := upd_same
    have hI0 : PlR (upd G0 fd (NDO P w fd (NLs [(p0, idN n)]))) [(p0, idN n)] := fun q hq => by
      rw [List.mem_singleton.mp hq]
      exact hp0.put hfp fun ob e => nomatch e
    clear hfp hp0
    generalize upd G0 fd (NDO P w fd (NLs [(p0, idN n)])) = H1 at *
    walk_at "rd"
    show tTupRgZ (tRg1 _) _ _ _
    refine r_tupRgZ (n := n) (by omega) (fun p1 G1 t2 hp1 => ?_) (fun R hR => ?_)
    rotate_left
    · walk_at "rd"
      exact hR
    walk_at "rd"
    refine ⟨ln1, fun wd hwd => ?_⟩
    walk_at "rd"
    have t3 := same_new (o := .lst [V.ref p1]) hwd
    have s0 := sF.trans (t2.trans t3)
    have hwH : H wd = none := (sF.trans t2).free hwd
    have hT0 := hp1.k t3
    have hW0 : (upd G1 wd (.lst [V.ref p1])) wd = _ := upd_same
    have hF1 := t3 _ _ (t2 _ _ hF0)
    have hI1 := hI0.k (t2.trans t3)
    have hne : fd ≠ wd := fun e => by
      subst e
      rw [hF1] at hW0
      exact nomatch hW0
    clear t2 t3 sF hF0 hwd hp1 hI0
    generalize upd G1 wd (.lst [V.ref p1]) = H2 at *
    refine r_rng1' (by decide) (by decide) ?_
    have wt0 : Wait n (ps.map (·.2)) [idN n] ([(p1, idN n)].map (·.2)) none := ⟨by simp, List.mem_cons_self, (fun x hx => by rw [List.mem_singleton.mp hx]; exact .one), (fun x hx => hx), (fun x hx => .inl hx)⟩
    refine for_range (lo := 0) (n := 1000) (fun i σ G => ∃ ws qs y4 y5 y6 y7, σ = [some (iV n), some (.ref pp), some (.ref fd), some (.ref wd), y4, y5, y6, y7] ∧ Same H G ∧ G wd = some (.lst (refsV ws)) ∧ G fd = some (NDO P w fd (NLs qs)) ∧ PlR G ws ∧ PlR G qs ∧ Wait n (ps.map (·.2)) (qs.map (·.2)) (ws.map (·.2)) none ∧ i + ws.length = qs.length)
      ⟨[(p1, idN n)], [(p0, idN n)], none, none, none, none, rfl, s0, hW0, hF1, (fun p hp => by rw [List.mem_singleton.mp hp]; exact hT0), hI1, wt0, rfl⟩ (fun i σ G hi hP => ?_) (fun σ G hP => ?_)
    · obtain ⟨ws, qs, y4, y5, y6, y7, rfl, sG, hW, hF, hT, hQ, wt, cnt⟩ := hP
      have hlen := hB.le hsub0 wt.nd wt.gen
      rw [List.length_map] at hlen
      walk_at "rd"
      refine ⟨Nat.zero_le _, fun pe hpe => ?_⟩
      have se := same_new (o := .lst []) hpe
      refine r_eqD (dp_rows (ps := ws) (SqL.of (se _ _ hW)) (hT.k se).sq) (dp_rows (ps := []) (SqL.of upd_same) fun p hp => nomatch hp) (shaped_rows _) (shaped_rows _) ?_
      rw [eqv_lrows]
      have sG2 := sG.trans se
      have hW2 := se _ _ hW
      have hF2 := se _ _ hF
      have hT2 := hT.k se
      have hQ2 := hQ.k se
      clear sG hW hF hT hQ
      generalize upd G pe (.lst []) = G2 at *
      walk_at "rd"
      refine r_iteD (fun e1 => ?_) (fun e1 => ?_)
      · walk_at "rd"
        have hg : Group n (ps.map (·.2)) (qs.map (·.2)) := ⟨wt.nd, fun x => ⟨wt.gen x, fun g => g.sub wt.one fun y hy m hm => by
          rcases wt.done y hy with h | h | h
          · rw [e1] at h
            exact nomatch h
          · exact nomatch h
          · exact h m hm⟩⟩
        refine r_listZ hF2 (fun p hp => ?_)
        walk_at "rd"
        have sp := same_new (o := .lst (refsV qs)) hp
        refine r_sortT (SqL.of upd_same) (fun x hx => ⟨((hQ2.k sp) x hx).sq, fun e => ?_⟩) (fun zs p2 pz sz hp2 => ?_)
        · have hxr : x.2 ∈ qs.map (·.2) := List.mem_map_of_mem hx
          have h1 := ((wt.gen _ hxr).row hB.rows).1
          rw [e] at h1
          have h2 : (0 : Nat) = n := h1
          omega
        · have s5 := sp.trans (same_new (o := .lst (refsV zs)) hp2)
          refine q _ p2 zs (sG2.trans s5) ((sG2.trans sp).free hp2) upd_same (fun z hz => (hQ2 z (pz.mem_iff.mp hz)).k s5) sz (group_by hg ?_)
          exact pz.map _
      · have hwne : ws ≠ [] := fun e => e1 (by rw [e, List.map_nil])
        obtain ⟨wi, ⟨b, x0⟩, ew⟩ : ∃ wi y, ws = wi ++ [y] := ⟨ws.dropLast, ws.getLast hwne, (List.dropLast_concat_getLast hwne).symm⟩
        subst ew
        have eV : refsV (wi ++ [(b, x0)]) = refsV wi ++ [V.ref b] := by
          unfold refsV
          rw [List.map_append]
          rfl
        have eM : (wi ++ [(b, x0)]).map (·.2) = wi.map (·.2) ++ [x0] := by
          rw [List.map_append]
          rfl
        rw [eM] at wt
        rw [eV] at hW2
        rw [List.length_append] at cnt
        have cnt2 : i + 1 + wi.length = qs.length := by
          have : [(b, x0)].length = 1 := rfl
          omega
        walk_at "rd"
        refine ⟨_, rfl, ty_l (SqL.of hW2), ?_⟩
        refine ⟨wd, _, .ref b, rfl, rfl, hW2, ?_, ?_⟩
        · rw [List.length_append]
          show (refsV wi ++ [V.ref b])[(refsV wi).length + 1 - 1]? = _
          rw [Nat.add_sub_cancel, List.getElem?_append_right (Nat.le_refl _), Nat.sub_self]
          rfl
        rw [List.dropLast_concat]
        have sG3 := same_mut (o := .lst (refsV wi)) sG2 hwH
        have hT3 : PlR (upd G2 wd (.lst (refsV wi))) wi := PlR.put (fun p hp => hT2 p (List.mem_append_left _ hp)) hW2 fun ob xs e => nomatch e
        have hQ3 : PlR (upd G2 wd (.lst (refsV wi))) qs := hQ2.put hW2 fun ob xs e => nomatch e
        have hb3 := PlT.put (o := .lst (refsV wi)) (hT2 (b, x0) (List.mem_append_right _ List.mem_cons_self)) hW2 fun ob e => nomatch e
        have hW3 : (upd G2 wd (.lst (refsV wi))) wd = _ := upd_same
        have hF3 : (upd G2 wd (.lst (refsV wi))) fd = _ := (upd_ne hne).trans hF2
        clear hT2 hW2 hF2 hQ2
        generalize upd G2 wd (.lst (refsV wi)) = G3 at *
        walk_at "rd"
        refine ⟨⟨_, sG3.seq hS⟩, ?_⟩
        refine for_list (xs := refsV ps) (fun j σ G => ∃ ws2 qs2 y6 y7, σ = [some (iV n), some (.ref pp), some (.ref fd), some (.ref wd), some (.int (0 + (i : Int))), some (.ref b), y6, y7] ∧ Same H G ∧ G wd = some (.lst (refsV ws2)) ∧ G fd = some (NDO P w fd (NLs qs2)) ∧ PlR G ws2 ∧ PlR G qs2 ∧ PlT G b (x0.map iV) ∧ x0 ∈ qs2.map (·.2) ∧ Wait n (ps.map (·.2)) (qs2.map (·.2)) (ws2.map (·.2)) (some x0) ∧ i + 1 + ws2.length = qs2.length ∧ ∀ k, k < j → ∀ m, (ps.map (·.2))[k]? = some m → thenN x0 m ∈ qs2.map (·.2))
          ⟨wi, qs, y6, y7, rfl, sG3, hW3, hF3, hT3, hQ3, hb3, wt.sub x0 (List.mem_append_right _ List.mem_cons_self), ⟨wt.nd, wt.one, wt.gen, fun x hx => wt.sub x (List.mem_append_left _ hx), fun x hx => ?_⟩, cnt2, fun k hk => absurd hk (Nat.not_lt_zero _)⟩ (fun j σ G _ hP => ?_) (fun j x σ G hx hP => ?_) (fun σ G hP => ?_)
        · rcases wt.done x hx with h | h | h
          · rcases List.mem_append.mp h with h | h
            · exact .inl h
            · rw [List.mem_singleton.mp h]
              exact .inr (.inl rfl)
          · exact nomatch h
          · exact .inr (.inr h)
        · obtain ⟨ws2, qs2, z6, z7, rfl, a1, _⟩ := hP
          exact a1.seq hS
        · clear hW3 hF3 hT3 hb3 sG3 hQ3
          obtain ⟨ws2, qs2, z6, z7, rfl, sG, hW, hF, hT, hQ, hb, hx0m, wt2, cnt3, hk⟩ := hP
          obtain ⟨q1, hq1, rfl⟩ : ∃ q1, ps[j]? = some q1 ∧ V.ref q1.1 = x := by
            unfold refsV at hx
            rw [List.getElem?_map] at hx
            obtain ⟨y, h1, h2⟩ := Option.map_eq_some_iff.mp hx
            exact ⟨y, h1, h2⟩
          have hq1m := List.mem_of_getElem? hq1
          have hx0 := (wt2.gen x0 hx0m).row hB.rows
          have hq0 := hB.rows q1.2 (List.mem_map_of_mem hq1m)
          have hlen2 := hB.le hsub0 wt2.nd wt2.gen
          rw [List.length_map] at hlen2
          walk_at "rd"
          refine ⟨.ref b, .ref q1.1, x0, q1.2, rfl, row_of hb.sq, row_of (same_t sG (hPT q1 hq1m)), fun y hy => by rw [hq0.1]; exact hx0.2 y hy, by rw [hx0.1]; omega, fun G4 t s3 ht => ?_⟩
          have hW4 := s3 _ _ hW
          have hF4 := s3 _ _ hF
          have hT4 := hT.k s3
          have hQ4 := hQ.k s3
          have hb4 := hb.k s3
          have sG4 := sG.trans s3
          walk_at "rd"
          refine r_nin ?_
          walk_at "rd"
          refine r_ninT hF4 hQ4.sq ht.sq ?_
          refine r_iteD (fun e3 => ?_) (fun e3 => ?_)
          · walk_at "rd"
            refine r_nput ?_
            walk_at "rd"
            refine r_nputR hF4 hQ4.sq ht.sq e3 (by omega) ?_
            have hF5 : (upd G4 fd (NDO P w fd (NLs (qs2 ++ [(t, thenN x0 q1.2)])))) fd = _ := upd_same
            have hW5 : (upd G4 fd (NDO P w fd (NLs (qs2 ++ [(t, thenN x0 q1.2)])))) wd = _ := (upd_ne hne.symm).trans hW4
            have s5 := same_mut (o := NDO P w fd (NLs (qs2 ++ [(t, thenN x0 q1.2)]))) sG4 hfd
            have nf : ∀ (ob : Obj) (xs : List V), NDO P w fd (NLs qs2) ≠ .frz ob (.tup xs) := fun ob xs e => nomatch e
            have ht5 := PlT.put (o := NDO P w fd (NLs (qs2 ++ [(t, thenN x0 q1.2)]))) ht hF4 fun ob => nf ob _
            have hb5 := PlT.put (o := NDO P w fd (NLs (qs2 ++ [(t, thenN x0 q1.2)]))) hb4 hF4 fun ob => nf ob _
            have hT5 := PlR.put (o := NDO P w fd (NLs (qs2 ++ [(t, thenN x0 q1.2)]))) hT4 hF4 nf
            have hQ5 := PlR.snoc (PlR.put (o := NDO P w fd (NLs (qs2 ++ [(t, thenN x0 q1.2)]))) hQ4 hF4 nf) ht5
            clear nf
            generalize upd G4 fd (NDO P w fd (NLs (qs2 ++ [(t, thenN x0 q1.2)]))) = G5 at *
            walk_at "rd"
            refine ⟨ty_l (SqL.of hW5), ?_⟩
            walk_at "rd"
            refine r_append hW5 (by show (ws2.map _).length < _; rw [List.length_map]; omega) ?_
            have eR : (ws2 ++ [(t, thenN x0 q1.2)]).map (·.2) = ws2.map (·.2) ++ [thenN x0 q1.2] := by rw [List.map_append]; rfl
            have eR2 : (qs2 ++ [(t, thenN x0 q1.2)]).map (·.2) = qs2.map (·.2) ++ [thenN x0 q1.2] := by rw [List.map_append]; rfl
            have nl : ∀ (ob : Obj) (xs : List V), HO.lst (refsV ws2) ≠ .frz ob (.tup xs) := fun ob xs e => nomatch e
            refine ⟨ws2 ++ [(t, thenN x0 q1.2)], qs2 ++ [(t, thenN x0 q1.2)], _, _, rfl, same_mut s5 hwH, ?_, ?_, ?_, hQ5.put hW5 nl, hb5.put hW5 fun ob => nl ob _, by rw [eR2]; exact List.mem_append_left _ hx0m, ?_, ?_, ?_⟩
            · rw [upd_same]
              unfold refsV
              rw [List.map_append]
              rfl
            · rw [upd_ne hne]
              exact hF5
            · exact PlR.snoc (hT5.put hW5 nl) (ht5.put hW5 fun ob => nl ob _)
            · rw [eR, eR2]
              exact wt2.add e3 (.step (wt2.gen x0 hx0m) (List.mem_map_of_mem hq1m))
            · rw [List.length_append, List.length_append]
              show i + 1 + (ws2.length + 1) = qs2.length + 1
              omega
            · intro k hkj m hm
              rw [eR2]
              by_cases e : k = j
              · subst e
                rw [List.getElem?_map, hq1] at hm
                rw [← Option.some.inj hm]
                exact List.mem_append_right _ List.mem_cons_self
              · exact List.mem_append_left _ (hk k (by omega) m hm)
          · walk_at "rd"
            refine ⟨ws2, qs2, _, _, rfl, sG4, hW4, hF4, hT4, hQ4, hb4, hx0m, wt2, cnt3, fun k hkj m hm => ?_⟩
            by_cases e : k = j
            · subst e
              rw [List.getElem?_map, hq1] at hm
              rw [← Option.some.inj hm]
              exact Classical.not_not.mp e3
            · exact hk k (by omega) m hm
        · obtain ⟨ws2, qs2, z6, z7, rfl, sG, hW, hF, hT, hQ, hb, hx0m, wt2, cnt3, hk⟩ := hP
          refine ⟨ws2, qs2, _, _, _, _, rfl, sG, hW, hF, hT, hQ, ⟨wt2.nd, wt2.one, wt2.gen, wt2.sub, fun x hx => ?_⟩, cnt3⟩
          rcases wt2.done x hx with h | h | h
          · exact .inl h
          · refine .inr (.inr fun m hm => ?_)
            rw [Option.some.inj h]
            obtain ⟨k, hkm⟩ := List.mem_iff_getElem?.mp hm
            have hkl := (List.getElem?_eq_some_iff.mp hkm).1
            exact hk k (by show k < (ps.map _).length; rw [List.length_map] at hkl ⊢; exact hkl) m hkm
          · exact .inr (.inr h)
    · obtain ⟨ws, qs, y4, y5, y6, y7, rfl, sG, hW, hF, hT, hQ, wt, cnt⟩ := hP
      have hlen := hB.le hsub0 wt.nd wt.gen
      rw [List.length_map] at hlen
      omega
end

section
variable {P : Program} {w : World} {K : PySem.W.Frag} {mg : Str → Option Value} {base : Heap} {a : Ad}
def spGens (K : PySem.W.Frag) : Sp := fun vs H Q _ => ∃ (pn : Addr) (ns : List Int) (n : Nat), vs = [.ref pn, iV n] ∧ SqL K H pn (ns.map V.int) ∧ 13 ≤ ns.length ∧ 1 ≤ n ∧ n ≤ 6 ∧
  ∀ (H' : Hp) (p : Addr) (ps : List (Addr × List Nat)), Same H H' → H p = none → H' p = some (.lst (refsV ps)) → (∀ q ∈ ps, SqT K H' q.1 (q.2.map iV)) → (∀ q ∈ ps, Perm n q.2) → ps.length ≤ 2 → Q (.ref p) H'
theorem ok_l_generators (T : Txt K mg a) : FnOk P w K mg base CX0 2 a.f_l_generators a.d_l_generators ["numbers", "places"] (spGens K) := by
  have G_l_permutation := ok_l_permutation (P := P) (w := w) (base := base) T
  have G_l_then := ok_l_then (P := P) (w := w) (base := base) T
  refine T.F_l_generators.ok sc_l_generators (fun vs H Q E h => ?_) (fun cdv A outer s H vs Q E hr h => ?_)
  · obtain ⟨pn, ns, n, rfl, _⟩ := h
    rfl
  · obtain ⟨pn, ns, n, rfl, hN, hlen, n1, n6, q⟩ := h
    have zl : (sizeLine : Nat) = 16777216 := by decide
    have hn0 : (0 : Int) < (n : Int) := by omega
    obtain ⟨wp, rp⟩ := wheel_perm n1 n6
    refine ⟨_, (pss_cons (ps_set (i := 2) sc_l_generators.nd rfl (Or.inl rfl) (pe_op op_mod (pe_ix (ix_listK (K := K) rfl) (pv 0) pe_int (fun _ _ => rfl)) pe_int))
      (pss_cons (ps_set (i := 3) sc_l_generators.nd rfl (Or.inl rfl) (pe_callTy (call_tupOfK (K := K) rfl) (by rfl) T.z_tuple (by decide +kernel) (pa_cons (pe_lc (own := [("k", 6)]) (g := gName 6) (tt := tYes) rfl sc_l_generators.nd (pi_range1 (by rfl) T.z_range (pa_cons (pv 1) pa_nil)) (blkOk_by (N := N_l_generators) (sc := (defScope s_l_generators)) (by decide +kernel)) (fun _ _ _ _ _ => pg_name (i := 6) sc_l_generators.nd rfl (by first | exact Or.inl rfl | exact Or.inr rfl)) (fun _ _ _ _ _ => pts_nil) (fun _ _ _ _ _ => (pe_op op_mod (pe_op op_add (pv 6) pe_int) (pv 1)))) pa_nil)))
      (pss_cons (ps_if (pt_cmpR op_eq (pv 2) pe_int (nomark _)) (pss_one (ps_ret (pe_lst (pa_cons (pe_call (G_l_permutation) (hr.mono (by first | decide | omega)) (by rfl) T.g_l_permutation T.F_l_permutation.kp T.b_l_permutation .nil pass0 (pa_cons (pe_slice (sl_listK (K := K) rfl) (pv 0) (po_some pe_int) po_none) (pa_cons (pv 1) pa_nil))) pa_nil)))) pss_nil)
      (pss_cons (ps_if (pt_cmpR op_eq (pv 2) pe_int (nomark _)) (pss_one (ps_ret (pe_lst (pa_cons (pv 3) pa_nil)))) pss_nil)
      (pss_cons (ps_if (pt_cmpR op_eq (pv 2) pe_int (nomark _)) (pss_one (ps_ret (pe_lst (pa_cons (pv 3) (pa_cons (pe_callTy (call_tupOfK (K := K) rfl) (by rfl) T.z_tuple (by decide +kernel) (pa_cons (pe_lc (own := [("k", 6)]) (g := gName 6) (tt := tYes) rfl sc_l_generators.nd (pi_range1 (by rfl) T.z_range (pa_cons (pv 1) pa_nil)) (blkOk_by (N := N_l_generators) (sc := (defScope s_l_generators)) (by decide +kernel)) (fun _ _ _ _ _ => pg_name (i := 6) sc_l_generators.nd rfl (by first | exact Or.inl rfl | exact Or.inr rfl)) (fun _ _ _ _ _ => pts_nil) (fun _ _ _ _ _ => (pe_op op_mod (pe_op op_sub (pv 1) (pv 6)) (pv 1)))) pa_nil)) pa_nil))))) pss_nil)
      (pss_cons (ps_if (pt_cmpR op_eq (pv 2) pe_int (nomark _)) (pss_one (ps_ret (pe_lst (pa_cons (pe_call (G_l_permutation) (hr.mono (by first | decide | omega)) (by rfl) T.g_l_permutation T.F_l_permutation.kp T.b_l_permutation .nil pass0 (pa_cons (pe_slice (sl_listK (K := K) rfl) (pv 0) (po_some pe_int) po_none) (pa_cons (pv 1) pa_nil))) (pa_cons (pe_call (G_l_permutation) (hr.mono (by first | decide | omega)) (by rfl) T.g_l_permutation T.F_l_permutation.kp T.b_l_permutation .nil pass0 (pa_cons (pe_slice (sl_listK (K := K) rfl) (pv 0) (po_some pe_int) po_none) (pa_cons (pv 1) pa_nil))) pa_nil))))) pss_nil)
      (pss_cons (ps_set (i := 4) sc_l_generators.nd rfl (Or.inl rfl) (pe_call (G_l_permutation) (hr.mono (by first | decide | omega)) (by rfl) T.g_l_permutation T.F_l_permutation.kp T.b_l_permutation .nil pass0 (pa_cons (pe_slice (sl_listK (K := K) rfl) (pv 0) (po_some pe_int) po_none) (pa_cons (pv 1) pa_nil))))
      (pss_cons (ps_set (i := 5) sc_l_generators.nd rfl (Or.inl rfl) (pe_call (G_l_permutation) (hr.mono (by first | decide | omega)) (by rfl) T.g_l_permutation T.F_l_permutation.kp T.b_l_permutation .nil pass0 (pa_cons (pe_slice (sl_listK (K := K) rfl) (pv 0) (po_some pe_int) po_none) (pa_cons (pv 1) pa_nil))))
      (pss_one (ps_ret (pe_lst (pa_cons (pe_call (G_l_then) (hr.mono (by first | decide | omega)) (by rfl) T.g_l_then T.F_l_then.kp T.b_l_then .nil pass0 (pa_cons (pv 4) (pa_cons (pv 4) pa_nil))) (pa_cons (pe_call (G_l_then) (hr.mono (by first | decide | omega)) (by rfl) T.g_l_then T.F_l_then.kp T.b_l_then .nil pass0 (pa_cons (pv 5) (pa_cons (pv 5) pa_nil))) pa_nil))))))))))))), ?_⟩
    walk_at "rd"
    refine r_ixL hN (at_int (by decide) (by omega)) ?_
    walk_at "rd"
    generalize ns.getD (0 : Int).toNat 0 % 5 = so
    refine r_rng1' (by omega) (by omega) ?_
    rw [Int.toNat_natCast]
    intro D hD
    refine lc_range (lo := 0) (n := n) (fun j G2 => Same H G2 ∧ G2 D = some (.lst (((List.range j).map fun k => (k + 1) % n).map iV))) ⟨same_new hD, by rw [upd_same]; rfl⟩ (fun j G2 hj hQ => ?_) (fun G2 hQ => ?_)
    · obtain ⟨sG, hG⟩ := hQ
      refine ⟨rfl, r_yes (iteT ?_)⟩
      walk_at "rd"
      refine r_mod (j := (n : Int)) hn0 ?_
      have em : (0 + (j : Int) + 1) % (n : Int) = (((j + 1) % n : Nat) : Int) := by
        rw [Int.natCast_emod, Int.zero_add]
        rfl
      refine ⟨_, hG, by rw [List.length_map, List.length_map, List.length_range]; omega, same_mut sG hD, ?_⟩
      rw [upd_same, List.range_succ, List.map_append, List.map_append, em]
      rfl
    obtain ⟨sG, hG⟩ := hQ
    have hG2 : G2 D = some (.lst ((rot n 1).map iV)) := hG
    walk_at "rd"
    refine r_tupL (SqL.of hG2) (fun t ht => ?_)
    have s1 := sG.trans (same_new (o := .tup ((rot n 1).map iV)) ht)
    have hW : (upd G2 t (.tup ((rot n 1).map iV))) t = _ := upd_same
    clear sG hG hG2 hD ht
    generalize upd G2 t (.tup ((rot n 1).map iV)) = H1 at *
    have hN1 := s1.seq hN
    walk_at "rd"
    refine r_iteD (fun e1 => ?_) (fun e1 => ?_)
    · walk_at "rd"
      refine r_slL hN1 (fun p7 hp7 => ?_)
      rw [cut_1, ← List.map_drop]
      walk_at "rd"
      refine ⟨p7, ns.drop 1, n, rfl, SqL.of upd_same, by rw [List.length_drop]; omega, by omega, fun H2 t1 r1 s2 h1 hP1 => ?_⟩
      walk_at "rd"
      refine ⟨ln1, fun pr hpr => ?_⟩
      have s3 := s1.trans ((same_new hp7).trans s2)
      have s4 := same_new (o := .lst [V.ref t1]) hpr
      exact q _ pr [(t1, r1)] (s3.trans s4) (s3.free hpr) upd_same (fun p hp => by rw [List.mem_singleton.mp hp]; exact SqT.of (s4 _ _ h1)) (fun p hp => by rw [List.mem_singleton.mp hp]; exact hP1) (Nat.le_succ 1)
    walk_at "rd"
    refine r_iteD (fun e2 => ?_) (fun e2 => ?_)
    · walk_at "rd"
      refine ⟨ln1, fun pr hpr => ?_⟩
      have s4 := same_new (o := .lst [V.ref t]) hpr
      exact q _ pr [(t, rot n 1)] (s1.trans s4) (s1.free hpr) upd_same (fun p hp => by rw [List.mem_singleton.mp hp]; exact SqT.of (s4 _ _ hW)) (fun p hp => by rw [List.mem_singleton.mp hp]; exact wp) (Nat.le_succ 1)
    walk_at "rd"
    refine r_iteD (fun e3 => ?_) (fun e3 => ?_)
    · walk_at "rd"
      refine r_rng1' (by omega) (by omega) ?_
      rw [Int.toNat_natCast]
      intro D hD
      refine lc_range (lo := 0) (n := n) (fun j G2 => Same H1 G2 ∧ G2 D = some (.lst (((List.range j).map fun k => (n - k) % n).map iV))) ⟨same_new hD, by rw [upd_same]; rfl⟩ (fun j G2 hj hQ => ?_) (fun G2 hQ => ?_)
      · obtain ⟨sG, hG⟩ := hQ
        refine ⟨rfl, r_yes (iteT ?_)⟩
        walk_at "rd"
        refine r_I0 (i := (n : Int)) ?_
        walk_at "rd"
        refine r_mod (j := (n : Int)) hn0 ?_
        have em : ((n : Int) - (0 + (j : Int))) % (n : Int) = (((n - j) % n : Nat) : Int) := by
          rw [Int.natCast_emod, Int.zero_add, Int.ofNat_sub (by omega)]
        refine ⟨_, hG, by rw [List.length_map, List.length_map, List.length_range]; omega, same_mut sG hD, ?_⟩
        rw [upd_same, List.range_succ, List.map_append, List.map_append, em]
        rfl
      obtain ⟨sG, hG⟩ := hQ
      have hG2 : G2 D = some (.lst ((reflN n).map iV)) := hG
      walk_at "rd"
      refine r_tupL (SqL.of hG2) (fun t2 ht2 => ?_)
      have s5 := sG.trans (same_new (o := .tup ((reflN n).map iV)) ht2)
      have hR : (upd G2 t2 (.tup ((reflN n).map iV))) t2 = _ := upd_same
      walk_at "rd"
      refine ⟨ln2, fun pr hpr => ?_⟩
      have s4 := same_new (o := .lst [V.ref t, V.ref t2]) hpr
      refine q _ pr [(t, rot n 1), (t2, reflN n)] (s1.trans (s5.trans s4)) ((s1.trans s5).free hpr) upd_same (fun p hp => ?_) (fun p hp => ?_) (Nat.le_refl 2)
      · rcases List.mem_cons.mp hp with rfl | hp
        · exact SqT.of (s4 _ _ (s5 _ _ hW))
        · rw [List.mem_singleton.mp hp]; exact SqT.of (s4 _ _ hR)
      · rcases List.mem_cons.mp hp with rfl | hp
        · exact wp
        · rw [List.mem_singleton.mp hp]; exact rp
    walk_at "rd"
    refine r_iteD (fun e4 => ?_) (fun e4 => ?_)
    · walk_at "rd"
      refine r_slL hN1 (fun p7 hp7 => ?_)
      rw [cut_1, ← List.map_drop]
      walk_at "rd"
      refine ⟨p7, ns.drop 1, n, rfl, SqL.of upd_same, by rw [List.length_drop]; omega, by omega, fun H2 t1 r1 s2 h1 hP1 => ?_⟩
      have s3 := s1.trans ((same_new hp7).trans s2)
      walk_at "rd"
      refine r_slL (s3.seq hN) (fun p8 hp8 => ?_)
      rw [show cutV (ns.map V.int) (some (7 : Int)) none = (ns.map V.int).drop 7 from cut_drop _ 7, ← List.map_drop]
      walk_at "rd"
      refine ⟨p8, ns.drop 7, n, rfl, SqL.of upd_same, by rw [List.length_drop]; omega, by omega, fun H4 t2 r2 s4 h2 hP2 => ?_⟩
      have s5 := (same_new hp8).trans s4
      walk_at "rd"
      refine ⟨ln2, fun pr hpr => ?_⟩
      have s6 := same_new (o := .lst [V.ref t1, V.ref t2]) hpr
      refine q _ pr [(t1, r1), (t2, r2)] (s3.trans (s5.trans s6)) ((s3.trans s5).free hpr) upd_same (fun p hp => ?_) (fun p hp => ?_) (Nat.le_refl 2)
      · rcases List.mem_cons.mp hp with rfl | hp
        · exact SqT.of (s6 _ _ (s5 _ _ h1))
        · rw [List.mem_singleton.mp hp]; exact SqT.of (s6 _ _ h2)
      · rcases List.mem_cons.mp hp with rfl | hp
        · exact hP1
        · rw [List.mem_singleton.mp hp]; exact hP2
    walk_at "rd"
    refine r_slL hN1 (fun p7 hp7 => ?_)
    rw [cut_1, ← List.map_drop]
    walk_at "rd"
    refine ⟨p7, ns.drop 1, n, rfl, SqL.of upd_same, by rw [List.length_drop]; omega, by omega, fun H2 t1 r1 s2 h1 hP1 => ?_⟩
    have s3 := s1.trans ((same_new hp7).trans s2)
    walk_at "rd"
    refine r_slL (s3.seq hN) (fun p8 hp8 => ?_)
    rw [show cutV (ns.map V.int) (some (7 : Int)) none = (ns.map V.int).drop 7 from cut_drop _ 7, ← List.map_drop]
    walk_at "rd"
    refine ⟨p8, ns.drop 7, n, rfl, SqL.of upd_same, by rw [List.length_drop]; omega, by omega, fun H4 t2 r2 s4 h2 hP2 => ?_⟩
    have s5 := (same_new hp8).trans s4
    have d1 := row_of (K := K) (SqT.of (s5 _ _ h1))
    walk_at "rd"
    refine ⟨.ref t1, .ref t1, r1, r1, rfl, d1, d1, fun x hx => by rw [hP1.len]; exact hP1.lt x hx, by rw [hP1.len]; omega, fun H5 t3 s7 h3 => ?_⟩
    walk_at "rd"
    have d2 := row_of (K := K) (SqT.of (s7 _ _ h2))
    refine ⟨.ref t2, .ref t2, r2, r2, rfl, d2, d2, fun x hx => by rw [hP2.len]; exact hP2.lt x hx, by rw [hP2.len]; omega, fun H6 t4 s8 h4 => ?_⟩
    walk_at "rd"
    refine ⟨ln2, fun pr hpr => ?_⟩
    have s6 := same_new (o := .lst [V.ref t3, V.ref t4]) hpr
    refine q _ pr [(t3, thenN r1 r1), (t4, thenN r2 r2)] (s3.trans (s5.trans (s7.trans (s8.trans s6)))) ((s3.trans (s5.trans (s7.trans s8))).free hpr) upd_same (fun p hp => ?_) (fun p hp => ?_) (Nat.le_refl 2)
    · rcases List.mem_cons.mp hp with rfl | hp
      · exact ((h3.k s8).k s6).sq
      · rw [List.mem_singleton.mp hp]; exact (h4.k s6).sq
    · rcases List.mem_cons.mp hp with rfl | hp
      · exact hP1.then hP1
      · rw [List.mem_singleton.mp hp]; exact hP2.then hP2
end

section
variable {P : Program} {w : World} {K : PySem.W.Frag} {mg : Str → Option Value} {base : Heap} {a : Ad}
def spTurned (K : PySem.W.Frag) : Sp := fun vs H Q _ => ∃ (n : Nat) (pg pe : Addr) (gs : List (Addr × List Nat)) (e : List Nat), vs = [.ref pg, .ref pe] ∧ SqL K H pg (refsV gs) ∧ (∀ q ∈ gs, SqT K H q.1 (q.2.map iV)) ∧ SqT K H pe (e.map iV) ∧ Perm n e ∧ (∀ q ∈ gs, Perm n q.2) ∧ n ≤ 1000 ∧ gs.length ≤ 1000 ∧
  ∀ (H' : Hp) (p : Addr) (zs : List (Addr × List Nat)), Same H H' → H p = none → H' p = some (.lst (refsV zs)) → TupR H' zs → (∀ c, c ∈ zs.map (·.2) ↔ ∃ q ∈ gs, isConj n q.2 e c) → zs.length ≤ gs.length → Q (.ref p) H'
theorem ok_turned (T : Txt K mg a) : FnOk P w K mg base CX0 1 a.f_turned a.d_turned ["group", "element"] (spTurned K) := by
  refine T.F_turned.ok sc_turned (fun vs H Q E h => ?_) (fun cdv A outer s H vs Q E hr h => ?_)
  · obtain ⟨n, pg, pe, gs, e, rfl, _⟩ := h
    rfl
  · obtain ⟨n, pg, pe, gs, e, rfl, hS, hT, hE, he, hgs, n1000, lgs, q⟩ := h
    have zl : (sizeLine : Nat) = 16777216 := by decide
    refine ⟨_, (pss_cons (ps_set (i := 2) sc_turned.nd rfl (Or.inl rfl) pe_dnewT)
      (pss_cons (ps_for PassesOwn.never rfl (pi_listK (K := K) rfl (pv 0)) (pg_name (i := 3) sc_turned.nd rfl (Or.inl rfl)) (pss_cons (ps_set (i := 4) sc_turned.nd rfl (Or.inl rfl) (pe_op op_rep (pe_lst (pa_cons pe_int pa_nil)) (pe_callB (call_lenQK (K := K) rfl) (by rfl) T.z_len (by decide +kernel) (pa_cons (pv 3) pa_nil))))
      (pss_cons (ps_for PassesOwn.never rfl (pi_enumT (K := K) rfl (by rfl) T.z_enumerate (pa_cons (pv 1) pa_nil)) (pg_tupK (K := K) rfl rfl (pgs_cons (pg_name (i := 5) sc_turned.nd rfl (Or.inl rfl)) (pgs_cons (pg_name (i := 6) sc_turned.nd rfl (Or.inl rfl)) pgs_nil))) (pss_one (ps_asg (pe_ix (ix_tupK (K := K) rfl) (pv 3) (pv 6) (fun _ _ => rfl)) (pg_sub (pv 4) (pe_ix (ix_tupK (K := K) rfl) (pv 3) (pv 5) (fun _ _ => rfl)) set_list))))
      (pss_one (ps_dput (hu_of hr) (pv 2) (pe_callTy (call_tupOfK (K := K) rfl) (by rfl) T.z_tuple (by decide +kernel) (pa_cons (pv 4) pa_nil)) pe_bl (by rfl))))))
      (pss_one (ps_ret (pe_callTy (call_listN rfl) (by rfl) T.z_list (by decide +kernel) (pa_cons (pv 2) pa_nil)))))), ?_⟩
    walk_at "rd"
    intro fd hfd
    have s1 := same_new (o := .dT []) hfd
    have hF0 : (upd H fd (.dT [])) fd = some (.dT (dictN [])) := upd_same
    generalize upd H fd (.dT []) = H1 at *
    walk_at "rd"
    refine ⟨⟨_, s1.seq hS⟩, ?_⟩
    refine for_list (xs := refsV gs) (fun j σ G => ∃ rs y3 y4 y5 y6, σ = [some (.ref pg), some (.ref pe), some (.ref fd), y3, y4, y5, y6] ∧ Same H G ∧ G fd = some (.dT (dictN rs)) ∧ rs.length ≤ j ∧ ∀ c, c ∈ rs ↔ ∃ i, i < j ∧ ∃ q, gs[i]? = some q ∧ isConj n q.2 e c)
      ⟨[], none, none, none, none, rfl, s1, hF0, Nat.le_refl _, fun c => ⟨(fun h => nomatch h), fun ⟨i, h, _⟩ => absurd h (Nat.not_lt_zero _)⟩⟩ (fun j σ G _ hP => ?_) (fun j x σ G hx hP => ?_) (fun σ G hP => ?_)
    · obtain ⟨rs, y3, y4, y5, y6, rfl, sG, _⟩ := hP
      exact sG.seq hS
    · obtain ⟨rs, y3, y4, y5, y6, rfl, sG, hF, lrs, mem⟩ := hP
      have hj := (List.getElem?_eq_some_iff.mp hx).1
      rw [show (refsV gs).length = gs.length from List.length_map _] at hj
      obtain ⟨⟨b, r⟩, hbr, rfl⟩ : ∃ q1, gs[j]? = some q1 ∧ V.ref q1.1 = x := by
        unfold refsV at hx
        rw [List.getElem?_map] at hx
        exact Option.map_eq_some_iff.mp hx
      have hr0 : Perm n r := hgs _ (List.mem_of_getElem? hbr)
      have hb : SqT K G b (r.map iV) := same_t sG (hT _ (List.mem_of_getElem? hbr))
      have hE1 := same_t sG hE
      walk_at "rd"
      refine ⟨ln1, fun p1 hp1 => ?_⟩
      walk_at "rd"
      refine r_lenT (same_t (same_new (o := .lst [V.int 0]) hp1) hb) ?_
      rw [List.length_map, hr0.len]
      refine r_rep upd_same (by omega) (by omega) (by show 1 * _ ≤ _; omega) (fun pt hpt => ?_)
      have s2 := (same_new (o := .lst [V.int 0]) hp1).trans (same_new (o := .lst (List.replicate (n : Int).toNat [V.int 0]).flatten) hpt)
      have hGt : G pt = none := (same_new hp1).free hpt
      have eR : (List.replicate (n : Int).toNat [V.int 0]).flatten = (List.replicate n 0).map iV := by
        rw [rep_flat, Int.toNat_natCast, List.map_replicate, List.map_replicate]
        rfl
      rw [eR] at s2 ⊢
      walk_at "rd"
      show iEnumT K _ _ _ _
      refine ⟨_, rfl, pe, _, rfl, same_t s2 hE1, ?_⟩
      refine for_enT (xs := e.map iV) (fun i σ G2 => ∃ y5 y6 im, σ = [some (.ref pg), some (.ref pe), some (.ref fd), some (.ref b), some (.ref pt), y5, y6] ∧ Same G G2 ∧ G2 pt = some (.lst (im.map iV)) ∧ im.length = n ∧ ∀ p, p < i → at0 im (at0 r p) = at0 r (at0 e p))
        ⟨y5, y6, List.replicate n 0, rfl, s2, upd_same, List.length_replicate, fun p hp => absurd hp (Nat.not_lt_zero _)⟩ (fun i σ G2 _ hQ => ?_) (fun i x σ G2 T' hx hQ hT' => ?_) (fun σ G2 hQ => ?_)
      · obtain ⟨y5, y6, im, rfl, sG2, _⟩ := hQ
        exact same_t sG2 hE1
      · obtain ⟨y5, y6, im, rfl, sG2, hB, hbl, him⟩ := hQ
        obtain ⟨y, hy, rfl⟩ : ∃ y, e[i]? = some y ∧ iV y = x := by
          rw [List.getElem?_map] at hx
          obtain ⟨y, h1, h2⟩ := Option.map_eq_some_iff.mp hx
          exact ⟨y, h1, h2⟩
        have hil : i < n := by have := (List.getElem?_eq_some_iff.mp hy).1; rw [he.len] at this; exact this
        have ey : y = at0 e i := by
          rw [at0_some (by rw [he.len]; exact hil)] at hy
          exact (Option.some.inj hy).symm
        have hyn : y < n := he.lt y (List.mem_of_getElem? hy)
        have nT : pt ≠ T' := ne_of_none hB hT'
        have hb2 := same_t (same_new (o := .tup [V.int (i : Nat), iV y]) hT') (same_t sG2 hb)
        have sG3 := sG2.trans (same_new (o := .tup [V.int (i : Nat), iV y]) hT')
        have hB3 : (upd G2 T' (.tup [V.int (i : Nat), iV y])) pt = some (.lst (im.map iV)) := (upd_ne nT).trans hB
        refine ⟨T', _, rfl, SqT.of upd_same, rfl, _, _, rfl, _, _, rfl, rfl, ?_⟩
        generalize upd G2 T' (.tup [V.int (i : Nat), iV y]) = G3 at *
        show tAsg _ _ _ _ _
        walk_at "rd"
        refine r_ixT hb2 (at_nat (j := y) rfl (by rw [hr0.len]; exact hyn)) ?_
        walk_at "rd"
        refine r_ixT hb2 (at_nat (j := i) rfl (by rw [hr0.len]; exact hil)) ?_
        have hri : r.getD i 0 < n := hr0.at_lt hil
        refine r_setL hB3 (by omega) (by rw [List.length_map]; omega) ?_
        rw [Int.toNat_natCast, ← List.map_set]
        refine ⟨_, _, im.set (at0 r i) (at0 r y), rfl, same_mut sG3 hGt, upd_same, by rw [List.length_set]; exact hbl, fun p hp => ?_⟩
        unfold at0
        rw [List.getD_eq_getElem?_getD]
        by_cases epi : p = i
        · subst epi
          rw [List.getElem?_set_self (by rw [hbl]; exact hri), ey]
          rfl
        · have hpi : p < i := by omega
          have hne : r.getD i 0 ≠ r.getD p 0 := fun z => epi (hr0.inj (by omega) hil z.symm)
          rw [List.getElem?_set_ne hne, ← List.getD_eq_getElem?_getD]
          exact him p hpi
      obtain ⟨y5, y6, im, rfl, sG2, hB, hbl, him⟩ := hQ
      rw [List.length_map, he.len] at him
      have hconj : isConj n r e im := ⟨hbl, him⟩
      dsimp only
      refine r_dput ?_
      walk_at "rd"
      refine r_tupL (SqL.of hB) (fun t ht => ?_)
      have s3 := sG2.trans (same_new (o := .tup (im.map iV)) ht)
      have hF3 := s3 _ _ hF
      have ht3 : (upd G2 t (.tup (im.map iV))) t = some (.tup (im.map iV)) := upd_same
      generalize upd G2 t (.tup (im.map iV)) = G3 at *
      refine r_dputA hF3 ht3 (by omega) ?_
      refine ⟨addR rs im, _, _, _, _, rfl, same_mut (sG.trans s3) hfd, upd_same, Nat.le_trans addR_len (Nat.succ_le_succ lrs), fun c => ?_⟩
      rw [addR_mem, mem]
      constructor
      · rintro (⟨i, hi, h⟩ | rfl)
        · exact ⟨i, by omega, h⟩
        · exact ⟨j, Nat.lt_succ_self j, _, hbr, hconj⟩
      · rintro ⟨i, hi, q1, h1, h2⟩
        by_cases eij : i = j
        · subst eij
          rw [hbr] at h1
          cases Option.some.inj h1
          exact .inr (conj_uniq hr0 h2 hconj)
        · exact .inl ⟨i, by omega, q1, h1, h2⟩
    obtain ⟨rs, y3, y4, y5, y6, rfl, sG, hF, lrs, mem⟩ := hP
    rw [show (refsV gs).length = gs.length from List.length_map _] at lrs mem
    walk_at "rd"
    refine r_listN hF (fun p ps hp eq tq => ?_)
    have s5 := same_new (o := .lst (refsV ps)) hp
    refine q _ p ps (sG.trans s5) (sG.free hp) upd_same (tq.k s5) (fun c => ?_) (by
      have := congrArg List.length eq
      rw [List.length_map] at this
      omega)
    rw [eq, mem]
    constructor
    · rintro ⟨i, _, q1, h1, h2⟩
      exact ⟨q1, List.mem_of_getElem? h1, h2⟩
    · rintro ⟨q1, h1, h2⟩
      obtain ⟨i, hi⟩ := List.mem_iff_getElem?.mp h1
      exact ⟨i, (List.getElem?_eq_some_iff.mp hi).1, q1, hi, h2⟩

end

section
variable {P : Program} {w : World} {K : PySem.W.Frag} {mg : Str → Option Value} {base : Heap} {a : Ad}
theorem small_bnd {n : Nat} {ps : List (Addr × List Nat)} (n6 : n ≤ 6) (hp : ∀ q ∈ ps, Perm n q.2) : Bnd n (ps.map (·.2)) (extP n n) (extP n n).length ∧ (extP n n).length ≤ 999 ∧ (extP n n).length ≤ Builtin.Math.factorialNat n := by
  refine ⟨bnd_small n6 fun m hm => ?_, ?_, (fact_ok n (by omega)).2.1 n6⟩
  · obtain ⟨p, h1, rfl⟩ := List.mem_map.mp hm
    exact hp p h1
  · have := (ext_len n6).1
    omega
def spNormal (K : PySem.W.Frag) : Sp := fun vs H Q _ => ∃ (n : Nat) (pg pe : Addr) (gs : List (Addr × List Nat)) (e : List Nat), vs = [.ref pg, .ref pe] ∧ SqL K H pg (refsV gs) ∧ (∀ q ∈ gs, SqT K H q.1 (q.2.map iV)) ∧ SqT K H pe (e.map iV) ∧ Perm n e ∧ (∀ q ∈ gs, Perm n q.2) ∧ 1 ≤ n ∧ n ≤ 5 ∧ gs.length ≤ 1000 ∧
  ∀ (H' : Hp) (p : Addr) (zs : List (Addr × List Nat)) (cs : List (List Nat)), Same H H' → H p = none → H' p = some (.lst (refsV zs)) → TupR H' zs → sortedR zs → (∀ c, c ∈ cs ↔ ∃ q ∈ gs, isConj n q.2 e c) → Group n cs (zs.map (·.2)) → Q (.ref p) H'
theorem ok_normal_part (T : Txt K mg a) : FnOk P w K mg base CX0 5 a.f_normal_part a.d_normal_part ["group", "element"] (spNormal K) := by
  have G_generated := ok_generated (P := P) (w := w) (base := base) T
  have G_turned := ok_turned (P := P) (w := w) (base := base) T
  refine T.F_normal_part.ok sc_normal_part (fun vs H Q E h => ?_) (fun cdv A outer s H vs Q E hr h => ?_)
  · obtain ⟨n, pg, pe, gs, e, rfl, _⟩ := h
    rfl
  · obtain ⟨n, pg, pe, gs, e, rfl, hS, hT, hE, he, hgs, n1, n5, lgs, q⟩ := h
    refine ⟨_, (pss_one (ps_ret (pe_call (G_generated) (hr.mono (by first | decide | omega)) (by rfl) T.g_generated T.F_generated.kp T.b_generated .nil pass0 (pa_cons (pe_callB (call_lenQK (K := K) rfl) (by rfl) T.z_len (by decide +kernel) (pa_cons (pv 1) pa_nil)) (pa_cons (pe_call (G_turned) (hr.mono (by first | decide | omega)) (by rfl) T.g_turned T.F_turned.kp T.b_turned .nil pass0 (pa_cons (pv 0) (pa_cons (pv 1) pa_nil))) pa_nil))))), ?_⟩
    walk_at "rd"
    refine r_lenT hE ?_
    rw [List.length_map, he.len]
    walk_at "rd"
    refine ⟨n, pg, pe, gs, e, rfl, hS, hT, hE, he, hgs, by omega, lgs, fun H1 p cs s1 fp hC cT mem lcs => ?_⟩
    walk_at "rd"
    have hcp : ∀ c ∈ cs, Perm n c.2 := fun c hc => by
      obtain ⟨q1, h1, h2⟩ := (mem c.2).mp (List.mem_map_of_mem hc)
      exact conj_perm (hgs q1 h1) he h2
    obtain ⟨b1, b2, b3⟩ := small_bnd (ps := cs) (n := n) (by omega) hcp
    exact ⟨n, p, cs, extP n n, (extP n n).length, rfl, SqL.of hC, cT, b1, n1, by omega, b2, b3, by omega, fun H2 p2 zs s2 fp2 hZ zT srt grp => q H2 p2 zs (cs.map (·.2)) (s1.trans s2) (s1.free fp2) hZ zT srt mem grp⟩
def spLBack (K : PySem.W.Frag) : Sp := fun vs H Q _ => ∃ (n : Nat) (pg : Addr) (g : List Nat), vs = [.ref pg] ∧ PlT H pg (g.map iV) ∧ Perm n g ∧ n ≤ 1000 ∧
  ∀ (H' : Hp) (t : Addr) (b : List Nat), Same H H' → H' t = some (.tup (b.map iV)) → b.length = n → (∀ i, i < n → at0 b (at0 g i) = i) → Q (.ref t) H'
def waysN (n : Nat) (p : List Nat) : List Nat := (List.range n).map fun j : Nat => (p.map fun n : Nat => (n : Int)).idxOf (j : Int)
theorem ways_at {n : Nat} {p : List Nat} (h : Perm n p) {i : Nat} (hi : i < n) : at0 (waysN n p) (at0 p i) = i := by
  have hj := h.at_lt hi
  have hm : ((at0 p i : Nat) : Int) ∈ p.map fun n : Nat => (n : Int) := List.mem_map_of_mem (List.mem_of_getElem? (at0_some (by rw [h.len]; exact hi)))
  have hx := List.idxOf_lt_length_of_mem hm
  have hg := List.getElem_idxOf hx
  have e : at0 (waysN n p) (at0 p i) = (p.map fun n : Nat => (n : Int)).idxOf ((at0 p i : Nat) : Int) := by
    unfold waysN
    generalize at0 p i = j at hj
    unfold at0
    rw [List.getD_eq_getElem?_getD, List.getElem?_map, List.getElem?_range hj]
    rfl
  rw [e]
  generalize (p.map fun n : Nat => (n : Int)).idxOf ((at0 p i : Nat) : Int) = k at hx hg
  rw [List.length_map] at hx
  rw [List.getElem_map] at hg
  have h1 := at0_some hx
  rw [List.getElem?_eq_getElem hx] at h1
  have h2 := Option.some.inj h1
  exact h.inj (by rw [← h.len]; exact hx) hi (by omega)
theorem ok_l_back (T : Txt K mg a) : FnOk P w K mg base CX0 1 a.f_l_back a.d_l_back ["p"] (spLBack K) := by
  refine T.F_l_back.ok sc_l_back (fun vs H Q E h => ?_) (fun cdv A outer s H vs Q E hr h => ?_)
  · obtain ⟨n, pg, g, rfl, _⟩ := h
    rfl
  · obtain ⟨n, pg, g, rfl, hG0, hg, n1000, q⟩ := h
    have zl : (sizeLine : Nat) = 16777216 := by decide
    refine ⟨_, (pss_one (ps_ret (pe_callTy (call_tupOfK (K := K) rfl) (by rfl) T.z_tuple (by decide +kernel) (pa_cons (pe_lc (own := [("place", 1)]) (g := gName 1) (tt := tYes) rfl sc_l_back.nd (pi_range1 (by rfl) T.z_range (pa_cons (pe_callB (call_lenQK (K := K) rfl) (by rfl) T.z_len (by decide +kernel) (pa_cons (pv 0) pa_nil)) pa_nil)) (blkOk_by (N := N_l_back) (sc := (defScope s_l_back)) (by decide +kernel)) (fun _ _ _ _ _ => pg_name (i := 1) sc_l_back.nd rfl (by first | exact Or.inl rfl | exact Or.inr rfl)) (fun _ _ _ _ _ => pts_nil) (fun _ _ _ _ _ => (pe_bmZ PySem.F.plainAttrs_tuple PySem.F.slot_tuple_index PySem.F.type_tuple_index (mt_indexT (K := K) rfl) (pv 0) (pa_cons (pv 1) pa_nil)))) pa_nil)))), ?_⟩
    walk_at "rd"
    refine r_lenT hG0.sq ?_
    rw [List.length_map, hg.len]
    walk_at "rd"
    refine r_rng1' (by omega) (by omega) ?_
    rw [Int.toNat_natCast]
    intro D hD
    refine lc_range (lo := 0) (n := n) (fun j G2 => Same H G2 ∧ G2 D = some (.lst ((waysN j g).map iV))) ⟨same_new hD, by rw [upd_same]; rfl⟩ (fun j G2 hj hQ => ?_) (fun G2 hQ => ?_)
    · obtain ⟨sG, hG⟩ := hQ
      refine ⟨rfl, r_yes (iteT ?_)⟩
      walk_at "rd"
      rw [Int.zero_add]
      refine r_bmZ ?_
      walk_at "rd"
      refine ⟨⟨_, _, rfl, hG0.k sG⟩, ?_⟩
      walk_at "rd"
      have hA2 : SqT K G2 pg (g.map iV) := (hG0.k sG).sq
      rw [ints_nat] at hA2
      obtain ⟨i, hi, ei⟩ := perm_has hg hj
      refine r_idxT hA2 (by rw [← ei]; exact List.mem_map_of_mem (List.mem_of_getElem? (at0_some (by rw [hg.len]; exact hi)))) ?_
      refine ⟨_, hG, ?_, same_mut sG hD, ?_⟩
      · rw [List.length_map]
        show ((List.range j).map _).length < _
        rw [List.length_map, List.length_range]
        omega
      · rw [upd_same]
        show _ = some (HO.lst (((List.range (j + 1)).map _).map iV))
        rw [List.range_succ, List.map_append, List.map_append]
        rfl
    obtain ⟨sG, hG⟩ := hQ
    walk_at "rd"
    refine r_tupL (SqL.of hG) (fun pt ht => ?_)
    exact q _ pt (waysN n g) (sG.trans (same_new ht)) upd_same (by unfold waysN; rw [List.length_map, List.length_range]) fun i hi => ways_at hg hi
def spLNormal (K : PySem.W.Frag) : Sp := fun vs H Q _ => ∃ (n : Nat) (pg pp pe : Addr) (gs : List (Addr × List Nat)) (e : List Nat), vs = [.ref pg, .ref pp, .ref pe] ∧ SqL K H pg (refsV gs) ∧ PlR H gs ∧ H pp = some (.lst []) ∧ SqT K H pe (e.map iV) ∧ Perm n e ∧ (∀ q ∈ gs, Perm n q.2) ∧ 1 ≤ n ∧ n ≤ 5 ∧ gs.length ≤ 1000 ∧
  ∀ (H' : Hp) (p : Addr) (zs : List (Addr × List Nat)) (cs : List (List Nat)), Same H H' → H p = none → H' p = some (.lst (refsV zs)) → PlR H' zs → sortedR zs → (∀ c, c ∈ cs ↔ ∃ q ∈ gs, isConj n q.2 e c) → Group n cs (zs.map (·.2)) → Q (.ref p) H'
theorem ok_l_normal (T : Txt K mg a) : FnOk P w K mg base CX0 3 a.f_l_normal a.d_l_normal ["group", "part", "element"] (spLNormal K) := by
  have G_l_back := ok_l_back (P := P) (w := w) (base := base) T
  have G_l_closed := ok_l_closed (P := P) (w := w) (base := base) T
  have G_l_then := ok_l_then (P := P) (w := w) (base := base) T
  refine T.F_l_normal.ok sc_l_normal (fun vs H Q E h => ?_) (fun cdv A outer s H vs Q E hr h => ?_)
  · obtain ⟨n, pg, pp, pe, gs, e, rfl, _⟩ := h
    rfl
  · obtain ⟨n, pg, pp, pe, gs, e, rfl, hS, hT, hP0, hE, he, hgs, n1, n5, lgs, q⟩ := h
    have zl : (sizeLine : Nat) = 16777216 := by decide
    refine ⟨_, (pss_cons (ps_set (i := 3) sc_l_normal.nd rfl (Or.inl rfl) (pe_callTy (call_lstOfK (K := K) rfl) (by rfl) T.z_list (by decide +kernel) (pa_cons (pv 1) pa_nil)))
      (pss_cons (ps_for PassesOwn.never rfl (pi_listK (K := K) rfl (pv 0)) (pg_name (i := 4) sc_l_normal.nd rfl (Or.inl rfl)) (pss_one (ps_expr (bmK (K := K) rfl (pe_bm PySem.F.plainAttrs_list PySem.F.slot_list_append PySem.F.type_list_append mt_append (pv 3) (pa_cons (pe_call (G_l_then) (hr.mono (by first | decide | omega)) (by rfl) T.g_l_then T.F_l_then.kp T.b_l_then .nil pass0 (pa_cons (pe_call (G_l_then) (hr.mono (by first | decide | omega)) (by rfl) T.g_l_then T.F_l_then.kp T.b_l_then .nil pass0 (pa_cons (pe_call (G_l_back) (hr.mono (by first | decide | omega)) (by rfl) T.g_l_back T.F_l_back.kp T.b_l_back .nil pass0 (pa_cons (pv 4) pa_nil)) (pa_cons (pv 2) pa_nil))) (pa_cons (pv 4) pa_nil))) pa_nil))))))
      (pss_one (ps_ret (pe_call (G_l_closed) (hr.mono (by first | decide | omega)) (by rfl) T.g_l_closed T.F_l_closed.kp T.b_l_closed .nil pass0 (pa_cons (pe_callB (call_lenQK (K := K) rfl) (by rfl) T.z_len (by decide +kernel) (pa_cons (pv 2) pa_nil)) (pa_cons (pe_callB (cr_sortSR (K := K) (P := P) (w := w) rfl rfl rfl rfl) (by rfl) T.z_sorted (by decide +kernel) (pa_cons (pe_callTy (cr_setR (K := K) (P := P) (w := w) rfl rfl rfl rfl (hu64 hr)) (by rfl) T.z_set (by decide +kernel) (pa_cons (pv 3) pa_nil)) pa_nil)) pa_nil))))))), ?_⟩
    walk_at "rd"
    refine r_lstL (SqL.of hP0) (fun md hmd => ?_)
    have s1 := same_new (o := .lst []) hmd
    have hM0 : (upd H md (.lst [])) md = some (.lst (refsV [])) := upd_same
    generalize upd H md (.lst []) = H1 at *
    walk_at "rd"
    refine ⟨⟨_, s1.seq hS⟩, ?_⟩
    refine for_list (xs := refsV gs) (fun j σ G => ∃ ms y4, σ = [some (.ref pg), some (.ref pp), some (.ref pe), some (.ref md), y4] ∧ Same H G ∧ G md = some (.lst (refsV ms)) ∧ PlR G ms ∧ ms.length = j ∧ (∀ m ∈ ms, ∃ q ∈ gs, isConj n q.2 e m.2) ∧ ∀ i, i < j → ∀ q, gs[i]? = some q → ∃ m ∈ ms, isConj n q.2 e m.2)
      ⟨[], none, rfl, s1, hM0, (fun p hp => nomatch hp), rfl, (fun p hp => nomatch hp), fun i hi => absurd hi (Nat.not_lt_zero _)⟩ (fun j σ G _ hP => ?_) (fun j x σ G hx hP => ?_) (fun σ G hP => ?_)
    · obtain ⟨ms, y4, rfl, sG, _⟩ := hP
      exact sG.seq hS
    · obtain ⟨ms, y4, rfl, sG, hM, mT, lms, h1, h2⟩ := hP
      have hj := (List.getElem?_eq_some_iff.mp hx).1
      rw [show (refsV gs).length = gs.length from List.length_map _] at hj
      obtain ⟨⟨b, r⟩, hbr, rfl⟩ : ∃ q1, gs[j]? = some q1 ∧ V.ref q1.1 = x := by
        unfold refsV at hx
        rw [List.getElem?_map] at hx
        exact Option.map_eq_some_iff.mp hx
      have hr0 : Perm n r := hgs _ (List.mem_of_getElem? hbr)
      have hb : PlT G b (r.map iV) := (hT _ (List.mem_of_getElem? hbr)).k sG
      have hE1 := same_t sG hE
      walk_at "rd"
      refine ⟨ty_l (SqL.of hM), ?_⟩
      walk_at "rd"
      refine ⟨n, b, r, rfl, hb, hr0, by omega, fun G2 t bk s2 ht lbk hbk => ?_⟩
      have lb : ∀ x ∈ bk, x < n := fun x hx => by
        obtain ⟨i, hi⟩ := List.mem_iff_getElem?.mp hx
        have hil := (List.getElem?_eq_some_iff.mp hi).1
        obtain ⟨p, hp, rfl⟩ := perm_has hr0 (show i < n by omega)
        rw [at0_some hil, hbk p hp] at hi
        rw [← Option.some.inj hi]
        exact hp
      walk_at "rd"
      refine ⟨.ref t, .ref pe, bk, e, rfl, row_of (SqT.of ht), row_of (same_t s2 hE1), fun x hx => by rw [he.len]; exact lb x hx, by omega, fun G3 t3 s3 ht3 => ?_⟩
      walk_at "rd"
      refine ⟨.ref t3, .ref b, thenN bk e, r, rfl, row_of ht3.sq, row_of ((hb.k s2).k s3).sq, fun x hx => ?_, by rw [then_len]; omega, fun G4 t4 s4 ht4 => ?_⟩
      · obtain ⟨y, hy, rfl⟩ := List.mem_map.mp hx
        rw [hr0.len]
        exact he.at_lt (lb y hy)
      have hconj := conj_back (e := e) hr0 lbk hbk
      have s24 := s2.trans (s3.trans s4)
      have hM4 := s24 _ _ hM
      have mT4 := mT.k s24
      have sG4 := sG.trans s24
      have hmdH : H md = none := hmd
      walk_at "rd"
      refine r_append hM4 (by show (ms.map _).length < _; rw [List.length_map]; omega) ?_
      have nl : ∀ (ob : Obj) (xs : List V), HO.lst (refsV ms) ≠ .frz ob (.tup xs) := fun ob xs e => nomatch e
      refine ⟨ms ++ [(t4, thenN (thenN bk e) r)], _, rfl, same_mut sG4 hmdH, ?_, PlR.snoc (mT4.put hM4 nl) (ht4.put hM4 fun ob => nl ob _), by rw [List.length_append, lms]; rfl, fun m hm => ?_, fun i hi q1 hq1 => ?_⟩
      · rw [upd_same]
        unfold refsV
        rw [List.map_append]
        rfl
      · rcases List.mem_append.mp hm with hm | hm
        · exact h1 m hm
        · rw [List.mem_singleton.mp hm]
          exact ⟨_, List.mem_of_getElem? hbr, hconj⟩
      · by_cases eij : i = j
        · subst eij
          rw [hbr] at hq1
          cases Option.some.inj hq1
          exact ⟨_, List.mem_append_right _ List.mem_cons_self, hconj⟩
        · obtain ⟨m, hm, hc⟩ := h2 i (by omega) q1 hq1
          exact ⟨m, List.mem_append_left _ hm, hc⟩
    obtain ⟨ms, y4, rfl, sG, hM, mT, lms, h1, h2⟩ := hP
    rw [show (refsV gs).length = gs.length from List.length_map _] at lms h2
    have memM : ∀ c, c ∈ ms.map (·.2) ↔ ∃ q ∈ gs, isConj n q.2 e c := fun c => by
      constructor
      · intro hc
        obtain ⟨m, hm, rfl⟩ := List.mem_map.mp hc
        exact h1 m hm
      · rintro ⟨q1, hq1, hc⟩
        obtain ⟨i, hi⟩ := List.mem_iff_getElem?.mp hq1
        obtain ⟨m, hm, hc2⟩ := h2 i (List.getElem?_eq_some_iff.mp hi).1 q1 hi
        rw [conj_uniq (hgs q1 hq1) hc hc2]
        exact List.mem_map_of_mem hm
    walk_at "rd"
    refine r_lenT (same_t sG hE) ?_
    rw [List.length_map, he.len]
    walk_at "rd"
    refine ⟨md, ms, rfl, SqL.of hM, mT.sq, fun rs nd hrs => conj_few n5 he nd fun r hr => ?_, fun sa us hsa hsub hall hnd => ?_⟩
    · obtain ⟨q1, hq1, hc⟩ := (memM r).mp (hrs r hr)
      exact ⟨q1.2, hgs q1 hq1, hc⟩
    walk_at "rd"
    have s6 := same_new (o := SetTO P w sa (us.map toI)) hsa
    have hus : PlR (upd G sa (SetTO P w sa (us.map toI))) us := fun q hq => (mT q (hsub q hq)).k s6
    have memU : ∀ c, c ∈ us.map (·.2) ↔ ∃ q ∈ gs, isConj n q.2 e c := fun c => by
      rw [← memM]
      constructor
      · intro h
        obtain ⟨q, hq, rfl⟩ := List.mem_map.mp h
        exact List.mem_map_of_mem (hsub q hq)
      · intro h
        obtain ⟨q, hq, rfl⟩ := List.mem_map.mp h
        exact hall q hq
    refine ⟨sa, us, rfl, upd_same, (fun p hp => ⟨(hus p hp).sq, fun e0 => ?_⟩), fun zs pz hperm hsrt hpz => ?_⟩
    · obtain ⟨q1, hq1, hc⟩ := (memU p.2).mp (List.mem_map_of_mem hp)
      have := hc.1
      rw [e0] at this
      have h0 : 0 = n := this
      omega
    have s7 := s6.trans (same_new (o := .lst (refsV zs)) hpz)
    have hZ : (upd (upd G sa (SetTO P w sa (us.map toI))) pz (.lst (refsV zs))) pz = some (.lst (refsV zs)) := upd_same
    have hzs : PlR (upd (upd G sa (SetTO P w sa (us.map toI))) pz (.lst (refsV zs))) zs := fun q hq => (hus q (hperm.mem_iff.mp hq)).k (same_new (o := .lst (refsV zs)) hpz)
    generalize upd (upd G sa (SetTO P w sa (us.map toI))) pz (.lst (refsV zs)) = G7 at *
    have memZ : ∀ c, c ∈ zs.map (·.2) ↔ ∃ q ∈ gs, isConj n q.2 e c := fun c => by
      rw [(hperm.map (·.2)).mem_iff, memU]
    have hzp : ∀ c ∈ zs, Perm n c.2 := fun c hc => by
      obtain ⟨q1, h1, h2⟩ := (memZ c.2).mp (List.mem_map_of_mem hc)
      exact conj_perm (hgs q1 h1) he h2
    obtain ⟨b1, b2, b3⟩ := small_bnd (ps := zs) (n := n) (by omega) hzp
    have s07 := sG.trans s7
    walk_at "rd"
    exact ⟨n, pz, zs, extP n n, (extP n n).length, rfl, SqL.of hZ, hzs.sq, b1, n1, by omega, b2, fun H2 p2 ys s2 fp2 hY yT srt grp => q H2 p2 ys (zs.map (·.2)) (s07.trans s2) (s07.free fp2) hY yT srt memZ grp⟩

end

section
variable {P : Program} {w : World} {K : PySem.W.Frag} {mg : Str → Option Value} {base : Heap} {a : Ad}
theorem gen_perm {n : Nat} {gs : List (List Nat)} (h : ∀ m ∈ gs, Perm n m) {x : List Nat} (g : Gen n gs x) : Perm n x := by
  induction g with
  | one => exact Perm.id n
  | step _ hm ih => exact ih.then (h _ hm)
theorem fits_grp {zs : List (Addr × List Nat)} {n : Nat} {cs : List (List Nat)} (n5 : n ≤ 5) (hc : ∀ m ∈ cs, Perm n m) (g : Group n cs (zs.map (·.2))) : fits 4 (.list ((zs.map (·.2)).map rowD)) := by
  have zl : (sizeLine : Nat) = 16777216 := by decide
  have h1 := nodup_le_len g.nd (b := extP n n) fun x hx => (gen_perm hc ((g.all x).mp hx)).ext
  have h2 := (ext_len (n := n) (by omega)).1
  refine ⟨by rw [List.length_map]; omega, fun d hd => ?_⟩
  obtain ⟨r, hr, rfl⟩ := List.mem_map.mp hd
  have := (gen_perm hc ((g.all r).mp hr)).len
  exact fits_row 1 (by omega)
def sp_law (K : PySem.W.Frag) : Sp := fun vs H Q _ => ∃ (a : Addr) (ns : List Int), vs = [.ref a] ∧ SqL K H a (ns.map V.int) ∧ ns.length ≤ 63 ∧ ∀ H', Q (.bl true) H'
theorem ok_law (T : Txt K mg a) : FnOk P w K mg base CX0 6 a.f_law a.d_law ["script"] (sp_law K) := by
  have G_l_cell := ok_l_cell (P := P) (w := w) (base := base) T
  have G_l_closed := ok_l_closed (P := P) (w := w) (base := base) T
  have G_l_generators := ok_l_generators (P := P) (w := w) (base := base) T
  have G_l_normal := ok_l_normal (P := P) (w := w) (base := base) T
  have G_l_numbers := ok_l_numbers (P := P) (w := w) (base := base) T
  have G_l_same := ok_l_same (P := P) (w := w) (base := base) T
  have G_normal_part := ok_normal_part (P := P) (w := w) (base := base) T
  refine T.F_law.ok sc_law (fun vs H Q E h => ?_) (fun cdv A outer s H vs Q E hr h => ?_)
  · obtain ⟨l, ns, rfl, _⟩ := h
    rfl
  · obtain ⟨l, sc, rfl, hS, _, q⟩ := h
    have zl : (sizeLine : Nat) = 16777216 := by decide
    refine ⟨_, (pss_cons (ps_set (i := 1) sc_law.nd rfl (Or.inl rfl) (pe_call (G_l_numbers) (hr.mono (by first | decide | omega)) (by rfl) T.g_l_numbers T.F_l_numbers.kp T.b_l_numbers .nil pass0 (pa_cons (pe_call (G_l_cell) (hr.mono (by first | decide | omega)) (by rfl) T.g_l_cell T.F_l_cell.kp T.b_l_cell .nil pass0 (pa_cons (pv 0) (pa_cons pe_int pa_nil))) (pa_cons pe_int pa_nil))))
      (pss_cons (ps_set (i := 2) sc_law.nd rfl (Or.inl rfl) (pe_op op_add pe_int (pe_op op_mod (pe_ix (ix_listK (K := K) rfl) (pv 1) pe_int (fun _ _ => rfl)) pe_int)))
      (pss_cons (ps_if (pt_cmpR op_eq (pe_op op_mod (pe_ix (ix_listK (K := K) rfl) (pv 1) pe_int (fun _ _ => rfl)) pe_int) pe_int (nomark _)) (pss_one (ps_set (i := 2) sc_law.nd rfl (Or.inl rfl) pe_int)) pss_nil)
      (pss_cons (ps_set (i := 3) sc_law.nd rfl (Or.inl rfl) (pe_call (G_l_closed) (hr.mono (by first | decide | omega)) (by rfl) T.g_l_closed T.F_l_closed.kp T.b_l_closed .nil pass0 (pa_cons (pv 2) (pa_cons (pe_call (G_l_generators) (hr.mono (by first | decide | omega)) (by rfl) T.g_l_generators T.F_l_generators.kp T.b_l_generators .nil pass0 (pa_cons (pe_slice (sl_listK (K := K) rfl) (pv 1) (po_some pe_int) po_none) (pa_cons (pv 2) pa_nil))) pa_nil))))
      (pss_cons (ps_set (i := 4) sc_law.nd rfl (Or.inl rfl) (pe_callTy (call_lstOfK (K := K) rfl) (by rfl) T.z_list (by decide +kernel) (pa_cons (pv 3) pa_nil)))
      (pss_cons (ps_for PassesOwn.never rfl (pi_range1 (by rfl) T.z_range (pa_cons pe_int pa_nil)) (pg_name (i := 5) sc_law.nd rfl (Or.inl rfl)) (pss_cons (ps_set (i := 6) sc_law.nd rfl (Or.inl rfl) (pe_ix (ix_listK (K := K) rfl) (pv 3) (pe_op op_mod (pe_ix (ix_listK (K := K) rfl) (pv 1) (pe_op op_add pe_int (pv 5)) (fun _ _ => rfl)) (pe_callB (call_lenQK (K := K) rfl) (by rfl) T.z_len (by decide +kernel) (pa_cons (pv 3) pa_nil))) (fun _ _ => rfl)))
      (pss_cons (ps_set (i := 7) sc_law.nd rfl (Or.inl rfl) (pe_call (G_normal_part) (hr.mono (by first | decide | omega)) (by rfl) T.g_normal_part T.F_normal_part.kp T.b_normal_part .nil pass0 (pa_cons (pv 4) (pa_cons (pv 6) pa_nil))))
      (pss_cons (ps_if (pt_not (pt_val (pe_call (G_l_same) (hr.mono (by first | decide | omega)) (by rfl) T.g_l_same T.F_l_same.kp T.b_l_same .nil pass0 (pa_cons (pv 7) (pa_cons (pe_call (G_l_normal) (hr.mono (by first | decide | omega)) (by rfl) T.g_l_normal T.F_l_normal.kp T.b_l_normal .nil pass0 (pa_cons (pv 3) (pa_cons (pe_lst pa_nil) (pa_cons (pv 6) pa_nil)))) pa_nil))))) (pss_one (ps_ret pe_bl)) pss_nil)
      (pss_one (ps_expr (bm0K (K := K) rfl (pe_bm0 PySem.F.plainAttrs_list PySem.F.slot_list_clear PySem.F.type_list_clear mt_clear (pv 7)))))))))
      (pss_one (ps_ret (pe_cmpR (op_eqDK (K := K) rfl hr.units) (pv 4) (pv 3) (nomark _)))))))))), ?_⟩
    walk_at "rd"
    refine ⟨l, sc, 0, rfl, hS, by decide, ?_⟩
    walk_at "rd"
    refine ⟨_, 22, rfl, by omega, fun H1 pn ns s1 hpn hN hlen hz => ?_⟩
    walk_at "rd"
    refine r_ixL (SqL.of hN) (at_int (by decide) (by omega)) ?_
    walk_at "rd1"
    walk_at "rd1"
    walk_at "rd1"
    obtain ⟨n0, en, n1, n5⟩ : ∃ n : Nat, 1 + ns.getD (0 : Int).toNat 0 % 4 = (n : Int) ∧ 1 ≤ n ∧ n ≤ 5 := by
      have := emod_rng (ns.getD (0 : Int).toNat 0) (b := 4) (by decide)
      exact ⟨(1 + ns.getD (0 : Int).toNat 0 % 4).toNat, by omega, by omega, by omega⟩
    rw [en]
    clear en
    with_reducible refine r_cutJ (fun σ G => G = H1 ∧ ∃ n : Nat, 1 ≤ n ∧ n ≤ 5 ∧ σ = [some (.ref l), some (.ref pn), some (iV n), none, none, none, none, none]) (fun σ G hJ => ?_) (fun key => ?_)
    rotate_left
    · walk_at "rd"
      refine r_ixL (SqL.of hN) (at_int (by decide) (by omega)) ?_
      walk_at "rd"
      refine r_iteD (fun _ => ?_) (fun _ => ?_)
      · exact r_set (r_c (key _ _ ⟨rfl, 5, by decide, by decide, rfl⟩))
      · exact r_next (key _ _ ⟨rfl, n0, n1, n5, rfl⟩)
    clear n1 n5
    obtain ⟨rfl, n, n1, n5, rfl⟩ := hJ
    walk_at "rd"
    refine r_slL (SqL.of hN) (fun p8 hp8 => ?_)
    rw [show cutV (ns.map V.int) (some (2 : Int)) none = (ns.map V.int).drop 2 from cut_drop _ 2, ← List.map_drop]
    have t1 := same_new (o := .lst ((ns.drop 2).map V.int)) hp8
    walk_at "rd"
    refine ⟨p8, ns.drop 2, n, rfl, SqL.of upd_same, by rw [List.length_drop]; omega, n1, by omega, fun H2 pp ps s2 _ hP pT hps lps => ?_⟩
    have hN2 := (t1.trans s2) _ _ hN
    obtain ⟨b1, b2, b3⟩ := small_bnd (ps := ps) (n := n) (by omega) hps
    walk_at "rd"
    refine ⟨n, pp, ps, extP n n, (extP n n).length, rfl, SqL.of hP, pT, b1, n1, by omega, b2, fun H3 pg gs s3 fg hG gT srtG grp => ?_⟩
    have hpsM : ∀ m ∈ ps.map (·.2), Perm n m := fun m hm => by
      obtain ⟨p, hp, rfl⟩ := List.mem_map.mp hm
      exact hps p hp
    have gperm : ∀ q ∈ gs, Perm n q.2 := fun q hq => gen_perm hpsM ((grp.all q.2).mp (List.mem_map_of_mem hq))
    have lgs : gs.length ≤ 999 := by
      have := b1.le (fun m hm => hm) grp.nd fun x hx => (grp.all x).mp hx
      rw [List.length_map] at this
      omega
    have gpos : 0 < gs.length := by
      have := List.length_pos_of_mem ((grp.all _).mpr .one)
      rw [List.length_map] at this
      exact this
    have hN3 := s3 _ _ hN2
    clear grp srtG b1 b2 b3 hP pT hps lps hpsM hN hN2 t1 s2 s3 hp8 fg
    walk_at "rd"
    refine r_lstL (SqL.of hG) (fun ph hph => ?_)
    have s4 := same_new (o := .lst (refsV gs)) hph
    have hH4 : (upd H3 ph (.lst (refsV gs))) ph = some (.lst (refsV gs)) := upd_same
    have hG4 := s4 _ _ hG
    have gT4 := gT.k s4
    have hN4 := s4 _ _ hN3
    generalize upd H3 ph (.lst (refsV gs)) = H4 at *
    clear hG gT hN3 s4 hph
    walk_at "rd"
    refine r_rng1' (by decide) (by decide) ?_
    refine for_range (lo := 0) (n := 5) (fun k σ G => ∃ y5 y6 y7, σ = [some (.ref l), some (.ref pn), some (iV n), some (.ref pg), some (.ref ph), y5, y6, y7] ∧ Same H4 G) ⟨none, none, none, rfl, Same.refl H4⟩ (fun k σ G hk hP => ?_) (fun σ G hP => ?_)
    rotate_left
    · obtain ⟨y5, y6, y7, rfl, sG⟩ := hP
      have gT5 := gT4.k sG
      walk_at "rd"
      refine r_eqD (dp_rows (ps := gs) (SqL.of (sG _ _ hH4)) gT5.sq) (dp_rows (ps := gs) (SqL.of (sG _ _ hG4)) gT5.sq) (shaped_rows _) (shaped_rows _) ?_
      rw [eqv_lrows, decide_eq_true rfl]
      exact q _
    obtain ⟨y5, y6, y7, rfl, sG⟩ := hP
    have gT5 := gT4.k sG
    have hG5 := sG _ _ hG4
    have hH5 := sG _ _ hH4
    walk_at "rd"
    refine r_ixL (SqL.of (sG _ _ hN4)) (at_int (by omega) (by omega)) ?_
    walk_at "rd"
    refine r_lenL (SqL.of hG5) ?_
    rw [show (refsV gs).length = gs.length from List.length_map _]
    walk_at "rd"
    have hz0 : (0 : Int) < (gs.length : Int) := by omega
    refine r_mod (j := (gs.length : Int)) hz0 ?_
    have g := emod_rng (ns.getD (15 + (0 + (k : Int))).toNat 0) hz0
    obtain ⟨i, ei, hi⟩ := nat_of g.1 g.2
    rw [ei]
    obtain ⟨⟨b, r⟩, hbr⟩ : ∃ q, gs[i]? = some q := ⟨_, List.getElem?_eq_getElem (by omega)⟩
    refine r_ixL (SqL.of hG5) (at_refs hbr) ?_
    have hb : PlT G b (r.map iV) := gT5 _ (List.mem_of_getElem? hbr)
    have hrp : Perm n r := gperm _ (List.mem_of_getElem? hbr)
    walk_at "rd"
    refine ⟨n, ph, b, gs, r, rfl, SqL.of hH5, gT5.sq, hb.sq, hrp, gperm, n1, n5, by omega, fun G2 pt zt ct s2 ft hT zT srtT memT grpT => ?_⟩
    have ctp : ∀ m ∈ ct, Perm n m := fun m hm => by
      obtain ⟨q1, h1, h2⟩ := (memT m).mp hm
      exact conj_perm (gperm q1 h1) hrp h2
    walk_at "rd"
    refine ⟨Nat.zero_le _, fun pe hpe => ?_⟩
    have s3 := same_new (o := .lst []) hpe
    have s23 := s2.trans s3
    have hE3 : (upd G2 pe (.lst [])) pe = some (.lst []) := upd_same
    have hT3 := s3 _ _ hT
    have zT3 := zT.k s3
    generalize upd G2 pe (.lst []) = G3 at *
    walk_at "rd"
    refine ⟨n, pg, pe, b, gs, r, rfl, SqL.of (s23 _ _ hG5), gT5.k s23, hE3, (hb.k s23).sq, hrp, gperm, n1, n5, by omega, fun G4 pd zd cd s4 _ hD zdT srtD memD grpD => ?_⟩
    have hT4 := s4 _ _ hT3
    have zT4 := zT3.k s4
    have grpT2 : Group n cd (zt.map (·.2)) := grpT.same fun m => (memT m).trans (memD m).symm
    have cdp : ∀ m ∈ cd, Perm n m := fun m hm => ctp m ((memT m).mpr ((memD m).mp hm))
    have eqz : zt.map (·.2) = zd.map (·.2) := sort_uniq (grpT2.perm grpD) (List.pairwise_map.mpr srtT) (List.pairwise_map.mpr srtD)
    walk_at "rd"
    refine ⟨.ref pt, .ref pd, _, rfl, ?_, dp_rows (ps := zd) (SqL.of hD) zdT.sq, fits_grp n5 cdp grpD, ?_⟩
    · rw [← eqz]
      exact dp_rows (ps := zt) (SqL.of hT4) fun p hp => SqT.of (zT4 p hp)
    walk_at "rd"
    refine ⟨_, rfl, ty_l (SqL.of hT4), ?_⟩
    refine ⟨pt, _, rfl, rfl, hT4, ?_⟩
    exact ⟨_, _, _, rfl, same_mut (sG.trans (s23.trans s4)) (sG.free ft)⟩

end

theorem all_mk {l : PySem.W.OpenLaw} {w : World} {K : PySem.W.Frag} {h : Heap} {mg : Str → Option Value} {fa : Addr} (X : K.In h) (G : h.Ns mainGlobals mg) (hfa : mg "law" = some (.ref fa))
    {f0 : Addr} {od0 an0 : Option Addr} {sl0 : Array (Option Value)} {oc0 kV0 dc0 pm0 cd0 ct0 : Value}
    (a0 : PySem.W.nsIn K mainGlobals "then" = some (some (.ref f0))) (l0 : K.lookup f0 = some ⟨oc0, od0, .func (PySem.W.fnOf "then" "then" (defArgs s_then) (defBody s_then) (defScope s_then) .none kV0 dc0 pm0 an0 cd0 ct0), sl0⟩) (c0 : PySem.W.codeIn K cd0 "then" = true) (k0 : PySem.W.keepIn K (.ref f0) = true)
    {f1 : Addr} {od1 an1 : Option Addr} {sl1 : Array (Option Value)} {oc1 kV1 dc1 pm1 cd1 ct1 : Value}
    (a1 : PySem.W.nsIn K mainGlobals "generated" = some (some (.ref f1))) (l1 : K.lookup f1 = some ⟨oc1, od1, .func (PySem.W.fnOf "generated" "generated" (defArgs s_generated) (defBody s_generated) (defScope s_generated) .none kV1 dc1 pm1 an1 cd1 ct1), sl1⟩) (c1 : PySem.W.codeIn K cd1 "generated" = true) (k1 : PySem.W.keepIn K (.ref f1) = true)
    {f2 : Addr} {od2 an2 : Option Addr} {sl2 : Array (Option Value)} {oc2 kV2 dc2 pm2 cd2 ct2 : Value}
    (a2 : PySem.W.nsIn K mainGlobals "grown" = some (some (.ref f2))) (l2 : K.lookup f2 = some ⟨oc2, od2, .func (PySem.W.fnOf "grown" "grown" (defArgs s_grown) (defBody s_grown) (defScope s_grown) .none kV2 dc2 pm2 an2 cd2 ct2), sl2⟩) (c2 : PySem.W.codeIn K cd2 "grown" = true) (k2 : PySem.W.keepIn K (.ref f2) = true)
    {f3 : Addr} {od3 an3 : Option Addr} {sl3 : Array (Option Value)} {oc3 kV3 dc3 pm3 cd3 ct3 : Value}
    (a3 : PySem.W.nsIn K mainGlobals "products" = some (some (.ref f3))) (l3 : K.lookup f3 = some ⟨oc3, od3, .func (PySem.W.fnOf "products" "products" (defArgs s_products) (defBody s_products) (defScope s_products) .none kV3 dc3 pm3 an3 cd3 ct3), sl3⟩) (c3 : PySem.W.codeIn K cd3 "products" = true) (k3 : PySem.W.keepIn K (.ref f3) = true)
    {f4 : Addr} {od4 an4 : Option Addr} {sl4 : Array (Option Value)} {oc4 kV4 dc4 pm4 cd4 ct4 : Value}
    (a4 : PySem.W.nsIn K mainGlobals "normal_part" = some (some (.ref f4))) (l4 : K.lookup f4 = some ⟨oc4, od4, .func (PySem.W.fnOf "normal_part" "normal_part" (defArgs s_normal_part) (defBody s_normal_part) (defScope s_normal_part) .none kV4 dc4 pm4 an4 cd4 ct4), sl4⟩) (c4 : PySem.W.codeIn K cd4 "normal_part" = true) (k4 : PySem.W.keepIn K (.ref f4) = true)
    {f5 : Addr} {od5 an5 : Option Addr} {sl5 : Array (Option Value)} {oc5 kV5 dc5 pm5 cd5 ct5 : Value}
    (a5 : PySem.W.nsIn K mainGlobals "turned" = some (some (.ref f5))) (l5 : K.lookup f5 = some ⟨oc5, od5, .func (PySem.W.fnOf "turned" "turned" (defArgs s_turned) (defBody s_turned) (defScope s_turned) .none kV5 dc5 pm5 an5 cd5 ct5), sl5⟩) (c5 : PySem.W.codeIn K cd5 "turned" = true) (k5 : PySem.W.keepIn K (.ref f5) = true)
    {f6 : Addr} {od6 an6 : Option Addr} {sl6 : Array (Option Value)} {oc6 kV6 dc6 pm6 cd6 ct6 : Value}
    (a6 : PySem.W.nsIn K mainGlobals "_law_cell" = some (some (.ref f6))) (l6 : K.lookup f6 = some ⟨oc6, od6, .func (PySem.W.fnOf "_law_cell" "_law_cell" (defArgs s_l_cell) (defBody s_l_cell) (defScope s_l_cell) .none kV6 dc6 pm6 an6 cd6 ct6), sl6⟩) (c6 : PySem.W.codeIn K cd6 "_law_cell" = true) (k6 : PySem.W.keepIn K (.ref f6) = true)
    {f7 : Addr} {od7 an7 : Option Addr} {sl7 : Array (Option Value)} {oc7 kV7 dc7 pm7 cd7 ct7 : Value}
    (a7 : PySem.W.nsIn K mainGlobals "_law_numbers" = some (some (.ref f7))) (l7 : K.lookup f7 = some ⟨oc7, od7, .func (PySem.W.fnOf "_law_numbers" "_law_numbers" (defArgs s_l_numbers) (defBody s_l_numbers) (defScope s_l_numbers) .none kV7 dc7 pm7 an7 cd7 ct7), sl7⟩) (c7 : PySem.W.codeIn K cd7 "_law_numbers" = true) (k7 : PySem.W.keepIn K (.ref f7) = true)
    {f8 : Addr} {od8 an8 : Option Addr} {sl8 : Array (Option Value)} {oc8 kV8 dc8 pm8 cd8 ct8 : Value}
    (a8 : PySem.W.nsIn K mainGlobals "_law_same" = some (some (.ref f8))) (l8 : K.lookup f8 = some ⟨oc8, od8, .func (PySem.W.fnOf "_law_same" "_law_same" (defArgs s_l_same) (defBody s_l_same) (defScope s_l_same) .none kV8 dc8 pm8 an8 cd8 ct8), sl8⟩) (c8 : PySem.W.codeIn K cd8 "_law_same" = true) (k8 : PySem.W.keepIn K (.ref f8) = true)
    {f9 : Addr} {od9 an9 : Option Addr} {sl9 : Array (Option Value)} {oc9 kV9 dc9 pm9 cd9 ct9 : Value}
    (a9 : PySem.W.nsIn K mainGlobals "_law_permutation" = some (some (.ref f9))) (l9 : K.lookup f9 = some ⟨oc9, od9, .func (PySem.W.fnOf "_law_permutation" "_law_permutation" (defArgs s_l_permutation) (defBody s_l_permutation) (defScope s_l_permutation) .none kV9 dc9 pm9 an9 cd9 ct9), sl9⟩) (c9 : PySem.W.codeIn K cd9 "_law_permutation" = true) (k9 : PySem.W.keepIn K (.ref f9) = true)
    {f10 : Addr} {od10 an10 : Option Addr} {sl10 : Array (Option Value)} {oc10 kV10 dc10 pm10 cd10 ct10 : Value}
    (a10 : PySem.W.nsIn K mainGlobals "_law_then" = some (some (.ref f10))) (l10 : K.lookup f10 = some ⟨oc10, od10, .func (PySem.W.fnOf "_law_then" "_law_then" (defArgs s_l_then) (defBody s_l_then) (defScope s_l_then) .none kV10 dc10 pm10 an10 cd10 ct10), sl10⟩) (c10 : PySem.W.codeIn K cd10 "_law_then" = true) (k10 : PySem.W.keepIn K (.ref f10) = true)
    {f11 : Addr} {od11 an11 : Option Addr} {sl11 : Array (Option Value)} {oc11 kV11 dc11 pm11 cd11 ct11 : Value}
    (a11 : PySem.W.nsIn K mainGlobals "_law_closed" = some (some (.ref f11))) (l11 : K.lookup f11 = some ⟨oc11, od11, .func (PySem.W.fnOf "_law_closed" "_law_closed" (defArgs s_l_closed) (defBody s_l_closed) (defScope s_l_closed) .none kV11 dc11 pm11 an11 cd11 ct11), sl11⟩) (c11 : PySem.W.codeIn K cd11 "_law_closed" = true) (k11 : PySem.W.keepIn K (.ref f11) = true)
    {f12 : Addr} {od12 an12 : Option Addr} {sl12 : Array (Option Value)} {oc12 kV12 dc12 pm12 cd12 ct12 : Value}
    (a12 : PySem.W.nsIn K mainGlobals "_law_generators" = some (some (.ref f12))) (l12 : K.lookup f12 = some ⟨oc12, od12, .func (PySem.W.fnOf "_law_generators" "_law_generators" (defArgs s_l_generators) (defBody s_l_generators) (defScope s_l_generators) .none kV12 dc12 pm12 an12 cd12 ct12), sl12⟩) (c12 : PySem.W.codeIn K cd12 "_law_generators" = true) (k12 : PySem.W.keepIn K (.ref f12) = true)
    {f13 : Addr} {od13 an13 : Option Addr} {sl13 : Array (Option Value)} {oc13 kV13 dc13 pm13 cd13 ct13 : Value}
    (a13 : PySem.W.nsIn K mainGlobals "_law_back" = some (some (.ref f13))) (l13 : K.lookup f13 = some ⟨oc13, od13, .func (PySem.W.fnOf "_law_back" "_law_back" (defArgs s_l_back) (defBody s_l_back) (defScope s_l_back) .none kV13 dc13 pm13 an13 cd13 ct13), sl13⟩) (c13 : PySem.W.codeIn K cd13 "_law_back" = true) (k13 : PySem.W.keepIn K (.ref f13) = true)
    {f14 : Addr} {od14 an14 : Option Addr} {sl14 : Array (Option Value)} {oc14 kV14 dc14 pm14 cd14 ct14 : Value}
    (a14 : PySem.W.nsIn K mainGlobals "_law_normal" = some (some (.ref f14))) (l14 : K.lookup f14 = some ⟨oc14, od14, .func (PySem.W.fnOf "_law_normal" "_law_normal" (defArgs s_l_normal) (defBody s_l_normal) (defScope s_l_normal) .none kV14 dc14 pm14 an14 cd14 ct14), sl14⟩) (c14 : PySem.W.codeIn K cd14 "_law_normal" = true) (k14 : PySem.W.keepIn K (.ref f14) = true)
    {f15 : Addr} {od15 an15 : Option Addr} {sl15 : Array (Option Value)} {oc15 kV15 dc15 pm15 cd15 ct15 : Value}
    (a15 : PySem.W.nsIn K mainGlobals "law" = some (some (.ref f15))) (l15 : K.lookup f15 = some ⟨oc15, od15, .func (PySem.W.fnOf "law" "law" (defArgs s_law) (defBody s_law) (defScope s_law) .none kV15 dc15 pm15 an15 cd15 ct15), sl15⟩) (c15 : PySem.W.codeIn K cd15 "law" = true) (k15 : PySem.W.keepIn K (.ref f15) = true)
    (z_bool : PySem.W.nsIn K mainGlobals "bool" = some none)
    (z_enumerate : PySem.W.nsIn K mainGlobals "enumerate" = some none)
    (z_int : PySem.W.nsIn K mainGlobals "int" = some none)
    (z_isinstance : PySem.W.nsIn K mainGlobals "isinstance" = some none)
    (z_len : PySem.W.nsIn K mainGlobals "len" = some none)
    (z_list : PySem.W.nsIn K mainGlobals "list" = some none)
    (z_range : PySem.W.nsIn K mainGlobals "range" = some none)
    (z_set : PySem.W.nsIn K mainGlobals "set" = some none)
    (z_sorted : PySem.W.nsIn K mainGlobals "sorted" = some none)
    (z_str : PySem.W.nsIn K mainGlobals "str" = some none)
    (z_tuple : PySem.W.nsIn K mainGlobals "tuple" = some none)
    (m_factorial : PySem.W.nsIn K mainGlobals "factorial" = some (some (.builtin "math.factorial")))
    : ∃ fd : FuncData, (∀ (s : Shared) (v : Value), BindsTo s fd ⟨[v], []⟩ [("script", v)]) ∧ ∀ base : Heap, K.In base → base.Ns mainGlobals mg → FnOk l.prog w K mg base CX0 6 fa fd ["script"] (sp_law K) := by
  have e := hfa.symm.trans (PySem.W.mg_of X G a15)
  cases e
  have F0 := fun_mk (st := s_then) l0 c0 k0
  have b0 := F0.binds (ps := ["p", "q"]) fun _ _ _ _ _ _ us hl => match us, hl with | [_, _], _ => rfl
  have F1 := fun_mk (st := s_generated) l1 c1 k1
  have b1 := F1.binds (ps := ["places", "permutations"]) fun _ _ _ _ _ _ us hl => match us, hl with | [_, _], _ => rfl
  have F2 := fun_mk (st := s_grown) l2 c2 k2
  have b2 := F2.binds (ps := ["places", "permutations", "most"]) fun _ _ _ _ _ _ us hl => match us, hl with | [_, _, _], _ => rfl
  have F3 := fun_mk (st := s_products) l3 c3 k3
  have b3 := F3.binds (ps := ["places", "makers", "most"]) fun _ _ _ _ _ _ us hl => match us, hl with | [_, _, _], _ => rfl
  have F4 := fun_mk (st := s_normal_part) l4 c4 k4
  have b4 := F4.binds (ps := ["group", "element"]) fun _ _ _ _ _ _ us hl => match us, hl with | [_, _], _ => rfl
  have F5 := fun_mk (st := s_turned) l5 c5 k5
  have b5 := F5.binds (ps := ["group", "element"]) fun _ _ _ _ _ _ us hl => match us, hl with | [_, _], _ => rfl
  have F6 := fun_mk (st := s_l_cell) l6 c6 k6
  have b6 := F6.binds (ps := ["script", "k"]) fun _ _ _ _ _ _ us hl => match us, hl with | [_, _], _ => rfl
  have F7 := fun_mk (st := s_l_numbers) l7 c7 k7
  have b7 := F7.binds (ps := ["cell", "count"]) fun _ _ _ _ _ _ us hl => match us, hl with | [_, _], _ => rfl
  have F8 := fun_mk (st := s_l_same) l8 c8 k8
  have b8 := F8.binds (ps := ["actual", "due"]) fun _ _ _ _ _ _ us hl => match us, hl with | [_, _], _ => rfl
  have F9 := fun_mk (st := s_l_permutation) l9 c9 k9
  have b9 := F9.binds (ps := ["numbers", "places"]) fun _ _ _ _ _ _ us hl => match us, hl with | [_, _], _ => rfl
  have F10 := fun_mk (st := s_l_then) l10 c10 k10
  have b10 := F10.binds (ps := ["p", "q"]) fun _ _ _ _ _ _ us hl => match us, hl with | [_, _], _ => rfl
  have F11 := fun_mk (st := s_l_closed) l11 c11 k11
  have b11 := F11.binds (ps := ["places", "permutations"]) fun _ _ _ _ _ _ us hl => match us, hl with | [_, _], _ => rfl
  have F12 := fun_mk (st := s_l_generators) l12 c12 k12
  have b12 := F12.binds (ps := ["numbers", "places"]) fun _ _ _ _ _ _ us hl => match us, hl with | [_, _], _ => rfl
  have F13 := fun_mk (st := s_l_back) l13 c13 k13
  have b13 := F13.binds (ps := ["p"]) fun _ _ _ _ _ _ us hl => match us, hl with | [_], _ => rfl
  have F14 := fun_mk (st := s_l_normal) l14 c14 k14
  have b14 := F14.binds (ps := ["group", "part", "element"]) fun _ _ _ _ _ _ us hl => match us, hl with | [_, _, _], _ => rfl
  have F15 := fun_mk (st := s_law) l15 c15 k15
  have b15 := F15.binds (ps := ["script"]) fun _ _ _ _ _ _ us hl => match us, hl with | [_], _ => rfl
  have T : Txt K mg ⟨f0, PySem.W.fnOf "then" "then" (defArgs s_then) (defBody s_then) (defScope s_then) .none kV0 dc0 pm0 an0 cd0 ct0, f1, PySem.W.fnOf "generated" "generated" (defArgs s_generated) (defBody s_generated) (defScope s_generated) .none kV1 dc1 pm1 an1 cd1 ct1, f2, PySem.W.fnOf "grown" "grown" (defArgs s_grown) (defBody s_grown) (defScope s_grown) .none kV2 dc2 pm2 an2 cd2 ct2, f3, PySem.W.fnOf "products" "products" (defArgs s_products) (defBody s_products) (defScope s_products) .none kV3 dc3 pm3 an3 cd3 ct3, f4, PySem.W.fnOf "normal_part" "normal_part" (defArgs s_normal_part) (defBody s_normal_part) (defScope s_normal_part) .none kV4 dc4 pm4 an4 cd4 ct4, f5, PySem.W.fnOf "turned" "turned" (defArgs s_turned) (defBody s_turned) (defScope s_turned) .none kV5 dc5 pm5 an5 cd5 ct5, f6, PySem.W.fnOf "_law_cell" "_law_cell" (defArgs s_l_cell) (defBody s_l_cell) (defScope s_l_cell) .none kV6 dc6 pm6 an6 cd6 ct6, f7, PySem.W.fnOf "_law_numbers" "_law_numbers" (defArgs s_l_numbers) (defBody s_l_numbers) (defScope s_l_numbers) .none kV7 dc7 pm7 an7 cd7 ct7, f8, PySem.W.fnOf "_law_same" "_law_same" (defArgs s_l_same) (defBody s_l_same) (defScope s_l_same) .none kV8 dc8 pm8 an8 cd8 ct8, f9, PySem.W.fnOf "_law_permutation" "_law_permutation" (defArgs s_l_permutation) (defBody s_l_permutation) (defScope s_l_permutation) .none kV9 dc9 pm9 an9 cd9 ct9, f10, PySem.W.fnOf "_law_then" "_law_then" (defArgs s_l_then) (defBody s_l_then) (defScope s_l_then) .none kV10 dc10 pm10 an10 cd10 ct10, f11, PySem.W.fnOf "_law_closed" "_law_closed" (defArgs s_l_closed) (defBody s_l_closed) (defScope s_l_closed) .none kV11 dc11 pm11 an11 cd11 ct11, f12, PySem.W.fnOf "_law_generators" "_law_generators" (defArgs s_l_generators) (defBody s_l_generators) (defScope s_l_generators) .none kV12 dc12 pm12 an12 cd12 ct12, f13, PySem.W.fnOf "_law_back" "_law_back" (defArgs s_l_back) (defBody s_l_back) (defScope s_l_back) .none kV13 dc13 pm13 an13 cd13 ct13, f14, PySem.W.fnOf "_law_normal" "_law_normal" (defArgs s_l_normal) (defBody s_l_normal) (defScope s_l_normal) .none kV14 dc14 pm14 an14 cd14 ct14, fa, PySem.W.fnOf "law" "law" (defArgs s_law) (defBody s_law) (defScope s_law) .none kV15 dc15 pm15 an15 cd15 ct15⟩ := ⟨F0, b0, PySem.W.mg_of X G a0, F1, b1, PySem.W.mg_of X G a1, F2, b2, PySem.W.mg_of X G a2, F3, b3, PySem.W.mg_of X G a3, F4, b4, PySem.W.mg_of X G a4, F5, b5, PySem.W.mg_of X G a5, F6, b6, PySem.W.mg_of X G a6, F7, b7, PySem.W.mg_of X G a7, F8, b8, PySem.W.mg_of X G a8, F9, b9, PySem.W.mg_of X G a9, F10, b10, PySem.W.mg_of X G a10, F11, b11, PySem.W.mg_of X G a11, F12, b12, PySem.W.mg_of X G a12, F13, b13, PySem.W.mg_of X G a13, F14, b14, PySem.W.mg_of X G a14, F15, b15, PySem.W.mg_of X G a15, PySem.W.mg_none_of X G z_bool, PySem.W.mg_none_of X G z_enumerate, PySem.W.mg_none_of X G z_int, PySem.W.mg_none_of X G z_isinstance, PySem.W.mg_none_of X G z_len, PySem.W.mg_none_of X G z_list, PySem.W.mg_none_of X G z_range, PySem.W.mg_none_of X G z_set, PySem.W.mg_none_of X G z_sorted, PySem.W.mg_none_of X G z_str, PySem.W.mg_none_of X G z_tuple, PySem.W.mg_of X G m_factorial⟩
  exact ⟨_, fun s v => .of_eq rfl, fun base _ _ => ok_law T⟩
end L19
open PySem PySem.W PyProof.Rows
set_option maxHeartbeats 0 in
theorem PySem.Challenge.cw_turnsandthrows_k19_normal_part_holds : PySem.Challenge.rw_turnsandthrows_k19_normal_part.Holds := by
  w_on; o_law; k_head; (case hw => w_witness2)
  k_fill
  refine L2.walk_of (l := PySem.Challenge.rw_turnsandthrows_k19_normal_part) (n := 63) (k := 6) (x := "script") (CX := fun _ => L2.CX0) (sp := fun w => L19.sp_law _) rfl (by decide) rfl ⟨rfl, by decide, by decide⟩ (fun w h Y => PySem.W.kIn_of Y) ?F (fun _ _ a ns hl _ hS => ⟨a, ns, rfl, hS, hl, fun _ => rfl⟩) (fun _ _ _ _ _ h => h)
  case F =>
    intro w mg fa h KX G hmg
    refine' L19.all_mk KX G hmg ?a0 ?l0 ?c0 ?k0 ?a1 ?l1 ?c1 ?k1 ?a2 ?l2 ?c2 ?k2 ?a3 ?l3 ?c3 ?k3 ?a4 ?l4 ?c4 ?k4 ?a5 ?l5 ?c5 ?k5 ?a6 ?l6 ?c6 ?k6 ?a7 ?l7 ?c7 ?k7 ?a8 ?l8 ?c8 ?k8 ?a9 ?l9 ?c9 ?k9 ?a10 ?l10 ?c10 ?k10 ?a11 ?l11 ?c11 ?k11 ?a12 ?l12 ?c12 ?k12 ?a13 ?l13 ?c13 ?k13 ?a14 ?l14 ?c14 ?k14 ?a15 ?l15 ?c15 ?k15 ?z_bool ?z_enumerate ?z_int ?z_isinstance ?z_len ?z_list ?z_range ?z_set ?z_sorted ?z_str ?z_tuple ?m_factorial
    (case a0 => k_is); (case l0 => k_is); (case c0 => k_is); (case k0 => k_is); (case a1 => k_is); (case l1 => k_is); (case c1 => k_is); (case k1 => k_is); (case a2 => k_is); (case l2 => k_is); (case c2 => k_is); (case k2 => k_is); (case a3 => k_is); (case l3 => k_is); (case c3 => k_is); (case k3 => k_is); (case a4 => k_is); (case l4 => k_is); (case c4 => k_is); (case k4 => k_is); (case a5 => k_is); (case l5 => k_is); (case c5 => k_is); (case k5 => k_is); (case a6 => k_is); (case l6 => k_is); (case c6 => k_is); (case k6 => k_is); (case a7 => k_is); (case l7 => k_is); (case c7 => k_is); (case k7 => k_is); (case a8 => k_is); (case l8 => k_is); (case c8 => k_is); (case k8 => k_is); (case a9 => k_is); (case l9 => k_is); (case c9 => k_is); (case k9 => k_is); (case a10 => k_is); (case l10 => k_is); (case c10 => k_is); (case k10 => k_is); (case a11 => k_is); (case l11 => k_is); (case c11 => k_is); (case k11 => k_is); (case a12 => k_is); (case l12 => k_is); (case c12 => k_is); (case k12 => k_is); (case a13 => k_is); (case l13 => k_is); (case c13 => k_is); (case k13 => k_is); (case a14 => k_is); (case l14 => k_is); (case c14 => k_is); (case k14 => k_is); (case a15 => k_is); (case l15 => k_is); (case c15 => k_is); (case k15 => k_is); (case z_bool => k_is); (case z_enumerate => k_is); (case z_int => k_is); (case z_isinstance => k_is); (case z_len => k_is); (case z_list => k_is); (case z_range => k_is); (case z_set => k_is); (case z_sorted => k_is); (case z_str => k_is); (case z_tuple => k_is); (case m_factorial => k_is)

