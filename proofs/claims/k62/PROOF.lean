import PyProof.Rows.All
import Wide.All
import OpenK.AllK
import Wide.FinOn
import HandS.ForMost
import HandS.IsInst
import HandS.SetFor
import KE.KEqNest
import KE.GoesMore
import PyProof.Draws
import PyProof.EnumMake
import HandS.Iter
import HandS.SetBool
import HandS.Strs
import HandS.Lambda
import HandS.NestedK
import HandS.EndTab
import HandS.Head0
import HandS.Head1
import HandS.Head2
import HandS.HeadEnd
import HandS.HeadHook1
import HandS.HeadHook2
import HandS.HeadHook3
import HandS.HeadHook4
import HandS.HeadWalk
import HandS.ForExc
import HandS.ExcIs
import HandS.RaiseMore
import HandS.FStr
import HandS.Gcd
import KE.KSortTupG
import KE.KDictDisplayH
import KE.KDictSum
import HandS.Keys
import HandS.Conv
import HandS.Dict
import HandS.More
import KE.KMathG
import HandS.Text
import PyProof.FString5
import KE.KExcSuper
import HandS.ExcInit
import HandS.ExcField
import HandS.ClsMeth
import KE.KExcIs
import HandS.TupLen
import HandS.Walk
import KE.KDictWalk
import HandS.Deep
import KE.DataMinMax
import HandS.TupAny
import HandS.SetKeys
import HandS.Style
import HandS.TupLe
import KE.KDictCopyH
import HandS.Star
import KE.KeyNested
import KE.KDictKeyed
import HandS.TupSets
import HandS.DictComp
import PyProof.TupleOfStr
import PyProof.StrBlock2
import HandS.Replace
import PySem.Challenge.RW_turnsandthrows_k62_first_fault_of_a_form
set_option Elab.async false
set_option linter.all false
set_option maxRecDepth 100000
set_option maxHeartbeats 8000000
set_option Elab.async false
set_option linter.all false
set_option maxRecDepth 100000
namespace G
open PySem PySem.Spec PyProof.Rows L2

/-! ### readings, step by step -/
section
variable {σ : L2.St} {H : Hp} {Q : VK} {QB : Bool → Hp → Prop} {QA : List V → Hp → Prop} {D : Ends} {K : PySem.W.Frag} {te ta tb : TE} {t u : TS} {c c2 : TT} {i : Nat} {v x y : V}
theorem r_seq (h : t { D with nx := u D } σ H) : tSeq t u D σ H := h
theorem r_set (h : te σ H fun x H1 => D.nx (σ.set i (some x)) H1) : tAsg te (gName i) D σ H := h
theorem r_asg {g : TG} (h : te σ H fun x H1 => g x σ H1 D.nx) : tAsg te g D σ H := h
theorem r_drop (h : te σ H fun _ H1 => D.nx σ H1) : tDrop te D σ H := h
theorem r_ret (h : te σ H D.rt) : tRet te D σ H := h
theorem r_retN (h : D.rt .non H) : tRetN D σ H := h
theorem r_next (h : D.nx σ H) : tNext D σ H := h
theorem r_break (h : D.bk σ H) : tBreak D σ H := h
theorem r_cont (h : D.ct σ H) : tCont D σ H := h
theorem r_yes (h : QB true H) : tYes σ H QB := h
theorem r_if (h : c σ H fun b H1 => if b = true then t D σ H1 else u D σ H1) : tIfS c t u D σ H := h
theorem r_ifx (h : c σ H fun d H1 => if d = true then ta σ H1 Q else tb σ H1 Q) : tIf c ta tb σ H Q := h
theorem r_var (h : σ[i]? = some (some v)) (q : Q v H) : tVar i σ H Q := ⟨v, h, q⟩
theorem r_c (q : Q v H) : tC v σ H Q := q
theorem r_op {r : R2} (h : ta σ H fun x H1 => tb σ H1 fun y H2 => r x y H2 Q) : tOp r ta tb σ H Q := h
theorem r_un {r : V → Hp → VK → Prop} (h : ta σ H fun x H1 => r x H1 Q) : tUn r ta σ H Q := h
theorem r_cb {r : List V → Hp → VK → Prop} {t : TA} (h : t σ H fun vs H1 => r vs H1 Q) : tCB r t σ H Q := h
theorem r_cons {tr : TA} (h : te σ H fun x H1 => tr σ H1 fun xs H2 => QA (x :: xs) H2) : tCons te tr σ H QA := h
theorem r_nil (h : QA [] H) : tNil σ H QA := h
theorem r_call {sp : Sp} {dvs : List V} {E : XK} {t : TA} (h : t σ H fun vs H1 => sp (vs ++ dvs) H1 Q E) : tCall sp dvs E t σ H Q := h
theorem r_test (h : te σ H fun x H' => ∃ k, x = .bl k ∧ QB k H') : tTest te σ H QB := h
theorem r_tb (h : te σ H fun x H' => ∃ k, x = .bl k ∧ QB k H') : tB te σ H QB := h
theorem r_bl {b : Bool} {C : Bool → Prop} (h : C b) : ∃ k, V.bl b = .bl k ∧ C k := ⟨b, rfl, h⟩
theorem r_and (h : c σ H fun b H1 => if b = true then c2 σ H1 QB else QB false H1) : tAnd c c2 σ H QB := h
theorem r_or (h : c σ H fun b H1 => if b = true then QB true H1 else c2 σ H1 QB) : tOr c c2 σ H QB := h
theorem r_not (h : c σ H fun b H1 => QB (!b) H1) : tNot c σ H QB := h
theorem r_andV (h : ta σ H fun x H1 => ∃ c, x = .bl c ∧ if c = true then tb σ H1 Q else Q (.bl false) H1) : tAndV ta tb σ H Q := h
theorem r_orV (h : ta σ H fun x H1 => ∃ c, x = .bl c ∧ if c = true then Q (.bl true) H1 else tb σ H1 Q) : tOrV ta tb σ H Q := h
theorem r_notV (h : ta σ H fun x H1 => ∃ c, x = .bl c ∧ Q (.bl (!c)) H1) : tNotV ta σ H Q := h
theorem r_tup {t : TA} (h : t σ H fun xs H1 => xs.length ≤ sizeLine ∧ ∀ p, H1 p = none → Q (.ref p) (upd H1 p (.tup xs))) : tTup t σ H Q := h
theorem r_lst {t : TA} (h : t σ H fun xs H1 => xs.length ≤ sizeLine ∧ ∀ p, H1 p = none → Q (.ref p) (upd H1 p (.lst xs))) : tLst t σ H Q := h
theorem r_I0 {g : Int → Int → V} {i j : Int} (h : Q (g i j) H) : rI0 g (.int i) (.int j) H Q := ⟨i, j, rfl, rfl, h⟩
theorem r_I {C : Int → Int → Prop} {g : Int → Int → V} {i j : Int} (hc : C i j) (h : Q (g i j) H) : rI C g (.int i) (.int j) H Q := ⟨i, j, rfl, rfl, hc, h⟩
theorem r_U {g : Int → V} {i : Int} (h : Q (g i) H) : rU g (.int i) H Q := ⟨i, rfl, h⟩
theorem r_eqI {i j : Int} (h : Q (.bl (decide (i = j))) H) : rEq (.int i) (.int j) H Q := by
  refine ⟨rfl, ?_⟩
  have e : decide (V.int i = V.int j) = decide (i = j) := by simp
  rw [e]; exact h
theorem r_neI {i j : Int} (h : Q (.bl (!decide (i = j))) H) : rNe (.int i) (.int j) H Q := by
  refine ⟨rfl, ?_⟩
  have e : decide (V.int i = V.int j) = decide (i = j) := by simp
  rw [e]; exact h
theorem r_eqS {i j : Str} (h : Q (.bl (decide (i = j))) H) : rEq (.str i) (.str j) H Q := by
  refine ⟨rfl, ?_⟩
  have e : decide (V.str i = V.str j) = decide (i = j) := by simp
  rw [e]; exact h
theorem r_neS {i j : Str} (h : Q (.bl (!decide (i = j))) H) : rNe (.str i) (.str j) H Q := by
  refine ⟨rfl, ?_⟩
  have e : decide (V.str i = V.str j) = decide (i = j) := by simp
  rw [e]; exact h
theorem r_eqB {i j : Bool} (h : Q (.bl (decide (i = j))) H) : rEq (.bl i) (.bl j) H Q := by
  refine ⟨rfl, ?_⟩
  have e : decide (V.bl i = V.bl j) = decide (i = j) := by simp
  rw [e]; exact h
theorem r_neB {i j : Bool} (h : Q (.bl (!decide (i = j))) H) : rNe (.bl i) (.bl j) H Q := by
  refine ⟨rfl, ?_⟩
  have e : decide (V.bl i = V.bl j) = decide (i = j) := by simp
  rw [e]; exact h
theorem r_iteD {p A B : Prop} [Decidable p] (h1 : p → A) (h2 : ¬ p → B) : if decide p = true then A else B := ite2 (fun e => h1 (of_decide_eq_true e)) fun e => h2 fun q => e (decide_eq_true q)
theorem r_iteN {p A B : Prop} [Decidable p] (h1 : ¬ p → A) (h2 : p → B) : if (!decide p) = true then A else B := by
  by_cases h : p
  · rw [decide_eq_true h]; exact iteF (h2 h)
  · rw [decide_eq_false h]; exact iteT (h1 h)
theorem r_ixL {p : Addr} {xs : List V} {i : Int} (h : SqL K H p xs) (a : atI xs i = some v) (q : Q v H) : rIxL K (.ref p) (.int i) H Q := ⟨p, xs, i, v, rfl, rfl, h, a, q⟩
theorem r_ixT {p : Addr} {xs : List V} {i : Int} (h : SqT K H p xs) (a : atI xs i = some v) (q : Q v H) : rIxT K (.ref p) (.int i) H Q := ⟨p, xs, i, v, rfl, rfl, h, a, q⟩
theorem r_ixS {z : Str} {i : Int} {c : Nat} (hz : z.length ≤ sizeLine) (a : atI z.cps.toList i = some c) (q : Q (.str ⟨#[c]⟩) H) : rIxS (.str z) (.int i) H Q := ⟨z, i, c, rfl, rfl, hz, a, q⟩
/-! named readings for what the layer says by a bare fun -/
def rInt1 : List V → Hp → VK → Prop := fun xs H Q => (∃ i, xs = [.int i] ∧ Q (.int i) H) ∨ ∃ k, xs = [.bl k] ∧ Q (.int (if k then 1 else 0)) H
theorem call_int1' {X : Cx} : CallR X (.type "int") rInt1 := call_int1
theorem r_int1 {i : Int} (q : Q (.int i) H) : rInt1 [.int i] H Q := .inl ⟨i, rfl, q⟩
def rLenQ (K : PySem.W.Frag) : List V → Hp → VK → Prop := fun xs H Q => ∃ p ys, xs = [.ref p] ∧ (SqL K H p ys ∨ SqT K H p ys) ∧ Q (.int ys.length) H
theorem call_lenQ {X : Cx} : CallR X (.builtin "len") (rLenQ X.K) := call_len_seq
theorem r_lenL {p : Addr} {ys : List V} (h : SqL K H p ys) (q : Q (.int ys.length) H) : rLenQ K [.ref p] H Q := ⟨p, ys, rfl, .inl h, q⟩
theorem r_lenT {p : Addr} {ys : List V} (h : SqT K H p ys) (q : Q (.int ys.length) H) : rLenQ K [.ref p] H Q := ⟨p, ys, rfl, .inr h, q⟩
def rLenS1 : List V → Hp → VK → Prop := fun xs H Q => ∃ z, xs = [.str z] ∧ z.length ≤ sizeLine ∧ Q (.int z.length) H
theorem call_lenS1 {X : Cx} : CallR X (.builtin "len") rLenS1 := call_len_str
theorem r_lenS {z : Str} (h : z.length ≤ sizeLine) (q : Q (.int z.length) H) : rLenS1 [.str z] H Q := ⟨z, rfl, h, q⟩
def rAddS1 : R2 := fun x y H Q => ∃ i j, x = .str i ∧ y = .str j ∧ i.length + j.length ≤ sizeLine ∧ Q (.str (i ++ j)) H
theorem op_addS {X : Cx} : OpR X (binaryOp .Add) rAddS1 := op_add_str
theorem r_addS {i j : Str} (h : i.length + j.length ≤ sizeLine) (q : Q (.str (i ++ j)) H) : rAddS1 (.str i) (.str j) H Q := ⟨i, j, rfl, rfl, h, q⟩
def rIsN1 : R2 := fun x y H Q => y = .non ∧ Q (.bl (decide (x = .non))) H
def rNotN1 : R2 := fun x y H Q => y = .non ∧ Q (.bl (!decide (x = .non))) H
theorem op_isN1 {X : Cx} : OpR X (compareOp .Is) rIsN1 := op_isN
theorem op_notN1 {X : Cx} : OpR X (compareOp .IsNot) rNotN1 := op_notN
theorem r_isN (q : Q (.bl (decide (x = .non))) H) : rIsN1 x .non H Q := ⟨rfl, q⟩
theorem r_notN (q : Q (.bl (!decide (x = .non))) H) : rNotN1 x .non H Q := ⟨rfl, q⟩
def rTupOf (K : PySem.W.Frag) : List V → Hp → VK → Prop := fun xs H Q => ∃ p ys, xs = [.ref p] ∧ ((SqL K H p ys ∧ ∀ l, H l = none → Q (.ref l) (upd H l (.tup ys))) ∨ (SqT K H p ys ∧ Q (.ref p) H))
theorem call_tupOf {X : Cx} : CallR X (.type "tuple") (rTupOf X.K) := call_tuple_of
theorem r_tupL {p : Addr} {ys : List V} (h : SqL K H p ys) (q : ∀ l, H l = none → Q (.ref l) (upd H l (.tup ys))) : rTupOf K [.ref p] H Q := ⟨p, ys, rfl, .inl ⟨h, q⟩⟩
def rLstOf (K : PySem.W.Frag) : List V → Hp → VK → Prop := fun xs H Q => ∃ p ys, xs = [.ref p] ∧ (SqL K H p ys ∨ SqT K H p ys) ∧ ∀ l, H l = none → Q (.ref l) (upd H l (.lst ys))
theorem call_lstOf {X : Cx} : CallR X (.type "list") (rLstOf X.K) := call_list_of
theorem r_lstL {p : Addr} {ys : List V} (h : SqL K H p ys) (q : ∀ l, H l = none → Q (.ref l) (upd H l (.lst ys))) : rLstOf K [.ref p] H Q := ⟨p, ys, rfl, .inl h, q⟩
theorem r_lstT {p : Addr} {ys : List V} (h : SqT K H p ys) (q : ∀ l, H l = none → Q (.ref l) (upd H l (.lst ys))) : rLstOf K [.ref p] H Q := ⟨p, ys, rfl, .inr h, q⟩
theorem r_cat {l b : Addr} {xs zs : List V} (h1 : H l = some (.lst xs)) (h2 : H b = some (.lst zs)) (hl : xs.length + zs.length ≤ sizeLine) (q : ∀ p, H p = none → Q (.ref p) (upd H p (.lst (xs ++ zs)))) : rCat (.ref l) (.ref b) H Q := ⟨l, b, xs, zs, rfl, rfl, h1, h2, hl, q⟩
theorem r_append {l : Addr} {xs : List V} (h1 : H l = some (.lst xs)) (hl : xs.length < sizeLine) (q : Q .non (upd H l (.lst (xs ++ [y])))) : rAppend (.ref l) [y] H Q := ⟨l, xs, y, rfl, rfl, h1, hl, q⟩
theorem r_extend {l b : Addr} {xs zs : List V} (h1 : H l = some (.lst xs)) (h2 : H b = some (.lst zs)) (hl : xs.length + zs.length ≤ sizeLine) (q : Q .non (upd H l (.lst (xs ++ zs)))) : rExtend (.ref l) [.ref b] H Q := ⟨l, b, xs, zs, rfl, rfl, h1, h2, hl, q⟩
theorem r_bmL {r : V → List V → Hp → VK → Prop} {to : TE} {t : TA} (h : to σ H fun x H1 => tyV K "list" x H1 ∧ t σ H1 fun xs H2 => r x xs H2 Q) : tBM K "list" r to t σ H Q := h
theorem ty_l {p : Addr} {xs : List V} (h : SqL K H p xs) : tyV K "list" (.ref p) H := .inl ⟨rfl, _, h⟩
theorem r_slS {z : Str} {lo hi : Option Int} (h : z.length ≤ sizeLine) (q : Q (.str (cutS z lo hi)) H) : rSlS (.str z) lo hi H Q := ⟨z, rfl, h, q⟩
theorem r_slL {p : Addr} {xs : List V} {lo hi : Option Int} (h : SqL K H p xs) (q : ∀ l, H l = none → Q (.ref l) (upd H l (.lst (cutV xs lo hi)))) : rSlL K (.ref p) lo hi H Q := ⟨p, xs, rfl, h, q⟩
theorem r_sl {r : V → Option Int → Option Int → Hp → VK → Prop} {tl th : TO} (h : te σ H fun x H1 => tl σ H1 fun l H2 => th σ H2 fun u H3 => r x l u H3 Q) : tSl r te tl th σ H Q := h
theorem r_noPart {Qo : Option Int → Hp → Prop} (q : Qo none H) : tNoPart σ H Qo := q
theorem r_part {Qo : Option Int → Hp → Prop} (h : te σ H fun x H1 => ∃ i, x = .int i ∧ Qo (some i) H1) : tPart te σ H Qo := h
theorem r_pint {j : Int} {C : Int → Prop} (h : C j) : ∃ i, V.int j = .int i ∧ C i := ⟨j, rfl, h⟩
theorem r_isi {t u : Value} {b : Bool} {cl : V} (k : ClsV cl u) (ty : TyX K H x t) (e : PySem.W.kitOne K t u = some b) (q : Q (.bl b) H) : rIsi K [x, cl] H Q := ⟨x, cl, t, u, b, rfl, k, ty, e, q⟩
theorem r_rng1 {ta : TA} {R : It → Hp → Prop} (h : ta σ H fun vs H1 => ∃ j : Int, vs = [.int j] ∧ -(2 ^ 62) ≤ j ∧ j < 2 ^ 62 ∧ R (Itr 0 j.toNat) H1) : iRng1 ta σ H R := h
theorem r_rng1' {j : Int} {C : Int → Prop} (h1 : -(2 ^ 62) ≤ j) (h2 : j < 2 ^ 62) (h : C j) : ∃ j' : Int, [V.int j] = [.int j'] ∧ -(2 ^ 62) ≤ j' ∧ j' < 2 ^ 62 ∧ C j' := ⟨j, rfl, h1, h2, h⟩
end

/-! ### what was tracked stands -/
theorem same_t {K : PySem.W.Frag} {H H' : Hp} {a : Addr} {xs : List V} (e : Same H H') (h : SqT K H a xs) : SqT K H' a xs := by
  rcases h with (h | ⟨o, h⟩) | h
  · exact .inl (.inl (e _ _ h))
  · exact .inl (.inr ⟨o, e _ _ h⟩)
  · exact .inr h
theorem same_new {H : Hp} {p : Addr} {o : HO} (h : H p = none) : Same H (upd H p o) := fun b x e => by
  rw [upd_ne (ne_of_none e h)]
  exact e
/-- an object that H did not know was changed -/
theorem same_mut {H H' : Hp} {p : Addr} {o : HO} (e : Same H H') (h : H p = none) : Same H (upd H' p o) := fun a u ha => by
  rw [upd_ne (ne_of_none ha h)]
  exact e a u ha
mutual
theorem dp_same {K : PySem.W.Frag} {H H' : Hp} (e : Same H H') : ∀ (d : PyData) (v : V), Dp K H v d → Dp K H' v d
  | .none, _, h => by cases h; exact .non
  | .bool b, _, h => by cases h; exact .bl b
  | .int i, _, h => by cases h; exact .int i
  | .str x, _, h => by cases h; exact .str x
  | .list ds, _, h => by
    cases h with
    | lst hs ha => exact .lst (e.seq hs) (dpAll_same e ds _ ha)
  | .tuple ds, _, h => by
    cases h with
    | tup hs ha => exact .tup (same_t e hs) (dpAll_same e ds _ ha)
  | .dict _, _, h => by cases h
theorem dpAll_same {K : PySem.W.Frag} {H H' : Hp} (e : Same H H') : ∀ (ds : List PyData) (vs : List V), DpAll K H vs ds → DpAll K H' vs ds
  | [], _, h => by cases h; exact .nil
  | d :: ds, _, h => by
    cases h with
    | cons h1 h2 => exact .cons (dp_same e d _ h1) (dpAll_same e ds _ h2)
end
theorem dpAll_len {K : PySem.W.Frag} {H : Hp} : ∀ {vs : List V} {ds : List PyData}, DpAll K H vs ds → vs.length = ds.length
  | _, _, .nil => rfl
  | _, _, .cons _ t => congrArg (· + 1) (dpAll_len t)
theorem dpAll_get {K : PySem.W.Frag} {H : Hp} : ∀ {vs : List V} {ds : List PyData} {i : Nat} {d : PyData}, DpAll K H vs ds → ds[i]? = some d → ∃ v, vs[i]? = some v ∧ Dp K H v d
  | _, _, _, _, .nil, e => by simp at e
  | _, _, 0, _, .cons h _, e => by simp at e; subst e; exact ⟨_, rfl, h⟩
  | _, _, i + 1, d, .cons _ t, e => by
    obtain ⟨v, h1, h2⟩ := dpAll_get (i := i) (d := d) t (by simpa using e)
    exact ⟨v, by simpa using h1, h2⟩
theorem dpAll_map {K : PySem.W.Frag} {H : Hp} {α : Type} {f : α → V} {g : α → PyData} (h : ∀ x, Dp K H (f x) (g x)) : ∀ xs : List α, DpAll K H (xs.map f) (xs.map g)
  | [] => .nil
  | x :: xs => .cons (h x) (dpAll_map h xs)
/-- the type of what bears data -/
theorem tyx_sqL {K : PySem.W.Frag} {H : Hp} {a : Addr} {xs : List V} (h : SqL K H a xs) : TyX K H (.ref a) (.type "list") := by
  rcases h with (h | ⟨o, h⟩) | ⟨o, its, n, hk, hc, _⟩
  · exact .base (.lst h)
  · exact .base (.frz h)
  · exact .kList hk hc
theorem tyx_sqT {K : PySem.W.Frag} {H : Hp} {a : Addr} {xs : List V} (h : SqT K H a xs) : TyX K H (.ref a) (.type "tuple") := by
  rcases h with (h | ⟨o, h⟩) | ⟨o, its, n, hk, hc, _⟩
  · exact .base (.tup h)
  · exact .fTuple h
  · exact .kTuple hk hc

/-! ### walks over a text's signs -/
theorem for_str {x : Str} {g : TG} {tb : TS} {D : Ends} {σ : L2.St} {H : Hp} (Pv : Nat → L2.St → Hp → Prop) (h0 : Pv 0 σ H)
    (hs : ∀ i c σ H, x.cps.toList[i]? = some c → Pv i σ H → g (.str ⟨#[c]⟩) σ H fun σ2 H2 => tb { D with nx := Pv (i + 1), ct := Pv (i + 1), bk := D.nx } σ2 H2) (hd : ∀ σ H, Pv x.cps.size σ H → D.nx σ H) :
    ∃ W : Nat → Nat → L2.St → Hp → Prop, (∃ m, W 0 m σ H) ∧ ∀ i m σ H, W i m σ H →
      ((Its x).stop i H ∧ D.nx σ H) ∨ ((Its x).go i H ∧ ∃ N : L2.St → Hp → Prop, (∀ σ' H', N σ' H' → ∃ m', m' < m ∧ W (i + 1) m' σ' H') ∧ ∀ x' H', (Its x).yld i H x' H' → g x' σ H' fun σ2 H2 => tb { D with nx := N, ct := N, bk := D.nx } σ2 H2) := by
  refine ⟨fun i m σ H => m = x.cps.size - i ∧ i ≤ x.cps.size ∧ Pv i σ H, ⟨x.cps.size, by simp, Nat.zero_le _, h0⟩, ?_⟩
  rintro i m σ H ⟨rfl, hi, p⟩
  by_cases hlt : i < x.cps.size
  · refine .inr ⟨hlt, Pv (i + 1), fun σ' H' p' => ⟨x.cps.size - (i + 1), by omega, rfl, hlt, p'⟩, fun x' H' y => ?_⟩
    obtain ⟨e, c, hc, rfl⟩ := y
    subst e
    exact hs i c σ _ (by rw [Array.getElem?_toList]; exact hc) p
  · have e : i = x.cps.size := by omega
    subst e
    exact .inl ⟨Nat.le_refl _, hd σ H p⟩
end G
namespace G
open PySem PySem.Spec PyProof.Rows L2
/-! isinstance of built-in kinds -/
section
variable {K : PySem.W.Frag}
theorem kt_NoneType_list : PySem.W.kitOne K (.type "NoneType") (.type "list") = some false := kit_ty (by decide +kernel)
theorem kt_NoneType_tuple : PySem.W.kitOne K (.type "NoneType") (.type "tuple") = some false := kit_ty (by decide +kernel)
theorem kt_NoneType_bool : PySem.W.kitOne K (.type "NoneType") (.type "bool") = some false := kit_ty (by decide +kernel)
theorem kt_NoneType_int : PySem.W.kitOne K (.type "NoneType") (.type "int") = some false := kit_ty (by decide +kernel)
theorem kt_NoneType_str : PySem.W.kitOne K (.type "NoneType") (.type "str") = some false := kit_ty (by decide +kernel)
theorem kt_bool_list : PySem.W.kitOne K (.type "bool") (.type "list") = some false := kit_ty (by decide +kernel)
theorem kt_bool_tuple : PySem.W.kitOne K (.type "bool") (.type "tuple") = some false := kit_ty (by decide +kernel)
theorem kt_bool_bool : PySem.W.kitOne K (.type "bool") (.type "bool") = some true := kit_ty (by decide +kernel)
theorem kt_bool_int : PySem.W.kitOne K (.type "bool") (.type "int") = some true := kit_ty (by decide +kernel)
theorem kt_bool_str : PySem.W.kitOne K (.type "bool") (.type "str") = some false := kit_ty (by decide +kernel)
theorem kt_int_list : PySem.W.kitOne K (.type "int") (.type "list") = some false := kit_ty (by decide +kernel)
theorem kt_int_tuple : PySem.W.kitOne K (.type "int") (.type "tuple") = some false := kit_ty (by decide +kernel)
theorem kt_int_bool : PySem.W.kitOne K (.type "int") (.type "bool") = some false := kit_ty (by decide +kernel)
theorem kt_int_int : PySem.W.kitOne K (.type "int") (.type "int") = some true := kit_ty (by decide +kernel)
theorem kt_int_str : PySem.W.kitOne K (.type "int") (.type "str") = some false := kit_ty (by decide +kernel)
theorem kt_str_list : PySem.W.kitOne K (.type "str") (.type "list") = some false := kit_ty (by decide +kernel)
theorem kt_str_tuple : PySem.W.kitOne K (.type "str") (.type "tuple") = some false := kit_ty (by decide +kernel)
theorem kt_str_bool : PySem.W.kitOne K (.type "str") (.type "bool") = some false := kit_ty (by decide +kernel)
theorem kt_str_int : PySem.W.kitOne K (.type "str") (.type "int") = some false := kit_ty (by decide +kernel)
theorem kt_str_str : PySem.W.kitOne K (.type "str") (.type "str") = some true := kit_ty (by decide +kernel)
theorem kt_list_list : PySem.W.kitOne K (.type "list") (.type "list") = some true := kit_ty (by decide +kernel)
theorem kt_list_tuple : PySem.W.kitOne K (.type "list") (.type "tuple") = some false := kit_ty (by decide +kernel)
theorem kt_list_bool : PySem.W.kitOne K (.type "list") (.type "bool") = some false := kit_ty (by decide +kernel)
theorem kt_list_int : PySem.W.kitOne K (.type "list") (.type "int") = some false := kit_ty (by decide +kernel)
theorem kt_list_str : PySem.W.kitOne K (.type "list") (.type "str") = some false := kit_ty (by decide +kernel)
theorem kt_tuple_list : PySem.W.kitOne K (.type "tuple") (.type "list") = some false := kit_ty (by decide +kernel)
theorem kt_tuple_tuple : PySem.W.kitOne K (.type "tuple") (.type "tuple") = some true := kit_ty (by decide +kernel)
theorem kt_tuple_bool : PySem.W.kitOne K (.type "tuple") (.type "bool") = some false := kit_ty (by decide +kernel)
theorem kt_tuple_int : PySem.W.kitOne K (.type "tuple") (.type "int") = some false := kit_ty (by decide +kernel)
theorem kt_tuple_str : PySem.W.kitOne K (.type "tuple") (.type "str") = some false := kit_ty (by decide +kernel)
end
section
variable {K : PySem.W.Frag} {H : Hp} {Q : VK} {v : V}
theorem r_xL {p : Addr} {xs : List V} {i : Int} (h : SqL K H p xs) (a : atI xs i = some v) (q : Q v H) : rIx K (.ref p) (.int i) H Q := .inl ⟨p, xs, i, v, rfl, rfl, h, a, q⟩
theorem r_xT {p : Addr} {xs : List V} {i : Int} (h : SqT K H p xs) (a : atI xs i = some v) (q : Q v H) : rIx K (.ref p) (.int i) H Q := .inr (.inl ⟨p, xs, i, v, rfl, rfl, h, a, q⟩)
end
/-! a def of which nothing is promised -/
theorem fn_false {P : Program} {w : World} {K : PySem.W.Frag} {mg : Str → Option Value} {base : Heap} {CX : CXT} {k : Nat} {f : Addr} {fd : FuncData} {ps : List Str} : FnOk P w K mg base CX k f fd ps (fun _ _ _ _ => False) := by
  constructor
  · intros; contradiction
  · intros; contradiction
theorem fn_vac {P : Program} {w : World} {K : PySem.W.Frag} {mg : Str → Option Value} {base : Heap} {CX : CXT} {k : Nat} {f : Addr} {fd : FuncData} {ps : List Str} {sp : Sp} (h : ∀ vs H Q E, sp vs H Q E → False) : FnOk P w K mg base CX k f fd ps sp := by
  have e : sp = fun _ _ _ _ => False := by
    funext vs H Q E
    exact propext ⟨h vs H Q E, False.elim⟩
  rw [e]
  exact fn_false

/-! ### promises of the law's helpers -/
def cellV (ns : List Int) (k : Int) : Int := ns.getD k.toNat 0
def spCellG (K : PySem.W.Frag) : Sp := fun vs H Q _ => ∃ (l : Addr) (ns : List Int) (k : Int), vs = [.ref l, .int k] ∧ SqL K H l (ns.map V.int) ∧ 0 ≤ k ∧ Q (.int (cellV ns k)) H
/-- data of a depth below n, of bounded lengths -/
def fits : Nat → PyData → Prop
  | 0, _ => False
  | n + 1, .list ds => ds.length ≤ sizeLine ∧ ∀ d ∈ ds, fits n d
  | n + 1, .tuple ds => ds.length ≤ sizeLine ∧ ∀ d ∈ ds, fits n d
  | _ + 1, .dict _ => False
  | _ + 1, .none => True
  | _ + 1, .bool _ => True
  | _ + 1, .int _ => True
  | _ + 1, .str _ => True
def spSame (K : PySem.W.Frag) (n : Nat) : Sp := fun vs H Q _ => ∃ (x y : V) (d : PyData), vs = [x, y] ∧ Dp K H x d ∧ Dp K H y d ∧ fits n d ∧ Q (.bl true) H
/-- count new numbers from 0 to 999 -/
def spNums (K : PySem.W.Frag) : Sp := fun vs H Q _ => ∃ (c : Int) (n : Nat), vs = [.int c, .int (n : Int)] ∧ n ≤ 10000 ∧
  ∀ (H' : Hp) (p : Addr) (ns : List Int), Same H H' → H p = none → H' p = some (.lst (ns.map V.int)) → ns.length = n → (∀ z ∈ ns, 0 ≤ z ∧ z < 1000) → Q (.ref p) H'
theorem emod_rng (a : Int) {b : Int} (h : 0 < b) : 0 ≤ a % b ∧ a % b < b := ⟨Int.emod_nonneg a (by omega), Int.emod_lt_of_pos a h⟩
/-! texts as lists of codes -/
abbrev sV (l : List Nat) : V := .str ⟨l.toArray⟩
theorem str_app (a b : List Nat) : (⟨a.toArray⟩ : Str) ++ (⟨b.toArray⟩ : Str) = ⟨(a ++ b).toArray⟩ := congrArg Str.mk (show a.toArray ++ b.toArray = (a ++ b).toArray by simp)
theorem str_len (a : List Nat) : (⟨a.toArray⟩ : Str).length = a.length := by simp [Str.length]
/-- a comprehension over a text's signs -/
theorem lc_str {x : Str} {g : TG} {tt : TT} {te : TE} {vs : List Nat} {σ : L2.St} {H1 : Hp} {D : Addr} {Qd : Hp → Prop} (Pv : Nat → Hp → Prop) (h0 : Pv 0 (upd H1 D (.lst [])))
    (hs : ∀ i c H, x.cps.toList[i]? = some c → Pv i H → g (.str ⟨#[c]⟩) (wipe σ vs) H fun σ2 H2 => wipe σ2 vs = wipe σ vs ∧ tt σ2 H2 fun b H3 =>
      if b = true then te σ2 H3 fun y H4 => ∃ acc, H4 D = some (.lst acc) ∧ acc.length < sizeLine ∧ Pv (i + 1) (upd H4 D (.lst (acc ++ [y]))) else Pv (i + 1) H3) (hd : ∀ H, Pv x.cps.size H → Qd H) :
    ∃ W : Nat → Nat → Hp → Prop, (∃ m, W 0 m (upd H1 D (.lst []))) ∧ ∀ i m H, W i m H →
      ((Its x).stop i H ∧ Qd H) ∨ ((Its x).go i H ∧ ∃ Nx : Hp → Prop, (∀ H', Nx H' → ∃ m', m' < m ∧ W (i + 1) m' H') ∧ ∀ x' H', (Its x).yld i H x' H' → g x' (wipe σ vs) H' fun σ2 H2 => wipe σ2 vs = wipe σ vs ∧ tt σ2 H2 fun b H3 =>
        if b = true then te σ2 H3 fun y H4 => ∃ acc, H4 D = some (.lst acc) ∧ acc.length < sizeLine ∧ Nx (upd H4 D (.lst (acc ++ [y]))) else Nx H3) := by
  refine ⟨fun i m H => m = x.cps.size - i ∧ i ≤ x.cps.size ∧ Pv i H, ⟨x.cps.size, by simp, Nat.zero_le _, h0⟩, ?_⟩
  rintro i m H ⟨rfl, hi, p⟩
  by_cases hlt : i < x.cps.size
  · refine .inr ⟨hlt, Pv (i + 1), fun H' p' => ⟨x.cps.size - (i + 1), by omega, rfl, hlt, p'⟩, fun x' H' y => ?_⟩
    obtain ⟨e, c, hc, rfl⟩ := y
    subst e
    exact hs i c _ (by rw [Array.getElem?_toList]; exact hc) p
  · have e : i = x.cps.size := by omega
    subst e
    exact .inl ⟨Nat.le_refl _, hd H p⟩
theorem cut_abcd {m : Nat} (h4 : m ≤ 4) : cutS (Str.ofString "abcd") none (some (m : Int)) = ⟨(List.take m [97, 98, 99, 100]).toArray⟩ := by
  match m, h4 with
  | 0, _ => decide +kernel
  | 1, _ => decide +kernel
  | 2, _ => decide +kernel
  | 3, _ => decide +kernel
  | 4, _ => decide +kernel
section
variable {σ : L2.St} {H : Hp} {Q : VK} {K : PySem.W.Frag} {te : TE} {R : It → Hp → Prop}
theorem r_gn {i : Nat} {v : V} {C : L2.St → Hp → Prop} (h : C (σ.set i (some v)) H) : gName i v σ H C := h
theorem iteNT {A B : Prop} (h : B) : if (!true) = true then A else B := iteF h
theorem iteNF {A B : Prop} (h : A) : if (!false) = true then A else B := iteT h
theorem r_fdiv {g : Int → Int → V} {i j : Int} (hc : 0 < j ∧ j < 1073741824) (h : Q (g i j) H) : rI CDiv g (.int i) (.int j) H Q := ⟨i, j, rfl, rfl, hc, h⟩
theorem r_mod {g : Int → Int → V} {i j : Int} (hc : 0 < j) (h : Q (g i j) H) : rI (fun _ j => 0 < j) g (.int i) (.int j) H Q := ⟨i, j, rfl, rfl, hc, h⟩
theorem r_mul {g : Int → Int → V} {i j : Int} (hc : (-(2 ^ 64) < i ∧ i < 2 ^ 64) ∨ (-(2 ^ 64) < j ∧ j < 2 ^ 64)) (h : Q (g i j) H) : rI CMul g (.int i) (.int j) H Q := ⟨i, j, rfl, rfl, hc, h⟩
theorem r_pow {g : Int → Int → V} {i j : Int} (hc : 0 ≤ j ∧ j ≤ 1000000 ∧ i.natAbs < 2 ^ 64) (h : Q (g i j) H) : rI CPow g (.int i) (.int j) H Q := ⟨i, j, rfl, rfl, hc, h⟩
theorem r_iStr (h : te σ H fun v H1 => ∃ x, v = .str x ∧ R (Its x) H1) : iStr te σ H R := h
theorem r_iList (h : te σ H fun x H1 => ∃ a, x = .ref a ∧ (∃ xs, SqL K H1 a xs) ∧ R (Itl K a) H1) : iList K te σ H R := h
theorem r_iTup (h : te σ H fun x H1 => ∃ a, x = .ref a ∧ (∃ xs, SqT K H1 a xs) ∧ R (Itt K a) H1) : iTup K te σ H R := h
theorem r_str1 {z : Str} {C : Str → Prop} (h : C z) : ∃ x, V.str z = .str x ∧ C x := ⟨z, rfl, h⟩
theorem r_ref1 {p : Addr} {C : Addr → Prop} (h : C p) : ∃ a, V.ref p = .ref a ∧ C a := ⟨p, rfl, h⟩
end
/-! places in a text -/
def noE : Expr := .Name "" ⟨0, 0, 0, 0⟩
def noS : Stmt := .Pass ⟨0, 0, 0, 0⟩
def eArg (k : Nat) : Expr → Expr | .Call _ es _ _ => es.getD k noE | _ => noE
def eFun : Expr → Expr | .Call f _ _ _ => f | _ => noE
def eObj : Expr → Expr | .Attribute v _ _ => v | _ => noE
def eElt : Expr → Expr | .ListComp e _ _ _ => e | .SetComp e _ _ _ => e | .GeneratorExp e _ _ _ => e | _ => noE
def eScope : Expr → Scope | .ListComp _ _ sc _ => sc | .SetComp _ _ sc _ => sc | .GeneratorExp _ _ sc _ => sc | _ => { kind := .function, names := [], isGenerator := false, isCoroutine := false }
def eIter (k : Nat) : Expr → Expr | .ListComp _ gs _ _ => (gs.map fun g => g.iter).getD k noE | _ => noE
def eIf (k j : Nat) : Expr → Expr | .ListComp _ gs _ _ => ((gs.map fun g => g.ifs).getD k []).getD j noE | _ => noE
def eLeft : Expr → Expr | .BinOp a _ _ _ => a | .Compare a _ _ _ => a | .Subscript a _ _ => a | .UnaryOp _ a _ => a | _ => noE
def eRight : Expr → Expr | .BinOp _ _ b _ => b | .Subscript _ b _ => b | _ => noE
def eCmp (k : Nat) : Expr → Expr | .Compare _ _ bs _ => bs.getD k noE | _ => noE
def eVal (k : Nat) : Expr → Expr | .BoolOp _ es _ => es.getD k noE | .List es _ => es.getD k noE | .Tuple es _ _ => es.getD k noE | _ => noE
def sE : Stmt → Expr | .Assign _ e _ => e | .AugAssign _ _ e _ => e | .Return (some e) _ => e | .Expr e _ => e | .If c _ _ _ => c | .While c _ _ _ => c | .For _ it _ _ _ => it | _ => noE
def sIn (k : Nat) : Stmt → Stmt | .FunctionDef _ _ b _ _ _ _ _ _ _ => b.getD k noS | .If _ b _ _ => b.getD k noS | .For _ _ b _ _ => b.getD k noS | .While _ b _ _ => b.getD k noS | _ => noS
def sElse (k : Nat) : Stmt → Stmt | .If _ _ b _ => b.getD k noS | _ => noS
section
variable {σ : L2.St} {H : Hp} {Q : VK} {K : PySem.W.Frag} {te : TE}
def rIdxS : V → List V → Hp → VK → Prop := fun x xs H Q => ∃ a b i rest, x = .str a ∧ xs = [.str b] ∧ Builtin.Str.occurrences a b 0 a.length 1 = i :: rest ∧ Q (.int (i : Nat)) H
theorem mt_indexS {X : Cx} : MtR X "str.index" rIdxS := mt_sindex
theorem occ_abcd {j c : Nat} (h : [97, 98, 99, 100][j]? = some c) : Builtin.Str.occurrences (Str.ofString "abcd") ⟨#[c]⟩ 0 (Str.ofString "abcd").length 1 = [j] := by
  match j, h with
  | 0, h => cases Option.some.inj h; decide +kernel
  | 1, h => cases Option.some.inj h; decide +kernel
  | 2, h => cases Option.some.inj h; decide +kernel
  | 3, h => cases Option.some.inj h; decide +kernel
  | n + 4, h => simp at h
theorem r_idxS {j c : Nat} (h : [97, 98, 99, 100][j]? = some c) (q : Q (.int (j : Int)) H) : rIdxS (.str (Str.ofString "abcd")) [.str ⟨#[c]⟩] H Q := ⟨_, _, j, [], rfl, rfl, occ_abcd h, q⟩
def rJoinS (K : PySem.W.Frag) : V → List V → Hp → VK → Prop := fun x xs H Q => ∃ a p, ∃ ys : List Str, x = .str a ∧ xs = [.ref p] ∧ (SqL K H p (ys.map V.str) ∨ SqT K H p (ys.map V.str)) ∧ (ys.map (·.length)).sum + ys.length * a.length ≤ 16777216 ∧ Q (.str (Txt.join a ys)) H
theorem mt_joinS {X : Cx} : MtR X "str.join" (rJoinS X.K) := mt_join
theorem r_bmS {T : String} {r : V → List V → Hp → VK → Prop} {to : TE} {t : TA} (h : to σ H fun x H1 => tyV K T x H1 ∧ t σ H1 fun xs H2 => r x xs H2 Q) : tBM K T r to t σ H Q := h
theorem foldl_app : ∀ (xs : List (Array Nat)) (acc : Array Nat), xs.foldl (· ++ ·) acc = acc ++ (xs.map Array.toList).flatten.toArray
  | [], acc => by simp
  | x :: xs, acc => by
    rw [List.foldl_cons, foldl_app xs (acc ++ x)]
    rw [List.map_cons, List.flatten_cons, Array.append_assoc]
    congr 1
    apply Array.ext'
    simp
theorem mul_txt (l : List Nat) (n : Nat) : Txt.mul ⟨l.toArray⟩ (n : Int) = ⟨((List.replicate n l).flatten).toArray⟩ := by
  unfold Txt.mul
  by_cases h1 : (n : Int) < 1
  · have e : n = 0 := by omega
    subst e
    rfl
  · rw [if_neg h1]
    by_cases h2 : ((n : Int) == 1 || (⟨l.toArray⟩ : Str).length == 0) = true
    · rw [if_pos h2]
      rcases Bool.or_eq_true_iff.mp h2 with e | e
      · have e' : n = 1 := by have := eq_of_beq e; omega
        subst e'
        simp
      · have e' : l = [] := by
          have e2 : l.toArray.size = 0 := eq_of_beq e
          rw [List.size_toArray] at e2
          exact List.length_eq_zero_iff.mp e2
        subst e'
        simp
    · rw [if_neg h2]
      congr 1
      rw [foldl_app]
      simp
def rRepS : R2 := fun x y H Q => ∃ (l : List Nat) (n : Nat), x = .str ⟨l.toArray⟩ ∧ y = .int (n : Int) ∧ l.length * n ≤ sizeLine ∧ n ≤ 1000000 ∧ Q (.str ⟨((List.replicate n l).flatten).toArray⟩) H
theorem op_repS {X : Cx} : OpR X (binaryOp .Mult) rRepS := by
  intro pins s σ H x y v u Q I rx ry h
  obtain ⟨l, n, rfl, rfl, hl, hn, q⟩ := h
  obtain ⟨t, rfl⟩ := rx
  obtain ⟨t2, rfl⟩ := ry
  refine SB.mul ⟨?_, fun h1 h2 => ?_, fun h1 h2 => ?_⟩ fun t' k => ⟨.str (Txt.mul ⟨l.toArray⟩ (n : Int)), H, I.tok k, ⟨t', rfl⟩, ?_⟩
  · rw [Bool.or_eq_false_iff]
    exact ⟨decide_eq_false (by omega), decide_eq_false (by omega)⟩
  · have hz : (sizeLine : Nat) = 16777216 := by decide
    rw [str_len]
    intro hc
    have hn1 : 1 ≤ n := by omega
    have hll : l.length ≤ 16777216 := by
      have : l.length * 1 ≤ l.length * n := Nat.mul_le_mul_left _ hn1
      omega
    have h3 : (1000000000 : Int) ≤ (2 ^ 63 - 1) / (n : Int) := by
      rw [Int.le_ediv_iff_mul_le (by omega)]
      omega
    omega
  · rw [str_len]
    have : (l.length * (n : Int).toNat) ≤ sizeLine := by rw [Int.toNat_natCast]; exact hl
    exact decide_eq_false (by omega)
  · rw [mul_txt]
    exact q
theorem r_lstRg1 {j : Int} (h0 : 0 ≤ j) (h1 : j ≤ 16777216) (q : ∀ p, H p = none → Q (.ref p) (upd H p (.lst (((List.range j.toNat).map fun i : Nat => (i : Int)).map V.int)))) (h : te σ H fun x H1 => x = .int j ∧ H1 = H) (mono : ∀ R R' : VK, (∀ v H, R v H → R' v H) → te σ H R → te σ H R') : tLstRg (tRg1 te) σ H Q := by
  refine mono _ _ (fun v H1 e => ?_) h
  obtain ⟨rfl, rfl⟩ := e
  refine ⟨j, rfl, RgOk.of_le (Int.le_refl _) h1 (by decide) h0, fun p hp => ?_⟩
  have e : rgV 0 j = ((List.range j.toNat).map fun i : Nat => (i : Int)).map V.int := by
    unfold rgV
    rw [List.map_map, show (j - 0) = j by omega]
    refine List.map_congr_left fun i _ => ?_
    show V.int (0 + (i : Int)) = V.int (i : Int)
    rw [Int.zero_add]
  rw [e]
  exact q p hp
end
/-! drawn numbers -/
def Dr (n : Nat) (c : Int) (ms : List Int) : Prop := ms.length = n ∧ ∀ z ∈ ms, 0 ≤ z ∧ z < c
theorem Dr.nil {c : Int} : Dr 0 c [] := ⟨rfl, fun _ h => nomatch h⟩
theorem Dr.app {n : Nat} {c z : Int} {ms : List Int} (h : Dr n c ms) (h0 : 0 ≤ z) (h1 : z < c) : Dr (n + 1) c (ms ++ [z]) := by
  refine ⟨by rw [List.length_append, h.1]; rfl, fun y hy => ?_⟩
  rcases List.mem_append.mp hy with hy | hy
  · exact h.2 y hy
  · rw [List.mem_singleton.mp hy]; exact ⟨h0, h1⟩
theorem Dr.set {n : Nat} {c z : Int} {ms : List Int} {j : Nat} (h : Dr n c ms) (h0 : 0 ≤ z) (h1 : z < c) : Dr n c (ms.set j z) := by
  refine ⟨by rw [List.length_set]; exact h.1, fun y hy => ?_⟩
  rcases List.mem_or_eq_of_mem_set hy with hy | hy
  · exact h.2 y hy
  · rw [hy]; exact ⟨h0, h1⟩
theorem Dr.getD {n : Nat} {c : Int} {ms : List Int} {j : Nat} (h : Dr n c ms) (hj : j < n) : 0 ≤ ms.getD j 0 ∧ ms.getD j 0 < c := by
  have hj' : j < ms.length := by rw [h.1]; exact hj
  rw [List.getD_eq_getElem?_getD, List.getElem?_eq_getElem hj']
  exact h.2 _ (List.getElem_mem hj')
theorem at_int {ns : List Int} {i : Int} (h0 : 0 ≤ i) (h1 : i < ns.length) : atI (ns.map V.int) i = some (.int (ns.getD i.toNat 0)) := by
  have hi : i.toNat < ns.length := by omega
  refine at_of (j := i.toNat) (by omega) ?_
  rw [List.getElem?_map, List.getD_eq_getElem?_getD, List.getElem?_eq_getElem hi]
  rfl
theorem ix_set {n : Nat} {i : Int} (h0 : 0 ≤ i) (h1 : i < n) : ixN n i = some i.toNat := by
  unfold ixN
  rw [if_pos h0, if_pos h1]
theorem r_setL {p : Addr} {xs : List V} {k : Int} {y : V} {H : Hp} {Q : Hp → Prop} (h : H p = some (.lst xs)) (h0 : 0 ≤ k) (h1 : k < xs.length) (q : Q (upd H p (.lst (xs.set k.toNat y)))) : rSetL (.ref p) (.int k) y H Q := ⟨p, xs, k, k.toNat, rfl, rfl, h, ix_set h0 h1, q⟩
theorem r_gsub {to ti : TE} {t : TSet} {v : V} {σ : L2.St} {H : Hp} {C : L2.St → Hp → Prop} (h : to σ H fun o H1 => ti σ H1 fun i H2 => t o i v H2 fun H3 => C σ H3) : gSub to ti t v σ H C := h
theorem map_set_int (ms : List Int) (j : Nat) (z : Int) : (ms.map V.int).set j (V.int z) = (ms.set j z).map V.int := by rw [List.map_set]
theorem rep_flat (z : Int) (n : Nat) : (List.replicate n [V.int z]).flatten = (List.replicate n z).map V.int := by
  induction n with
  | zero => rfl
  | succ n ih => rw [List.replicate_succ, List.flatten_cons, ih, List.replicate_succ]; rfl
theorem Dr.rep {n : Nat} {c z : Int} (h0 : 0 ≤ z) (h1 : z < c) : Dr n c (List.replicate n z) := ⟨List.length_replicate, fun y hy => by rw [(List.mem_replicate.mp hy).2]; exact ⟨h0, h1⟩⟩
theorem Dr.perm {n : Nat} {c : Int} {ms ms' : List Int} (h : Dr n c ms) (p : ms'.Perm ms) : Dr n c ms' := ⟨by rw [p.length_eq]; exact h.1, fun y hy => h.2 y (p.mem_iff.mp hy)⟩
theorem Dr.range (n : Nat) : Dr n n ((List.range n).map fun i : Nat => (i : Int)) := by
  refine ⟨by rw [List.length_map, List.length_range], fun y hy => ?_⟩
  obtain ⟨i, hi, rfl⟩ := List.mem_map.mp hy
  have := List.mem_range.mp hi
  exact ⟨by omega, by omega⟩
def spAction (K : PySem.W.Frag) : Sp := fun vs H Q _ => ∃ (p : Addr) (ns : List Int) (n : Nat), vs = [.ref p, .int (n : Int)] ∧ SqL K H p (ns.map V.int) ∧ 12 ≤ ns.length ∧ 1 ≤ n ∧ n ≤ 10 ∧
  ∀ (H' : Hp) (q : Addr) (ms : List Int), Same H H' → H q = none → H' q = some (.lst (ms.map V.int)) → Dr n n ms → Q (.ref q) H'
/-! the rules with the written part named -/
section
variable {X : Cx} {K : PySem.W.Frag}
theorem ix_listK (h : X.K = K) : IxR X (rIxL K) := h ▸ ix_list
theorem ix_tupK (h : X.K = K) : IxR X (rIxT K) := h ▸ ix_tup
theorem ix_seqK (h : X.K = K) : IxR X (rIx K) := h ▸ ix_seq
theorem call_lenQK (h : X.K = K) : CallR X (.builtin "len") (rLenQ K) := h ▸ call_lenQ
theorem call_tupOfK (h : X.K = K) : CallR X (.type "tuple") (rTupOf K) := h ▸ call_tupOf
theorem call_lstOfK (h : X.K = K) : CallR X (.type "list") (rLstOf K) := h ▸ call_lstOf
theorem call_isiK1 (h : X.K = K) : CallR X (.builtin "isinstance") (rIsi K) := h ▸ call_isi
theorem cr_sortedK (h : X.K = K) : CallR X (.builtin "sorted") (rSorted K) := h ▸ cr_sorted
theorem sl_listK (h : X.K = K) : SlR X (rSlL K) := h ▸ sl_list
theorem sl_tupK (h : X.K = K) : SlR X (rSlT K) := h ▸ sl_tup
theorem op_inK (h : X.K = K) : OpR X (compareOp .In) (rIn K false) := h ▸ op_in_seq
theorem op_notInK (h : X.K = K) : OpR X (compareOp .NotIn) (rIn K true) := h ▸ op_notIn_seq
theorem op_catTK (h : X.K = K) : OpR X (binaryOp .Add) (rCatT K) := h ▸ op_catT
theorem op_eqDK (h : X.K = K) (hu : X.A.units + 64 < cLine) : OpR X (compareOp .Eq) (rEqD K) := h ▸ op_eqD hu
theorem op_neDK (h : X.K = K) (hu : X.A.units + 64 < cLine) : OpR X (compareOp .NotEq) (rNeD K) := h ▸ op_neD hu
theorem mt_joinSK (h : X.K = K) : MtR X "str.join" (rJoinS K) := h ▸ mt_joinS
theorem cr_anyK (h : X.K = K) (hc : X.calm = true) : CallR X (.builtin "any") (rAny K) := h ▸ cr_any hc
theorem pi_listK {tg l : Expr} {tl : TE} (h : X.K = K) (hl : PE X l tl) : PI X tg l (iList K tl) := h ▸ pi_list hl
theorem pi_tupK {tg l : Expr} {tl : TE} (h : X.K = K) (hl : PE X l tl) : PI X tg l (iTup K tl) := h ▸ pi_tup hl
theorem bmK {e : Expr} {T : String} {r : V → List V → Hp → VK → Prop} {to : TE} {t : TA} (h : X.K = K) (p : PE X e (tBM X.K T r to t)) : PE X e (tBM K T r to t) := h ▸ p
theorem bm0K {e : Expr} {T : String} {r : V → List V → Hp → VK → Prop} {to : TE} (h : X.K = K) (p : PE X e (tBM0 X.K T r to)) : PE X e (tBM0 K T r to) := h ▸ p
theorem pg_tupK {es : List Expr} {k : Nat} {t : TGs} {n : Nat} {pos : Pos} (hK : X.K = K) (hc : X.calm = true) (h : PGs X es t) (hn : (assignEach es X.env).length = n := by rfl) (hst : (assignEach es X.env).findIdx? (·.1) = none := by rfl) : PG X (.Tuple es k pos) (gTup K n t) := hK ▸ pg_tup hc h hn hst
end
theorem ln1 {x0 : V} : [x0].length ≤ sizeLine := by show 1 ≤ sizeLine; decide
theorem ln2 {x0 x1 : V} : [x0, x1].length ≤ sizeLine := by show 2 ≤ sizeLine; decide
theorem ln3 {x0 x1 x2 : V} : [x0, x1, x2].length ≤ sizeLine := by show 3 ≤ sizeLine; decide
theorem ln4 {x0 x1 x2 x3 : V} : [x0, x1, x2, x3].length ≤ sizeLine := by show 4 ≤ sizeLine; decide
theorem ln5 {x0 x1 x2 x3 x4 : V} : [x0, x1, x2, x3, x4].length ≤ sizeLine := by show 5 ≤ sizeLine; decide
theorem ln6 {x0 x1 x2 x3 x4 x5 : V} : [x0, x1, x2, x3, x4, x5].length ≤ sizeLine := by show 6 ≤ sizeLine; decide
theorem ln7 {x0 x1 x2 x3 x4 x5 x6 : V} : [x0, x1, x2, x3, x4, x5, x6].length ≤ sizeLine := by show 7 ≤ sizeLine; decide
theorem ln8 {x0 x1 x2 x3 x4 x5 x6 x7 : V} : [x0, x1, x2, x3, x4, x5, x6, x7].length ≤ sizeLine := by show 8 ≤ sizeLine; decide
/-! ### data of tuples alone: what never changes -/
mutual
inductive Dt (K : PySem.W.Frag) (H : Hp) : V → PyData → Prop
  | non : Dt K H .non .none
  | bl (b : Bool) : Dt K H (.bl b) (.bool b)
  | int (i : Int) : Dt K H (.int i) (.int i)
  | str (x : Str) : Dt K H (.str x) (.str x)
  | tup {a : Addr} {xs : List V} {ds : List PyData} : SqT K H a xs → DtAll K H xs ds → Dt K H (.ref a) (.tuple ds)
inductive DtAll (K : PySem.W.Frag) (H : Hp) : List V → List PyData → Prop
  | nil : DtAll K H [] []
  | cons {v : V} {vs : List V} {d : PyData} {ds : List PyData} : Dt K H v d → DtAll K H vs ds → DtAll K H (v :: vs) (d :: ds)
end
/-- tuples stand -/
def SameT (H H' : Hp) : Prop := ∀ b, (∀ xs, H b = some (.tup xs) → H' b = some (.tup xs)) ∧ ∀ o xs, H b = some (.frz o (.tup xs)) → H' b = some (.frz o (.tup xs))
theorem sT_of {H H' : Hp} (e : Same H H') : SameT H H' := fun b => ⟨fun _ h => e b _ h, fun _ _ h => e b _ h⟩
theorem SameT.refl (H : Hp) : SameT H H := fun _ => ⟨fun _ h => h, fun _ _ h => h⟩
theorem SameT.trans {H H1 H2 : Hp} (a : SameT H H1) (b : SameT H1 H2) : SameT H H2 := fun c => ⟨fun xs h => (b c).1 xs ((a c).1 xs h), fun o xs h => (b c).2 o xs ((a c).2 o xs h)⟩
theorem SameT.lst {H : Hp} {p : Addr} {xs : List V} {o : HO} (h : H p = some (.lst xs)) : SameT H (upd H p o) := fun b => by
  refine ⟨fun ys e => ?_, fun o' ys e => ?_⟩
  · have : b ≠ p := fun z => by rw [z, h] at e; cases e
    rw [upd_ne this]; exact e
  · have : b ≠ p := fun z => by rw [z, h] at e; cases e
    rw [upd_ne this]; exact e
theorem SameT.sq {K : PySem.W.Frag} {H H' : Hp} {a : Addr} {xs : List V} (e : SameT H H') (h : SqT K H a xs) : SqT K H' a xs := by
  rcases h with (h | ⟨o, h⟩) | h
  · exact .inl (.inl ((e _).1 _ h))
  · exact .inl (.inr ⟨o, (e _).2 _ _ h⟩)
  · exact .inr h
mutual
theorem Dt.keep {K : PySem.W.Frag} {H H' : Hp} (e : SameT H H') : ∀ (d : PyData) (v : V), Dt K H v d → Dt K H' v d
  | .none, _, h => by cases h; exact .non
  | .bool b, _, h => by cases h; exact .bl b
  | .int i, _, h => by cases h; exact .int i
  | .str x, _, h => by cases h; exact .str x
  | .list ds, _, h => by cases h
  | .tuple ds, _, h => by
    cases h with
    | tup hs ha => exact .tup (e.sq hs) (DtAll.keep e ds _ ha)
  | .dict _, _, h => by cases h
theorem DtAll.keep {K : PySem.W.Frag} {H H' : Hp} (e : SameT H H') : ∀ (ds : List PyData) (vs : List V), DtAll K H vs ds → DtAll K H' vs ds
  | [], _, h => by cases h; exact .nil
  | d :: ds, _, h => by
    cases h with
    | cons h1 h2 => exact .cons (Dt.keep e d _ h1) (DtAll.keep e ds _ h2)
end
mutual
theorem Dt.dp {K : PySem.W.Frag} {H : Hp} : ∀ (d : PyData) (v : V), Dt K H v d → Dp K H v d
  | .none, _, h => by cases h; exact .non
  | .bool b, _, h => by cases h; exact .bl b
  | .int i, _, h => by cases h; exact .int i
  | .str x, _, h => by cases h; exact .str x
  | .list ds, _, h => by cases h
  | .tuple ds, _, h => by
    cases h with
    | tup hs ha => exact .tup hs (DtAll.dp ds _ ha)
  | .dict _, _, h => by cases h
theorem DtAll.dp {K : PySem.W.Frag} {H : Hp} : ∀ (ds : List PyData) (vs : List V), DtAll K H vs ds → DpAll K H vs ds
  | [], _, h => by cases h; exact .nil
  | d :: ds, _, h => by
    cases h with
    | cons h1 h2 => exact .cons (Dt.dp d _ h1) (DtAll.dp ds _ h2)
end
section
variable {K : PySem.W.Frag} {H H' : Hp}
theorem Dt.k {v : V} {d : PyData} (h : Dt K H v d) (e : SameT H H') : Dt K H' v d := Dt.keep e d v h
theorem DtAll.k {vs : List V} {ds : List PyData} (h : DtAll K H vs ds) (e : SameT H H') : DtAll K H' vs ds := DtAll.keep e ds vs h
theorem DtAll.len : ∀ {vs : List V} {ds : List PyData}, DtAll K H vs ds → vs.length = ds.length
  | _, _, .nil => rfl
  | _, _, .cons _ t => congrArg (· + 1) (DtAll.len t)
theorem DtAll.get : ∀ {vs : List V} {ds : List PyData} {i : Nat} {d : PyData}, DtAll K H vs ds → ds[i]? = some d → ∃ v, vs[i]? = some v ∧ Dt K H v d
  | _, _, _, _, .nil, e => by simp at e
  | _, _, 0, _, .cons h _, e => by simp at e; subst e; exact ⟨_, rfl, h⟩
  | _, _, i + 1, d, .cons _ t, e => by
    obtain ⟨v, h1, h2⟩ := DtAll.get (i := i) (d := d) t (by simpa using e)
    exact ⟨v, by simpa using h1, h2⟩
theorem DtAll.map {α : Type} {f : α → V} {g : α → PyData} (h : ∀ x, Dt K H (f x) (g x)) : ∀ xs : List α, DtAll K H (xs.map f) (xs.map g)
  | [] => .nil
  | x :: xs => .cons (h x) (DtAll.map h xs)
theorem DtAll.app : ∀ {vs ws : List V} {ds es : List PyData}, DtAll K H vs ds → DtAll K H ws es → DtAll K H (vs ++ ws) (ds ++ es)
  | _, _, _, _, .nil, s => s
  | _, _, _, _, .cons h t, s => .cons h (DtAll.app t s)
theorem DtAll.snoc {vs : List V} {ds : List PyData} {v : V} {d : PyData} (a : DtAll K H vs ds) (b : Dt K H v d) : DtAll K H (vs ++ [v]) (ds ++ [d]) := a.app (.cons b .nil)
theorem Dt.tupE {v : V} {ds : List PyData} (h : Dt K H v (.tuple ds)) : ∃ a xs, v = .ref a ∧ SqT K H a xs ∧ DtAll K H xs ds := by
  cases h with
  | tup hs ha => exact ⟨_, _, rfl, hs, ha⟩
theorem Dt.intE {v : V} {i : Int} (h : Dt K H v (.int i)) : v = .int i := by cases h; rfl
theorem DtAll.ints : ∀ {ns : List Int} {vs : List V}, DtAll K H vs (ns.map .int) → vs = ns.map V.int
  | [], _, h => by cases h; rfl
  | n :: ns, _, h => by
    cases h with
    | cons h1 h2 => rw [Dt.intE h1, DtAll.ints h2]; rfl
theorem DtAll.ofInts (ns : List Int) : DtAll K H (ns.map V.int) (ns.map .int) := DtAll.map (fun i => .int i) ns
/-- an item of a tuple of data -/
theorem Dt.item {v : V} {ds : List PyData} {i : Nat} {d : PyData} (h : Dt K H v (.tuple ds)) (e : ds[i]? = some d) : ∃ a xs w, v = .ref a ∧ SqT K H a xs ∧ xs[i]? = some w ∧ Dt K H w d := by
  obtain ⟨a, xs, rfl, hs, ha⟩ := h.tupE
  obtain ⟨w, h1, h2⟩ := ha.get e
  exact ⟨a, xs, w, rfl, hs, h1, h2⟩
end
/-! ### machines -/
structure Mac where
  steps : List (List Nat)
  start : Nat
  good : List Nat
def nD (n : Nat) : PyData := .int (n : Int)
def rowD (r : List Nat) : PyData := .tuple (r.map nD)
def macD (M : Mac) : PyData := .tuple [.tuple (M.steps.map rowD), nD M.start, rowD M.good]
structure MacOk (M : Mac) (n m : Nat) : Prop where
  len : M.steps.length = n
  row : ∀ r ∈ M.steps, r.length = m ∧ ∀ s ∈ r, s < n
  start : M.start < n
  good : ∀ s ∈ M.good, s < n
  asc : M.good.Pairwise (· < ·)
def iV (n : Nat) : V := .int (n : Int)
def spMachine (K : PySem.W.Frag) : Sp := fun vs H Q _ => ∃ (c : Int) (n m : Nat), vs = [.int c, .int (n : Int), .int (m : Int)] ∧ 1 ≤ n ∧ n ≤ 10 ∧ 1 ≤ m ∧ m ≤ 4 ∧
  ∀ (H' : Hp) (v : V) (M : Mac), Same H H' → Dt K H' v (macD M) → MacOk M n m → Q v H'
theorem cut_drop (xs : List V) (k : Nat) : cutV xs (some (k : Int)) none = xs.drop k := by
  unfold cutV
  rw [HT.sIx_nat, HT.sIx_none]
  by_cases h : k ≤ xs.length
  · rw [Nat.min_eq_left h]
    refine List.take_of_length_le ?_
    rw [List.length_drop]
    exact Nat.le_refl _
  · rw [Nat.min_eq_right (by omega), List.drop_eq_nil_of_le (Nat.le_refl _), List.drop_eq_nil_of_le (by omega), List.take_nil]
theorem menu8 {j : Nat} (h : j < 8) : ∃ d : Int, [V.int 1, V.int 2, V.int 4, V.int 8, V.int 16, V.int 32, V.int 64, V.int 125][j]? = some (.int d) ∧ 0 < d ∧ d < 1073741824 := by
  match j, h with
  | 0, _ => exact ⟨1, rfl, by decide, by decide⟩
  | 1, _ => exact ⟨2, rfl, by decide, by decide⟩
  | 2, _ => exact ⟨4, rfl, by decide, by decide⟩
  | 3, _ => exact ⟨8, rfl, by decide, by decide⟩
  | 4, _ => exact ⟨16, rfl, by decide, by decide⟩
  | 5, _ => exact ⟨32, rfl, by decide, by decide⟩
  | 6, _ => exact ⟨64, rfl, by decide, by decide⟩
  | 7, _ => exact ⟨125, rfl, by decide, by decide⟩
theorem nat_of {z c : Int} (h0 : 0 ≤ z) (h1 : z < c) : ∃ k : Nat, z = (k : Int) ∧ (k : Int) < c := ⟨z.toNat, by omega, by omega⟩
theorem ints_nat (r : List Nat) : (r.map iV) = (r.map fun n : Nat => (n : Int)).map V.int := by rw [List.map_map]; rfl
theorem ofNats {K : PySem.W.Frag} {H : Hp} (r : List Nat) : DtAll K H (r.map iV) (r.map nD) := DtAll.map (α := Nat) (f := iV) (g := nD) (fun n => .int (n : Int)) r
theorem nats_of {ms : List Int} {c : Int} (h : ∀ z ∈ ms, 0 ≤ z ∧ z < c) : ∃ r : List Nat, ms = r.map (fun n : Nat => (n : Int)) ∧ ∀ s ∈ r, (s : Int) < c := by
  refine ⟨ms.map Int.toNat, ?_, fun s hs => ?_⟩
  · rw [List.map_map]
    refine ((List.map_id ms).symm.trans (List.map_congr_left fun z hz => ?_))
    have := (h z hz).1
    show z = ((z.toNat : Nat) : Int)
    omega
  · obtain ⟨z, hz, rfl⟩ := List.mem_map.mp hs
    have := h z hz
    omega
/-! ### where words lead -/
def stepM (M : Mac) (s c : Nat) : Nat := (M.steps.getD s []).getD (c - 97) 0
def leadM (M : Mac) (s : Nat) (w : List Nat) : Nat := w.foldl (stepM M) s
def accM (M : Mac) (w : List Nat) : Bool := decide (leadM M M.start w ∈ M.good)
/-- codes of the first m letters -/
def isW (m : Nat) (w : List Nat) : Prop := ∀ c ∈ w, 97 ≤ c ∧ c < 97 + m
theorem isW.app {m : Nat} {u w : List Nat} (a : isW m u) (b : isW m w) : isW m (u ++ w) := fun c hc => (List.mem_append.mp hc).elim (a c) (b c)
theorem isW.take {m : Nat} {w : List Nat} (a : isW m w) (i : Nat) : isW m (w.take i) := fun c hc => a c (List.mem_of_mem_take hc)
theorem isW.rep {m : Nat} {w : List Nat} (a : isW m w) (k : Nat) : isW m (List.replicate k w).flatten := fun c hc => by
  obtain ⟨l, hl, hc⟩ := List.mem_flatten.mp hc
  rw [(List.mem_replicate.mp hl).2] at hc
  exact a c hc
theorem MacOk.rowAt {M : Mac} {n m s : Nat} (h : MacOk M n m) (hs : s < n) : (M.steps.getD s []).length = m ∧ ∀ t ∈ M.steps.getD s [], t < n := by
  have hs' : s < M.steps.length := by rw [h.len]; exact hs
  rw [List.getD_eq_getElem?_getD, List.getElem?_eq_getElem hs']
  exact h.row _ (List.getElem_mem hs')
theorem getD_mem {l : List Nat} {j : Nat} (h : j < l.length) : l.getD j 0 ∈ l := by
  rw [List.getD_eq_getElem?_getD, List.getElem?_eq_getElem h]
  exact List.getElem_mem h
theorem MacOk.step {M : Mac} {n m s c : Nat} (h : MacOk M n m) (hs : s < n) (h0 : 97 ≤ c) (h1 : c < 97 + m) : stepM M s c < n := by
  obtain ⟨hl, hr⟩ := h.rowAt hs
  exact hr _ (getD_mem (by rw [hl]; omega))
theorem leadM_lt {M : Mac} {n m : Nat} (h : MacOk M n m) : ∀ (w : List Nat) (s : Nat), s < n → isW m w → leadM M s w < n
  | [], s, hs, _ => hs
  | c :: w, s, hs, hw => leadM_lt h w _ (h.step hs (hw c List.mem_cons_self).1 (hw c List.mem_cons_self).2) fun d hd => hw d (List.mem_cons_of_mem _ hd)
theorem leadM_snoc (M : Mac) (s : Nat) (w : List Nat) (c : Nat) : leadM M s (w ++ [c]) = stepM M (leadM M s w) c := by
  unfold leadM
  rw [List.foldl_append]
  rfl
section
variable {K : PySem.W.Frag} {H : Hp}
theorem rowE {v : V} {r : List Nat} (h : Dt K H v (rowD r)) : ∃ p, v = .ref p ∧ SqT K H p (r.map iV) := by
  obtain ⟨p, xs, rfl, hs, ha⟩ := h.tupE
  refine ⟨p, rfl, ?_⟩
  have e : r.map nD = (r.map fun n : Nat => (n : Int)).map PyData.int := by rw [List.map_map]; rfl
  rw [e] at ha
  rw [ints_nat, ← ha.ints]
  exact hs
theorem macE {v : V} {M : Mac} (h : Dt K H v (macD M)) : ∃ a st gd vs, v = .ref a ∧ SqT K H a [.ref st, iV M.start, .ref gd] ∧ SqT K H st vs ∧ DtAll K H vs (M.steps.map rowD) ∧ SqT K H gd (M.good.map iV) := by
  obtain ⟨a, xs, rfl, hs, ha⟩ := h.tupE
  cases ha with
  | cons h1 t1 =>
  cases t1 with
  | cons h2 t2 =>
  cases t2 with
  | cons h3 t3 =>
  cases t3
  obtain ⟨st, vs, rfl, hst, hvs⟩ := h1.tupE
  obtain ⟨gd, rfl, hg⟩ := rowE h3
  have e := Dt.intE h2
  subst e
  exact ⟨a, st, gd, vs, rfl, hs, hst, hvs, hg⟩
theorem rowsE {vs : List V} {M : Mac} {s : Nat} (h : DtAll K H vs (M.steps.map rowD)) (hs : s < M.steps.length) : ∃ p, vs[s]? = some (.ref p) ∧ SqT K H p ((M.steps.getD s []).map iV) := by
  obtain ⟨w, h1, h2⟩ := h.get (i := s) (d := rowD M.steps[s]) (by rw [List.getElem?_map, List.getElem?_eq_getElem hs]; rfl)
  obtain ⟨p, rfl, hp⟩ := rowE h2
  refine ⟨p, h1, ?_⟩
  rw [List.getD_eq_getElem?_getD, List.getElem?_eq_getElem hs]
  exact hp
theorem at_nat {r : List Nat} {z : Int} {j : Nat} (e : z = (j : Int)) (h : j < r.length) : atI (r.map iV) z = some (iV (r.getD j 0)) := by
  refine at_of e ?_
  rw [List.getElem?_map, List.getD_eq_getElem?_getD, List.getElem?_eq_getElem h]
  rfl
end
theorem let_ix {c m : Nat} (h0 : 97 ≤ c) (h1 : c < 97 + m) (hm : m ≤ 4) : [97, 98, 99, 100][c - 97]? = some c := by
  have h : c = 97 ∨ c = 98 ∨ c = 99 ∨ c = 100 := by omega
  rcases h with rfl | rfl | rfl | rfl <;> rfl
theorem inV_nat (k : Nat) (g : List Nat) : inV (iV k) (g.map iV) = decide (k ∈ g) := by
  unfold inV
  rw [List.any_map]
  by_cases h : k ∈ g
  · rw [decide_eq_true h]
    exact List.any_eq_true.mpr ⟨k, h, by show ((k : Int) == (k : Int)) = true; exact beq_self_eq_true _⟩
  · rw [decide_eq_false h]
    refine List.any_eq_false.mpr fun y hy e => h ?_
    have e2 : ((y : Int) == (k : Int)) = true := e
    have e3 : (y : Int) = (k : Int) := eq_of_beq e2
    have : y = k := by omega
    rw [← this]; exact hy
theorem flat_nats (g : List Nat) : (g.map iV).all flatV = true := by
  refine List.all_eq_true.mpr fun x hx => ?_
  obtain ⟨n, _, rfl⟩ := List.mem_map.mp hx
  rfl
def spLead (K : PySem.W.Frag) : Sp := fun vs H Q _ => ∃ (v : V) (M : Mac) (n m s : Nat) (w : List Nat), vs = [v, iV s, sV w] ∧ Dt K H v (macD M) ∧ MacOk M n m ∧ m ≤ 4 ∧ s < n ∧ isW m w ∧ Q (iV (leadM M s w)) H
def spAcc (K : PySem.W.Frag) : Sp := fun vs H Q _ => ∃ (v : V) (M : Mac) (n m : Nat) (w : List Nat), vs = [v, sV w] ∧ Dt K H v (macD M) ∧ MacOk M n m ∧ m ≤ 4 ∧ isW m w ∧ Q (.bl (accM M w)) H
def abcdG (m : Nat) : List Nat := List.take m [97, 98, 99, 100]
theorem abcdG_len {m : Nat} (h : m ≤ 4) : (abcdG m).length = m := by
  unfold abcdG
  rw [List.length_take]
  exact Nat.min_eq_left h
def spLetters (K : PySem.W.Frag) : Sp := fun vs H Q _ => ∃ (v : V) (M : Mac) (n m : Nat), vs = [v] ∧ Dt K H v (macD M) ∧ MacOk M n m ∧ 1 ≤ n ∧ m ≤ 4 ∧ Q (sV (abcdG m)) H
def spWord (K : PySem.W.Frag) : Sp := fun vs H Q _ => ∃ (c : Int) (m : Nat), vs = [.int c, .int (m : Int)] ∧ 1 ≤ m ∧ m ≤ 4 ∧
  ∀ (H' : Hp) (w : List Nat), Same H H' → w.length ≤ 14 → isW m w → Q (sV w) H'
theorem foldl_signs : ∀ (cs : List Nat) (acc : Array Nat), (cs.map fun c => (⟨#[c]⟩ : Str)).foldl (fun acc p => acc ++ (⟨#[]⟩ : Str).cps ++ p.cps) acc = acc ++ cs.toArray
  | [], acc => by simp
  | c :: cs, acc => by
    rw [List.map_cons, List.foldl_cons, foldl_signs cs]
    apply Array.ext'
    simp
theorem join_signs (cs : List Nat) : Txt.join (Str.ofString "") (cs.map fun c => (⟨#[c]⟩ : Str)) = ⟨cs.toArray⟩ := by
  have e0 : Str.ofString "" = (⟨#[]⟩ : Str) := by decide +kernel
  rw [e0]
  cases cs with
  | nil => rfl
  | cons c cs =>
    show (⟨((cs.map fun c => (⟨#[c]⟩ : Str)).foldl (fun acc p => acc ++ (⟨#[]⟩ : Str).cps ++ p.cps) #[c])⟩ : Str) = ⟨(c :: cs).toArray⟩
    rw [foldl_signs]
    congr 1
    apply Array.ext'
    simp
theorem cutV_map {α : Type} (f : α → V) (xs : List α) (lo hi : Option Int) : ∃ ys : List α, cutV (xs.map f) lo hi = ys.map f ∧ ys.length ≤ xs.length ∧ ∀ y ∈ ys, y ∈ xs := by
  refine ⟨(xs.drop (HT.sIx (xs.map f).length 0 lo)).take (HT.sIx (xs.map f).length (xs.map f).length hi - HT.sIx (xs.map f).length 0 lo), ?_, ?_, fun y hy => List.mem_of_mem_drop (List.mem_of_mem_take hy)⟩
  · unfold cutV
    rw [List.map_take, List.map_drop]
  · rw [List.length_take, List.length_drop]
    omega
theorem r_in {K : PySem.W.Frag} {H : Hp} {Q : VK} {k : Nat} {g : List Nat} {p : Addr} (h : SqT K H p (g.map iV)) (q : Q (.bl (decide (k ∈ g))) H) : rIn K false (iV k) (.ref p) H Q := ⟨p, _, rfl, .inr h, rfl, flat_nats g, by rw [← inV_nat] at q; exact q⟩
section
variable {σ : L2.St} {H : Hp} {Q : VK} {K : PySem.W.Frag} {ta tb tc : TE}
def rInSg : R2 := fun x y H Q => ∃ (c : Nat) (z : Str), x = .str ⟨#[c]⟩ ∧ y = .str z ∧ Q (.bl (decide (c ∈ z.cps.toList))) H
def rNotInSg : R2 := fun x y H Q => ∃ (c : Nat) (z : Str), x = .str ⟨#[c]⟩ ∧ y = .str z ∧ Q (.bl (!decide (c ∈ z.cps.toList))) H
theorem op_inSg {X : Cx} : OpR X (compareOp .In) rInSg := op_in_sign
theorem op_notInSg {X : Cx} : OpR X (compareOp .NotIn) rNotInSg := op_notIn_sign
theorem r_inSg {c : Nat} {l : List Nat} (q : Q (.bl (decide (c ∈ l))) H) : rInSg (.str ⟨#[c]⟩) (.str ⟨l.toArray⟩) H Q := ⟨c, _, rfl, rfl, q⟩
theorem r_notInSg {c : Nat} {l : List Nat} (q : Q (.bl (!decide (c ∈ l))) H) : rNotInSg (.str ⟨#[c]⟩) (.str ⟨l.toArray⟩) H Q := ⟨c, _, rfl, rfl, q⟩
theorem r_chain {r r' : R2} (h : ta σ H fun x H1 => tb σ H1 fun y H2 => r x y H2 fun z H3 => ∃ k, z = .bl k ∧ if k = true then tc σ H3 fun w' H4 => r' y w' H4 Q else Q (.bl false) H3) : tChain r r' ta tb tc σ H Q := h
theorem r_slT {p : Addr} {xs : List V} {lo hi : Option Int} (h : SqT K H p xs) (c : ¬ (HT.sIx xs.length 0 lo = 0 ∧ HT.sIx xs.length xs.length hi = xs.length)) (q : ∀ l, H l = none → Q (.ref l) (upd H l (.tup (cutV xs lo hi)))) : rSlT K (.ref p) lo hi H Q := ⟨p, xs, rfl, h, c, q⟩
theorem r_any {p : Addr} {bs : List Bool} (h : SqL K H p (bs.map V.bl)) (q : Q (.bl (bs.any id)) H) : rAny K [.ref p] H Q := ⟨p, bs, rfl, h, q⟩
theorem r_eqD {x y : V} {d e : PyData} (h1 : Dp K H x d) (h2 : Dp K H y e) (s1 : SeqAt.shaped d = true) (s2 : SeqAt.shaped e = true) (q : Q (.bl (PyData.eqv d e)) H) : rEqD K x y H Q := ⟨d, e, h1, h2, s1, s2, q⟩
theorem r_neD {x y : V} {d e : PyData} (h1 : Dp K H x d) (h2 : Dp K H y e) (s1 : SeqAt.shaped d = true) (s2 : SeqAt.shaped e = true) (q : Q (.bl (!PyData.eqv d e)) H) : rNeD K x y H Q := ⟨d, e, h1, h2, s1, s2, q⟩
end
theorem lay_ints : ∀ A : List Int, PyData.canLayAll0 (A.map .int) = true
  | [] => rfl
  | a :: A => by
    have ih := lay_ints A
    simp [PyData.canLayAll0, PyData.canLay0] at ih ⊢
    exact ih
theorem eqv_ints_all : ∀ A B : List Int, PyData.eqvAll (A.map .int) (B.map .int) = decide (A = B)
  | [], [] => rfl
  | [], b :: B => rfl
  | a :: A, [] => rfl
  | a :: A, b :: B => by
    show (a == b && PyData.eqvAll (A.map .int) (B.map .int)) = _
    rw [eqv_ints_all A B]
    by_cases h : a = b
    · subst h
      by_cases h2 : A = B
      · subst h2; simp
      · simp [h2]
    · simp [h]
theorem depth_ints : ∀ A : List Int, PyData.depthAll (A.map .int) = 0
  | [] => rfl
  | a :: A => by
    have ih := depth_ints A
    show max 0 _ = 0
    rw [ih]
    rfl
theorem shaped_ints (A : List Int) : SeqAt.shaped (.list (A.map .int)) = true := by
  refine Bool.and_eq_true_iff.mpr ⟨lay_ints A, decide_eq_true ?_⟩
  show PyData.depthAll _ + 1 ≤ 64
  rw [depth_ints]
  decide
theorem eqv_lists (A B : List Int) : PyData.eqv (.list (A.map .int)) (.list (B.map .int)) = decide (A = B) := by
  rw [PyData.eqv]
  exact eqv_ints_all A B
theorem dp_ints {K : PySem.W.Frag} {H : Hp} {p : Addr} {A : List Int} (h : SqL K H p (A.map V.int)) : Dp K H (.ref p) (.list (A.map .int)) := .lst h (dpAll_map (fun i => .int i) A)
theorem cut_1 (xs : List V) : cutV xs (some 1) none = xs.drop 1 := cut_drop xs 1
theorem six_1 (n : Nat) : HT.sIx n 0 (some 1) = min 1 n := HT.sIx_nat n 0 1
/-- the ways behind a statement are joined: what holds there -/
theorem r_cutJ {t u : TS} {D : Ends} {σ : L2.St} {H : Hp} (J : L2.St → Hp → Prop) (key : ∀ σ H, J σ H → u D σ H) (h : (∀ σ H, J σ H → u D σ H) → t { D with nx := u D } σ H) : tSeq t u D σ H := h key
theorem six_m1 (n d : Nat) : HT.sIx n d (some (-1)) = n - 1 := by
  show (if (-1 : Int) < 0 then ((-1 : Int) + (n : Int)).toNat else min (-1 : Int).toNat n) = n - 1
  rw [if_pos (by decide)]
  omega
theorem cut_init (xs : List V) (y : V) : cutV (xs ++ [y]) none (some (-1)) = xs := by
  unfold cutV
  rw [HT.sIx_none, six_m1, List.length_append]
  simp
theorem cut_mid (xs : List V) (j : Nat) : (cutV xs (some (j : Int)) (some (-1))).length = xs.length - 1 - j := by
  unfold cutV
  rw [HT.sIx_nat, six_m1, List.length_take, List.length_drop]
  omega
theorem cut_to (xs : List V) (k : Nat) (h : k ≤ xs.length) : cutV xs none (some (k : Int)) = xs.take k := by
  unfold cutV
  rw [HT.sIx_none, HT.sIx_nat, Nat.min_eq_left h]
  rfl
theorem inV_int (k : Int) (g : List Int) : inV (.int k) (g.map V.int) = decide (k ∈ g) := by
  unfold inV
  rw [List.any_map]
  by_cases h : k ∈ g
  · rw [decide_eq_true h]
    exact List.any_eq_true.mpr ⟨k, h, by show (k == k) = true; exact beq_self_eq_true _⟩
  · rw [decide_eq_false h]
    refine List.any_eq_false.mpr fun y hy e => h ?_
    have e2 : (y == k) = true := e
    rw [← eq_of_beq e2]; exact hy
theorem flat_ints (g : List Int) : (g.map V.int).all flatV = true := by
  refine List.all_eq_true.mpr fun x hx => ?_
  obtain ⟨n, _, rfl⟩ := List.mem_map.mp hx
  rfl
section
variable {K : PySem.W.Frag} {H : Hp} {Q : VK} {p : Addr}
theorem r_inT {k : Int} {g : List Int} (h : SqT K H p (g.map V.int)) (q : Q (.bl (decide (k ∈ g))) H) : rIn K false (.int k) (.ref p) H Q := ⟨p, _, rfl, .inr h, rfl, flat_ints g, by rw [← inV_int] at q; exact q⟩
theorem r_inL {k : Int} {g : List Int} (h : SqL K H p (g.map V.int)) (q : Q (.bl (decide (k ∈ g))) H) : rIn K false (.int k) (.ref p) H Q := ⟨p, _, rfl, .inl h, rfl, flat_ints g, by rw [← inV_int] at q; exact q⟩
theorem mt_indexLK {X : Cx} (hK : X.K = K) : MtR X "list.index" (rIndex K) := hK ▸ mt_index
theorem r_indexL {k : Int} {g : List Int} (h : SqL K H p (g.map V.int)) (hk : k ∈ g) (q : Q (.int (g.idxOf k : Nat)) H) : rIndex K (.ref p) [.int k] H Q := by
  have hl := List.idxOf_lt_length_of_mem hk
  refine ⟨p, _, .int k, g.idxOf k, .int k, rfl, rfl, h, rfl, flat_ints g, ?_, ?_, fun m z' hm hz => ?_, q⟩
  · rw [List.getElem?_map, List.getElem?_eq_getElem hl, List.getElem_idxOf hl]
    rfl
  · show (k == k) = true
    exact beq_self_eq_true _
  · rw [List.getElem?_map] at hz
    obtain ⟨y, hy, rfl⟩ := Option.map_eq_some_iff.mp hz
    show (y == k) = false
    obtain ⟨hml, ey⟩ := List.getElem?_eq_some_iff.mp hy
    have := List.not_of_lt_findIdx (p := (· == k)) (xs := g) (i := m) hm
    rw [ey] at this
    simpa using this
theorem r_rep {l : Addr} {k : Int} {xs : List V} (h : H l = some (.lst xs)) (h0 : 0 ≤ k) (h1 : k ≤ 1000000) (hl : xs.length * k.toNat ≤ sizeLine) (q : ∀ p, H p = none → Q (.ref p) (upd H p (.lst (List.replicate k.toNat xs).flatten))) : rRep (.ref l) (.int k) H Q := ⟨l, k, xs, rfl, rfl, h, by omega, by omega, hl, q⟩
end
def sgD (c : Nat) : PyData := .str ⟨#[c]⟩
def sgV (c : Nat) : V := .str ⟨#[c]⟩
theorem lay_signs : ∀ A : List Nat, (∀ c ∈ A, c < 1000) → PyData.canLayAll0 (A.map sgD) = true
  | [], _ => rfl
  | a :: A, h => by
    have ih := lay_signs A fun c hc => h c (List.mem_cons_of_mem _ hc)
    have ha := h a List.mem_cons_self
    show (PyData.strOk ⟨#[a]⟩ && PyData.canLayAll0 (A.map sgD)) = true
    rw [ih, Bool.and_true]
    unfold PyData.strOk
    simp
    omega
theorem depth_signs : ∀ A : List Nat, PyData.depthAll (A.map sgD) = 0
  | [] => rfl
  | a :: A => by
    have ih := depth_signs A
    show max 0 _ = 0
    rw [ih]
    rfl
theorem shaped_signs {A : List Nat} (h : ∀ c ∈ A, c < 1000) : SeqAt.shaped (.list (A.map sgD)) = true := by
  refine Bool.and_eq_true_iff.mpr ⟨lay_signs A h, decide_eq_true ?_⟩
  show PyData.depthAll _ + 1 ≤ 64
  rw [depth_signs]
  decide
theorem eqv_signs_nil (A : List Nat) : PyData.eqv (.list (A.map sgD)) (.list []) = decide (A = []) := by
  rw [PyData.eqv]
  cases A <;> rfl
theorem dp_signs {K : PySem.W.Frag} {H : Hp} {p : Addr} {A : List Nat} (h : SqL K H p (A.map sgV)) : Dp K H (.ref p) (.list (A.map sgD)) := .lst h (dpAll_map (fun c => .str _) A)
end G
set_option Elab.async false
set_option linter.all false
set_option maxRecDepth 100000
set_option maxHeartbeats 4000000
namespace G
open PySem PySem.Spec PyProof.Rows L2
/-! ### own classes with methods: the fragment named -/
section
variable {X : Cx} {K : PySem.W.Frag} {o e value : Expr} {f : Str} {pos pos' tpos : Pos} {ta tv : TE}
theorem pe_fldK (hK : X.K = K) (he : PE X e ta) (hb : attributeBase e f X.env (eval e X.env) = eval e X.env) : PE X (.Attribute e f pos) (tFld K ta f) := hK ▸ pe_fld he hb
theorem ps_fldK (hK : X.K = K) (ha : PE X o ta) (hv : PE X value tv) (hs : swapsWith value (some (.Attribute o f pos')) pos.line X.env = pure false) : PS X (.Assign [.Attribute o f pos'] value pos) (sFld K ta tv f) := hK ▸ ps_fld ha hv hs
theorem ps_fldaugK {op : Operator} {rd : V → V → Hp → VK → Prop} (hK : X.K = K) (ha : PE X o ta) (hv : PE X value tv) (hop : InOp X op rd) : PS X (.AugAssign (.Attribute o f tpos) op value pos) (sFldAug K ta tv rd f) := hK ▸ ps_fldaug ha hv hop
end
section
variable {K : PySem.W.Frag} {σ : L2.St} {H H1 : Hp} {Q : VK} {D : Ends} {ta tv : TE} {f : Str} {a C dx : Addr} {fs : List (Str × V)} {v y : V}
/-- o.f, o standing at a -/
theorem r_fld (h : ta σ H fun x H1 => ∃ a C dx fs v, x = .ref a ∧ H1 a = some (.ins C dx fs) ∧ Cls K C ∧ NoAttr K C f ∧ fs.lookup f = some v ∧ Q v H1) : tFld K ta f σ H Q := h
theorem r_fldv {C' : V → Prop} (e : H a = some (.ins C dx fs)) (c : Cls K C) (n : NoAttr K C f) (l : fs.lookup f = some v) (q : Q v H) : ∃ a' C dx fs v, V.ref a = .ref a' ∧ H a' = some (.ins C dx fs) ∧ Cls K C ∧ NoAttr K C f ∧ fs.lookup f = some v ∧ Q v H :=
  ⟨a, C, dx, fs, v, rfl, e, c, n, l, q⟩
/-- self.f where self stands in a slot -/
theorem r_fldS {i : Nat} (hσ : σ[i]? = some (some (.ref a))) (e : H a = some (.ins C dx fs)) (c : Cls K C) (n : NoAttr K C f) (l : fs.lookup f = some v) (q : Q v H) : tFld K (tVar i) f σ H Q :=
  ⟨.ref a, hσ, a, C, dx, fs, v, rfl, e, c, n, l, q⟩
theorem r_sfld (h : tv σ H fun y H1 => ta σ H1 fun x H2 => ∃ a C dx fs, x = .ref a ∧ H2 a = some (.ins C dx fs) ∧ Cls K C ∧ NoAttr K C f ∧ fs.length < 1000 ∧ D.nx σ (upd H2 a (.ins C dx (putF f y fs)))) : sFld K ta tv f D σ H := h
theorem r_sfldv {k : L2.St → Hp → Prop} (e : H a = some (.ins C dx fs)) (c : Cls K C) (n : NoAttr K C f) (hl : fs.length < 1000) {fs' : List (Str × V)} (ep : putF f y fs = fs') (q : k σ (upd H a (.ins C dx fs'))) :
    ∃ a' C dx fs, V.ref a = .ref a' ∧ H a' = some (.ins C dx fs) ∧ Cls K C ∧ NoAttr K C f ∧ fs.length < 1000 ∧ k σ (upd H a' (.ins C dx (putF f y fs))) := ⟨a, C, dx, fs, rfl, e, c, n, hl, by rw [ep]; exact q⟩
/-- self.f = .., self standing in a slot -/
theorem r_saug {rd : V → V → Hp → VK → Prop} (h : ta σ H fun x H1 => ∃ a C dx fs v, x = .ref a ∧ H1 a = some (.ins C dx fs) ∧ Cls K C ∧ NoAttr K C f ∧ fs.lookup f = some v ∧
  tv σ H1 fun y H2 => rd v y H2 fun z H3 => ∃ dx' fs', H3 a = some (.ins C dx' fs') ∧ fs'.length < 1000 ∧ D.nx σ (upd H3 a (.ins C dx' (putF f z fs')))) : sFldAug K ta tv rd f D σ H := h
/-- o.m(..) -/
theorem r_meth {m : Str} {sp : Sp} {dvs : List V} {E : XK} {t : TA} (h : ta σ H fun x H1 => ∃ a dx fs, x = .ref a ∧ H1 a = some (.ins C dx fs) ∧ fs.lookup m = none ∧ t σ H1 fun vs H2 => sp (x :: (vs ++ dvs)) H2 Q E) : tMeth C m sp dvs E ta t σ H Q := h
theorem r_methS {i : Nat} {m : Str} {sp : Sp} {E : XK} {t : TA} (hσ : σ[i]? = some (some (.ref a))) (e : H a = some (.ins C dx fs)) (l : fs.lookup m = none) (h : t σ H fun vs H2 => sp (.ref a :: (vs ++ [])) H2 Q E) : tMeth C m sp [] E (tVar i) t σ H Q :=
  ⟨.ref a, hσ, a, dx, fs, rfl, e, l, h⟩
theorem r_make {sp : Sp} {E : XK} {t : TA} (h : t σ H fun vs H1 => ∀ x dx, H1 x = none → H1 dx = none → dx ≠ x → sp (.ref x :: (vs ++ [])) (upd (upd H1 dx (.own x)) x (.ins C dx [])) (fun v H2 => v = .non ∧ Q (.ref x) H2) E) : tMake C sp [] E t σ H Q := h
end
/-- a while by a measure that nothing of the state tells -/
theorem while_gn {c : TT} {tb : TS} {D : Ends} {σ : L2.St} {H : Hp} (W : Nat → L2.St → Hp → Prop) (m0 : Nat) (h0 : W m0 σ H)
    (hs : ∀ m σ H, W m σ H → c σ H fun b H1 => if b = true then tb { D with nx := fun σ' H' => ∃ m', m' < m ∧ W m' σ' H', ct := fun σ' H' => ∃ m', m' < m ∧ W m' σ' H', bk := D.nx } σ H1 else D.nx σ H1)
    (mono : ∀ σ H Q Q', (∀ b H1, Q b H1 → Q' b H1) → c σ H Q → c σ H Q') : tWhile c tb D σ H := by
  refine ⟨W, ⟨m0, h0⟩, fun m σ H p => mono σ H _ _ (fun b H1 q => ?_) (hs m σ H p)⟩
  cases b with
  | true => exact ⟨_, fun σ' H' h => h, q⟩
  | false => exact q
section
variable {c : TT} {t u : TS} {D : Ends} {σ : L2.St} {H : Hp}
/-- an if whose test comes out so, whatever is wanted of it -/
theorem r_ifT (J : Hp → Prop) (h1 : ∀ QB : Bool → Hp → Prop, (∀ H', J H' → QB true H') → c σ H QB) (h2 : ∀ H', J H' → t D σ H') : tIfS c t u D σ H := h1 _ fun H' j => iteT (h2 H' j)
theorem r_ifF (J : Hp → Prop) (h1 : ∀ QB : Bool → Hp → Prop, (∀ H', J H' → QB false H') → c σ H QB) (h2 : ∀ H', J H' → u D σ H') : tIfS c t u D σ H := h1 _ fun H' j => iteF (h2 H' j)
end
end G
set_option Elab.async false
set_option linter.all false
set_option maxRecDepth 100000
set_option maxHeartbeats 4000000
namespace G
open PySem PySem.Spec PyProof.Rows L2
/-! ### list.count of texts: no more than there are -/
def isTx (k : Str) : Value → Bool
  | .str s _ => s.cps.toList == k.cps.toList
  | _ => false
def rCntS (K : PySem.W.Frag) : V → List V → Hp → VK → Prop := fun x xs H Q => ∃ (p : Addr) (ss : List Str) (k : Str), x = .ref p ∧ xs = [.str k] ∧ SqL K H p (ss.map V.str) ∧ ∀ n : Nat, n ≤ ss.length → Q (.int (n : Int)) H
section
variable {X : Cx}
theorem tx_gives {k : Str} {t : Tok} : ∀ {ss : List Str} {us : List Value}, Vals (ss.map V.str) us → ∀ y ∈ us, MeetsSeq.EqGives y (.str k t) (isTx k y)
  | [], _, .nil => fun y hy => nomatch hy
  | s :: ss, _, .cons r rs => fun y hy => by
    obtain ⟨t', rfl⟩ := r
    rcases List.mem_cons.mp hy with e | e
    · rw [e]
      exact SeqRoads2.EqGives.str s k t' t
    · exact tx_gives rs y e
theorem mt_lcntS {K : PySem.W.Frag} (hK : X.K = K) : MtR X "list.count" (rCntS K) := by
  subst hK
  intro pins s σ H x xs v us Q I rx rxs h
  obtain ⟨p, ss, k, rfl, rfl, hs, q⟩ := h
  cases rx
  obtain ⟨u, rfl, ru⟩ := rxs.one
  obtain ⟨t, rfl⟩ := ru
  obtain ⟨its, rv, ⟨⟨cls, dd, data, sl⟩, n, ho, hc, hdn, hd⟩, hlen⟩ := I.list hs
  dsimp only at hc hd
  subst hc hd
  have hle : its.toArray.toList.countP (isTx k) ≤ ss.length := by
    have h1 := List.countP_le_length (p := isTx k) (l := its.toArray.toList)
    have h2 := rv.length
    rw [List.length_map] at h2
    have h3 : its.toArray.toList.length = its.length := by simp
    omega
  refine call_meets PySem.F.slot_list_count ⟨_, ho, rfl⟩ PySem.F.entry_list_count (PySem.F.args_list_count_2 _ _)
    (SeqAt.list_countAt p its.toArray n dd sl (.str k t) (isTx k)) ⟨ho, fun y hy => (tx_gives rv y (by simpa using hy)).at _ _, ?_⟩
  exact ⟨.int _, H, I.tok _, ⟨s.toks, rfl⟩, q _ hle⟩
end
end G
set_option Elab.async false
set_option linter.all false
set_option maxRecDepth 100000
set_option maxHeartbeats 4000000
namespace G
open PySem PySem.Spec PyProof.Rows L2
/-! ### xs == [], whatever the list holds -/
def rEqNil (K : PySem.W.Frag) : R2 := fun x y H Q => ∃ (a b : Addr) (xs : List V), x = .ref a ∧ y = .ref b ∧ SqL K H a xs ∧ SqL K H b [] ∧ Q (.bl (decide (xs.length = 0))) H
theorem op_eqNil {X : Cx} {K : PySem.W.Frag} (hK : X.K = K) (hu : X.A.units + 64 < cLine) : OpR X (compareOp .Eq) (rEqNil K) := by
  subst hK
  intro pins s σ H x y v u Q I rx ry h
  obtain ⟨a, b, xs, rfl, rfl, h1, h2, q⟩ := h
  obtain rfl : v = Value.ref a := rx
  obtain rfl : u = Value.ref b := ry
  obtain ⟨its, rv, pl, _⟩ := I.list h1
  obtain ⟨its2, rv2, pl2, _⟩ := I.list h2
  have e2 : its2 = [] := by cases rv2; rfl
  subst e2
  have l1 := rv.length
  by_cases hx : xs.length = 0
  · have e1 : its = [] := List.eq_nil_of_length_eq_zero (by omega)
    subst e1
    rw [decide_eq_true hx] at q
    exact PySem.W.eq_listsT (n := 0) (e := fun _ => true) pl.isList pl2.isList rfl (fun j g1 _ => absurd g1 (by simp)) (by omega) ⟨.bl true, H, I, rfl, q⟩
  · rw [decide_eq_false hx] at q
    exact SeqAt.RcAt.lists_lengths pl.isList pl2.isList (by simp; intro z; rw [z] at l1; exact hx l1) (by omega) _ _ _ _ ⟨.bl false, H, I, rfl, q⟩
theorem r_eqNil {K : PySem.W.Frag} {H : Hp} {Q : VK} {a b : Addr} {xs : List V} (h1 : SqL K H a xs) (h2 : SqL K H b []) (q : Q (.bl (decide (xs.length = 0))) H) : rEqNil K (.ref a) (.ref b) H Q := ⟨a, b, xs, rfl, rfl, h1, h2, q⟩
end G
set_option Elab.async false
set_option linter.all false
set_option maxRecDepth 100000
set_option maxHeartbeats 4000000
namespace G
open PySem PySem.Spec PyProof.Rows L2
/-! enumerate of a tuple -/
theorem en_new (l : Addr) (items : Array Value) (n : Nat) (dct : Option Addr) (sl : Array (Option Value)) :
    Meets (Builtin.«enumerate.__new__» ⟨[.type "enumerate", .ref l], []⟩) (fun _ R s =>
      s.heap.get? l = some { cls := .type "tuple", dict := dct, data := .seq items n, slots := sl } ∧
      R (.ok (.ret (.ref (s.heap.push { cls := .type "tuple_iterator", data := .fields #[.ref l, .int 0 0] }).objs.size)))
        { s with heap := (s.heap.push { cls := .type "tuple_iterator", data := .fields #[.ref l, .int 0 0] }).push { cls := .type "enumerate", data := .fields #[.none, .bool false, .ref s.heap.objs.size, rawInt 0, .none, .none] } }) :=
  .of_wp fun prog w A R s h => by
    obtain ⟨hp, g, d, tk, os⟩ := s
    obtain ⟨hl, h⟩ := h
    have hsub := sub_enumerate
    have hT : Heap.IsTuple (Shared.heap ⟨hp, g, d, tk, os⟩) l items := ⟨_, hl, rfl, n, rfl⟩
    (wp_walk using AutoSeq1.wpAny_loadPart' hl); refine wpAny_stack_any fun st => wpAny_pure ?_; split
    · rename_i c _ _ _ _ _
      cases (c == Value.type "enumerate") <;> (wp_walk using AutoSeq1.wpAny_loadPart' hl, wpAny_pyIter_tuple hT) <;> exact ⟨_, rfl, h⟩
    · (wp_walk using AutoSeq1.wpAny_loadPart' hl, wpAny_pyIter_tuple hT); exact ⟨_, rfl, h⟩
section
variable {prog : Program} {w : World} {A : Around} {E : Value → Shared → Prop} {s : Shared}
theorem call_en {l : Addr} {items : Array Value} {Q : Value → Shared → Prop} (hL : s.heap.IsTuple l items)
    (h : ∀ h', IsEnum h' (s.heap.objs.size + 1) s.heap.objs.size 0 .none → h'.IsTupleIter s.heap.objs.size l 0 →
      h'.objs.size = s.heap.objs.size + 2 → (∀ b o, s.heap.get? b = some o → h'.get? b = some o) →
      Q (.ref (s.heap.objs.size + 1)) { s with heap := h' }) : wpAny (model prog w) A (call (.type "enumerate") [.ref l]) Q E s := by
  obtain ⟨⟨c, dct, dt, sl⟩, hl, hc, n, hd⟩ := hL
  obtain rfl : c = .type "tuple" := hc
  obtain rfl : dt = .seq items n := hd
  have hz : (s.heap.push { cls := .type "tuple_iterator", data := .fields #[.ref l, .int 0 0] }).objs.size = s.heap.objs.size + 1 := Heap.size_push ..
  have he := Heap.get?_push_size (s.heap.push { cls := .type "tuple_iterator", data := .fields #[.ref l, .int 0 0] })
    (o := { cls := .type "enumerate", data := .fields #[.none, .bool false, .ref s.heap.objs.size, rawInt 0, .none, .none] }) rfl
  rw [hz] at he
  refine callType_new F.called_enumerate (by decide) (F.typeCall_enumerate_1 _) (F.newCall_enumerate_1 _)
    (fun obj => F.args_object_init_2 obj _) F.entry_enumerate_new (en_new l items n dct sl) ⟨hl, ?_⟩
  show _ ∧ _
  rw [hz]
  refine ⟨⟨_, he, rfl⟩, h _ he ⟨{ cls := .type "tuple_iterator", data := .fields #[.ref l, .int 0 0] }, Heap.get?_push_of_some _ (Heap.get?_push_size _ rfl), rfl, rfl⟩ ?_ ?_⟩
  · rw [Heap.size_push, hz]
  · exact fun b o x => Heap.get?_push_of_some _ (Heap.get?_push_of_some _ x)
end
/-- the tuple at a: each item in a new pair -/
def ItT (K : PySem.W.Frag) (a : Addr) : It where
  go i H := ∃ (xs : List V) (x : V), SqT K H a xs ∧ xs[i]? = some x
  yld i H v H' := ∃ T x, v = .ref T ∧ H T = none ∧ H' = upd H T (.tup [.int (i : Nat), x]) ∧ ∀ xs, SqT K H a xs → xs[i]? = some x
  stop i H := ∃ xs : List V, SqT K H a xs ∧ xs.length = i
theorem turn_T {P : Program} {w : World} {K : PySem.W.Frag} {elts : List Expr} {kk : Nat} {tpos : Pos} (a e it : Addr) :
    Turn P w K (.Tuple elts kk tpos) (ItT K a) [e, it] e (fun i h => (∃ old, IsEnum h e it ((i : Nat) : Int) old) ∧ h.IsTupleIter it a i ∧ e ≠ it) where
  mem := List.mem_cons_self
  obj := by
    rintro i h ⟨⟨old, he⟩, ⟨o, ho, hc, hd⟩, _⟩ b hb
    rcases List.mem_cons.mp hb with rfl | hb
    · exact ⟨_, he, fun v q => nomatch q⟩
    · rw [List.mem_singleton.mp hb]
      exact ⟨o, ho, fun v q => by rw [hd] at q; cases q⟩
  keep := by
    rintro i h h' ⟨⟨old, he⟩, hi, hne⟩ k
    exact ⟨⟨old, k e List.mem_cons_self _ he⟩, hi.at fun o q => k it (List.mem_cons_of_mem _ List.mem_cons_self) o q, hne⟩
  item := by
    rintro X rfl rfl rfl hc i pins s σ H E I hf ⟨⟨old, he⟩, hit, hne⟩ ⟨xs, x, hq, hx⟩
    obtain ⟨its, rv, p, hz⟩ := I.tuple hq
    obtain ⟨u, hu, ru⟩ := rv.get hx
    have hel : e < s.heap.objs.size := Heap.lt_size he
    have hil : it < s.heap.objs.size := by obtain ⟨_, q, _⟩ := hit; exact Heap.lt_size q
    have hae : a ≠ it := fun z => by
      obtain ⟨oi, hoi, hci, _⟩ := hit
      obtain ⟨oa, hoa, hca, _⟩ := p
      rw [z, hoi] at hoa
      cases hoa
      rw [hci] at hca
      injection hca with hca
      exact absurd hca (by decide)
    have hae2 : e ∉ [it, a] := fun z => by
      rcases List.mem_cons.mp z with z | z
      · exact hne z
      · have z := List.mem_singleton.mp z
        obtain ⟨oa, hoa, hca, _⟩ := p
        rw [← z, he] at hoa
        cases hoa
        injection hca with hca
        exact absurd hca (by decide)
    have hh : X.A.in1.handled = none := I.ok.hd hc
    have hi : i < its.toArray.size := by
      have := (List.getElem?_eq_some_iff.mp hu).1
      simpa using this
    refine wpAny_pyNext_enum_itemD (Draws.tuple hh it a hae its.toArray) he ⟨hit, show s.heap.IsTuple a its.toArray from p⟩ hi hne hae2 ?_
    intro x2 h' tk hx2 ho hst hT hsz hk
    have ex : x2 = u := by
      have h3 : its[i]? = some x2 := by simpa using hx2
      rw [hu] at h3
      exact (Option.some.inj h3).symm
    subst ex
    refine ⟨_, rfl, wpAny_letOwnedTupleGo_enum (s := { s with heap := h', toks := tk + 1 }) ho fun h'' he' sb => ?_⟩
    have hT2 : h''.get? s.heap.objs.size = some { cls := .type "tuple", data := .seq #[.int i tk, x2] } := (sb.2 _ (Nat.ne_of_gt hel)).trans hT
    have new : ObjOk X.prog X.w (upd H s.heap.objs.size (.tup [.int (i : Nat), x])) h'' s.heap.objs.size (.tup [.int (i : Nat), x]) := by
      refine ⟨by show 2 ≤ sizeLine; decide, [.int i tk, x2], .cons ⟨_, rfl⟩ (.cons ru .nil), ⟨_, hT2, rfl, _, rfl⟩⟩
    have stays : ∀ b ob, b ∉ [e, it] → s.heap.get? b = some ob → h''.get? b = some ob := fun b ob hb q => by
      have h1 : b ≠ e := fun z => hb (by rw [z]; exact List.mem_cons_self)
      have h2 : b ≠ it := fun z => hb (by rw [z]; exact List.mem_cons_of_mem _ List.mem_cons_self)
      exact (sb.2 b h1).trans (hk b ob h1 h2 q)
    have I1 := I.turnedNew (t' := tk + 1) (ch := [e, it]) stays hf (Nat.le_refl _) new
    have e1 : ((i + 1 : Nat) : Int) = (i : Int) + 1 := Int.natCast_succ i
    refine ⟨.ref s.heap.objs.size, _, I1, rfl, ⟨_, x, rfl, I.hok.fresh (Nat.le_refl _), rfl, fun ys hy => ?_⟩, ⟨⟨x2, ?_⟩, ?_, hne⟩, fun b hb => ?_⟩
    · rw [I.tuple_inj hy hq]
      exact hx
    · rw [e1]
      exact he'
    · exact hst.1.at fun o q => (sb.2 it (Ne.symm hne)).trans q
    · have hb' : b < s.heap.objs.size := by
        rcases List.mem_cons.mp hb with z | z
        · rw [z]; exact hel
        · rw [List.mem_singleton.mp z]; exact hil
      rw [upd_ne (Nat.ne_of_lt hb')]
      exact (hf b hb).1
  done := by
    rintro X rfl rfl rfl hc i pins s σ H E I hf ⟨⟨old, he⟩, hit, hne⟩ ⟨xs, hq, hx⟩
    obtain ⟨its, rv, p, hz⟩ := I.tuple hq
    obtain ⟨f0, f1, f2, f3, f4, f5⟩ := hf it (List.mem_cons_of_mem _ List.mem_cons_self)
    have hl := rv.length
    have hh : X.A.in1.handled = none := I.ok.hd hc
    have hae : a ≠ it := fun z => by
      obtain ⟨oi, hoi, hci, _⟩ := hit
      obtain ⟨oa, hoa, hca, _⟩ := p
      rw [z, hoi] at hoa
      cases hoa
      rw [hci] at hca
      injection hca with hca
      exact absurd hca (by decide)
    have ei : i = its.toArray.size := by rw [List.size_toArray, ← hl, hx]
    rw [ei] at hit
    exact wpAny_pyNext_enum_endD (Draws.tuple hh it a hae its.toArray) he ⟨hit, show s.heap.IsTuple a its.toArray from p⟩ fun h' eb =>
      ⟨rfl, I.turned (t' := s.toks) (fun b o hb q => eb b o hb q) f0 f1 f3 f4 f5⟩
  self := fun A i s Q E st h => by
    obtain ⟨⟨_, he⟩, _⟩ := st
    exact wpAny_pyIter_enum he h
def iEnumT (K : PySem.W.Frag) (ta : TA) : TI := fun σ H R => ta σ H fun vs H1 => ∃ a xs, vs = [.ref a] ∧ SqT K H1 a xs ∧ R (ItT K a) H1
theorem pi_enumT {X : Cx} {K : PySem.W.Frag} {e : Expr} {ta : TA} {p pos tpos : Pos} {elts : List Expr} {kk : Nat} (hK : X.K = K) (hg : Gl X "enumerate") (hm : X.mg "enumerate" = none) (ha : PA X [e] ta)
    (hs : starEach [e] X.env = [(false, eval e X.env)] := by rfl) : PI X (.Tuple elts kk tpos) (.Call (.Name "enumerate" p) [e] [] pos) (iEnumT K ta) := by
  subst hK
  constructor
  intro pins s σ H R I h
  refine Call_ (ld_blt I hg hm boot_enumerate (callWith_type1 (thn (ha.run pos pins s σ H _ I h) ?_) hs rfl))
  rintro us s1 ⟨vs, H1, I1, r1, a, xs, rfl, hq, q⟩
  obtain ⟨u, rfl, ru⟩ := vals1 r1
  cases ru
  obtain ⟨its, rv, p', hz⟩ := I1.tuple hq
  refine call_en (show s1.heap.IsTuple a its.toArray from p') fun h' he hit hsz hk => wpAny_pyIter_enum he ?_
  have I2 : Inv X pins σ H1 { s1 with heap := h' } := I1.kept (t' := s1.toks) hk
  refine ⟨_, [s1.heap.objs.size + 1, s1.heap.objs.size], _, _, H1, rfl, I2, turn_T a (s1.heap.objs.size + 1) s1.heap.objs.size, ⟨⟨.none, he⟩, hit, Nat.succ_ne_self _⟩, fun b hb => ?_, q⟩
  have hle : s1.heap.objs.size ≤ b := by
    rcases List.mem_cons.mp hb with z | z
    · rw [z]; exact Nat.le_add_right _ _
    · rw [List.mem_singleton.mp z]; exact Nat.le_refl _
  exact I1.fpOk hle (I1.hok.fresh hle)
/-- the loop over such pairs, i and x given to two names -/
theorem for_enT {K : PySem.W.Frag} {a : Addr} {xs : List V} {g : TG} {tb : TS} {D : Ends} {σ : L2.St} {H : Hp} (Pv : Nat → L2.St → Hp → Prop) (h0 : Pv 0 σ H) (hl : ∀ i σ H, i ≤ xs.length → Pv i σ H → SqT K H a xs)
    (hs : ∀ i x σ H T, xs[i]? = some x → Pv i σ H → H T = none → g (.ref T) σ (upd H T (.tup [.int (i : Nat), x])) fun σ2 H2 => tb { D with nx := Pv (i + 1), ct := Pv (i + 1), bk := D.nx } σ2 H2) (hd : ∀ σ H, Pv xs.length σ H → D.nx σ H) :
    ∃ W : Nat → Nat → L2.St → Hp → Prop, (∃ m, W 0 m σ H) ∧ ∀ i m σ H, W i m σ H → ((ItT K a).stop i H ∧ D.nx σ H) ∨
      ((ItT K a).go i H ∧ ∃ N : L2.St → Hp → Prop, (∀ σ' H', N σ' H' → ∃ m', m' < m ∧ W (i + 1) m' σ' H') ∧ ∀ x H', (ItT K a).yld i H x H' → g x σ H' fun σ2 H2 => tb { D with nx := N, ct := N, bk := D.nx } σ2 H2) := by
  refine ⟨fun i m σ H => m + i = xs.length ∧ Pv i σ H, ⟨xs.length, rfl, h0⟩, ?_⟩
  rintro i m σ H ⟨hm, p⟩
  have q := hl i σ H (by omega) p
  by_cases hlt : i < xs.length
  · refine .inr ⟨⟨xs, xs[i], q, List.getElem?_eq_getElem hlt⟩, Pv (i + 1), fun σ' H' p' => ⟨m - 1, by omega, by omega, p'⟩, ?_⟩
    rintro v H' ⟨T, x, rfl, hT, rfl, hx⟩
    exact hs i x σ H T (hx xs q) p hT
  · have e : i = xs.length := by omega
    subst e
    exact .inl ⟨⟨xs, q, rfl⟩, hd σ H p⟩
end G
set_option Elab.async false
set_option linter.all false
set_option maxRecDepth 100000
set_option maxHeartbeats 4000000
namespace G
open PySem PySem.Spec PyProof.Rows L2
/-! ### enumerate of a text -/
def ItS (x : Str) : It where
  go i _ := i < x.cps.size
  yld i H v H' := ∃ T c, v = .ref T ∧ H T = none ∧ H' = upd H T (.tup [.int (i : Nat), .str ⟨#[c]⟩]) ∧ x.cps[i]? = some c
  stop i _ := x.cps.size ≤ i
theorem turn_S {P : Program} {w : World} {K : PySem.W.Frag} {elts : List Expr} {kk : Nat} {tpos : Pos} (x : Str) (t : Tok) (e it : Addr) :
    Turn P w K (.Tuple elts kk tpos) (ItS x) [e, it] e (fun i h => (∃ old, IsEnum h e it ((i : Nat) : Int) old) ∧ h.IsStrIter it (strIterType x) x t i ∧ i ≤ x.cps.size ∧ e ≠ it) where
  mem := List.mem_cons_self
  obj := by
    rintro i h ⟨⟨old, he⟩, ⟨o, ho, hc, hd⟩, _⟩ b hb
    rcases List.mem_cons.mp hb with rfl | hb
    · exact ⟨_, he, fun v q => nomatch q⟩
    · rw [List.mem_singleton.mp hb]
      exact ⟨o, ho, fun v q => by rw [hd] at q; cases q⟩
  keep := by
    rintro i h h' ⟨⟨old, he⟩, ⟨o, ho, r⟩, hle, hne⟩ k
    exact ⟨⟨old, k e List.mem_cons_self _ he⟩, ⟨o, k it (List.mem_cons_of_mem _ List.mem_cons_self) o ho, r⟩, hle, hne⟩
  item := by
    rintro X rfl rfl rfl hc i pins s σ H E I hf ⟨⟨old, he⟩, hit, hle, hne⟩ hi
    have hel : e < s.heap.objs.size := Heap.lt_size he
    have hil : it < s.heap.objs.size := by obtain ⟨_, q, _⟩ := hit; exact Heap.lt_size q
    have hh : X.A.in1.handled = none := I.ok.hd hc
    have D : Draws X.prog X.w X.A.in1 it [it] x.cps.size (fun i v => ∃ c u, x.cps[i]? = some c ∧ v = .str ⟨#[c]⟩ u) (fun i h => h.IsStrIter it (strIterType x) x t i) := by
      unfold strIterType
      cases x.cps.all (· < 128)
      · exact Draws.strWide hh it x t
      · exact Draws.strAscii hh it x t
    refine wpAny_pyNext_enum_itemD D he hit hi hne (fun z => hne (List.mem_singleton.mp z)) ?_
    rintro x2 h' tk ⟨c, u, hcx, rfl⟩ ho hst hT hsz hk
    refine ⟨_, rfl, wpAny_letOwnedTupleGo_enum (s := { s with heap := h', toks := tk + 1 }) ho fun h'' he' sb => ?_⟩
    have hT2 : h''.get? s.heap.objs.size = some { cls := .type "tuple", data := .seq #[.int i tk, .str ⟨#[c]⟩ u] } := (sb.2 _ (Nat.ne_of_gt hel)).trans hT
    have new : ObjOk X.prog X.w (upd H s.heap.objs.size (.tup [.int (i : Nat), .str ⟨#[c]⟩])) h'' s.heap.objs.size (.tup [.int (i : Nat), .str ⟨#[c]⟩]) := by
      refine ⟨by show 2 ≤ sizeLine; decide, [.int i tk, .str ⟨#[c]⟩ u], .cons ⟨_, rfl⟩ (.cons ⟨_, rfl⟩ .nil), ⟨_, hT2, rfl, _, rfl⟩⟩
    have stays : ∀ b ob, b ∉ [e, it] → s.heap.get? b = some ob → h''.get? b = some ob := fun b ob hb q => by
      have h1 : b ≠ e := fun z => hb (by rw [z]; exact List.mem_cons_self)
      have h2 : b ≠ it := fun z => hb (by rw [z]; exact List.mem_cons_of_mem _ List.mem_cons_self)
      exact (sb.2 b h1).trans (hk b ob h1 h2 q)
    have I1 := I.turnedNew (t' := tk + 1) (ch := [e, it]) stays hf (Nat.le_refl _) new
    have e1 : ((i + 1 : Nat) : Int) = (i : Int) + 1 := Int.natCast_succ i
    refine ⟨.ref s.heap.objs.size, _, I1, rfl, ⟨_, c, rfl, I.hok.fresh (Nat.le_refl _), rfl, hcx⟩, ⟨⟨.str ⟨#[c]⟩ u, ?_⟩, ?_, hi, hne⟩, fun b hb => ?_⟩
    · rw [e1]
      exact he'
    · obtain ⟨o, q1, q2⟩ := hst
      exact ⟨o, (sb.2 it (Ne.symm hne)).trans q1, q2⟩
    · have hb' : b < s.heap.objs.size := by
        rcases List.mem_cons.mp hb with z | z
        · rw [z]; exact hel
        · rw [List.mem_singleton.mp z]; exact hil
      rw [upd_ne (Nat.ne_of_lt hb')]
      exact (hf b hb).1
  done := by
    rintro X rfl rfl rfl hc i pins s σ H E I hf ⟨⟨old, he⟩, hit, hle, hne⟩ hi
    obtain ⟨f0, f1, f2, f3, f4, f5⟩ := hf it (List.mem_cons_of_mem _ List.mem_cons_self)
    have hh : X.A.in1.handled = none := I.ok.hd hc
    have D : Draws X.prog X.w X.A.in1 it [it] x.cps.size (fun i v => ∃ c u, x.cps[i]? = some c ∧ v = .str ⟨#[c]⟩ u) (fun i h => h.IsStrIter it (strIterType x) x t i) := by
      unfold strIterType
      cases x.cps.all (· < 128)
      · exact Draws.strWide hh it x t
      · exact Draws.strAscii hh it x t
    have ei : i = x.cps.size := by
      have hi2 : x.cps.size ≤ i := hi
      omega
    rw [ei] at hit
    exact wpAny_pyNext_enum_endD D he hit fun h' eb =>
      ⟨rfl, I.turned (t' := s.toks) (fun b o hb q => eb b o hb q) f0 f1 f3 f4 f5⟩
  self := fun A i s Q E st h => by
    obtain ⟨⟨_, he⟩, _⟩ := st
    exact wpAny_pyIter_enum he h
def iEnumS (ta : TA) : TI := fun σ H R => ta σ H fun vs H1 => ∃ x : Str, vs = [.str x] ∧ R (ItS x) H1
theorem pi_enumS {X : Cx} {e : Expr} {ta : TA} {p pos tpos : Pos} {elts : List Expr} {kk : Nat} (hg : Gl X "enumerate") (hm : X.mg "enumerate" = none) (ha : PA X [e] ta)
    (hs : starEach [e] X.env = [(false, eval e X.env)] := by rfl) : PI X (.Tuple elts kk tpos) (.Call (.Name "enumerate" p) [e] [] pos) (iEnumS ta) := by
  constructor
  intro pins s σ H R I h
  refine Call_ (ld_blt I hg hm boot_enumerate (callWith_type1 (thn (ha.run pos pins s σ H _ I h) ?_) hs rfl))
  rintro us s1 ⟨vs, H1, I1, r1, x, rfl, q⟩
  obtain ⟨u, rfl, t, rfl⟩ := vals1 r1
  refine call_enumerate_str fun h' he hit hsz hk => wpAny_pyIter_enum he ?_
  have I2 : Inv X pins σ H1 { s1 with heap := h' } := I1.kept (t' := s1.toks) hk
  refine ⟨_, [s1.heap.objs.size + 1, s1.heap.objs.size], _, _, H1, rfl, I2, turn_S x t (s1.heap.objs.size + 1) s1.heap.objs.size, ⟨⟨.none, he⟩, hit, Nat.zero_le _, Nat.succ_ne_self _⟩, fun b hb => ?_, q⟩
  have hle : s1.heap.objs.size ≤ b := by
    rcases List.mem_cons.mp hb with z | z
    · rw [z]; exact Nat.le_add_right _ _
    · rw [List.mem_singleton.mp z]; exact Nat.le_refl _
  exact I1.fpOk hle (I1.hok.fresh hle)
/-- a comprehension over such pairs -/
theorem lc_enS {L : List Nat} {g : TG} {tt : TT} {te : TE} {vs : List Nat} {σ : L2.St} {H1 : Hp} {D : Addr} {Qd : Hp → Prop} (Pv : Nat → Hp → Prop) (h0 : Pv 0 (upd H1 D (.lst [])))
    (hs : ∀ i c H T, L[i]? = some c → Pv i H → H T = none → g (.ref T) (wipe σ vs) (upd H T (.tup [.int (i : Nat), .str ⟨#[c]⟩])) fun σ2 H2 => wipe σ2 vs = wipe σ vs ∧ tt σ2 H2 fun b H3 =>
      if b = true then te σ2 H3 fun y H4 => ∃ acc, H4 D = some (.lst acc) ∧ acc.length < sizeLine ∧ Pv (i + 1) (upd H4 D (.lst (acc ++ [y]))) else Pv (i + 1) H3) (hd : ∀ H, Pv L.length H → Qd H) :
    ∃ W : Nat → Nat → Hp → Prop, (∃ m, W 0 m (upd H1 D (.lst []))) ∧ ∀ i m H, W i m H →
      ((ItS ⟨L.toArray⟩).stop i H ∧ Qd H) ∨ ((ItS ⟨L.toArray⟩).go i H ∧ ∃ Nx : Hp → Prop, (∀ H', Nx H' → ∃ m', m' < m ∧ W (i + 1) m' H') ∧ ∀ x H', (ItS ⟨L.toArray⟩).yld i H x H' → g x (wipe σ vs) H' fun σ2 H2 => wipe σ2 vs = wipe σ vs ∧ tt σ2 H2 fun b H3 =>
        if b = true then te σ2 H3 fun y H4 => ∃ acc, H4 D = some (.lst acc) ∧ acc.length < sizeLine ∧ Nx (upd H4 D (.lst (acc ++ [y]))) else Nx H3) := by
  have hsz : (⟨L.toArray⟩ : Str).cps.size = L.length := List.size_toArray
  refine ⟨fun i m H => m + i = L.length ∧ Pv i H, ⟨L.length, rfl, h0⟩, ?_⟩
  rintro i m H ⟨hm, p⟩
  by_cases hlt : i < L.length
  · refine .inr ⟨by show i < _; rw [hsz]; exact hlt, Pv (i + 1), fun H' p' => ⟨m - 1, by omega, by omega, p'⟩, ?_⟩
    rintro v H' ⟨T, c, rfl, hT, rfl, hx⟩
    have hx2 : L[i]? = some c := by
      rw [← List.getElem?_toArray]
      exact hx
    exact hs i c H T hx2 p hT
  · have e : i = L.length := by omega
    subst e
    exact .inl ⟨by show _ ≤ L.length; rw [hsz]; exact Nat.le_refl _, hd H p⟩
end G
set_option Elab.async false
set_option linter.all false
set_option maxRecDepth 100000
set_option maxHeartbeats 4000000
namespace G
open PySem PySem.Spec PyProof.Rows L2
/-! ### {e for x in ..}, e a whole number -/
abbrev noInts : Int → Bool := fun _ => false
abbrev moreI (S : Int → Bool) (k : Int) : Int → Bool := fun j => S j || decide (j = k)
abbrev moreN (S : Int → Bool) (n : Nat) (k : Int) : Nat := if S k = true then n else n + 1
/-- a turn's end: the item y goes into the set at D -/
def putI (w : World) (D : Addr) (R : Hp → Prop) : VK := fun y H => ∃ (k : Int) (S : Int → Bool) (n : Nat),
  y = .int k ∧ H D = some (SetO w D S n) ∧ n + 1 < scanBound ∧ R (upd H D (SetO w D (moreI S k) (moreN S n k)))
def turnI (w : World) (D : Addr) (vs : List Nat) (σ : L2.St) (g : TG) (tt : TT) (te : TE) (x : V) (H : Hp) (R : Hp → Prop) : Prop :=
  g x (wipe σ vs) H fun σ2 H2 => wipe σ2 vs = wipe σ vs ∧ tt σ2 H2 fun b H3 => if b = true then te σ2 H3 (putI w D R) else R H3
def tScI (w : World) (wi : TI) (g : TG) (tt : TT) (te : TE) (vs : List Nat) : TE := fun σ H Q => wi σ H fun J H1 => ∀ D, H1 D = none →
  ∃ W : Nat → Nat → Hp → Prop, (∃ m, W 0 m (upd H1 D (SetO w D noInts 0))) ∧ ∀ i m H, W i m H →
    (J.stop i H ∧ Q (.ref D) H) ∨ (J.go i H ∧ ∃ R : Hp → Prop, (∀ H', R H' → ∃ m', m' < m ∧ W (i + 1) m' H') ∧ ∀ x H', J.yld i H x H' → turnI w D vs σ g tt te x H' R)
section
variable {X : Cx}
theorem add_int {pins : List (Addr × Obj)} {σ : L2.St} {H : Hp} {s : Shared} {E : Value → Shared → Prop} {D : Addr} {v : Value} {y : V} {R : Hp → Prop}
    (I : Inv X pins σ H s) (r : RelV y v) (h : putI X.w D R y H) :
    wpAny (model X.prog X.w) X.A (call (.builtin "set.add") [.ref D, v]) (fun _ s' => ∃ H', Inv X pins σ H' s' ∧ R H') E s := by
  obtain ⟨k, S, n, rfl, hD, room, q⟩ := h
  obtain ⟨tk, rfl⟩ := r
  refine setR_add (setO_get I hD) room fun h' same new => ⟨_, I.write (e := D) (t' := s.toks + 1) ?_ (.inl rfl) (fun b u hb hu => (same.2 b hb).trans hu) ?_ (setO_new new), q⟩
  · rw [hD]
    trivial
  · obtain ⟨o, _, _, _, ho, _⟩ := new
    exact ⟨o, ho⟩
theorem scI_core {pins : List (Addr × Obj)} {s : Shared} {σ : L2.St} {H : Hp} {Q : VK} {elt tg iter : Expr} {ifs : List Expr} {scope : Scope} {own : List (PySem.Str × Nat)} {pos pos' : Pos} {wi : TI} {g : TG} {tt : TT} {te : TE} {use : Option (Value → Sem Unit)} {Qf : Value → Shared → Prop}
    (calm : X.calm = true) (nd : X.N.Nodup) (I : Inv X pins σ H s) (hi : PI X tg iter wi) (ok : BlkOk X.N X.env.scope scope own)
    (hg : ∀ (s : Shared) (H : Hp) (C : Addr) (cl : List (PySem.Str × Addr)) (fp : List Addr), PG (X.blk s H scope (compEnvC scope cl C X.env) fp) tg g)
    (ht : ∀ (s : Shared) (H : Hp) (C : Addr) (cl : List (PySem.Str × Addr)) (fp : List Addr), PTs (X.blk s H scope (compEnvC scope cl C X.env) fp) ifs tt)
    (he : ∀ (s : Shared) (H : Hp) (C : Addr) (cl : List (PySem.Str × Addr)) (fp : List Addr), PE (X.blk s H scope (compEnvC scope cl C X.env) fp) elt te)
    (plain : ∀ x, foldedSetIterable iter X.env x = pure x) (h : tScI X.w wi g tt te (own.map (·.2)) σ H Q)
    (back : ∀ D C s' m H', Inv X pins σ H' s' → Q (.ref D) H' → s'.heap.Ns C m → FpOk X pins H' C → compPost (model X.prog X.w) X.A X.xe use Qf (.ref D) C (.ok .next) s') :
    wpAny (model X.prog X.w) X.A (comprehension (.SetComp elt [⟨tg, iter, ifs, 0⟩] scope pos) scope X.env pos' (newSet (.type "set")) false (eval iter X.env) use) Qf X.xe s := by
  have has : ∀ y ∈ scope.names, y.2 = .free → ∃ c, X.env.cells.lookup y.1 = some c := fun y hy e =>
    (ok.free y hy e).elim (fun k => I.ok.has _ (.inl k)) fun k => I.ok.has _ (.inr k)
  refine wpAny_comprehension_free (use := use) rfl plain (closure_ok has) ok.kind (fun y hy e => by rw [ok.uniq y hy, e]) ?_
  refine thn (hi.run pins s σ H _ I h) fun _ _ hx => thn hx fun _ sa ha => ?_
  obtain ⟨it, fp, at_, J, Ha, rfl, Ia, T, sta, fa, q⟩ := ha
  refine PpSet.newSet_ok (newEnv_comp ?_)
  obtain ⟨D, eD⟩ : ∃ D, sa.heap.objs.size = D := ⟨_, rfl⟩
  rw [eD]
  have freshD : Ha D = none := Ia.hok.fresh (Nat.le_of_eq eD)
  obtain ⟨W, ⟨m0, w0⟩, turn⟩ := q D freshD
  obtain ⟨sb, esb⟩ : ∃ sb : Shared, ({ sa with heap := sa.heap.push { cls := .type "set", dict := none, data := .set #[] 0 (.fresh 0 0 (!X.w.params.followText "set-order")) } } : Shared) = sb := ⟨_, rfl⟩
  have hb : sb.heap = sa.heap.push { cls := .type "set", dict := none, data := .set #[] 0 (.fresh 0 0 (!X.w.params.followText "set-order")) } := by rw [← esb]
  have Ib : Inv X pins σ (upd Ha D (SetO X.w D noInts 0)) sb := by
    subst esb eD
    exact Ia.laid (t' := sa.toks) (fun _ _ e => Heap.get?_push_of_some _ e) (Nat.le_refl _) (setO_new (setR_fresh X.w))
  obtain ⟨Hb, eHb⟩ : ∃ Hb, upd Ha D (SetO X.w D noInts 0) = Hb := ⟨_, rfl⟩
  have fb : ∀ b ∈ fp, FpOk X pins Hb b ∧ b < sb.heap.objs.size := fun b hm => by
    obtain ⟨o, e, _⟩ := T.obj _ _ sta b hm
    have lt := Heap.lt_size e
    refine ⟨⟨?_, (fa b hm).2⟩, ?_⟩
    · rw [← eHb, upd_ne (by rw [← eD]; exact Nat.ne_of_lt lt)]
      exact (fa b hm).1
    · rw [hb, Heap.size_push]
      exact Nat.lt_succ_of_lt lt
  have stb : at_ 0 sb.heap := T.keep _ _ _ sta fun b _ o e => by
    rw [hb]
    exact Heap.get?_push_of_some _ e
  rw [eHb] at Ib w0
  have Ic := block_start Ib ok nd fb
  obtain ⟨C, eC⟩ : ∃ C, sb.heap.objs.size = C := ⟨_, rfl⟩
  have pg := hg sb Hb C (cellsFrom (C + 1) scope.names (cloFrom X.env.cells scope.names [])) fp
  have pt := ht sb Hb C (cellsFrom (C + 1) scope.names (cloFrom X.env.cells scope.names [])) fp
  have pe := he sb Hb C (cellsFrom (C + 1) scope.names (cloFrom X.env.cells scope.names [])) fp
  rw [eC] at Ic
  rw [esb, eC]
  show codeAny _ _ (.compStart (.SetComp elt [⟨tg, iter, ifs, 0⟩] scope pos) 0 (.ref it) (.ref D) (compEnvC scope (cellsFrom (C + 1) scope.names (cloFrom X.env.cells scope.names [])) C X.env))
    (compPost (model X.prog X.w) X.A X.xe use Qf (.ref D) C) { sb with heap := pushCells (sb.heap.push { cls := .type "dict", data := .dict #[] }) scope.names }
  obtain ⟨ce, ece⟩ : ∃ ce, compEnvC scope (cellsFrom (C + 1) scope.names (cloFrom X.env.cells scope.names [])) C X.env = ce := ⟨_, rfl⟩
  rw [ece] at Ic pg pt pe ⊢
  have eL : ce.locals = C := by rw [← ece]; rfl
  obtain ⟨sc, esc⟩ : ∃ sc : Shared, ({ sb with heap := pushCells (sb.heap.push { cls := .type "dict", data := .dict #[] }) scope.names } : Shared) = sc := ⟨_, rfl⟩
  rw [esc] at Ic ⊢
  have stc : at_ 0 sc.heap := T.keep _ _ _ stb fun b _ o e => by
    rw [← esc]
    exact pushCells_keeps _ _ _ _ (Heap.get?_push_of_some _ e)
  have stat : ∀ {τ : L2.St} {G : Hp} {r : Shared}, Inv (X.blk sb Hb scope ce fp) [] τ G r → (∀ b ∈ fp, G b = none) → ∀ b ∈ fp, FpOk (X.blk sb Hb scope ce fp) [] G b :=
    fun {τ G r} J hn b hm => ⟨hn b hm, (J.ok.exf b hm).1, J.ok.exfs b hm, .inl hm, fun x c e => (J.ok.exf b hm).2 x c e, fun p hp => nomatch (show p ∈ ([] : List (Addr × Obj)) ++ [] from hp)⟩
  have loop : codeAny (model X.prog X.w) X.A (.compLoop (.SetComp elt [⟨tg, iter, ifs, 0⟩] scope pos) 0 (.ref it) (.ref D) ce) (compPost (model X.prog X.w) X.A X.xe use Qf (.ref D) C) sc := by
    refine PpSet.compLoopS_any (fun n r => ∃ i G, Inv (X.blk sb Hb scope ce fp) [] (wipe σ (own.map (·.2))) G r ∧ at_ i r.heap ∧ (∀ b ∈ fp, G b = none) ∧ W i n G) ?_ m0
      ⟨0, Hb, Ic, stc, fun b hm => (fb b hm).1.1, w0⟩
    rintro n s5 ⟨i, H5, I5, st5, n5, w5⟩
    rcases turn i n H5 w5 with ⟨stop, fin⟩ | ⟨go, R, hR, step⟩
    · refine thnF (T.done (X.blk sb Hb scope ce fp) rfl rfl rfl calm i [] s5 _ H5 (fun _ _ => False) I5 (stat I5 n5) st5 stop) fun r s6 hr6 => ?_
      obtain ⟨rfl, I6⟩ := hr6
      have I7 : Inv X pins σ H5 s6 := Ib.call' (ch := fp) I6.os I6.base I6.hok I6.bare fun b hm =>
        ⟨(fb b hm).1.2.2.2.1, (fb b hm).1.2.1, (fb b hm).1.2.2.2.2.1, (fb b hm).1.2.2.2.2.2⟩
      have nC : H5 C = none := by
        rw [← eL]
        exact I6.free
      obtain ⟨m, hn, _⟩ := I6.loc
      have hn : s6.heap.Ns ce.locals m := hn
      rw [eL] at hn
      exact back D C s6 m H5 I7 fin hn (Ib.fpOk (Nat.le_of_eq eC) nC)
    · refine thnF (T.item (X.blk sb Hb scope ce fp) rfl rfl rfl calm i [] s5 _ H5 (fun _ _ => False) I5 (stat I5 n5) st5 go) fun r s6 hr6 => ?_
      obtain ⟨u, rfl, h6⟩ := hr6
      refine thnF h6 fun _ s7 h7 => ?_
      obtain ⟨x, H7, I7, r7, y7, st7, n7⟩ := h7
      have P7 := I7.pinned (stat I7 n7) (T.obj _ _ st7)
      refine thnF (pg.run _ s7 _ H7 x u _ P7 r7 (step x H7 y7)) fun _ s8 h8 => ?_
      obtain ⟨σ8, H8, I8, same8, q8⟩ := h8
      have turnEnd : ∀ {r : Shared} {G : Hp}, Inv (X.blk sb Hb scope ce fp) ([] ++ pinsAt fp s7.heap) σ8 G r → R G →
          ∃ m, m < n ∧ ∃ i G, Inv (X.blk sb Hb scope ce fp) [] (wipe σ (own.map (·.2))) G r ∧ at_ i r.heap ∧ (∀ b ∈ fp, G b = none) ∧ W i m G := fun {r G} J rG => by
        obtain ⟨m', lt, w'⟩ := hR G rG
        have pin : ∀ b ∈ fp, ∀ o, s7.heap.get? b = some o → r.heap.get? b = some o ∧ G b = none := fun b hm o e => by
          have z := J.pin (b, o) (List.mem_append_right _ (List.mem_append_right _ (mem_pinsAt hm e)))
          exact ⟨z.1, z.2.1⟩
        have len : (wipe σ (own.map (·.2))).length = σ8.length := by
          rw [← same8]
          exact wipe_length _ _
        refine ⟨m', lt, i + 1, G, (J.unpinned (pins := [])).weak len (fun j v e => ?_), T.keep _ _ _ st7 fun b hm o e => (pin b hm o e).1, fun b hm => ?_, w'⟩
        · rw [← same8] at e
          exact (wipe_some e).1
        · obtain ⟨o, e, _⟩ := T.obj _ _ st7 b hm
          exact (pin b hm o e).2
      refine thnF (pt.run _ s8 σ8 H8 _ I8 q8) fun b s9 h9 => ?_
      obtain ⟨H9, I9, q9⟩ := h9
      cases b with
      | false =>
        rw [if_neg Bool.false_ne_true] at q9
        simp only [Bool.false_eq_true, if_false]
        exact turnEnd I9 q9
      | true =>
        rw [if_pos rfl] at q9
        simp only [if_true]
        refine thnF (pe.run _ s9 σ8 H9 _ I9 q9) fun z s10 h10 => ?_
        obtain ⟨yv, H10, I10, r10, q10⟩ := h10
        refine thnF (add_int (X := X.blk sb Hb scope ce fp) (E := fun _ _ => False) I10 r10 q10) fun _ s11 h11 => ?_
        obtain ⟨H11, I11, q11⟩ := h11
        exact turnEnd I11 q11
  exact PpSet.codeAny_compStart_set loop (T.self X.A 0 _ _ _ stc loop)
/-- as a value -/
theorem pe_scI {elt tg iter : Expr} {ifs : List Expr} {scope : Scope} {own : List (PySem.Str × Nat)} {pos : Pos} {wi : TI} {g : TG} {tt : TT} {te : TE} (calm : X.calm = true) (nd : X.N.Nodup) (hi : PI X tg iter wi) (ok : BlkOk X.N X.env.scope scope own)
    (hg : ∀ (s : Shared) (H : Hp) (C : Addr) (cl : List (PySem.Str × Addr)) (fp : List Addr), PG (X.blk s H scope (compEnvC scope cl C X.env) fp) tg g)
    (ht : ∀ (s : Shared) (H : Hp) (C : Addr) (cl : List (PySem.Str × Addr)) (fp : List Addr), PTs (X.blk s H scope (compEnvC scope cl C X.env) fp) ifs tt)
    (he : ∀ (s : Shared) (H : Hp) (C : Addr) (cl : List (PySem.Str × Addr)) (fp : List Addr), PE (X.blk s H scope (compEnvC scope cl C X.env) fp) elt te)
    (plain : ∀ x, foldedSetIterable iter X.env x = pure x := by intro _; rfl) :
    PE X (.SetComp elt [⟨tg, iter, ifs, 0⟩] scope pos) (tScI X.w wi g tt te (own.map (·.2))) := by
  refine ⟨fun pins s σ H Q I h => ?_⟩
  rw [PpSet.eval_SetComp]
  refine scI_core calm nd I hi ok hg ht he plain h fun D C s' m H' J q hn f => ⟨m, hn, fun h'' sbut => ?_⟩
  obtain ⟨f0, f1, _, f3, f4, f5⟩ := f
  exact ⟨.ref D, H', J.turned (t' := s'.toks) (fun b o hb e => (sbut.2 b hb).trans e) f0 f1 f3 f4 f5, rfl, q⟩
end
theorem r_scI {w : World} {wi : TI} {g : TG} {tt : TT} {te : TE} {vs : List Nat} {σ : L2.St} {H : Hp} {Q : VK} (h : wi σ H fun J H1 => ∀ D, H1 D = none → ∃ W : Nat → Nat → Hp → Prop, (∃ m, W 0 m (upd H1 D (SetO w D noInts 0))) ∧ ∀ i m H, W i m H →
    (J.stop i H ∧ Q (.ref D) H) ∨ (J.go i H ∧ ∃ R : Hp → Prop, (∀ H', R H' → ∃ m', m' < m ∧ W (i + 1) m' H') ∧ ∀ x H', J.yld i H x H' → turnI w D vs σ g tt te x H' R)) : tScI w wi g tt te vs σ H Q := h
/-- over a tuple -/
theorem scI_tup {w : World} {K : PySem.W.Frag} {a : Addr} {xs : List V} {g : TG} {tt : TT} {te : TE} {vs : List Nat} {σ : L2.St} {H1 : Hp} {D : Addr} {Qd : Hp → Prop} (Pv : Nat → Hp → Prop) (h0 : Pv 0 (upd H1 D (SetO w D noInts 0)))
    (hl : ∀ i H, i ≤ xs.length → Pv i H → SqT K H a xs) (hs : ∀ i x H, xs[i]? = some x → Pv i H → turnI w D vs σ g tt te x H (Pv (i + 1))) (hd : ∀ H, Pv xs.length H → Qd H) :
    ∃ W : Nat → Nat → Hp → Prop, (∃ m, W 0 m (upd H1 D (SetO w D noInts 0))) ∧ ∀ i m H, W i m H →
      ((Itt K a).stop i H ∧ Qd H) ∨ ((Itt K a).go i H ∧ ∃ R : Hp → Prop, (∀ H', R H' → ∃ m', m' < m ∧ W (i + 1) m' H') ∧ ∀ x H', (Itt K a).yld i H x H' → turnI w D vs σ g tt te x H' R) := by
  refine ⟨fun i m H => m = xs.length - i ∧ i ≤ xs.length ∧ Pv i H, ⟨xs.length, by simp, Nat.zero_le _, h0⟩, ?_⟩
  rintro i m H ⟨rfl, hi, p⟩
  have q := hl i H hi p
  by_cases lt : i < xs.length
  · refine .inr ⟨⟨xs, xs[i], q, by simp [lt]⟩, Pv (i + 1), fun H' p' => ⟨xs.length - (i + 1), by omega, rfl, lt, p'⟩, fun x H' y => ?_⟩
    obtain ⟨rfl, y⟩ := y
    exact hs i x _ (y xs q) p
  · obtain rfl : i = xs.length := by omega
    exact .inl ⟨⟨xs, q, Nat.le_refl _⟩, hd H p⟩
/-! ### the members of a lot, ascending -/
def normL (n : Nat) (xs : List Nat) : List Nat := (List.range n).filter fun k => decide (k ∈ xs)
theorem normL_mem {n k : Nat} {xs : List Nat} (h : ∀ x ∈ xs, x < n) : k ∈ normL n xs ↔ k ∈ xs := by
  unfold normL
  rw [List.mem_filter, List.mem_range, decide_eq_true_eq]
  exact ⟨fun z => z.2, fun z => ⟨h k z, z⟩⟩
theorem normL_lt {n : Nat} {xs : List Nat} : ∀ k ∈ normL n xs, k < n := fun k hk => by
  unfold normL at hk
  exact List.mem_range.mp (List.mem_filter.mp hk).1
theorem normL_sorted (n : Nat) (xs : List Nat) : (normL n xs).Pairwise (· < ·) := List.Pairwise.filter _ List.pairwise_lt_range
theorem normL_len (n : Nat) (xs : List Nat) : (normL n xs).length ≤ n := by
  have := List.length_filter_le (fun k => decide (k ∈ xs)) (List.range n)
  rw [List.length_range] at this
  exact this
theorem strict_eq : ∀ {a b : List Int}, a.Pairwise (· < ·) → b.Pairwise (· < ·) → (∀ k, k ∈ a ↔ k ∈ b) → a = b
  | [], [], _, _, _ => rfl
  | [], y :: b, _, _, h => nomatch (h y).mpr List.mem_cons_self
  | x :: a, [], _, _, h => nomatch (h x).mp List.mem_cons_self
  | x :: a, y :: b, ha, hb, h => by
    obtain ⟨a1, a2⟩ := List.pairwise_cons.mp ha
    obtain ⟨b1, b2⟩ := List.pairwise_cons.mp hb
    have e : x = y := by
      rcases List.mem_cons.mp ((h x).mp List.mem_cons_self) with e | e
      · exact e
      · rcases List.mem_cons.mp ((h y).mpr List.mem_cons_self) with e2 | e2
        · exact e2.symm
        · have := a1 y e2
          have := b1 x e
          omega
    subst e
    rw [strict_eq a2 b2 fun k => ⟨fun hk => (List.mem_cons.mp ((h k).mp (List.mem_cons_of_mem _ hk))).resolve_left fun z => by
      have := a1 k hk
      omega, fun hk => (List.mem_cons.mp ((h k).mpr (List.mem_cons_of_mem _ hk))).resolve_left fun z => by
      have := b1 k hk
      omega⟩]
theorem norm_ints {n : Nat} {xs : List Nat} {ns : List Int} (pw : ns.Pairwise (· < ·)) (hm : ∀ k : Int, k ∈ ns ↔ ∃ y ∈ xs, k = (y : Int)) (hb : ∀ y ∈ xs, y < n) : ns.map V.int = (normL n xs).map iV := by
  have e : ns = (normL n xs).map fun k : Nat => (k : Int) := by
    refine strict_eq pw ?_ fun k => ?_
    · rw [List.pairwise_map]
      exact (normL_sorted n xs).imp fun h => by omega
    · rw [hm, List.mem_map]
      exact ⟨fun ⟨y, h1, h2⟩ => ⟨y, (normL_mem hb).mpr h1, h2.symm⟩, fun ⟨y, h1, h2⟩ => ⟨y, (normL_mem hb).mp h1, h2.symm⟩⟩
  rw [e, List.map_map]
  rfl
theorem normL_self {n : Nat} {xs : List Nat} (hs : xs.Pairwise (· < ·)) (hb : ∀ x ∈ xs, x < n) : normL n xs = xs := by
  have e : (normL n xs).map (fun k : Nat => (k : Int)) = xs.map fun k : Nat => (k : Int) := by
    refine strict_eq ?_ ?_ fun k => ?_
    · rw [List.pairwise_map]
      exact (normL_sorted n xs).imp fun h => by omega
    · rw [List.pairwise_map]
      exact hs.imp fun h => by omega
    · rw [List.mem_map, List.mem_map]
      exact ⟨fun ⟨y, h1, h2⟩ => ⟨y, (normL_mem hb).mp h1, h2⟩, fun ⟨y, h1, h2⟩ => ⟨y, (normL_mem hb).mpr h1, h2⟩⟩
  exact (List.map_inj_right fun a b h => by omega).mp e
theorem normL_map {n : Nat} {xs : List Nat} {f : Nat → Nat} (hx : ∀ x ∈ xs, x < n) : normL n ((normL n xs).map f) = normL n (xs.map f) := by
  unfold normL
  refine List.filter_congr fun k _ => ?_
  refine decide_eq_decide.mpr ?_
  rw [List.mem_map, List.mem_map]
  exact ⟨fun ⟨y, h1, h2⟩ => ⟨y, (normL_mem hx).mp h1, h2⟩, fun ⟨y, h1, h2⟩ => ⟨y, (normL_mem hx).mpr h1, h2⟩⟩
end G
set_option Elab.async false
set_option linter.all false
set_option maxRecDepth 100000
set_option maxHeartbeats 4000000
namespace G
open PySem PySem.Spec PyProof.Rows L2
/-! ### set(xs), xs a list of ints -/
abbrev newSetO (w : World) : Obj := { cls := .type "set", dict := none, data := .set #[] 0 (.fresh 0 0 (!w.params.followText "set-order")) }
section
variable {P : Program} {w : World} {A : Around} {E : Value → Shared → Prop} {s : Shared}
theorem set_of_list {l : Addr} {its : Array Value} (ns : List Int) {Q : Value → Shared → Prop} (calm : A.handled = none) (hl : s.heap.IsList l its) (hit : IntsAre its.toList ns) (few : ns.length + 1 < scanBound)
    (h : ∀ (h' : Heap) (tk c : Nat), SetR w h' s.heap.objs.size (fun j => decide (j ∈ ns)) c → c ≤ ns.length → (∀ b o, s.heap.get? b = some o → h'.get? b = some o) →
      Q (.ref s.heap.objs.size) { s with heap := h', toks := tk }) :
    wpAny (model P w) A (call (.type "set") [.ref l]) Q E s := by
  have lens : its.size = ns.length := (Array.length_toList (xs := its)).symm.trans (IntsAre.length hit)
  have k0 := F.called_set.mro
  obtain ⟨mc, mtl, k0⟩ := k0
  have k1 := F.called_set.made
  have k2 := F.called_set.sub
  have k3 := F.called_set.notType
  have k4 := F.called_set.canCreate
  have k5 := F.typeCall_set_1 (.ref l)
  refine wpAny_call (codeAny_of_tree (show wpAny _ _ (callAny (.type "set") _) _ _ _ from ?_))
  refine wpAny_pure (And.intro (Code.quiet_builtin _ (by decide +kernel)) (codeAny_builtin F.entry_type_call ?_))
  rw [Around.under_plain (weight_type_call_type "set" [Value.ref l] []) rfl]
  repeat any_goals (first | assumption | wp_step)
  refine codeAny_mono (code_set_led1 (.ref l) (E := E)
    (Q₁ := fun obj s₁ => obj = .ref s.heap.objs.size ∧ s₁ = { s with heap := s.heap.push (newSetO w) }) (And.intro rfl rfl)) fun r s₁ hr => ?_
  cases r with
  | error e => exact hr
  | ok fl =>
    cases fl with
    | ret obj =>
      obtain ⟨eo, es⟩ := hr
      subst eo es
      have atS : (s.heap.push (newSetO w)).get? s.heap.objs.size = some (newSetO w) := Heap.get?_push_size _ rfl
      have isT : Shared.TypeIs { s with heap := s.heap.push (newSetO w) } (.ref s.heap.objs.size) "set" := ⟨_, atS, rfl⟩
      have j1 := F.called_set.init.lookup
      have j2 := F.called_set.init.bind (Value.ref s.heap.objs.size)
      repeat any_goals (first | assumption | wp_step)
      refine codeAny_mono (codeAny_call_builtin
        (R := wants (fun r s₂ => r = .none ∧ ∃ h' tk c, s₂ = { s with heap := h', toks := tk } ∧ SetR w h' s.heap.objs.size (fun j => decide (j ∈ ns)) c ∧ c ≤ ns.length ∧ ∀ b o, s.heap.get? b = some o → h'.get? b = some o) E)
        F.called_set.init.plain F.entry_set_init (check_set_init_1 isT ?_)) fun r₂ s₂ hr₂ => ?_
      · obtain ⟨ol, atL, e1, nl, e2⟩ := hl
        obtain ⟨lc, ld, ldt, lsl⟩ := ol
        dsimp only at e1 e2
        subst e1 e2
        have atL1 : (s.heap.push (newSetO w)).get? l = some { cls := .type "list", dict := ld, data := .seq its nl, slots := lsl } := Heap.get?_push_of_some _ atL
        have n1 := F.sub_list_set
        have n2 := F.sub_list_frozenset
        have n3 : (Value.type "list" == Value.type "dict") = false := by decide
        have isL1 : (s.heap.push (newSetO w)).IsList l its := ⟨_, atL1, rfl, nl, rfl⟩
        unfold Builtin.«set.__init__» noKeywords Builtin.Frozenset.updateFrom
        generalize ePI : pyIter = PI
        wp_walk
        subst ePI
        refine wpAny_pyIter_list isL1 (wpAny_bind (wpAny_runValue ?_))
        have ltL : l < s.heap.objs.size := Heap.lt_size atL
        have sz : (s.heap.push (newSetO w)).objs.size = s.heap.objs.size + 1 := Heap.size_push ..
        have calm3 : A.in1.in1.in1.handled = none := calm
        have apart : s.heap.objs.size ∉ [(s.heap.push (newSetO w)).objs.size, l] := fun z => by
          rw [sz] at z
          rcases List.mem_cons.mp z with z | z
          · exact absurd z (Nat.ne_of_lt (Nat.lt_succ_self _))
          · exact absurd (List.mem_singleton.mp z) (Nat.ne_of_gt ltL)
        have notI : l ≠ (s.heap.push (newSetO w)).objs.size := by
          rw [sz]
          exact Nat.ne_of_lt (Nat.lt_succ_of_lt ltL)
        refine set_update_ints ((Walks.list calm3 _ l notI its).toS) s.heap.objs.size apart ns lens few (fun i v hv => ?_) (its.size - 0) 0 _ (by omega) (Nat.zero_le _)
          ⟨⟨_, Heap.get?_push_size _ rfl, rfl, rfl⟩, isL1.push _⟩ ?start ?stop
        · have hi : i < ns.length := lens ▸ (Array.getElem?_eq_some_iff.mp hv).1
          obtain ⟨t, e⟩ := PyProof.Rows.IntsAre.int_at hit i v ((Array.getElem?_toList (xs := its)).trans hv)
          exact ⟨ns[i], t, List.getElem?_eq_getElem hi, by rw [e, List.getD_eq_getElem?_getD, List.getElem?_eq_getElem hi] <;> rfl⟩
        case start => exact ⟨0, Nat.le_refl 0, setR_new_at (Heap.get?_push_of_some _ atS)⟩
        case stop =>
          intro s' c' hm hc' hS'
          obtain ⟨h2, g2, d2, t2, o2⟩ := s'
          obtain rfl : g2 = s.gens := hm.gens
          obtain rfl : d2 = s.drawn := hm.drawn
          obtain rfl : o2 = s.os := hm.os
          refine wpAny_pure (show wpAny _ _ (ret Value.none) _ _ _ from wpAny_pure ⟨rfl, h2, t2, c', rfl, hS', lens ▸ hc', fun b o e => ?_⟩)
          have lt := Heap.lt_size e
          refine hm.heap b o (fun z => ?_) (Heap.get?_push_of_some _ (Heap.get?_push_of_some _ e))
          rcases List.mem_cons.mp z with z | z
          · exact Nat.ne_of_lt lt z
          · rw [sz] at z
            exact Nat.ne_of_lt (Nat.lt_succ_of_lt lt) (List.mem_singleton.mp z)
      · cases r₂ with
        | error e => exact hr₂
        | ok f2 =>
          cases f2 with
          | ret u =>
            obtain ⟨rfl, h', tk, c', rfl, a1, a2, a3⟩ := hr₂
            repeat any_goals (first | assumption | wp_step)
            exact h h' tk c' a1 a2 a3
          | next => exact hr₂.elim
          | brk => exact hr₂.elim
          | cont => exact hr₂.elim
    | next => exact hr.elim
    | brk => exact hr.elim
    | cont => exact hr.elim
end
def rSetL (K : PySem.W.Frag) (w : World) : List V → Hp → VK → Prop := fun xs H Q => ∃ (l : Addr) (ns : List Int), xs = [.ref l] ∧ SqL K H l (ns.map V.int) ∧ ns.length ≤ 1000 ∧
  ∀ (p : Addr) (c : Nat), c ≤ ns.length → H p = none → Q (.ref p) (upd H p (SetO w p (fun j => decide (j ∈ ns)) c))
theorem cr_setL {X : Cx} {K : PySem.W.Frag} (hK : X.K = K) (hc : X.calm = true) : CallR X (.type "set") (rSetL K X.w) := by
  subst hK
  rintro pins s σ H xs us Q I rs ⟨l, ns, rfl, hs, few, q⟩
  rw [Vals.ref1 rs]
  obtain ⟨its, rv, hl, hz⟩ := I.list hs
  refine set_of_list ns (I.ok.hd hc) hl.isList (by simpa using ints_of_vals rv) (by unfold scanBound; omega) fun h' tk c hS hc keep => ?_
  have hn := I.hok.fresh (Nat.le_refl _)
  exact ⟨.ref s.heap.objs.size, _, I.laid keep (Nat.le_refl _) (setO_new hS), rfl, q _ c hc hn⟩
end G
set_option Elab.async false
set_option linter.all false
set_option maxRecDepth 100000
set_option maxHeartbeats 2000000
namespace G
open PySem PySem.Spec PyProof.Rows L2 LamX NdefX
/-! ### lambdas with parameters, handed on: F their words (its body is of no account), e their expression -/
abbrev lamFd (F : NF) (e : Expr) (pm ctv : Value) : FuncData :=
  PySem.W.kla_fn "<lambda>" F.qual F.params e F.scope F.cl pm (.ref F.c) ctv
def LamO (f : Addr) (F : NF) (e : Expr) : HO := .ext fun h => ∃ (od : Option Addr) (sl : Array (Option Value)) (pm ctv : Value),
  h.get? f = some (⟨.type "function", od, .func (lamFd F e pm ctv), sl⟩ : Obj)
theorem lamO_at {P : Program} {w : World} {H : Hp} {h : Heap} {f : Addr} {F : NF} {e : Expr} (hok : HOk P w H h) (q : H f = some (LamO f F e)) :
    ∃ (od : Option Addr) (sl : Array (Option Value)) (pm ctv : Value), h.get? f = some (⟨.type "function", od, .func (lamFd F e pm ctv), sl⟩ : Obj) := (hok f _ q).1
theorem lamO_ne {f : Addr} {F : NF} {e : Expr} (ps : Array Value) : LamO f F e ≠ .tbl ps := fun z => by
  unfold LamO at z
  exact nomatch z
/-- what was there is there -/
def Dom (H H' : Hp) : Prop := ∀ b, H b ≠ none → H' b ≠ none
theorem Dom.upd {H H' : Hp} {a : Addr} {o : HO} (h : Dom H H') : Dom H (L2.upd H' a o) := fun b hb => by
  unfold L2.upd
  split
  · exact fun z => nomatch z
  · exact h b hb
abbrev lamNF (X : Cx) (params : Arguments) (scope : Scope) (c' : Addr) : NF :=
  ⟨"<lambda>", X.env.qual ++ "<lambda>", params, [], scope, cloFrom X.env.cells scope.names [], c'⟩
section
variable {X : Cx} {pins : List (Addr × Obj)} {σ : L2.St} {H : Hp} {s : Shared}
theorem inv_lam {F : NF} {e : Expr} {o : Obj} {tk : Nat} {pm ctv : Value} (I : Inv X pins σ H s) (ho : o = { cls := .type "function", data := .func (lamFd F e pm ctv) }) :
    Inv X pins σ (upd H s.heap.objs.size (LamO s.heap.objs.size F e)) { s with heap := s.heap.push o, toks := tk } := by
  subst ho
  have at_ := Heap.get?_push_size (o := ({ cls := .type "function", data := .func (lamFd F e pm ctv) } : Obj)) s.heap rfl
  exact I.laid (fun b u z => Heap.get?_push_of_some _ z) (Nat.le_refl _)
    ⟨⟨_, _, pm, ctv, at_⟩, ⟨_, at_⟩, fun h1 h2 z st => by
      obtain ⟨od, sl, p1, p2, z⟩ := z
      exact ⟨od, sl, p1, p2, st _ z⟩⟩
theorem lam_make {T : List (Addr × Str)} {c P : Addr} {params : Arguments} {body : Expr} {scope : Scope} {pos : Pos} {E : Value → Shared → Prop} {Q : Value → Shared → Prop}
    (I : Inv X pins σ H s) (TB : TabB X.base X.mg c P) (hcode : X.env.code = .ref c)
    (hm : (P, X.env.qual ++ "<lambda>") ∈ T) (hu : ∀ p ∈ T, p.1 = P → p.2 = X.env.qual ++ "<lambda>") (hT : Tabs T H)
    (hdef : defaultsOf params X.env = ([], [])) (hfree : ∀ y ∈ scope.names, y.2 = .free → ∃ c, X.env.cells.lookup y.1 = some c)
    (h : ∀ (f c' : Addr) (H1 : Hp) (s' : Shared), Inv X pins σ H1 s' → ExtN H H1 → Dom H H1 → Tabs T H1 → H f = none →
      H1 f = some (LamO f (lamNF X params scope c') body) → H1 c' = some (CodeO c' (X.env.qual ++ "<lambda>")) → Q (.ref f) s') :
    wpAny (model X.prog X.w) X.A (eval (.Lambda params body scope pos) X.env) Q E s := by
  obtain ⟨ps, tabP, trip, told⟩ := hT _ hm
  refine PySem.W.kla_eval hdef ?_
  have bmP : s.heap.BuiltinsAt X.mg P := TB.bm.keeps I.bk
  have objP : s.heap.get? P = some { cls := .none, data := .fields ps } := I.hok P _ tabP
  have clo := closure_ok (env := X.env) hfree
  have gl := I.mod.glob.keeps I.bk
  have hd := TB.code.keeps I.bk
  cases found : codeAmong pos ps.toList with
  | some cv =>
    obtain ⟨c', rfl, hco⟩ := told pos cv found
    refine PySem.W.kla_makeFunctionHit (mg := X.mg) (c := c) (P := P) (ps := ps) clo I.ok.glob gl
      hcode hd objP trip found bmP fun ctv h' tk keep big => ?_
    have I1 : Inv X pins σ H { s with heap := h', toks := tk } := I.kept keep
    have new : H h'.objs.size = none := I1.hok.fresh (Nat.le_refl _)
    have I2 := inv_lam (F := lamNF X params scope c') (e := body) (tk := tk) (pm := (X.mg "__name__").getD .none) (ctv := ctv) I1 rfl
    refine h _ c' _ _ I2 (fun b o z _ => (upd_ne (ne_of_none z new)).trans z) (Dom.upd fun b z => z) ?_ new upd_same ((upd_ne (ne_of_none hco new)).trans hco)
    exact hT.ext fun b o z => (upd_ne (ne_of_none z new)).trans z
  | none =>
    refine PySem.W.kla_makeFunction (mg := X.mg) (c := c) (P := P) (ps := ps) clo I.ok.glob gl
      hcode hd objP trip found TB.gP bmP fun c' ctv h' tk keep ge lt rec_ tab => ?_
    obtain ⟨c2, oc, vs, t, e2, a1, a2, a3⟩ := rec_
    obtain rfl := Value.ref.inj e2
    have newC : H c' = none := I.hok.fresh ge
    have I1 := inv_table (q := X.env.qual ++ "<lambda>") (t' := tk) (more := #[rawInt pos.line, rawInt pos.col, .ref c']) I tabP
      (fun b o hb z => keep b o hb z) tab ge ⟨oc, vs, t, a1, a2, a3⟩
    have ext1 : ExtN H (upd (upd H P (.tbl (ps ++ #[rawInt pos.line, rawInt pos.col, .ref c']))) c' (CodeO c' (X.env.qual ++ "<lambda>"))) := fun b o z n => by
      have nb : b ≠ P := fun y => by
        rw [y, tabP] at z
        exact n ps (Option.some.inj z).symm
      rw [upd_ne (ne_of_none z newC), upd_ne nb]
      exact z
    have codeAt : (upd (upd H P (.tbl (ps ++ #[rawInt pos.line, rawInt pos.col, .ref c']))) c' (CodeO c' (X.env.qual ++ "<lambda>"))) c' = _ := upd_same
    have eL : (ps ++ #[rawInt pos.line, rawInt pos.col, Value.ref c']).toList = ps.toList ++ [rawInt pos.line, rawInt pos.col, .ref c'] := by simp
    have tabs1 : Tabs T (upd (upd H P (.tbl (ps ++ #[rawInt pos.line, rawInt pos.col, .ref c']))) c' (CodeO c' (X.env.qual ++ "<lambda>"))) := fun p hp => by
      obtain ⟨qs, b1, b2, b3⟩ := hT p hp
      by_cases hb : p.1 = P
      · refine ⟨ps ++ #[rawInt pos.line, rawInt pos.col, .ref c'], ?_, ?_, fun p' cv hcv => ?_⟩
        · rw [hb, upd_ne (ne_of_none tabP newC)]
          exact upd_same
        · rw [eL]
          exact PySem.TriplesOk_snoc _ _ _ _ trip
        · rw [eL] at hcv
          rw [hu p hp hb]
          rcases among_app _ trip hcv with z | z
          · obtain ⟨c0, d1, d2⟩ := told p' cv z
            exact ⟨c0, d1, ext1 _ _ d2 codeO_ne⟩
          · exact ⟨c', z, codeAt⟩
      · refine ⟨qs, ?_, b2, fun p' cv hcv => ?_⟩
        · rw [upd_ne (ne_of_none b1 newC), upd_ne hb]
          exact b1
        · obtain ⟨c0, d1, d2⟩ := b3 p' cv hcv
          exact ⟨c0, d1, ext1 _ _ d2 codeO_ne⟩
    have newF := I1.hok.fresh (Nat.le_refl _)
    have I2 := inv_lam (F := lamNF X params scope c') (e := body) (tk := tk) (pm := (X.mg "__name__").getD .none) (ctv := ctv) I1 rfl
    refine h _ c' _ _ I2 (fun b o z n => ?_) (Dom.upd (Dom.upd (Dom.upd fun b z => z))) (tabs1.ext fun b o z => (upd_ne (ne_of_none z newF)).trans z) ?_ upd_same ((upd_ne (ne_of_none codeAt newF)).trans codeAt)
    · have z1 := ext1 b o z n
      exact (upd_ne (ne_of_none z1 newF)).trans z1
    · cases z : H h'.objs.size with
      | none => rfl
      | some o =>
        have big : s.heap.objs.size ≤ h'.objs.size := Nat.le_trans ge (Nat.le_of_lt lt)
        rw [I.hok.fresh big] at z
        exact nomatch z
end
/-- the reading of a lambda: a new function object -/
def tLamH (T : List (Addr × Str)) (mk : Addr → NF) (e : Expr) : TE := fun σ H Q => Tabs T H ∧ ∀ (f c' : Addr) (H1 : Hp), ExtN H H1 → Tabs T H1 → H f = none →
  H1 f = some (LamO f (mk c') e) → H1 (mk c').c = some (CodeO (mk c').c (mk c').qual) → Q (.ref f) H1
section
variable {X : Cx}
theorem pe_lamH {T : List (Addr × Str)} {c P : Addr} {params : Arguments} {body : Expr} {scope : Scope} {pos : Pos} (TB : TabB X.base X.mg c P) (hcode : X.env.code = .ref c)
    (hm : (P, X.env.qual ++ "<lambda>") ∈ T) (hu : ∀ p ∈ T, p.1 = P → p.2 = X.env.qual ++ "<lambda>") (hdef : defaultsOf params X.env = ([], []))
    (hfree : ∀ y ∈ scope.names, y.2 = .free → X.env.scope.names.lookup y.1 = some .cell ∨ X.env.scope.names.lookup y.1 = some .free) :
    PE X (.Lambda params body scope pos) (tLamH T (lamNF X params scope) body) := by
  refine ⟨fun pins s σ H Q I h => ?_⟩
  obtain ⟨hT, h⟩ := h
  have fr : ∀ y ∈ scope.names, y.2 = .free → ∃ c, X.env.cells.lookup y.1 = some c := fun y hy e => (hfree y hy e).elim (fun z => I.ok.has _ (.inl z)) fun z => I.ok.has _ (.inr z)
  exact lam_make I TB hcode hm hu hT hdef fr fun f c' H1 s' I1 x1 _ t1 n1 l1 k1 => ⟨.ref f, H1, I1, rfl, h f c' H1 x1 t1 n1 l1 k1⟩
end
/-- what a call leaves: all but the tables stays, nothing is gone -/
structure ExD (H H' : Hp) : Prop where
  n : ExtN H H'
  d : Dom H H'
def tLamD (T : List (Addr × Str)) (mk : Addr → NF) (e : Expr) : TE := fun σ H Q => Tabs T H ∧ ∀ (f c' : Addr) (H1 : Hp), ExD H H1 → Tabs T H1 → H f = none →
  H1 f = some (LamO f (mk c') e) → H1 (mk c').c = some (CodeO (mk c').c (mk c').qual) → Q (.ref f) H1
section
variable {X : Cx}
theorem pe_lamD {T : List (Addr × Str)} {c P : Addr} {params : Arguments} {body : Expr} {scope : Scope} {pos : Pos} (TB : TabB X.base X.mg c P) (hcode : X.env.code = .ref c)
    (hm : (P, X.env.qual ++ "<lambda>") ∈ T) (hu : ∀ p ∈ T, p.1 = P → p.2 = X.env.qual ++ "<lambda>") (hdef : defaultsOf params X.env = ([], []))
    (hfree : ∀ y ∈ scope.names, y.2 = .free → X.env.scope.names.lookup y.1 = some .cell ∨ X.env.scope.names.lookup y.1 = some .free) :
    PE X (.Lambda params body scope pos) (tLamD T (lamNF X params scope) body) := by
  refine ⟨fun pins s σ H Q I h => ?_⟩
  obtain ⟨hT, h⟩ := h
  have fr : ∀ y ∈ scope.names, y.2 = .free → ∃ c, X.env.cells.lookup y.1 = some c := fun y hy e => (hfree y hy e).elim (fun z => I.ok.has _ (.inl z)) fun z => I.ok.has _ (.inr z)
  exact lam_make I TB hcode hm hu hT hdef fr fun f c' H1 s' I1 x1 d1 t1 n1 l1 k1 => ⟨.ref f, H1, I1, rfl, h f c' H1 ⟨x1, d1⟩ t1 n1 l1 k1⟩
end
/-! ### what a lambda promises -/
structure LOk (P : Program) (w : World) (K : PySem.W.Frag) (mg : Str → Option Value) (base : Heap) (CX : CXT) (k : Nat) (f : Addr) (F : NF) (e : Expr) (ps fr : List Str) (sp : List (Option V) → Sp) : Prop where
  len : ∀ ws vs H Q E, sp ws vs H Q E → vs.length = ps.length
  run : ∀ (A : Around) (outer : List Env) (s : Shared) (H : Hp) (us : List Value) (vs : List V) (ws : List (Option V)) (Q : VK) (E : XK),
    Room k A → Env0 P w K mg base A outer s H → H f = some (LamO f F e) → H F.c = some (CodeO F.c F.qual) →
    CellsAt F.cl fr ws s.heap H → Vals vs us → sp ws vs H Q E → codeAny (model P w) A (.call (.ref f) ⟨us, []⟩) (CR CX outer P w H s Q E) s
section
variable {CX : CXT} {P : Program} {w : World} {K : PySem.W.Frag} {mg : Str → Option Value} {base : Heap} {N ps fr : List Str} {F : NF} {e : Expr} {f : Addr} {k j : Nat} {sp : List (Option V) → Sp}
theorem LOk.mono (o : LOk P w K mg base CX j f F e ps fr sp) (h : j ≤ k) : LOk P w K mg base CX k f F e ps fr sp :=
  ⟨o.len, fun A outer s H us vs ws Q E hr => o.run A outer s H us vs ws Q E (hr.mono h)⟩
/-- THE RULE: a lambda by its expression -/
theorem lok_of (S : NScope N ps fr F.scope) (hb : ∀ (pm ctv : Value) (us : List Value), us.length = ps.length → bindArgs (lamFd F e pm ctv) ⟨us, []⟩ = pure (ps.zip us))
    (len : ∀ ws vs H Q E, sp ws vs H Q E → vs.length = ps.length)
    (hbody : ∀ (A : Around) (outer : List Env) (s : Shared) (H : Hp) (vs : List V) (ws : List (Option V)) (Q : VK) (E : XK), Room k (A.deeper (envF F f s.heap.objs.size)) →
      ws.length = fr.length → sp ws vs H Q E → ∃ t, PE (ncx CX P w K mg base N F f A outer s H E) e t ∧ t (startF N vs ws) H Q) :
    LOk P w K mg base CX (k + 1) f F e ps fr sp := by
  refine ⟨len, fun A outer s H us vs ws Q E hr e0 hf hc C r hsp => ?_⟩
  have hl := len _ _ _ _ _ hsp
  have lim : s.heap.NoLimit := e0.mod.nolimit.keeps fun b o z => (e0.bs b o z).1
  obtain ⟨od, sl, pm, ctv, ho⟩ := lamO_at e0.hok hf
  refine PySem.W.kla_callFunE hr.depth ho rfl S.co S.gen rfl (codeO_at e0.hok hc) ?_
  rw [hb pm ctv us (by rw [← r.length]; exact hl)]
  refine wpAny_pure (wpAny_newFunctionEnv S.nocell (fun y hy => S.par y.1 (List.of_mem_zip (b := y.2) hy).1) (fun h₁ hns hsb => ⟨lim.fresh _ hsb, ?_⟩) S.kind)
  show codeAny _ _ (.expr e (envF F f s.heap.objs.size)) _ _
  have kp : ∀ b o, s.heap.get? b = some o → h₁.get? b = some o := fun b o z =>
    hsb.extBut b o (Nat.ne_of_lt (Heap.lt_size z)) (Heap.get?_push_of_some _ z)
  obtain ⟨t, ht, hq⟩ := hbody A outer s H vs ws Q E (hr.deeper _) C.len hsp
  have I := inv_startN (CX := CX) (E := E) (f := f) (tk := s.toks + (ps.zip us).length) S hr.hd e0 hl r C hns kp
  refine PySem.W.kla_codeExpr (wpAny_mono (ht.run [] _ (startF N vs ws) H _ I hq) (fun u s' hs => ?_) fun _ _ hs => hs)
  obtain ⟨v, H', J, rv, q⟩ := hs
  exact ⟨v, H', J.os, J.bare, J.base, J.hok, rv, q⟩
end
/-! ### calls of such a lambda in a def that was handed it -/
structure Clo where
  cl : List (Str × Addr)
  fr : List Str
  ws : List (Option V)
/-- its captured cells hold so, and are no frames of those that run -/
structure HeldC (C : Clo) (l : List Env) (h : Heap) (H : Hp) : Prop where
  at_ : CellsAt C.cl C.fr C.ws h H
  nofr : ∀ y c, C.cl.lookup y = some c → c ∉ frs l
section
variable {X : Cx} {pins : List (Addr × Obj)} {σ : L2.St} {H : Hp} {s : Shared}
theorem held_later {C : Clo} (h : HeldC C X.outer X.s_0.heap X.H_0) (nx : X.ex = []) (I : Inv X pins σ H s) : HeldC C X.stack s.heap H := by
  refine ⟨h.at_.later (fun y c z => h.nofr y c z) (fun y c _ => by rw [nx]; simp) I, fun y c z hc => ?_⟩
  obtain ⟨v, o, ho, hd⟩ := (h.at_.all y c z).2
  rcases List.mem_cons.mp (I.stkSub c hc) with e | e
  · have h1 := I.ok.above
    have h2 := Heap.lt_size ho
    rw [e] at h2
    exact absurd (Nat.lt_of_lt_of_le h2 h1) (Nat.lt_irrefl _)
  · exact h.nofr y c z e
/-- .. of the def that makes it -/
theorem held_made {C : Clo} {js : List Nat} (c : Caps X C.cl C.fr js) (hw : C.ws = js.map (slotAt σ)) (hfn : ∀ x, X.fn x = true) (I : Inv X pins σ H s) : HeldC C X.stack s.heap H := by
  refine ⟨by rw [hw]; exact cells_of I c, fun y a z hc => ?_⟩
  have ha := c.sub y a z
  rcases List.mem_cons.mp (I.stkSub a hc) with e | e
  · exact I.cne y a ha e
  · obtain ⟨_, o, ho, _⟩ := I.ok.funs.mem e
    have h1 := I.ok.cab y a (hfn y) ha
    exact absurd (Nat.lt_of_lt_of_le (Heap.lt_size ho) h1) (Nat.lt_irrefl _)
end
/-- x(..), x a name that holds a lambda that was handed in -/
def tCallH (i : Nat) (F : Addr → NF → Expr → Prop) (sp : NF → Sp) (t : TA) : TE := fun σ H Q => ∃ f F' e, σ[i]? = some (some (.ref f)) ∧ F f F' e ∧ H f = some (LamO f F' e) ∧
  t σ H fun vs H1 => H1 f = some (LamO f F' e) ∧ H1 F'.c = some (CodeO F'.c F'.qual) ∧ sp F' vs H1 Q E0
section
variable {X : Cx} {k j i : Nat} {x : Str} {t : TA} {e : Expr} {es : List Expr} {p pos : Pos} {FP : Addr → NF → Expr → Prop} {sp : NF → Sp}
theorem fnAt_lam {pins : List (Addr × Obj)} {σ : L2.St} {H : Hp} {s : Shared} {f : Addr} {F : NF} {e : Expr} (I : Inv X pins σ H s) (q : H f = some (LamO f F e)) : PySem.W.FnAt f s.heap := by
  obtain ⟨od, sl, pm, ctv, ho⟩ := lamO_at I.hok q
  exact ⟨_, od, _, sl, ho⟩
theorem pe_callH (Fn : ∀ f F e, FP f F e → ∃ (C : Clo) (ps : List Str) (spL : List (Option V) → Sp), C.cl = F.cl ∧ LOk X.prog X.w X.K X.mg X.base CX0 k f F e ps C.fr spL ∧ HeldC C X.outer X.s_0.heap X.H_0 ∧ ∀ vs H Q E, sp F vs H Q E → spL C.ws vs H Q E) (nx : X.ex = [])
    (hr : Room j X.A) (hk : k ≤ j) (hN : X.N[i]? = some x) (hv : Vis X.env.scope x) (ha : PA X (e :: es) t)
    (hd : (x == ("__debug__" : Str)) = false := by decide) (hcd : (x == ("__classdict__" : Str)) = false := by decide)
    (he : starEach (e :: es) X.env = (false, eval e X.env) :: starEach es X.env := by rfl) (hpl : (backTo pos (starEach es X.env)).any (·.1) = false := by rfl) :
    PE X (.Call (.Name x p) (e :: es) [] pos) (tCallH i FP sp t) := by
  refine ⟨fun pins s σ H Q I h => ?_⟩
  obtain ⟨f, F, e', hs, hFP, hf, ht⟩ := h
  obtain ⟨C, ps, spL, eC, L, hC, hS⟩ := Fn f F e' hFP
  have nm := (pe_var (pos := p) hN hv hd hcd).run pins s σ H (fun v H1 => v = .ref f ∧ H1 = H) I ⟨.ref f, hs, rfl, rfl⟩
  refine wpAny_Call_Name_kw (thn nm fun u s1 q1 => ?_)
  obtain ⟨v, H1, I1, r1, ev, eH⟩ := q1
  subst ev
  rw [eH] at I1
  obtain rfl : u = Value.ref f := r1
  refine PySem.W.callWith_F (first := []) (fnAt_lam I1 hf) (thn (ha.run pos pins s1 σ H _ I1 ht) fun us s2 q2 => ?_) he hpl
  obtain ⟨vs, H2, I2, r, h1, h2, q⟩ := q2
  refine ⟨fnAt_lam I2 h1, ?_⟩
  show wpAny _ _ (call (.ref f) us) _ _ _
  have hc2 := (held_later hC nx I2).at_
  rw [eC] at hc2
  refine wpAny_call (codeAny_mono (L.run X.A X.stack s2 H2 us vs C.ws Q E0 (hr.mono hk) I2.env0 h1 h2 hc2 r (hS _ _ _ _ q)) fun r s' hq => ?_)
  cases r with
  | error _ => exact (show False from hq).elim
  | ok fl =>
    cases fl with
    | ret u => exact I2.after hq
    | next => exact (show False from hq).elim
    | brk => exact (show False from hq).elim
    | cont => exact (show False from hq).elim
end
/-! ### a def that is handed lambdas -/
structure FnOkC (P : Program) (w : World) (K : PySem.W.Frag) (mg : Str → Option Value) (base : Heap) (CX : CXT) (k : Nat) (f : Addr) (fd : FuncData) (ps : List Str) (sp : List Clo → Sp) : Prop where
  len : ∀ Cs vs H Q E, sp Cs vs H Q E → vs.length = ps.length
  run : ∀ (Cs : List Clo) (A : Around) (outer : List Env) (s : Shared) (H : Hp) (args : Args) (us : List Value) (vs : List V) (Q : VK) (E : XK), Room k A → Env0 P w K mg base A outer s H → BindsTo s fd args (ps.zip us) → Vals vs us →
    (∀ C ∈ Cs, HeldC C outer s.heap H) → sp Cs vs H Q E → codeAny (model P w) A (.call (.ref f) args) (CR CX outer P w H s Q E) s
theorem FnOkC.mono {P : Program} {w : World} {K : PySem.W.Frag} {mg : Str → Option Value} {base : Heap} {CX : CXT} {k j : Nat} {f : Addr} {fd : FuncData} {ps : List Str} {sp : List Clo → Sp}
    (o : FnOkC P w K mg base CX j f fd ps sp) (h : j ≤ k) : FnOkC P w K mg base CX k f fd ps sp :=
  ⟨o.len, fun Cs A outer s H args us vs Q E hr => o.run Cs A outer s H args us vs Q E (hr.mono h)⟩
section
variable {P : Program} {w : World} {K : PySem.W.Frag} {mg : Str → Option Value} {base : Heap}
/-- THE RULE for such a def -/
theorem Fun.okC {x qual : Str} {st : Stmt} {f : Addr} {fd : FuncData} {N ps : List Str} {k : Nat} {sp : List Clo → Sp} (F : Fun K x qual st f fd) (S : FnScope N ps (defScope st)) (len : ∀ Cs vs H Q E, sp Cs vs H Q E → vs.length = ps.length)
    (hbody : ∀ (cdv : Value) (Cs : List Clo) (A : Around) (outer : List Env) (s : Shared) (H : Hp) (vs : List V) (Q : VK) (E : XK), Room k (A.deeper (envOfC qual (defScope st) s.heap.objs.size f cdv)) → (∀ C ∈ Cs, HeldC C outer s.heap H) → sp Cs vs H Q E →
      ∃ t, PSs (cxOf CX0 P w K mg base N qual (defScope st) f cdv A outer s H E).nox (defBody st) t ∧ t { nx := fun _ H' => Q .non H', rt := Q } (L2.start N vs) H) : FnOkC P w K mg base CX0 (k + 1) f fd ps sp := by
  obtain ⟨oc, od, kV, doc, pm, an, cdv, ct, osl, rfl, lk, hcd⟩ := F.ex
  refine ⟨len, fun Cs A outer s H args us vs Q E hr e0 hb r hC hsp => ?_⟩
  refine run_ofS lk hcd S hr e0 hb r (len _ _ _ _ _ hsp) fun hr2 => ?_
  obtain ⟨t, ht, hq⟩ := hbody cdv Cs A outer s H vs Q E hr2 hC hsp
  exact ⟨t, ht.nox, hq⟩
/-- a def whose code object is named -/
structure FunC (K : PySem.W.Frag) (x qual : Str) (st : Stmt) (f : Addr) (fd : FuncData) (c : Addr) : Prop where
  ex : ∃ (oc : Value) (od : Option Addr) (kV doc pm : Value) (an : Option Addr) (ct : Value) (osl : Array (Option Value)),
    fd = PySem.W.fnOf x qual (defArgs st) (defBody st) (defScope st) .none kV doc pm an (.ref c) ct ∧ K.lookup f = some ⟨oc, od, .func fd, osl⟩ ∧ PySem.W.codeIn K (.ref c) qual = true
  kp : PySem.W.keepIn K (.ref f) = true
theorem FunC.fun_ {x qual : Str} {st : Stmt} {f c : Addr} {fd : FuncData} (F : FunC K x qual st f fd c) : Fun K x qual st f fd := by
  obtain ⟨oc, od, kV, doc, pm, an, ct, osl, e, lk, hcd⟩ := F.ex
  exact ⟨⟨oc, od, kV, doc, pm, an, _, ct, osl, e, lk, hcd⟩, F.kp⟩
/-- THE RULE for a def that makes lambdas -/
theorem FunC.ok {x qual : Str} {st : Stmt} {f c : Addr} {fd : FuncData} {N ps : List Str} {k : Nat} {sp : Sp} (F : FunC K x qual st f fd c) (S : FnScope N ps (defScope st)) (len : ∀ vs H Q E, sp vs H Q E → vs.length = ps.length)
    (hbody : ∀ (A : Around) (outer : List Env) (s : Shared) (H : Hp) (vs : List V) (Q : VK) (E : XK), Room k (A.deeper (envOfC qual (defScope st) s.heap.objs.size f (.ref c))) → sp vs H Q E →
      ∃ t, PSs (cxOf CX0 P w K mg base N qual (defScope st) f (.ref c) A outer s H E).nox (defBody st) t ∧ t { nx := fun _ H' => Q .non H', rt := Q } (L2.start N vs) H) : FnOk P w K mg base CX0 (k + 1) f fd ps sp := by
  obtain ⟨oc, od, kV, doc, pm, an, ct, osl, rfl, lk, hcd⟩ := F.ex
  refine fn_of lk hcd S len fun A outer s H vs Q E hr hsp => ?_
  obtain ⟨t, ht, hq⟩ := hbody A outer s H vs Q E hr hsp
  exact ⟨t, ht.nox, hq⟩
end
def tCallC (Cs : L2.St → List Clo) (sp : List Clo → Sp) (t : TA) : TE := fun σ H Q => t σ H fun vs H1 => sp (Cs σ) vs H1 Q E0
section
variable {X : Cx} {k : Nat} {f : Addr} {fd : FuncData} {ps : List Str} {sp : List Clo → Sp} {x : Str} {p pos : Pos} {e : Expr} {es : List Expr} {t : TA} {Cs : L2.St → List Clo}
theorem pe_callC (F : FnOkC X.prog X.w X.K X.mg X.base CX0 k f fd ps sp) (hC : ∀ pins σ H s, Inv X pins σ H s → ∀ C ∈ Cs σ, HeldC C X.stack s.heap H) (hr : Room k X.A) (hg : Gl X x) (hm : X.mg x = some (.ref f)) (hk : PySem.W.keepIn X.K (.ref f) = true) (hb : Binds X.K fd ps [])
    (ha : PA X (e :: es) t) (hdb : (x == ("__debug__" : Str)) = false := by decide) (he : starEach (e :: es) X.env = (false, eval e X.env) :: starEach es X.env := by rfl) (hpl : (backTo pos (starEach es X.env)).any (·.1) = false := by rfl) :
    PE X (.Call (.Name x p) (e :: es) [] pos) (tCallC Cs sp t) := by
  refine ⟨fun pins s σ H Q I h => ?_⟩
  refine wpAny_Call_Name_kw (ld_glob I hg hm ?_ hdb)
  refine PySem.W.callWith_K (h₀ := X.base) I.ok.mod.kin hk (thn (ha.run pos pins s σ H _ I h) fun us s1 q1 => ?_) he hpl
  obtain ⟨vs, H1, I1, r, q⟩ := q1
  refine ⟨I1.kIn, ?_⟩
  have hl : us.length = ps.length := by
    rw [← r.length]
    exact F.len _ _ _ _ _ q
  have bnd := hb s1 us I1.kIn (by rw [List.append_nil]; exact hl)
  rw [List.append_nil] at bnd
  refine wpAny_call (codeAny_mono (F.run (Cs σ) X.A X.stack s1 H1 ⟨us, []⟩ us vs Q E0 hr I1.env0 bnd r (hC _ _ _ _ I1) q) fun r s' hq => ?_)
  cases r with
  | error _ => exact (show False from hq).elim
  | ok fl =>
    cases fl with
    | ret u => exact I1.after hq
    | next => exact (show False from hq).elim
    | brk => exact (show False from hq).elim
    | cont => exact (show False from hq).elim
end
/-! ### for the writer of terms -/
def eLamArgs : Expr → Arguments | .Lambda ps _ _ _ => ps | _ => { posonlyargs := [], args := [], vararg := none, kwonlyargs := [], kw_defaults := [], kwarg := none, defaults := [] }
def eLamBody : Expr → Expr | .Lambda _ b _ _ => b | _ => noE
def eLamScope : Expr → Scope | .Lambda _ _ sc _ => sc | _ => { kind := .function, names := [], isGenerator := false, isCoroutine := false }
def eKey (k : Nat) : Expr → Expr | .Dict ks _ _ => (ks.getD k none).getD noE | _ => noE
def eVl (k : Nat) : Expr → Expr | .Dict _ vs _ => vs.getD k noE | _ => noE
theorem held_nil {X : Cx} : ∀ (pins : List (Addr × Obj)) (σ : L2.St) (H : Hp) (s : Shared), Inv X pins σ H s → ∀ C ∈ ([] : List Clo), HeldC C X.stack s.heap H := fun _ _ _ _ _ C hC => nomatch hC
theorem held_cons {X : Cx} {scope : Scope} {js : List Nat} {fr : List Str} {Cs : L2.St → List Clo} (hfn : ∀ x, X.fn x = true) (hB : NdefX.ndefB X.env.scope scope fr = true) (hjs : js.map (fun j => X.N[j]?) = fr.map some)
    (rest : ∀ (pins : List (Addr × Obj)) (σ : L2.St) (H : Hp) (s : Shared), Inv X pins σ H s → ∀ C ∈ Cs σ, HeldC C X.stack s.heap H) :
    ∀ (pins : List (Addr × Obj)) (σ : L2.St) (H : Hp) (s : Shared), Inv X pins σ H s → ∀ C ∈ (⟨cloFrom X.env.cells scope.names [], fr, js.map (NdefX.slotAt σ)⟩ : Clo) :: Cs σ, HeldC C X.stack s.heap H := by
  intro pins σ H s I C hC
  rcases List.mem_cons.mp hC with rfl | hC
  · exact held_made (js := js) (NdefX.Caps.made I.ok (NdefX.ndef_free hB) (NdefX.ndef_fr hB) hjs) rfl hfn I
  · exact rest pins σ H s I C hC
theorem tabs_uniq {l : List (Addr × Str)} {P : Addr} {x : Str} (nd : (l.map (·.1)).Nodup) (hm : (P, x) ∈ l) : ∀ p ∈ l, p.1 = P → p.2 = x := by
  induction l with
  | nil => exact nomatch hm
  | cons y l ih =>
    obtain ⟨n1, n2⟩ := List.nodup_cons.mp (show (y.1 :: l.map (·.1)).Nodup from nd)
    intro p hp e
    rcases List.mem_cons.mp hm with h1 | h1
    · rcases List.mem_cons.mp hp with h2 | h2
      · rw [h2, ← h1]
      · have m2 : p.1 ∈ l.map (·.1) := List.mem_map_of_mem h2
        rw [e, show P = y.1 by rw [← h1]] at m2
        exact absurd m2 n1
    · rcases List.mem_cons.mp hp with h2 | h2
      · have m2 : P ∈ l.map (·.1) := List.mem_map_of_mem (f := (·.1)) h1
        rw [← e, h2] at m2
        exact absurd m2 n1
      · exact ih n2 h1 p h2 e
theorem tabs_nil {l : List (Addr × Str)} {H : Hp} (h : ∀ p ∈ l, H p.1 = some (.tbl #[])) : Tabs l H := fun p hp => TabS.nil (h p hp)
theorem fun_of_D {K : PySem.W.Frag} {x : Str} {st : Stmt} {f : Addr} {fd : FuncData} (F : FunD K x x (defArgs st) (defBody st) (defScope st) [] [] f fd) : Fun K x x st f fd := by
  obtain ⟨oc, od, dV, kV, doc, pm, an, cdv, ct, osl, rfl, lk, hcd, hD, _⟩ := F.ex
  rcases hD with ⟨_, rfl⟩ | ⟨e, _⟩
  · exact ⟨⟨oc, od, kV, doc, pm, an, cdv, ct, osl, rfl, lk, hcd⟩, F.kp⟩
  · exact absurd rfl e
theorem funC_of_D {K : PySem.W.Frag} {x : Str} {st : Stmt} {p : Str × Option Str} {fd : FuncData} (F : FunD K x x (defArgs st) (defBody st) (defScope st) [] [] (He.fAd K p) fd) : FunC K x x st (He.fAd K p) fd (He.cT K p).1 := by
  obtain ⟨oc, od, dV, kV, doc, pm, an, cdv, ct, osl, rfl, lk, hcd, hD, _⟩ := F.ex
  obtain ⟨c, rfl⟩ := He.codeIn_ref hcd
  have ec := He.codeOf_eq lk rfl
  rcases hD with ⟨_, rfl⟩ | ⟨e, _⟩
  · show FunC K x x st _ _ (He.codeOf K p)
    rw [ec]
    exact ⟨⟨oc, od, kV, doc, pm, an, ct, osl, rfl, lk, hcd⟩, F.kp⟩
  · exact absurd rfl e
/-! ### what stands where code tables grow -/
section
variable {K : PySem.W.Frag} {H H' : Hp}
theorem _root_.LamX.ExtN.keep {a : Addr} {o : HO} (e : ExtN H H') (h : H a = some o) (n : ∀ ps, o ≠ .tbl ps) : H' a = some o := e a o h n
theorem _root_.LamX.ExtN.sqL {a : Addr} {xs : List V} (e : ExtN H H') (h : SqL K H a xs) : SqL K H' a xs := by
  rcases h with (h | ⟨o, h⟩) | h
  · exact .inl (.inl (e _ _ h fun _ z => nomatch z))
  · exact .inl (.inr ⟨o, e _ _ h fun _ z => nomatch z⟩)
  · exact .inr h
theorem _root_.LamX.ExtN.sqT {a : Addr} {xs : List V} (e : ExtN H H') (h : SqT K H a xs) : SqT K H' a xs := by
  rcases h with (h | ⟨o, h⟩) | h
  · exact .inl (.inl (e _ _ h fun _ z => nomatch z))
  · exact .inl (.inr ⟨o, e _ _ h fun _ z => nomatch z⟩)
  · exact .inr h
theorem _root_.LamX.ExtN.tup {a : Addr} {xs : List V} (e : ExtN H H') (h : H a = some (.tup xs)) : H' a = some (.tup xs) := e _ _ h fun _ z => nomatch z
theorem _root_.LamX.ExtN.lst {a : Addr} {xs : List V} (e : ExtN H H') (h : H a = some (.lst xs)) : H' a = some (.lst xs) := e _ _ h fun _ z => nomatch z
theorem _root_.LamX.ExtN.dT {a : Addr} {kvs : List (List Key × V)} (e : ExtN H H') (h : H a = some (.dT kvs)) : H' a = some (.dT kvs) := e _ _ h fun _ z => nomatch z
theorem _root_.LamX.ExtN.same {H2 : Hp} (e : ExtN H H') (s : Same H' H2) : ExtN H H2 := e.trans (ExtN.of s)
theorem _root_.LamX.ExtN.sT (e : ExtN H H') : SameT H H' := fun b => ⟨fun _ h => e b _ h (fun _ z => nomatch z), fun _ _ h => e b _ h (fun _ z => nomatch z)⟩
theorem ExD.refl (H : Hp) : ExD H H := ⟨ExtN.refl H, fun _ h => h⟩
theorem ExD.trans {H2 : Hp} (e : ExD H H') (f : ExD H' H2) : ExD H H2 := ⟨e.n.trans f.n, fun b h => f.d b (e.d b h)⟩
theorem ExD.of (s : Same H H') : ExD H H' := ⟨ExtN.of s, fun b h z => by
  cases e : H b with
  | none => exact h e
  | some o => rw [s _ _ e] at z; exact nomatch z⟩
theorem ExD.same {H2 : Hp} (e : ExD H H') (s : Same H' H2) : ExD H H2 := e.trans (ExD.of s)
theorem ExD.mut {p : Addr} {o : HO} (e : ExD H H') (h : H p = none) : ExD H (L2.upd H' p o) := ⟨fun b u hb n => by
  rw [upd_ne (ne_of_none hb h)]
  exact e.n b u hb n, Dom.upd e.d⟩
theorem ExD.free {p : Addr} (e : ExD H H') (h : H' p = none) : H p = none := Classical.byContradiction fun z => e.d p z h
theorem ExD.tup {a : Addr} {xs : List V} (e : ExD H H') (h : H a = some (.tup xs)) : H' a = some (.tup xs) := e.n.tup h
theorem ExD.lst {a : Addr} {xs : List V} (e : ExD H H') (h : H a = some (.lst xs)) : H' a = some (.lst xs) := e.n.lst h
theorem ExD.dT {a : Addr} {kvs : List (List Key × V)} (e : ExD H H') (h : H a = some (.dT kvs)) : H' a = some (.dT kvs) := e.n.dT h
theorem ExD.keep {a : Addr} {o : HO} (e : ExD H H') (h : H a = some o) (n : ∀ ps, o ≠ .tbl ps) : H' a = some o := e.n a o h n
theorem ExD.frz {a : Addr} {o : Obj} {u : HO} (e : ExD H H') (h : H a = some (.frz o u)) : H' a = some (.frz o u) := e.n _ _ h fun _ z => nomatch z
theorem ExD.sqL {a : Addr} {xs : List V} (e : ExD H H') (h : SqL K H a xs) : SqL K H' a xs := e.n.sqL h
theorem ExD.sqT {a : Addr} {xs : List V} (e : ExD H H') (h : SqT K H a xs) : SqT K H' a xs := e.n.sqT h
theorem ExD.sT (e : ExD H H') : SameT H H' := e.n.sT
theorem _root_.LamX.Tabs.same {l : List (Addr × Str)} (t : Tabs l H) (s : Same H H') : Tabs l H' := t.ext s
end
section
variable {σ : L2.St} {H : Hp} {Q : VK}
theorem r_callC {Cs : L2.St → List Clo} {sp : List Clo → Sp} {t : TA} (h : t σ H fun vs H1 => sp (Cs σ) vs H1 Q E0) : tCallC Cs sp t σ H Q := h
theorem r_lamH {T : List (Addr × Str)} {mk : Addr → NF} {e : Expr} (hT : Tabs T H) (h : ∀ (f c' : Addr) (H1 : Hp), ExtN H H1 → Tabs T H1 → H f = none → H1 f = some (LamO f (mk c') e) → H1 (mk c').c = some (CodeO (mk c').c (mk c').qual) → Q (.ref f) H1) : tLamH T mk e σ H Q := ⟨hT, h⟩
theorem r_lamD {T : List (Addr × Str)} {mk : Addr → NF} {e : Expr} (hT : Tabs T H) (h : ∀ (f c' : Addr) (H1 : Hp), ExD H H1 → Tabs T H1 → H f = none → H1 f = some (LamO f (mk c') e) → H1 (mk c').c = some (CodeO (mk c').c (mk c').qual) → Q (.ref f) H1) : tLamD T mk e σ H Q := ⟨hT, h⟩
end
end G
set_option Elab.async false
set_option linter.all false
set_option maxRecDepth 100000
set_option maxHeartbeats 4000000
namespace G
open PySem PySem.Spec PyProof.Rows L2
/-! ### own errors -/
abbrev veB : List Value := [.type "ValueError", .type "Exception", .type "BaseException", .type "object"]
/-- what is known of an own error class, under ValueError or another own one -/
structure OwnE (K : PySem.W.Frag) (mg : Str → Option Value) (x : Str) (C : Addr) : Prop where
  g : mg x = some (.ref C)
  x : PySem.W.excIn K C veB "ValueError.__new__" = true
  k : PySem.W.keepIn K (.ref C) = true
  s : PySem.W.subIn K (.ref C) (.type "BaseException") = some true
  t : PySem.W.typeIn K (.ref C) = some (.type "type")
  e : ExcC K C
def excCB (K : PySem.W.Frag) (D : Addr) : Bool :=
  decide (PySem.W.findIn K (.ref D) "__getattribute__" = some (some (.builtin "BaseException.__getattribute__"))) && (decide (PySem.W.findIn K (.ref D) "__getattr__" = some none) && (decide (PySem.W.subIn K (.ref D) (.type "BaseException") = some true) && (PySem.W.hasDictIn K D &&
  (decide (PySem.W.findIn K (.ref D) "__class__" = some (some (.builtin "object.__class__"))) && (decide (PySem.W.specialIn K (.builtin "object.__class__") "__get__" = some (some (.builtin "getset_descriptor.__get__"))) && (decide (PySem.W.takesIn K (.builtin "object.__class__") = some true) && decide (PySem.W.mroIn K D (.type "object") = some true)))))))
theorem excCB_ok {K : PySem.W.Frag} {D : Addr} (h : excCB K D = true) : ExcC K D := by
  unfold excCB at h
  simp only [Bool.and_eq_true, decide_eq_true_eq] at h
  obtain ⟨a1, a2, a3, a4, a5, a6, a7, a8⟩ := h
  exact ⟨a1, a2, a3, a4, a5, a6, a7, a8⟩
/-- raise C(e) -/
def tRaise1 (C : Addr) (W : WX) (ta : TE) : TS := fun _ σ H => ta σ H fun _ H1 => W (.ref C) none σ H1
section
variable {X : Cx}
theorem ps_raise1 {K : PySem.W.Frag} {mg : Str → Option Value} {C : Addr} {x : Str} {e : Expr} {ta : TE} {W : WX} {p pos pos2 : Pos} (O : OwnE K mg x C) (hK : X.K = K) (hmg : X.mg = mg) (hc : X.calm = true) (tk : Takes X W) (hg : Gl X x) (he : PE X e ta)
    (hs : starEach [e] X.env = (false, eval e X.env) :: starEach [] X.env := by rfl) (hdb : (x == ("__debug__" : Str)) = false := by decide) :
    PS X (.Raise (some (.Call (.Name x p) [e] [] pos)) none pos2) (tRaise1 C W ta) := by
  subst hK hmg
  exact ps_raise hc tk (SkE.pmk_own1 PySem.F.excBase_ValueError O.x O.g O.k (raises_own O.s O.t) hg he hs hdb)
theorem r_raise1 {C : Addr} {W : WX} {ta : TE} {D : Ends} {σ : L2.St} {H : Hp} (h : ta σ H fun _ H1 => W (.ref C) none σ H1) : tRaise1 C W ta D σ H := h
theorem r_callS {sp : Sp} {E : L2.St → XK} {t : TA} {σ : L2.St} {H : Hp} {Q : VK} (h : t σ H fun vs H1 => sp vs H1 Q (E σ)) : tCallS sp E t σ H Q := h
/-- isinstance(e, c), e the error that the suite holds -/
def rIsEx (K : PySem.W.Frag) (a : Addr) (cls : Value) (d : Option Addr) : List V → Hp → VK → Prop := fun xs H Q => ∃ D, cls = .ref D ∧ d = none ∧ ExcC K D ∧ rIsE K D a xs H Q
theorem call_isEx {a : Addr} {oe : Obj} {cls : Value} {d : Option Addr} {pn : List (Addr × Obj)} (hz : Zc cls d oe) (hf : ∃ vs, oe.data = .fields vs) : CallR (X.suite a ((a, oe) :: pn)) (.builtin "isinstance") (rIsEx X.K a cls d) := by
  intro pins s σ H xs us Q I r h
  obtain ⟨D, rfl, rfl, hE, q⟩ := h
  exact call_isE hE hz hf pins s σ H xs us Q I r q
theorem r_isEx {K : PySem.W.Frag} {a D : Addr} {c : V} {cv : Value} {b : Bool} {H : Hp} {Q : VK} (hE : ExcC K D) (hc : ∀ u, RelV c u → u = cv) (k : PySem.W.kitOne K (.ref D) cv = some b) (q : Q (.bl b) H) : rIsEx K a (.ref D) none [.ref a, c] H Q :=
  ⟨D, rfl, rfl, hE, c, cv, b, rfl, hc, k, q⟩
/-- try: .. except C as n: .. -/
def tTryAs (K : PySem.W.Frag) (c : Value) (i : Nat) (tb : WX → TS) (ts : Addr → Value → Option Addr → TS) (Wout : WX) : TS := fun D σ H => tb (wAs K c i ts Wout D) D σ H
theorem r_tryAs {K : PySem.W.Frag} {c : Value} {i : Nat} {tb : WX → TS} {ts : Addr → Value → Option Addr → TS} {Wout : WX} {D : Ends} {σ : L2.St} {H : Hp} (h : tb (wAs K c i ts Wout D) D σ H) : tTryAs K c i tb ts Wout D σ H := h
theorem ps_tryAs {x n : Str} {c : Value} {i : Nat} {body suite : List Stmt} {b₀ : Stmt} {np pos pos' : Pos} {tb : WX → TS} {ts : Addr → Value → Option Addr → TS} {Wout : WX} (hs : X.stack = X.env :: X.outer) (hf : X.env.frame = some X.env.locals) (hN : X.N.Nodup) (hi : X.N[i]? = some n) (hln : X.env.kindOf n = some .local) (hc : Names X x c) (tk : Takes X Wout)
    (hb : ∀ (W : WX) (pn : List (Addr × Obj)) (xe : Value → Shared → Prop), Takes (X.tr pn xe) W → PassesOwn (model X.prog X.w) X.A X.env xe → PSs (X.tr pn xe) body (tb W))
    (hsu : ∀ (a : Addr) (oe : Obj) (cls : Value) (d : Option Addr) (pn : List (Addr × Obj)), Zc cls d oe → (∃ vs, oe.data = .fields vs) → PSs (X.suite a ((a, oe) :: pn)) (b₀ :: suite) (ts a cls d)) :
    PS X (.Try body [.ExceptHandler (some (.Name x np)) (some n) (b₀ :: suite) pos'] [] [] pos) (tTryAs X.K c i tb ts Wout) := ps_try_as hs hf hN hi hln hc tk hb hsu
end
/-! ### f-strings whose text nobody asks for -/
section
variable {σ : L2.St} {H : Hp}
def Part (σ : L2.St) (H : Hp) (t : TE) : Prop := ∀ Q : VK, (∀ y : Str, y.length ≤ 2000 → Q (.str y) H) → t σ H Q
theorem part_c {z : Str} (h : z.length ≤ 2000) : Part σ H (tC (.str z)) := fun _ q => r_c (q z h)
theorem part_i {te : TE} {i : Int} (hi : i.natAbs.log2 < 1920) (h : ∀ Q : VK, Q (.int i) H → te σ H Q) : Part σ H (tFmt te) := fun Q q =>
  h (fun x H1 => (∃ y, x = .str y ∧ y.length ≤ sizeLine ∧ Q (.str y) H1) ∨ ∃ i, x = .int i ∧ i.natAbs.log2 < 1920 ∧ Q (.str (Str.ofString (toString i))) H1)
    (.inr ⟨i, rfl, hi, q _ (Nat.le_trans (PyProof.Rows.int_text_len_1921 hi) (by decide))⟩)
theorem js_ok {R : Str → Hp → Prop} : ∀ (ts : List TE) (acc : Str), (∀ t ∈ ts, Part σ H t) → acc.length + 2000 * ts.length ≤ 100000 → (∀ out, R out H) → tJs ts acc σ H R
  | [], acc, _, _, r => r acc
  | t :: ts, acc, hp, hl, r => by
    refine hp t List.mem_cons_self _ fun y hy => ?_
    have e : (acc ++ y).length = acc.length + y.length := by
      show (acc.cps ++ y.cps).size = acc.cps.size + y.cps.size
      exact Array.size_append
    rw [List.length_cons] at hl
    have zl : (sizeLine : Nat) = 16777216 := by decide
    exact ⟨y, rfl, by rw [e]; omega, js_ok ts _ (fun t ht => hp t (List.mem_cons_of_mem _ ht)) (by rw [e]; omega) r⟩
end
theorem log_lt {i : Int} (h : i.natAbs < 1000000) : i.natAbs.log2 < 1920 := by
  rcases Nat.eq_zero_or_pos i.natAbs with e | e
  · rw [e]; decide
  · have e2 : i.natAbs.log2 < 20 := (Nat.log2_lt (by omega)).mpr (Nat.lt_of_lt_of_le h (by decide))
    omega
/-! ### enumerate of a list -/
theorem for_enL {K : PySem.W.Frag} {a : Addr} {xs : List V} {g : TG} {tb : TS} {D : Ends} {σ : L2.St} {H : Hp} (Pv : Nat → L2.St → Hp → Prop) (h0 : Pv 0 σ H) (hl : ∀ i σ H, i ≤ xs.length → Pv i σ H → SqL K H a xs)
    (hs : ∀ i x σ H T, xs[i]? = some x → Pv i σ H → H T = none → g (.ref T) σ (upd H T (.tup [.int (i : Nat), x])) fun σ2 H2 => tb { D with nx := Pv (i + 1), ct := Pv (i + 1), bk := D.nx } σ2 H2) (hd : ∀ σ H, Pv xs.length σ H → D.nx σ H) :
    ∃ W : Nat → Nat → L2.St → Hp → Prop, (∃ m, W 0 m σ H) ∧ ∀ i m σ H, W i m σ H → ((Ite K a).stop i H ∧ D.nx σ H) ∨
      ((Ite K a).go i H ∧ ∃ N : L2.St → Hp → Prop, (∀ σ' H', N σ' H' → ∃ m', m' < m ∧ W (i + 1) m' σ' H') ∧ ∀ x H', (Ite K a).yld i H x H' → g x σ H' fun σ2 H2 => tb { D with nx := N, ct := N, bk := D.nx } σ2 H2) := by
  refine ⟨fun i m σ H => m + i = xs.length ∧ Pv i σ H, ⟨xs.length, rfl, h0⟩, ?_⟩
  rintro i m σ H ⟨hm, p⟩
  have q := hl i σ H (by omega) p
  by_cases hlt : i < xs.length
  · refine .inr ⟨⟨xs, xs[i], q, List.getElem?_eq_getElem hlt⟩, Pv (i + 1), fun σ' H' p' => ⟨m - 1, by omega, by omega, p'⟩, ?_⟩
    rintro v H' ⟨T, x, rfl, hT, rfl, hx⟩
    exact hs i x σ H T (hx xs q) p hT
  · have e : i = xs.length := by omega
    subst e
    exact .inl ⟨⟨xs, q, Nat.le_refl _⟩, hd σ H p⟩
theorem pi_enumK {X : Cx} {K : PySem.W.Frag} {e : Expr} {ta : TA} {p pos tpos : Pos} {elts : List Expr} {kk : Nat} (hK : X.K = K) (hg : Gl X "enumerate") (hm : X.mg "enumerate" = none) (ha : PA X [e] ta) (hs : starEach [e] X.env = [(false, eval e X.env)] := by rfl) :
    PI X (.Tuple elts kk tpos) (.Call (.Name "enumerate" p) [e] [] pos) (iEnum K ta) := hK ▸ pi_enum hg hm ha hs
theorem r_iEnum {K : PySem.W.Frag} {ta : TA} {σ : L2.St} {H : Hp} {R : It → Hp → Prop} (h : ta σ H fun vs H1 => ∃ a xs, vs = [.ref a] ∧ SqL K H1 a xs ∧ R (Ite K a) H1) : iEnum K ta σ H R := h
/-! ### lists of lists of ints -/
def refsI (ps : List (Addr × List Int)) : List V := ps.map fun p => V.ref p.1
theorem refsI_len (ps : List (Addr × List Int)) : (refsI ps).length = ps.length := List.length_map _
theorem refsI_at {ps : List (Addr × List Int)} {i : Nat} {x : V} (h : (refsI ps)[i]? = some x) : ∃ p, ps[i]? = some p ∧ V.ref p.1 = x := by
  unfold refsI at h
  rw [List.getElem?_map] at h
  exact Option.map_eq_some_iff.mp h
theorem at_refsI {ps : List (Addr × List Int)} {z : Int} {i : Nat} {p : Addr × List Int} (e : z = (i : Int)) (h : ps[i]? = some p) : atI (refsI ps) z = some (.ref p.1) := by
  refine at_of e ?_
  unfold refsI
  rw [List.getElem?_map, h]
  rfl
theorem ints_at {xs : List Int} {i : Nat} {x : V} (h : (xs.map V.int)[i]? = some x) : ∃ z, xs[i]? = some z ∧ V.int z = x := by
  rw [List.getElem?_map] at h
  exact Option.map_eq_some_iff.mp h
/-! ### the world named -/
theorem cr_setLw {X : Cx} {K : PySem.W.Frag} {w : World} (hK : X.K = K) (hw : X.w = w) (hc : X.calm = true) : CallR X (.type "set") (_root_.G.rSetL K w) := hw ▸ cr_setL hK hc
theorem cr_sortedSetW {X : Cx} {w : World} (hw : X.w = w) (hc : X.calm = true) : CallR X (.builtin "sorted") (rSortedSet w) := hw ▸ cr_sortedSet hc
end G
set_option Elab.async false
set_option linter.all false
set_option maxRecDepth 100000
set_option maxHeartbeats 4000000
namespace G
open PySem PySem.Spec PyProof.Rows L2
section
variable {X : Cx} {H : Hp} {Q : VK}
def rLcm : List V → Hp → VK → Prop := fun xs H Q => ∃ a b : Nat, xs = [.int (a : Int), .int (b : Int)] ∧ a < 2 ^ 64 ∧ b < 2 ^ 64 ∧ Q (.int ((Nat.lcm a b : Nat) : Int)) H
theorem call_lcm : CallR X (.builtin "math.lcm") rLcm := by
  intro pins s σ H vs us Q I r h
  obtain ⟨a, b, rfl, ha, hb, q⟩ := h
  obtain ⟨t, u, rfl⟩ := Vals.int2 r
  exact PySem.W.mc_lcm (by rw [Int.natAbs_natCast]; exact ha) (by rw [Int.natAbs_natCast]; exact hb) fun _ => ⟨.int _, H, I.tok _, ⟨_, rfl⟩, q⟩
end
/-! ### permutations -/
structure Perm (n : Nat) (p : List Nat) : Prop where
  len : p.length = n
  lt : ∀ x ∈ p, x < n
  nd : p.Nodup
def at0 (p : List Nat) (i : Nat) : Nat := p.getD i 0
def thenN (p q : List Nat) : List Nat := p.map (at0 q)
def idN (n : Nat) : List Nat := List.range n
def itr (p : List Nat) : Nat → Nat → Nat
  | 0, i => i
  | k + 1, i => at0 p (itr p k i)
def pw (p : List Nat) : Nat → List Nat
  | 0 => idN p.length
  | k + 1 => thenN (pw p k) p
theorem at0_some {p : List Nat} {i : Nat} (h : i < p.length) : p[i]? = some (at0 p i) := by
  unfold at0
  rw [List.getD_eq_getElem?_getD, List.getElem?_eq_getElem h]; rfl
theorem Perm.at_lt {n i : Nat} {p : List Nat} (h : Perm n p) (hi : i < n) : at0 p i < n := h.lt _ (List.mem_of_getElem? (at0_some (by rw [h.len]; exact hi)))
theorem Perm.inj {n i j : Nat} {p : List Nat} (h : Perm n p) (hi : i < n) (hj : j < n) (e : at0 p i = at0 p j) : i = j := by
  have h1 := at0_some (p := p) (i := i) (by rw [h.len]; exact hi)
  have h2 := at0_some (p := p) (i := j) (by rw [h.len]; exact hj)
  rw [e] at h1
  exact nd_ix h.nd h1 h2
theorem Perm.itr_lt {n : Nat} {p : List Nat} (h : Perm n p) : ∀ k i, i < n → itr p k i < n
  | 0, _, hi => hi
  | k + 1, i, hi => h.at_lt (Perm.itr_lt h k i hi)
theorem itr_add (p : List Nat) (a : Nat) : ∀ b i, itr p (a + b) i = itr p b (itr p a i)
  | 0, _ => rfl
  | b + 1, i => by
    show at0 p (itr p (a + b) i) = at0 p (itr p b (itr p a i))
    rw [itr_add p a b i]
theorem Perm.itr_inj {n : Nat} {p : List Nat} (h : Perm n p) : ∀ k i j, i < n → j < n → itr p k i = itr p k j → i = j
  | 0, _, _, _, _, e => e
  | k + 1, i, j, hi, hj, e => Perm.itr_inj h k i j hi hj (h.inj (h.itr_lt k i hi) (h.itr_lt k j hj) e)
theorem pw_len (p : List Nat) : ∀ k, (pw p k).length = p.length
  | 0 => List.length_range
  | k + 1 => by
    show ((pw p k).map (at0 p)).length = _
    rw [List.length_map, pw_len p k]
theorem pw_at (p : List Nat) {i : Nat} (hi : i < p.length) : ∀ k, (pw p k)[i]? = some (itr p k i)
  | 0 => List.getElem?_range hi
  | k + 1 => by
    show ((pw p k).map (at0 p))[i]? = _
    rw [List.getElem?_map, pw_at p hi k]
    rfl
theorem pw_id (p : List Nat) (k : Nat) : pw p k = idN p.length ↔ ∀ i, i < p.length → itr p k i = i := by
  constructor
  · intro e i hi
    have h1 := pw_at p hi k
    rw [e] at h1
    have h2 : (idN p.length)[i]? = some i := List.getElem?_range hi
    rw [h1] at h2
    exact Option.some.inj h2
  · intro hall
    apply List.ext_getElem?
    intro i
    by_cases hi : i < p.length
    · rw [pw_at p hi k, hall i hi]
      exact (List.getElem?_range hi).symm
    · rw [List.getElem?_eq_none (by rw [pw_len]; omega), List.getElem?_eq_none (by unfold idN; rw [List.length_range]; omega)]
theorem pw_one {n : Nat} {p : List Nat} (h : Perm n p) : pw p 1 = p := by
  apply List.ext_getElem?
  intro i
  by_cases hi : i < p.length
  · rw [pw_at p hi 1, at0_some hi]
    rfl
  · rw [List.getElem?_eq_none (by rw [pw_len]; omega), List.getElem?_eq_none (by omega)]
/-- how long it takes place i to come back -/
def IsCyc (p : List Nat) (i L : Nat) : Prop := 1 ≤ L ∧ itr p L i = i ∧ ∀ k, 1 ≤ k → k < L → itr p k i ≠ i
theorem nodup_le : ∀ {ks ns : List Nat}, ks.Nodup → (∀ k ∈ ks, k ∈ ns) → ks.length ≤ ns.length
  | [], _, _, _ => Nat.zero_le _
  | k :: ks, ns, nd, h => by
    have hk : k ∈ ns := h k List.mem_cons_self
    have nd' := List.nodup_cons.mp nd
    have hs : ∀ x ∈ ks, x ∈ ns.erase k := fun x hx => by
      have hne : x ≠ k := fun e => nd'.1 (e ▸ hx)
      exact (List.mem_erase_of_ne hne).mpr (h x (List.mem_cons_of_mem _ hx))
    have ih := nodup_le nd'.2 hs
    rw [List.length_erase_of_mem hk] at ih
    have := List.length_pos_of_mem hk
    rw [List.length_cons]
    omega
theorem least_of {P : Nat → Prop} : ∀ n, (∃ k, 1 ≤ k ∧ k ≤ n ∧ P k) → ∃ L, 1 ≤ L ∧ L ≤ n ∧ P L ∧ ∀ k, 1 ≤ k → k < L → ¬ P k
  | 0, ⟨k, h1, h2, _⟩ => absurd h1 (by omega)
  | n + 1, ⟨k, h1, h2, hp⟩ => by
    by_cases hn : ∃ k, 1 ≤ k ∧ k ≤ n ∧ P k
    · obtain ⟨L, a, b, c, d⟩ := least_of n hn
      exact ⟨L, a, by omega, c, d⟩
    · have e : k = n + 1 := by
        by_cases hk : k ≤ n
        · exact absurd ⟨k, h1, hk, hp⟩ hn
        · omega
      subst e
      exact ⟨n + 1, h1, Nat.le_refl _, hp, fun j j1 j2 pj => hn ⟨j, j1, by omega, pj⟩⟩
theorem Perm.cyc {n i : Nat} {p : List Nat} (h : Perm n p) (hi : i < n) : ∃ L, L ≤ n ∧ IsCyc p i L := by
  have hex : ∃ k, 1 ≤ k ∧ k ≤ n ∧ itr p k i = i := by
    by_cases hh : ∃ k, 1 ≤ k ∧ k ≤ n ∧ itr p k i = i
    · exact hh
    · exfalso
      have nd : ((List.range (n + 1)).map fun k => itr p k i).Nodup := by
        refine List.pairwise_iff_getElem.mpr fun a b ha hb hab e => ?_
        rw [List.length_map, List.length_range] at ha hb
        rw [List.getElem_map, List.getElem_map, List.getElem_range, List.getElem_range] at e
        have e2 : itr p b i = itr p a (itr p (b - a) i) := by rw [← itr_add]; congr 1; omega
        rw [e2] at e
        exact hh ⟨b - a, by omega, by omega, (h.itr_inj a _ _ hi (h.itr_lt _ _ hi) e).symm⟩
      have := nodup_le (ns := List.range n) nd (fun k hk => by
        obtain ⟨j, _, rfl⟩ := List.mem_map.mp hk
        exact List.mem_range.mpr (h.itr_lt _ _ hi))
      rw [List.length_map, List.length_range, List.length_range] at this
      omega
  obtain ⟨L, a, b, c, d⟩ := least_of n hex
  exact ⟨L, b, a, c, d⟩
theorem cyc_mul {p : List Nat} {i L : Nat} (h : itr p L i = i) : ∀ m, itr p (L * m) i = i
  | 0 => rfl
  | m + 1 => by rw [Nat.mul_succ, Nat.add_comm, itr_add, h, cyc_mul h m]
theorem IsCyc.dvd {p : List Nat} {i L k : Nat} (h : IsCyc p i L) : itr p k i = i ↔ L ∣ k := by
  constructor
  · intro e
    have hm : itr p (k % L) i = i := by
      have e2 : itr p k i = itr p (k % L) (itr p (L * (k / L)) i) := by rw [← itr_add, Nat.div_add_mod]
      rw [cyc_mul h.2.1] at e2
      rw [← e2, e]
    by_cases hz : k % L = 0
    · exact Nat.dvd_of_mod_eq_zero hz
    · exact absurd hm (h.2.2 _ (by omega) (Nat.mod_lt _ h.1))
  · rintro ⟨m, rfl⟩
    exact cyc_mul h.2.1 m
/-! lcm of a list -/
def lcmL (l : List Nat) : Nat := l.foldl Nat.lcm 1
theorem foldl_lcm_dvd : ∀ (l : List Nat) (a k : Nat), l.foldl Nat.lcm a ∣ k ↔ a ∣ k ∧ ∀ x ∈ l, x ∣ k
  | [], a, k => by simp
  | x :: l, a, k => by
    rw [List.foldl_cons, foldl_lcm_dvd l (Nat.lcm a x) k]
    constructor
    · rintro ⟨h1, h2⟩
      refine ⟨Nat.dvd_trans (Nat.dvd_lcm_left a x) h1, fun y hy => ?_⟩
      rcases List.mem_cons.mp hy with rfl | hy
      · exact Nat.dvd_trans (Nat.dvd_lcm_right a y) h1
      · exact h2 y hy
    · rintro ⟨h1, h2⟩
      exact ⟨Nat.lcm_dvd h1 (h2 x List.mem_cons_self), fun y hy => h2 y (List.mem_cons_of_mem _ hy)⟩
theorem lcmL_dvd (l : List Nat) (k : Nat) : lcmL l ∣ k ↔ ∀ x ∈ l, x ∣ k := by
  unfold lcmL
  rw [foldl_lcm_dvd]
  exact ⟨fun h => h.2, fun h => ⟨Nat.one_dvd k, h⟩⟩
theorem lcmL_pos : ∀ {l : List Nat}, (∀ x ∈ l, 1 ≤ x) → 1 ≤ lcmL l := by
  have gen : ∀ (l : List Nat) (a : Nat), 1 ≤ a → (∀ x ∈ l, 1 ≤ x) → 1 ≤ l.foldl Nat.lcm a := by
    intro l
    induction l with
    | nil => intro a ha _; exact ha
    | cons x l ih =>
      intro a ha h
      rw [List.foldl_cons]
      exact ih _ (Nat.lcm_pos ha (h x List.mem_cons_self)) fun y hy => h y (List.mem_cons_of_mem _ hy)
  intro l h
  exact gen l 1 (Nat.le_refl _) h
/-! at most 20 for nine places: distinct lengths take different places -/
theorem count_sum : ∀ (l S : List Nat), S.Nodup → (S.map fun x => l.count x).sum ≤ l.length
  | [], S, nd => by
    have : (S.map fun x => ([] : List Nat).count x).sum = 0 := by
      clear nd
      induction S with
      | nil => rfl
      | cons s S ih =>
        rw [List.map_cons, List.sum_cons, ih]
        rfl
    rw [this]; exact Nat.zero_le _
  | y :: l, S, nd => by
    have ih := count_sum l S nd
    have h1 : ∀ S : List Nat, S.Nodup → (S.map fun x => (y :: l).count x).sum ≤ (S.map fun x => l.count x).sum + (if y ∈ S then 1 else 0) := by
      intro S
      induction S with
      | nil => intro _; simp
      | cons s S ihs =>
        intro nd
        have nd' := List.nodup_cons.mp nd
        have := ihs nd'.2
        rw [List.map_cons, List.sum_cons, List.map_cons, List.sum_cons, List.count_cons]
        by_cases e : y = s
        · subst e
          rw [if_neg nd'.1] at this
          rw [if_pos List.mem_cons_self]
          simp only [beq_self_eq_true, if_true]
          omega
        · have e2 : (y == s) = false := by simpa using e
          rw [e2]
          have e3 : (y ∈ s :: S) ↔ y ∈ S := by simp [e]
          simp only [e3, Bool.false_eq_true, if_false]
          omega
    have h2 := h1 S nd
    rw [List.length_cons]
    by_cases hy : y ∈ S
    · rw [if_pos hy] at h2; omega
    · rw [if_neg hy] at h2; omega
theorem small_lcm (q : Nat → Bool) (h0 : q 0 = false) (h : ((List.range 10).filter q).sum ≤ 9) : lcmL ((List.range 10).filter q) ≤ 99 := by
  have e : List.range 10 = [0, 1, 2, 3, 4, 5, 6, 7, 8, 9] := by decide
  rw [e] at h ⊢
  simp only [List.filter_cons, List.filter_nil, h0] at h ⊢
  generalize q 1 = b1 at h ⊢
  generalize q 2 = b2 at h ⊢
  generalize q 3 = b3 at h ⊢
  generalize q 4 = b4 at h ⊢
  generalize q 5 = b5 at h ⊢
  generalize q 6 = b6 at h ⊢
  generalize q 7 = b7 at h ⊢
  generalize q 8 = b8 at h ⊢
  generalize q 9 = b9 at h ⊢
  revert b1 b2 b3 b4 b5 b6 b7 b8 b9
  decide +kernel
theorem Perm.order_small {n : Nat} {p Ls : List Nat} (h : Perm n p) (hn : n ≤ 9) (hl : Ls.length = n) (hc : ∀ i, i < n → IsCyc p i (at0 Ls i)) : lcmL Ls ≤ 99 := by
  have mem : ∀ x ∈ Ls, ∃ i, i < n ∧ at0 Ls i = x := fun x hx => by
    obtain ⟨i, hi⟩ := List.mem_iff_getElem?.mp hx
    have hil := (List.getElem?_eq_some_iff.mp hi).1
    rw [at0_some hil] at hi
    exact ⟨i, by omega, Option.some.inj hi⟩
  -- the places on the way of i have its length
  have cnt : ∀ x ∈ Ls, x ≤ Ls.count x := fun x hx => by
    obtain ⟨i, hi, ex⟩ := mem x hx
    have hci := hc i hi
    rw [ex] at hci
    have same : ∀ k, at0 Ls (itr p k i) = x := fun k => by
      have hj := h.itr_lt k i hi
      have hcj := hc _ hj
      have d1 : at0 Ls (itr p k i) ∣ x := by
        rw [← hcj.dvd, ← itr_add, Nat.add_comm, itr_add, hci.2.1]
      have d2 : x ∣ at0 Ls (itr p k i) := by
        rw [← hci.dvd]
        refine h.itr_inj k _ _ (h.itr_lt _ _ hi) hi ?_
        rw [← itr_add, Nat.add_comm, itr_add]
        exact hcj.2.1
      exact Nat.dvd_antisymm d1 d2
    have nd : ((List.range x).map fun k => itr p k i).Nodup := by
      refine List.pairwise_iff_getElem.mpr fun a b ha hb hab e => ?_
      rw [List.length_map, List.length_range] at ha hb
      rw [List.getElem_map, List.getElem_map, List.getElem_range, List.getElem_range] at e
      have e2 : itr p b i = itr p a (itr p (b - a) i) := by rw [← itr_add]; congr 1; omega
      rw [e2] at e
      exact hci.2.2 (b - a) (by omega) (by omega) (h.itr_inj a _ _ hi (h.itr_lt _ _ hi) e).symm
    have hle := nodup_le (ns := (List.range n).filter fun j => at0 Ls j == x) nd (fun j hj => by
      obtain ⟨k, _, rfl⟩ := List.mem_map.mp hj
      refine List.mem_filter.mpr ⟨List.mem_range.mpr (h.itr_lt k i hi), ?_⟩
      rw [same k]; exact beq_self_eq_true _)
    rw [List.length_map, List.length_range] at hle
    have eL : Ls = (List.range n).map (at0 Ls) := by
      apply List.ext_getElem?
      intro j
      by_cases hj : j < n
      · rw [at0_some (by omega), List.getElem?_map, List.getElem?_range hj]; rfl
      · rw [List.getElem?_eq_none (by omega), List.getElem?_eq_none (by rw [List.length_map, List.length_range]; omega)]
    have e3 : Ls.count x = ((List.range n).filter fun j => at0 Ls j == x).length := by
      rw [List.count_eq_countP]
      conv => lhs; rw [eL]
      rw [List.countP_map, List.countP_eq_length_filter]
      rfl
    omega
  have pos : ∀ x ∈ Ls, 1 ≤ x := fun x hx => by
    obtain ⟨i, hi, ex⟩ := mem x hx
    rw [← ex]; exact (hc i hi).1
  have bnd : ∀ x ∈ Ls, x ≤ 9 := fun x hx => by
    have := cnt x hx
    have := List.count_le_length (a := x) (l := Ls)
    omega
  have ndS : ((List.range 10).filter fun x => decide (x ∈ Ls)).Nodup := (List.nodup_range.sublist List.filter_sublist)
  have s1 := count_sum Ls _ ndS
  have s2 : ((List.range 10).filter fun x => decide (x ∈ Ls)).sum ≤ (((List.range 10).filter fun x => decide (x ∈ Ls)).map fun x => Ls.count x).sum := by
    have gen : ∀ S : List Nat, (∀ x ∈ S, x ≤ Ls.count x) → S.sum ≤ (S.map fun x => Ls.count x).sum := by
      intro S
      induction S with
      | nil => intro _; exact Nat.le_refl _
      | cons s S ih =>
        intro hS
        rw [List.map_cons, List.sum_cons, List.sum_cons]
        have := hS s List.mem_cons_self
        have := ih fun x hx => hS x (List.mem_cons_of_mem _ hx)
        omega
    exact gen _ fun x hx => cnt x (of_decide_eq_true (List.mem_filter.mp hx).2)
  have h3 := small_lcm (fun x => decide (x ∈ Ls)) (decide_eq_false fun h0 => absurd (pos 0 h0) (by omega)) (by omega)
  refine Nat.le_trans (Nat.le_of_dvd ?_ ?_) h3
  · exact lcmL_pos fun x hx => pos x (of_decide_eq_true (List.mem_filter.mp hx).2)
  · rw [lcmL_dvd]
    intro x hx
    have hm : x ∈ (List.range 10).filter fun x => decide (x ∈ Ls) := List.mem_filter.mpr ⟨List.mem_range.mpr (by have := bnd x hx; omega), decide_eq_true hx⟩
    exact (lcmL_dvd _ _).mp (Nat.dvd_refl _) x hm
/-- the order: the least power that leads each place to itself -/
theorem Perm.order {n : Nat} {p Ls : List Nat} (h : Perm n p) (hl : Ls.length = n) (hc : ∀ i, i < n → IsCyc p i (at0 Ls i)) : 1 ≤ lcmL Ls ∧ pw p (lcmL Ls) = idN n ∧ ∀ k, 1 ≤ k → k < lcmL Ls → pw p k ≠ idN n := by
  have key : ∀ k, pw p k = idN n ↔ lcmL Ls ∣ k := fun k => by
    have e : idN n = idN p.length := by rw [h.len]
    rw [e, pw_id, lcmL_dvd, h.len]
    constructor
    · intro hall x hx
      obtain ⟨i, hi⟩ := List.mem_iff_getElem?.mp hx
      have hil := (List.getElem?_eq_some_iff.mp hi).1
      rw [at0_some hil] at hi
      rw [← Option.some.inj hi]
      exact (hc i (by omega)).dvd.mp (hall i (by omega))
    · intro hall i hi
      exact (hc i hi).dvd.mpr (hall _ (List.mem_of_getElem? (at0_some (by omega))))
  have pos : ∀ x ∈ Ls, 1 ≤ x := fun x hx => by
    obtain ⟨i, hi⟩ := List.mem_iff_getElem?.mp hx
    have hil := (List.getElem?_eq_some_iff.mp hi).1
    rw [at0_some hil] at hi
    rw [← Option.some.inj hi]
    exact (hc i (by omega)).1
  refine ⟨lcmL_pos pos, (key _).mpr (Nat.dvd_refl _), fun k h1 h2 e => ?_⟩
  have := Nat.le_of_dvd (by omega) ((key k).mp e)
  omega
end G
set_option Elab.async false
set_option linter.all false
set_option maxRecDepth 100000
set_option maxHeartbeats 4000000
namespace G
open PySem PySem.Spec PyProof.Rows L2
section
variable {X : Cx} {K : PySem.W.Frag} {H : Hp} {Q : VK}
def rIdxT (K : PySem.W.Frag) : V → List V → Hp → VK → Prop := fun x xs H Q => ∃ (p : Addr) (g : List Int) (k : Int), x = .ref p ∧ xs = [.int k] ∧ SqT K H p (g.map V.int) ∧ k ∈ g ∧ Q (.int (g.idxOf k : Nat)) H
theorem mt_indexT (hK : X.K = K) : MtR X "tuple.index" (rIdxT K) := by
  subst hK
  intro pins s σ H x xs v us Q I rx rs h
  obtain ⟨p, g, k, rfl, rfl, hq, hk, q⟩ := h
  cases rx
  obtain ⟨u, rfl, t, rfl⟩ := vals1 rs
  obtain ⟨its, r, ⟨⟨cls, dd, dt, sl⟩, ho, hc, n, hd⟩, hz⟩ := I.tuple hq
  obtain rfl : cls = .type "tuple" := hc
  obtain rfl : dt = .seq its.toArray n := hd
  have hl : its.toArray.size = g.length := by rw [List.size_toArray, ← r.length, List.length_map]
  have hj := List.idxOf_lt_length_of_mem hk
  have there : ∀ (m : Nat) (hm : m < its.toArray.size), ∃ t', its.toArray[m] = Value.int (g.getD m 0) t' := fun m hm => by
    have hm' : m < g.length := by omega
    obtain ⟨w, hw, t', hw'⟩ := r.get (i := m) (x := .int (g.getD m 0)) (by rw [List.getElem?_map, List.getD_eq_getElem?_getD, List.getElem?_eq_getElem hm']; rfl)
    refine ⟨t', ?_⟩
    have e := (List.getElem?_eq_some_iff.mp hw).2
    rw [← hw', ← e]
    simp
  have eqs : ∀ w, w ∈ its.toArray → SeqAt.EqAt X.A.in1 s w (.int k t) (eqU (.int k) w) := fun w hw =>
    mem_eqAt (x := .int k) ⟨t, rfl⟩ rfl r (flat_ints g) w (by simpa using hw)
  refine call_meets PySem.F.slot_tuple_index ⟨_, ho, rfl⟩ PySem.F.entry_tuple_index (PySem.F.args_tuple_index_2 _ _)
    (TI.tuple_indexAt p its.toArray n dd sl (.int k t) (eqU (.int k)) (g.idxOf k) (by omega) ?_ ?_) ⟨ho, eqs, ⟨.int _, H, I.tok _, ⟨_, rfl⟩, q⟩⟩
  · obtain ⟨t', h2⟩ := there (g.idxOf k) (by omega)
    rw [h2]
    show (g.getD (g.idxOf k) 0 == k) = true
    rw [List.getD_eq_getElem?_getD, List.getElem?_eq_getElem hj, List.getElem_idxOf hj]
    exact beq_self_eq_true k
  · intro m hm hmj
    obtain ⟨t', h2⟩ := there m hm
    rw [h2]
    show (g.getD m 0 == k) = false
    have hm' : m < g.length := by omega
    have := List.not_of_lt_findIdx (p := (· == k)) (xs := g) (i := m) hmj
    rw [List.getD_eq_getElem?_getD, List.getElem?_eq_getElem hm']
    simpa using this
theorem r_idxT {p : Addr} {g : List Int} {k : Int} (h : SqT K H p (g.map V.int)) (hk : k ∈ g) (q : Q (.int (g.idxOf k : Nat)) H) : rIdxT K (.ref p) [.int k] H Q := ⟨p, g, k, rfl, rfl, h, hk, q⟩
end
theorem nat_ints (r : List Nat) : r.map nD = (r.map fun n : Nat => (n : Int)).map PyData.int := by rw [List.map_map]; rfl
theorem shaped_row (r : List Nat) : SeqAt.shaped (rowD r) = true := by
  refine Bool.and_eq_true_iff.mpr ⟨?_, decide_eq_true ?_⟩
  · show PyData.canLayAll0 (r.map nD) = true
    rw [nat_ints]
    exact lay_ints _
  · show PyData.depthAll (r.map nD) + 1 ≤ 64
    rw [nat_ints, depth_ints]
    decide
theorem cast_inj {a b : List Nat} : (a.map fun n : Nat => (n : Int)) = (b.map fun n : Nat => (n : Int)) ↔ a = b := by
  constructor
  · intro h
    have h2 := congrArg (List.map Int.toNat) h
    rw [List.map_map, List.map_map] at h2
    have e : (Int.toNat ∘ fun n : Nat => (n : Int)) = id := by funext n; exact Int.toNat_natCast n
    rw [e, List.map_id, List.map_id] at h2
    exact h2
  · rintro rfl
    rfl
theorem eqv_rows (a b : List Nat) : PyData.eqv (rowD a) (rowD b) = decide (a = b) := by
  unfold rowD
  rw [PyData.eqv, nat_ints, nat_ints, eqv_ints_all]
  by_cases h : a = b
  · subst h; simp
  · rw [decide_eq_false h, decide_eq_false fun e => h (cast_inj.mp e)]
theorem fits_row {r : List Nat} (n : Nat) (h : r.length ≤ 1000) : fits (n + 2) (rowD r) := by
  have zl : (sizeLine : Nat) = 16777216 := by decide
  refine ⟨by rw [List.length_map]; omega, fun d hd => ?_⟩
  obtain ⟨k, _, rfl⟩ := List.mem_map.mp hd
  exact True.intro
section
variable {σ : L2.St} {H : Hp} {Q : VK} {te ta : TE} {K : PySem.W.Frag}
theorem r_rng2 {ta : TA} {R : It → Hp → Prop} (h : ta σ H fun vs H1 => ∃ i j : Int, vs = [.int i, .int j] ∧ (-(2 ^ 62) ≤ i ∧ i < 2 ^ 62 ∧ -(2 ^ 62) ≤ j ∧ j < 2 ^ 62) ∧ R (Itr i (j - i).toNat) H1) : iRng2 ta σ H R := h
theorem r_rng2' {i j : Int} {C : Int → Int → Prop} (h : -(2 ^ 62) ≤ i ∧ i < 2 ^ 62 ∧ -(2 ^ 62) ≤ j ∧ j < 2 ^ 62) (q : C i j) : ∃ i' j' : Int, [V.int i, V.int j] = [.int i', .int j'] ∧ (-(2 ^ 62) ≤ i' ∧ i' < 2 ^ 62 ∧ -(2 ^ 62) ≤ j' ∧ j' < 2 ^ 62) ∧ C i' j' := ⟨i, j, rfl, h, q⟩
theorem rg_nat (n : Nat) : rgV 0 (n : Int) = (List.range n).map iV := by
  unfold rgV
  rw [show ((n : Int) - 0).toNat = n by omega]
  refine List.map_congr_left fun i _ => ?_
  show V.int (0 + (i : Int)) = V.int (i : Int)
  rw [Int.zero_add]
theorem r_tupRgN {n : Nat} (h1 : n ≤ 16777216) (q : ∀ p, H p = none → Q (.ref p) (upd H p (.tup ((List.range n).map iV)))) (h : ∀ R : VK, R (iV n) H → te σ H R) : tTupRg (tRg1 te) σ H Q := by
  refine h _ ⟨(n : Int), rfl, RgOk.of_le (Int.le_refl _) (by omega) (by decide) (by omega), fun p hp => ?_⟩
  rw [rg_nat]
  exact q p hp
theorem r_lcm {a b : Nat} (ha : a < 2 ^ 64) (hb : b < 2 ^ 64) (q : Q (iV (Nat.lcm a b)) H) : rLcm [.int (a : Int), .int (b : Int)] H Q := ⟨a, b, rfl, ha, hb, q⟩
end
theorem row_of {K : PySem.W.Frag} {H : Hp} {p : Addr} {r : List Nat} (h : SqT K H p (r.map iV)) : Dt K H (.ref p) (rowD r) := .tup h (ofNats r)
theorem at_row {r : List Nat} {i : Nat} (h : i < r.length) : atI (r.map iV) (i : Int) = some (iV (at0 r i)) := at_nat rfl h
/-! ### primes -/
def isPr (e : Nat) : Prop := 2 ≤ e ∧ ∀ f, 2 ≤ f → f < e → ¬ f ∣ e
theorem least_pr : ∀ n, 2 ≤ n → ∃ e, isPr e ∧ e ∣ n := by
  intro n
  induction n using Nat.strongRecOn with
  | _ n ih =>
    intro h2
    by_cases h : ∃ f, 2 ≤ f ∧ f < n ∧ f ∣ n
    · obtain ⟨f, a, b, c⟩ := h
      obtain ⟨e, he, hd⟩ := ih f b a
      exact ⟨e, he, Nat.dvd_trans hd c⟩
    · exact ⟨n, ⟨h2, fun f a b c => h ⟨f, a, b, c⟩⟩, Nat.dvd_refl n⟩
open Classical in
noncomputable def prF (c d : Nat) : List Nat := (List.range d).filter fun e => decide (isPr e ∧ e ∣ c)
theorem prF_yes {c d : Nat} (h : isPr d ∧ d ∣ c) : prF c (d + 1) = prF c d ++ [d] := by
  classical
  unfold prF
  rw [List.range_succ, List.filter_append, List.filter_cons_of_pos (by simpa using h)]
  rfl
theorem prF_no {c d : Nat} (h : ¬ (isPr d ∧ d ∣ c)) : prF c (d + 1) = prF c d := by
  classical
  unfold prF
  rw [List.range_succ, List.filter_append, List.filter_cons_of_neg (by simpa using h), List.filter_nil, List.append_nil]
theorem prF_mem {c d e : Nat} : e ∈ prF c d ↔ e < d ∧ isPr e ∧ e ∣ c := by
  classical
  unfold prF
  rw [List.mem_filter, List.mem_range]
  simp
theorem prF_two (c : Nat) : prF c 2 = [] := by
  refine List.eq_nil_iff_forall_not_mem.mpr fun e he => ?_
  have := prF_mem.mp he
  have := this.2.1.1
  omega
theorem prF_grow {c d : Nat} (h : ∀ e, d ≤ e → isPr e → ¬ e ∣ c) : ∀ k, prF c (d + k) = prF c d
  | 0 => rfl
  | k + 1 => by
    show prF c (d + k + 1) = _
    rw [prF_no (fun z => h (d + k) (Nat.le_add_right _ _) z.1 z.2), prF_grow h k]
theorem pr_cop {e d : Nat} (he : isPr e) (hd : 1 ≤ d) (h : d < e) : Nat.Coprime e d := by
  have g1 := Nat.gcd_dvd_left e d
  have g2 := Nat.gcd_dvd_right e d
  have hle := Nat.le_of_dvd hd g2
  by_cases hg : 2 ≤ Nat.gcd e d
  · exact absurd g1 (he.2 _ hg (by omega))
  · have : 0 < Nat.gcd e d := Nat.gcd_pos_of_pos_right _ hd
    show Nat.gcd e d = 1
    omega
end G
set_option Elab.async false
set_option linter.all false
set_option maxRecDepth 100000
set_option maxHeartbeats 4000000
namespace G
open PySem PySem.Spec PyProof.Rows L2
/-! rows of numbers, sorted -/
def kk (r : List Nat) : List (Int ⊕ List Nat) := r.map fun n : Nat => Sum.inl (n : Int)
def rle (a b : List Nat) : Prop := (listOrd itemOrd).kle (kk a) (kk b)
theorem kk_inj {a b : List Nat} (h : kk a = kk b) : a = b := by
  induction a generalizing b with
  | nil => cases b with
    | nil => rfl
    | cons y b => exact nomatch h
  | cons x a ih => cases b with
    | nil => exact nomatch h
    | cons y b =>
      have h1 := List.cons.inj h
      have h2 : (x : Int) = (y : Int) := Sum.inl.inj h1.1
      rw [show x = y by omega, ih h1.2]
theorem rle_anti {a b : List Nat} (h1 : rle a b) (h2 : rle b a) : a = b := kk_inj (KeyOrd.kle_antisymm h1 h2)
theorem sort_uniq : ∀ {a b : List (List Nat)}, a.Perm b → a.Pairwise rle → b.Pairwise rle → a = b
  | [], b, h, _, _ => (List.Perm.nil_eq h)
  | x :: a, [], h, _, _ => absurd h.length_eq (by simp)
  | x :: a, y :: b, h, ha, hb => by
    have ha' := List.pairwise_cons.mp ha
    have hb' := List.pairwise_cons.mp hb
    have e : x = y := by
      have hx : x ∈ y :: b := h.mem_iff.mp List.mem_cons_self
      have hy : y ∈ x :: a := h.mem_iff.mpr List.mem_cons_self
      rcases List.mem_cons.mp hx with e | hx
      · exact e
      · rcases List.mem_cons.mp hy with e | hy
        · exact e.symm
        · exact rle_anti (ha'.1 y hy) (hb'.1 x hx)
    subst e
    rw [sort_uniq (List.Perm.cons_inv h) ha'.2 hb'.2]
theorem items_key : ∀ (r : List Nat) (its : List Value) (i : Nat), Vals (r.map iV) its → tupItems (fun _ => false) i its = some (kk r)
  | [], _, _, h => by cases h; simp [tupItems, kk]
  | n :: r, _, i, h => by
    cases h with
    | cons h1 h2 =>
      obtain ⟨t, rfl⟩ := h1
      show (if (fun _ => false) i = true then none else (tupItems (fun _ => false) (i + 1) _).map _) = _
      rw [if_neg Bool.false_ne_true, items_key r _ (i + 1) h2]
      rfl
theorem tup_key {h : Heap} {b : Addr} {r : List Nat} {its : List Value} (ht : IsTup h b its.toArray) (hv : Vals (r.map iV) its) : PyProof.Rows.G.tupKeyC h (fun _ => false) (.ref b) = some (kk r) := by
  obtain ⟨o, ho, hc, n, hd⟩ := ht
  unfold PyProof.Rows.G.tupKeyC
  have e1 : PyProof.Rows.G.isTupObj h (.ref b) = true := by
    simp only [PyProof.Rows.G.isTupObj, ho, hc]
    decide
  rw [if_pos e1]
  simp only [tupKey, ho, hd]
  exact items_key r its 0 hv
def RowAt (h : Heap) (b : Addr) (r : List Nat) : Prop := r ≠ [] ∧ ∃ its : List Value, Vals (r.map iV) its ∧ IsTup h b its.toArray
theorem tups_of {h : Heap} : ∀ (ps : List (Addr × List Nat)), (∀ p ∈ ps, RowAt h p.1 p.2) → ∃ fs, TupsOf h (fun _ => false) (ps.map fun p => Value.ref p.1) fs
  | [], _ => ⟨[], .nil⟩
  | p :: ps, hall => by
    obtain ⟨fs, hf⟩ := tups_of ps fun q hq => hall q (List.mem_cons_of_mem _ hq)
    obtain ⟨b, r⟩ := p
    obtain ⟨hne, its, hv, o, ho, hc, n, hd⟩ := hall (b, r) List.mem_cons_self
    cases r with
    | nil => exact absurd rfl hne
    | cons x r =>
      cases hv with
      | @cons _ u _ us h1 h2 =>
        obtain ⟨t, rfl⟩ := h1
        exact ⟨_ :: fs, .cons ⟨b, o, _, n, rfl, ho, hc, hd, rfl, fun _ => ⟨_, _, rfl⟩, fun e => absurd e Bool.false_ne_true⟩ hf⟩
theorem keys_of {h : Heap} {ps : List (Addr × List Nat)} (hall : ∀ p ∈ ps, RowAt h p.1 p.2) : ∀ v, v ∈ (ps.map fun p => Value.ref p.1) → ∃ l, PyProof.Rows.G.tupKeyC h (fun _ => false) v = some l := fun v hv => by
  obtain ⟨p, hp, rfl⟩ := List.mem_map.mp hv
  obtain ⟨_, its, h1, h2⟩ := hall p hp
  exact ⟨_, tup_key h2 h1⟩
theorem out_rows {h : Heap} {ps : List (Addr × List Nat)} (hall : ∀ p ∈ ps, RowAt h p.1 p.2) {xs : Array Keyed} (hp : xs.Perm (pairsOf (ps.map fun p => Value.ref p.1)))
    (hs : SortedToK (PyProof.Rows.G.tupKindC h (fun _ => false)) xs (pairsOf (ps.map fun p => Value.ref p.1)).size) :
    ∃ zs : List (Addr × List Nat), zs.Perm ps ∧ (xs.map (·.2)).toList = zs.map (fun p => Value.ref p.1) ∧ zs.Pairwise fun p q => rle p.2 q.2 := by
  have hl : xs.toList.Perm ((ps.map fun p => Value.ref p.1).zip (ps.map fun p => Value.ref p.1)) := by rw [← pairsOf_toList]; exact Array.perm_iff_toList_perm.mp hp
  have ez : ps.map (fun p => (Value.ref p.1, Value.ref p.1)) = (ps.map fun p => Value.ref p.1).zip (ps.map fun p => Value.ref p.1) := by
    rw [List.zip_map']
  obtain ⟨zs, pz, qz⟩ := perm_lift (fun p : Addr × List Nat => (Value.ref p.1, Value.ref p.1)) hl ps ez
  refine ⟨zs, pz, ?_, ?_⟩
  · rw [Array.toList_map, ← qz, List.map_map]
    rfl
  · rw [List.pairwise_iff_getElem]
    intro i j hi hj hij
    have hsz : (pairsOf (ps.map fun p => Value.ref p.1)).size = zs.length := by rw [pairsOf_size, List.length_map, pz.length_eq]
    have h1 := hs i j (Nat.le_of_lt hij) (by rw [hsz]; exact hj)
    have key : ∀ k (hk : k < zs.length), KK (PyProof.Rows.G.tupKindC h (fun _ => false)) xs k = kk zs[k].2 := by
      intro k hk
      have e : xs[k]? = some (Value.ref zs[k].1, Value.ref zs[k].1) := by
        rw [← Array.getElem?_toList, ← qz, List.getElem?_map, List.getElem?_eq_getElem hk]
        rfl
      unfold KK
      rw [e]
      obtain ⟨_, its, h2, h3⟩ := hall zs[k] (pz.mem_iff.mp (List.getElem_mem hk))
      show (PyProof.Rows.G.tupKeyC h (fun _ => false) (.ref zs[k].1)).getD [] = _
      rw [tup_key h3 h2]
      rfl
    rw [key i hi, key j hj] at h1
    exact h1
theorem RowAt.keep {h h' : Heap} {b : Addr} {r : List Nat} (x : RowAt h b r) (k : ∀ b o, h.get? b = some o → h'.get? b = some o) : RowAt h' b r := by
  obtain ⟨h1, its, h2, o, ho, h3⟩ := x
  exact ⟨h1, its, h2, o, k _ _ ho, h3⟩
def refsV (ps : List (Addr × List Nat)) : List V := ps.map fun p => V.ref p.1
def refsU (ps : List (Addr × List Nat)) : List Value := ps.map fun p => Value.ref p.1
theorem refs_eq : ∀ (ps : List (Addr × List Nat)) (its : List Value), Vals (refsV ps) its → its = refsU ps
  | [], _, h => by cases h; rfl
  | p :: ps, _, h => by
    cases h with
    | cons h1 h2 =>
      cases h1
      rw [refs_eq ps _ h2]
      rfl
theorem refs_vals : ∀ ps : List (Addr × List Nat), Vals (refsV ps) (refsU ps)
  | [] => .nil
  | _ :: ps => .cons rfl (refs_vals ps)
abbrev sortedR (zs : List (Addr × List Nat)) : Prop := zs.Pairwise fun p q => rle p.2 q.2
def rSortT (K : PySem.W.Frag) : List V → Hp → VK → Prop := fun vs H Q => ∃ (a : Addr) (ps : List (Addr × List Nat)), vs = [.ref a] ∧ SqL K H a (refsV ps) ∧ (∀ p ∈ ps, SqT K H p.1 (p.2.map iV) ∧ p.2 ≠ []) ∧
  ∀ (zs : List (Addr × List Nat)) (p : Addr), zs.Perm ps → sortedR zs → H p = none → Q (.ref p) (upd H p (.lst (refsV zs)))
section
variable {X : Cx} {K : PySem.W.Frag}
theorem cr_sortT (hK : X.K = K) : CallR X (.builtin "sorted") (rSortT K) := by
  subst hK
  rintro pins s σ H vs us Q I rs ⟨a, ps, rfl, hs, hall, key⟩
  obtain ⟨its, rv, hl, hz⟩ := I.list hs
  obtain rfl := refs_eq ps its rv
  rw [Vals.ref1 rs]
  have hrow : ∀ p ∈ ps, RowAt s.heap p.1 p.2 := fun p hp => by
    obtain ⟨js, jv, jt, _⟩ := I.tuple (hall p hp).1
    exact ⟨(hall p hp).2, js, jv, jt⟩
  obtain ⟨fs, hfs⟩ := tups_of ps hrow
  have hz2 : (refsU ps).length ≤ sizeLine := by rw [← rv.length]; exact hz
  refine PyProof.Rows.G.sorted_tups hl.isList hfs (keys_of hrow) hz2 fun st p1 p2 _ => ?_
  obtain ⟨zs, g1, g2, g3⟩ := out_rows hrow p1 p2
  obtain ⟨ep, hat⟩ := PyProof.Rows.sortedAll_at s.heap (refsU ps) ((arrOf st).map (·.2))
  have hln : (refsV zs).length ≤ sizeLine := by
    have := g1.length_eq
    have h2 : (refsU ps).length = ps.length := List.length_map _
    show (zs.map _).length ≤ _
    rw [List.length_map]
    omega
  have hvz : Vals (refsV zs) ((arrOf st).map (·.2)).toList := by
    rw [g2]
    exact refs_vals zs
  have new : ObjOk X.prog X.w (upd H (s.heap.objs.size + 1) (.lst (refsV zs))) (sortedAll s.heap (refsU ps) ((arrOf st).map (·.2))) (s.heap.objs.size + 1) (.lst (refsV zs)) := ⟨hln, _, ep, hvz, hat⟩
  exact ⟨.ref (s.heap.objs.size + 1), _, I.laid (t' := s.toks) (fun _ _ => PyProof.Rows.sortedAll_old) (Nat.le_succ _) new, rfl, key zs _ g1 g3 (I.hok.fresh (Nat.le_succ _))⟩
end
/-! dicts whose keys are rows -/
def kN (r : List Nat) : List Key := r.map fun n : Nat => .inl (n : Int)
theorem kN_row (r : List Nat) : (kN r).map kV = r.map iV := by
  unfold kN
  rw [List.map_map]
  rfl
theorem kN_inj {a b : List Nat} (h : kN a = kN b) : a = b := by
  induction a generalizing b with
  | nil => cases b with
    | nil => rfl
    | cons y b => exact nomatch h
  | cons x a ih => cases b with
    | nil => exact nomatch h
    | cons y b =>
      have h1 := List.cons.inj h
      have h2 : (x : Int) = (y : Int) := Sum.inl.inj h1.1
      rw [show x = y by omega, ih h1.2]
def dictN (rs : List (List Nat)) : List (List Key × V) := rs.map fun r => (kN r, V.bl true)
theorem dictN_len (rs : List (List Nat)) : (dictN rs).length = rs.length := List.length_map _
theorem valV_in {rs : List (List Nat)} {r : List Nat} (h : r ∈ rs) : valV (dictN rs) (kN r) = some (.bl true) := by
  induction rs with
  | nil => exact nomatch h
  | cons x rs ih =>
    by_cases e : x = r
    · subst e
      exact valV_pos rfl
    · rcases List.mem_cons.mp h with z | h
      · exact absurd z.symm e
      · show valV ((kN x, V.bl true) :: dictN rs) (kN r) = _
        rw [valV_neg (fun z => e (kN_inj z))]
        exact ih h
theorem valV_out {rs : List (List Nat)} {r : List Nat} (h : r ∉ rs) : valV (dictN rs) (kN r) = none := by
  induction rs with
  | nil => rfl
  | cons x rs ih =>
    show valV ((kN x, V.bl true) :: dictN rs) (kN r) = _
    rw [valV_neg (fun z => h (by rw [← kN_inj z]; exact List.mem_cons_self))]
    exact ih fun z => h (List.mem_cons_of_mem _ z)
theorem putN {rs : List (List Nat)} {r : List Nat} (h : r ∉ rs) : putK (dictN rs) (kN r) (.bl true) = dictN (rs ++ [r]) := by
  rw [putK_new _ (valV_out h)]
  unfold dictN
  rw [List.map_append]
  rfl
theorem rows_of {H : Hp} : ∀ {rs : List (List Nat)} {ks : List (List Key × Addr × Value)}, Paired (fun (p : List Key × V) (q : List Key × Addr × Value) => p.1 = q.1 ∧ H q.2.1 = some (.tup (p.1.map kV)) ∧ RelV p.2 q.2.2) (dictN rs) ks →
    ∃ ps : List (Addr × List Nat), ps.map (·.2) = rs ∧ refsU ps = ks.map (fun x => Value.ref x.2.1) ∧ ∀ p ∈ ps, H p.1 = some (.tup (p.2.map iV))
  | [], _, h => by cases h; exact ⟨[], rfl, rfl, fun p hp => nomatch hp⟩
  | r :: rs, _, h => by
    cases h with
    | @cons _ k _ ks h1 h2 =>
      obtain ⟨ps, e1, e2, e3⟩ := rows_of h2
      have hk : H k.2.1 = some (.tup ((kN r).map kV)) := h1.2.1
      rw [kN_row] at hk
      refine ⟨(k.2.1, r) :: ps, by rw [List.map_cons, e1], ?_, fun p hp => ?_⟩
      · show Value.ref k.2.1 :: refsU ps = _
        rw [e2]
        rfl
      · rcases List.mem_cons.mp hp with rfl | hp
        · exact hk
        · exact e3 p hp
/-- {t: v}, one key, a row -/
def tDispT (tk tv : TE) : TE := fun σ H Q => ∀ p, H p = none → tk σ (upd H p (.dT [])) fun x H1 => tv σ H1 fun y H2 => ∃ b r, x = .ref b ∧ H2 b = some (.tup ((r : List Nat).map iV)) ∧ H2 p = some (.dT []) ∧ y = .bl true ∧ Q (.ref p) (upd H2 p (.dT (dictN [r])))
section
variable {X : Cx} {K : PySem.W.Frag}
theorem pe_dispT {k v : Expr} {tk tv : TE} {pos : Pos} (hu : X.A.units + 1 < cLine) (hk : PE X k tk) (hv : PE X v tv) : PE X (.Dict [some k] [v] pos) (tDispT tk tv) := by
  constructor
  intro pins s σ H Q I q
  have hn := I.hok.fresh (Nat.le_refl s.heap.objs.size)
  have I1 := I.laid (a := s.heap.objs.size) (o := .dT []) (h' := s.heap.push { cls := .type "dict", data := .dict #[] }) (t' := s.toks) (fun _ _ e => Heap.get?_push_of_some _ e) (Nat.le_refl _) (dt_empty s.heap I.big)
  rw [arm_eval_Dict, zip_pairTrees [some k] [v] X.env pos rfl rfl, dictDisplay_pairs (pairTrees [some k] [v] X.env pos) (by simp [pairTrees]) (by simp [pairTrees])]
  refine wpAny_bind (wpAny_standAt (wpAny_bind ?_))
  refine wpAny_subDictH (knd := tupleKind (mixKind X.prog X.w)) (Q := fun d s' => wpAny (model X.prog X.w) X.A (pure (Value.ref d)) (EP X pins σ Q) X.xe s') (show X.A.units < cLine by omega) (by simp [pairTrees]) ?_
  refine pairTrees_cons_walk (thn (hk.run pins _ σ _ _ I1 (q _ hn)) fun u s1 ⟨x, H1, I2, rx, q1⟩ => thn (hv.run pins s1 σ H1 _ I2 q1) fun w2 s2 ⟨y, H2, I3, ry, b, r, ex, hb, hp, ey, q2⟩ => pairTrees_nil_walk ?_)
  subst ex ey
  cases rx
  rw [← kN_row] at hb
  obtain ⟨z, hd, xs, rel, dd⟩ := dt_of I3.hok hp
  cases rel
  refine ⟨[(kN r, b, w2)], ⟨rfl, rfl, key_of I3.hok hb, trivial⟩, dd, fun h' tk dd' hs => wpAny_pure ?_⟩
  obtain ⟨ob, es, ep, hq, h2, h3, h4, _, h5⟩ := dd'
  have I4 := d_write (t' := tk) (ob := .dT (dictN [r])) I3 (by rw [hp]; exact True.intro) hs ⟨ob, hq⟩ ⟨by rw [dictN_len]; show 1 ≤ sizeLine; decide, hd, [(kN r, b, w2)], .cons ⟨rfl, by rw [upd_ne (ne_of hb hp (fun z => nomatch z))]; exact hb, ry⟩ .nil, ob, es, ep, hq, h2, h3, h4, h5⟩
  exact ⟨.ref _, _, I4, rfl, q2⟩
/-- sorted(d) of a dict with rows as keys -/
def rSortD : List V → Hp → VK → Prop := fun vs H Q => ∃ (d : Addr) (rs : List (List Nat)), vs = [.ref d] ∧ Rd H d (.dT (dictN rs)) ∧ (∀ r ∈ rs, r ≠ []) ∧
  ∀ (zs : List (Addr × List Nat)) (p : Addr), (zs.map (·.2)).Perm rs → sortedR zs → (∀ z ∈ zs, H z.1 = some (.tup (z.2.map iV))) → H p = none → Q (.ref p) (upd H p (.lst (refsV zs)))
theorem cr_sortD (hc : X.calm = true) : CallR X (.builtin "sorted") rSortD := by
  rintro pins s σ H vs us Q I rs ⟨d, rows, rfl, hd, hne, key⟩
  rw [Vals.ref1 rs]
  obtain ⟨z, hs, ks, pr, o, es, ep, ho, hx, hdt, he, hn⟩ := (show ObjOk X.prog X.w H s.heap d (.dT (dictN rows)) from hd.ok I.hok)
  obtain ⟨ps, e1, e2, e3⟩ := rows_of pr
  have hes : es.size = ks.length := by rw [← Array.length_toList, he, List.length_map]
  have hps : ps.length = ks.length := by
    have := congrArg List.length e2
    rw [List.length_map] at this
    rw [← this]
    exact (List.length_map _).symm
  have hzl : ps.length ≤ sizeLine := by
    have h1 : (dictN rows).length = rows.length := dictN_len rows
    have h2 := congrArg List.length e1
    rw [List.length_map] at h2
    omega
  refine Calls.call_function_entry PyProof.Rows.kind_sorted PyProof.Rows.plain_sorted PyProof.Rows.entry_sorted (PyProof.Rows.args_sorted1 _) ?_
  unfold Builtin.«sorted»
  refine wpAny_bind (m := checkCount "sorted" 1 1 _) (wpAny_pure ?_)
  refine wpAny_bind (PySem.W.kdu_collect (A := X.A.in1) (kdl_raw hs hx hdt) (I.ok.hd hc) ho (by omega) fun h1 tk acc hk hacc => ?_)
  have ea : acc.toList = refsU ps := by
    rw [e2]
    refine List.ext_getElem (by rw [Array.length_toList, hacc.1, hes, List.length_map]) fun j hj1 hj2 => ?_
    rw [List.length_map] at hj2
    have hg : acc[j]? = some acc.toList[j] := by rw [← Array.getElem?_toList, List.getElem?_eq_getElem hj1]
    obtain ⟨en, hen, hv⟩ := hacc.2 j _ hg
    rw [← Array.getElem?_toList, he, List.getElem?_map, List.getElem?_eq_getElem hj2] at hen
    have h3 := Option.some.inj hen
    rw [hv, ← h3, List.getElem_map]
    rfl
  rw [ea]
  have I1 : Inv X pins σ H { s with heap := h1, toks := tk } := I.kept hk
  have hul : (refsU ps).length = ps.length := List.length_map _
  refine wpAny_bind (wpAny_newList ?_ (by omega))
  have hoL : (h1.push (seqObj "list" (refsU ps).toArray 0)).get? h1.objs.size = some (seqObj "list" (refsU ps).toArray 0) := Heap.get?_push_size _ rfl
  have hrow : ∀ p ∈ ps, RowAt (h1.push (seqObj "list" (refsU ps).toArray 0)) p.1 p.2 := fun p hp => by
    obtain ⟨js, jv, jt, _⟩ := I1.tuple (a := p.1) (xs := p.2.map iV) (.inl (.inl (e3 p hp)))
    have hpne : p.2 ≠ [] := hne _ (by rw [← e1]; exact List.mem_map_of_mem hp)
    exact RowAt.keep ⟨hpne, js, jv, jt⟩ fun b o e => Heap.get?_push_of_some _ e
  obtain ⟨fs, hfs⟩ := tups_of ps hrow
  show wpAny _ _ _ _ _ { s with heap := h1.push (seqObj "list" (refsU ps).toArray 0), toks := tk }
  refine wpAny_bind (wpAny_holding (wpAny_call_entry PyProof.Rows.slot_list_sort ⟨_, hoL, rfl⟩ PyProof.Rows.entry_list_sort
    (PyProof.Rows.G.list_sort_tups (s := { s with heap := h1.push (seqObj "list" (refsU ps).toArray 0), toks := tk }) hoL hfs (keys_of hrow) (by omega) fun st p1 p2 _ => ⟨_, rfl, ?_⟩) (PyProof.Rows.args_list_sort _)))
  obtain ⟨zs, g1, g2, g3⟩ := out_rows hrow p1 p2
  obtain ⟨e', hat⟩ := PyProof.Rows.sortedHeap_at (vs := refsU ps) (out := (arrOf st).map (·.2)) hoL
  have hln : (refsV zs).length ≤ sizeLine := by
    have := g1.length_eq
    show (zs.map _).length ≤ _
    rw [List.length_map]
    omega
  have hvz : Vals (refsV zs) ((arrOf st).map (·.2)).toList := by
    rw [g2]
    exact refs_vals zs
  have fin := I1.laid (a := h1.objs.size) (o := .lst (refsV zs)) (h' := sortedHeap (h1.push (seqObj "list" (refsU ps).toArray 0)) h1.objs.size (refsU ps) ((arrOf st).map (·.2))) (t' := tk) (fun b u e => by
      have hb : b < h1.objs.size := Heap.lt_size e
      rw [PyProof.Rows.sortedHeap_old (Nat.ne_of_lt hb) (by rw [size_push']; exact Nat.lt_succ_of_lt hb)]
      exact Heap.get?_push_of_some _ e) (Nat.le_refl _) ⟨hln, _, e', hvz, hat⟩
  refine wpAny_pure ⟨_, rfl, .ref h1.objs.size, _, fin, rfl, key zs _ ?_ g3 (fun z hz => e3 z (g1.mem_iff.mp hz)) (I1.hok.fresh (Nat.le_refl _))⟩
  rw [← e1]
  exact g1.map _
end
end G
set_option Elab.async false
set_option linter.all false
set_option maxRecDepth 100000
set_option maxHeartbeats 4000000
namespace G
open PySem PySem.Spec PyProof.Rows L2
/-! what some permutations make -/
inductive Gen (n : Nat) (gs : List (List Nat)) : List Nat → Prop
  | one : Gen n gs (idN n)
  | step {x m : List Nat} : Gen n gs x → m ∈ gs → Gen n gs (thenN x m)
def RowN (n : Nat) (r : List Nat) : Prop := r.length = n ∧ ∀ x ∈ r, x < n
theorem Perm.row {n : Nat} {p : List Nat} (h : Perm n p) : RowN n p := ⟨h.len, h.lt⟩
theorem RowN.id (n : Nat) : RowN n (idN n) := ⟨List.length_range, fun x hx => List.mem_range.mp hx⟩
theorem RowN.at {n i : Nat} {r : List Nat} (h : RowN n r) (hi : i < n) : at0 r i < n := h.2 _ (List.mem_of_getElem? (at0_some (by rw [h.1]; exact hi)))
theorem RowN.then {n : Nat} {x m : List Nat} (hx : RowN n x) (hm : RowN n m) : RowN n (thenN x m) := by
  refine ⟨by unfold thenN; rw [List.length_map]; exact hx.1, fun y hy => ?_⟩
  obtain ⟨k, hk, rfl⟩ := List.mem_map.mp hy
  exact hm.at (hx.2 k hk)
theorem Gen.row {n : Nat} {gs : List (List Nat)} (hg : ∀ m ∈ gs, RowN n m) {x : List Nat} (h : Gen n gs x) : RowN n x := by
  induction h with
  | one => exact RowN.id n
  | step _ hm ih => exact ih.then (hg _ hm)
theorem Gen.sub {n : Nat} {gs S : List (List Nat)} (h1 : idN n ∈ S) (h2 : ∀ x ∈ S, ∀ m ∈ gs, thenN x m ∈ S) {x : List Nat} (h : Gen n gs x) : x ∈ S := by
  induction h with
  | one => exact h1
  | step _ hm ih => exact h2 _ ih _ hm
theorem Gen.mono {n : Nat} {gs hs : List (List Nat)} (k : ∀ m ∈ gs, m ∈ hs) {x : List Nat} (h : Gen n gs x) : Gen n hs x := by
  induction h with
  | one => exact .one
  | step _ hm ih => exact .step ih (k _ hm)
theorem id_then {n : Nat} {m : List Nat} (h : m.length = n) : thenN (idN n) m = m := by
  apply List.ext_getElem?
  intro i
  unfold thenN idN
  by_cases hi : i < n
  · rw [List.getElem?_map, List.getElem?_range hi, at0_some (by omega)]
    rfl
  · rw [List.getElem?_eq_none (by rw [List.length_map, List.length_range]; omega), List.getElem?_eq_none (by omega)]
theorem at_id {n i : Nat} (h : i < n) : at0 (idN n) i = i := by
  unfold at0 idN
  rw [List.getD_eq_getElem?_getD, List.getElem?_range h]
  rfl
theorem then_id {n : Nat} {x : List Nat} (h : RowN n x) : thenN x (idN n) = x := by
  unfold thenN
  conv => rhs; rw [← List.map_id x]
  exact List.map_congr_left fun y hy => at_id (h.2 y hy)
theorem at_then {x m : List Nat} {i : Nat} (h : i < x.length) : at0 (thenN x m) i = at0 m (at0 x i) := by
  have e : (thenN x m)[i]? = some (at0 m (at0 x i)) := by
    unfold thenN
    rw [List.getElem?_map, at0_some h]
    rfl
  have e2 := at0_some (p := thenN x m) (i := i) (by unfold thenN; rw [List.length_map]; exact h)
  rw [e2] at e
  exact Option.some.inj e
theorem then_assoc {n : Nat} {x y m : List Nat} (hx : RowN n x) (hy : RowN n y) : thenN x (thenN y m) = thenN (thenN x y) m := by
  show x.map (at0 (thenN y m)) = (x.map (at0 y)).map (at0 m)
  rw [List.map_map]
  exact List.map_congr_left fun k hk => at_then (by rw [hy.1]; exact hx.2 k hk)
theorem Gen.mul {n : Nat} {gs : List (List Nat)} (hg : ∀ m ∈ gs, RowN n m) {x y : List Nat} (hx : Gen n gs x) (hy : Gen n gs y) : Gen n gs (thenN x y) := by
  induction hy with
  | one => rw [then_id (hx.row hg)]; exact hx
  | step h hm ih => rw [then_assoc (hx.row hg) (h.row hg)]; exact .step ih hm
theorem Gen.of {n : Nat} {gs : List (List Nat)} {m : List Nat} (hr : RowN n m) (h : m ∈ gs) : Gen n gs m := by
  have := Gen.step (.one (n := n)) h
  rw [id_then hr.1] at this
  exact this
/-- a list of all that some permutations make -/
structure Group (n : Nat) (gs rs : List (List Nat)) : Prop where
  nd : rs.Nodup
  all : ∀ x, x ∈ rs ↔ Gen n gs x
theorem Group.perm {n : Nat} {gs a b : List (List Nat)} (h1 : Group n gs a) (h2 : Group n gs b) : a.Perm b :=
  (List.perm_ext_iff_of_nodup h1.nd h2.nd).mpr fun x => (h1.all x).trans (h2.all x).symm
/-- a bound of what they make -/
structure Bnd (n : Nat) (gs L : List (List Nat)) (B : Nat) : Prop where
  rows : ∀ m ∈ gs, RowN n m
  one : idN n ∈ L
  step : ∀ x ∈ L, ∀ m ∈ gs, thenN x m ∈ L
  len : L.length ≤ B
theorem Bnd.le {n B : Nat} {gs L ms rs : List (List Nat)} (b : Bnd n gs L B) (hs : ∀ m ∈ ms, m ∈ gs) (nd : rs.Nodup) (h : ∀ x ∈ rs, Gen n ms x) : rs.length ≤ B := by
  refine Nat.le_trans (List.Nodup.length_le_of_subset nd fun x hx => ?_) b.len
  exact ((h x hx).mono hs).sub b.one b.step
/-- makers that make all -/
theorem group_of {n : Nat} {gs ms rs : List (List Nat)} (hg : ∀ m ∈ gs, RowN n m) (hs : ∀ m ∈ ms, m ∈ gs) (nd : rs.Nodup) (h1 : idN n ∈ rs) (h2 : ∀ x ∈ rs, ∀ m ∈ ms, thenN x m ∈ rs) (h3 : ∀ x ∈ rs, Gen n ms x) (h4 : ∀ m ∈ gs, m ∈ rs) : Group n gs rs := by
  have hm : ∀ m ∈ ms, RowN n m := fun m hm => hg m (hs m hm)
  refine ⟨nd, fun x => ⟨fun hx => (h3 x hx).mono hs, fun hx => ?_⟩⟩
  refine hx.sub h1 fun y hy m hmg => ?_
  exact (Gen.mul hm (h3 y hy) (h3 m (h4 m hmg))).sub h1 h2
/-! all permutations of a few places -/
def extP (n : Nat) : Nat → List (List Nat)
  | 0 => [[]]
  | k + 1 => (extP n k).flatMap fun l => ((List.range n).filter fun x => !l.contains x).map fun x => l ++ [x]
theorem ext_mem {n : Nat} : ∀ (k : Nat) (l : List Nat), l.length = k → (∀ x ∈ l, x < n) → l.Nodup → l ∈ extP n k
  | 0, l, hl, _, _ => by
    rw [List.length_eq_zero_iff.mp hl]
    exact List.mem_singleton.mpr rfl
  | k + 1, l, hl, hlt, nd => by
    have hne : l ≠ [] := fun e => by rw [e] at hl; exact nomatch hl
    obtain ⟨m, y, rfl⟩ : ∃ m y, l = m ++ [y] := ⟨l.dropLast, l.getLast hne, (List.dropLast_concat_getLast hne).symm⟩
    rw [List.length_append] at hl
    have nd' := List.nodup_append.mp nd
    refine List.mem_flatMap.mpr ⟨m, ext_mem k m (by simpa using hl) (fun x hx => hlt x (List.mem_append_left _ hx)) nd'.1, List.mem_map.mpr ⟨y, List.mem_filter.mpr ⟨List.mem_range.mpr (hlt y (List.mem_append_right _ List.mem_cons_self)), ?_⟩, rfl⟩⟩
    have : y ∉ m := fun hy => nd'.2.2 y hy y List.mem_cons_self rfl
    simpa using this
theorem Perm.then {n : Nat} {p q : List Nat} (hp : Perm n p) (hq : Perm n q) : Perm n (thenN p q) := by
  have hr := hp.row.then hq.row
  refine ⟨hr.1, hr.2, ?_⟩
  unfold thenN
  refine List.pairwise_iff_getElem.mpr fun i j hi hj hij e => ?_
  rw [List.length_map] at hi hj
  rw [List.getElem_map, List.getElem_map] at e
  have h1 := hq.inj (hp.lt _ (List.getElem_mem hi)) (hp.lt _ (List.getElem_mem hj)) e
  exact absurd h1 (List.pairwise_iff_getElem.mp hp.nd i j hi hj hij)
theorem Perm.id (n : Nat) : Perm n (idN n) := ⟨List.length_range, fun x hx => List.mem_range.mp hx, List.nodup_range⟩
theorem Perm.ext {n : Nat} {p : List Nat} (h : Perm n p) : p ∈ extP n n := ext_mem n p h.len h.lt h.nd
theorem ext_len {n : Nat} (h : n ≤ 6) : (extP n n).length ≤ 720 ∧ (extP n n).length = Nat.rec 1 (fun k f => (k + 1) * f) n := by
  match n, h with
  | 0, _ => decide +kernel
  | 1, _ => decide +kernel
  | 2, _ => decide +kernel
  | 3, _ => decide +kernel
  | 4, _ => decide +kernel
  | 5, _ => decide +kernel
  | 6, _ => decide +kernel
theorem ext_perm {n : Nat} : ∀ (k : Nat) (l : List Nat), l ∈ extP n k → l.length = k ∧ (∀ x ∈ l, x < n) ∧ l.Nodup
  | 0, l, h => by
    rw [List.mem_singleton.mp h]
    exact ⟨rfl, (fun x hx => nomatch hx), List.nodup_nil⟩
  | k + 1, l, h => by
    obtain ⟨m, hm, h2⟩ := List.mem_flatMap.mp h
    obtain ⟨y, hy, rfl⟩ := List.mem_map.mp h2
    obtain ⟨a, b, c⟩ := ext_perm k m hm
    obtain ⟨y1, y2⟩ := List.mem_filter.mp hy
    have hy' : y ∉ m := by simpa using y2
    refine ⟨by rw [List.length_append, a]; rfl, fun x hx => ?_, ?_⟩
    · rcases List.mem_append.mp hx with hx | hx
      · exact b x hx
      · rw [List.mem_singleton.mp hx]; exact List.mem_range.mp y1
    · refine List.nodup_append.mpr ⟨c, by simp, fun x hx z hz e => ?_⟩
      rw [List.mem_singleton.mp hz] at e
      subst e
      exact hy' hx
theorem bnd_small {n : Nat} {gs : List (List Nat)} (hn : n ≤ 6) (hg : ∀ m ∈ gs, Perm n m) : Bnd n gs (extP n n) (extP n n).length where
  rows := fun m hm => (hg m hm).row
  one := (Perm.id n).ext
  step := fun x hx m hm => by
    obtain ⟨a, b, c⟩ := ext_perm n x hx
    exact (Perm.then ⟨a, b, c⟩ (hg m hm)).ext
  len := Nat.le_refl _
theorem fact_ok : ∀ n, n ≤ 64 → ((Builtin.Math.factorialNat n : Nat) : Int).natAbs.log2 < bitsLine ∧ (n ≤ 6 → (extP n n).length ≤ Builtin.Math.factorialNat n) ∧ (7 ≤ n → 999 ≤ Builtin.Math.factorialNat n) := by
  have h : (List.range 65).all (fun n => decide (((Builtin.Math.factorialNat n : Nat) : Int).natAbs.log2 < bitsLine) && decide (n ≤ 6 → (extP n n).length ≤ Builtin.Math.factorialNat n) && decide (7 ≤ n → 999 ≤ Builtin.Math.factorialNat n)) = true := by decide +kernel
  intro n hn
  have h2 := List.all_eq_true.mp h n (List.mem_range.mpr (by omega))
  simp only [Bool.and_eq_true, decide_eq_true_eq] at h2
  exact ⟨h2.1.1, h2.1.2, h2.2⟩
def rFact : List V → Hp → VK → Prop := fun xs H Q => ∃ n : Nat, xs = [.int (n : Int)] ∧ n ≤ 64 ∧ Q (.int ((Builtin.Math.factorialNat n : Nat) : Int)) H
theorem call_factorial {X : Cx} : CallR X (.builtin "math.factorial") rFact := by
  rintro pins s σ H vs us Q I rs ⟨n, rfl, hn, q⟩
  obtain ⟨u, rfl, t, rfl⟩ := vals1 rs
  refine PySem.W.mg_factorial (by simp only [Builtin.Math.maxSsize]; omega) (by omega) (by simp only [Builtin.Math.manyFactors]; omega) (by rw [Int.toNat_natCast]; exact (fact_ok n hn).1) ?_
  rw [Int.toNat_natCast]
  exact ⟨.int _, H, I.tok _, ⟨_, rfl⟩, q⟩
theorem lay_rows : ∀ rs : List (List Nat), PyData.canLayAll0 (rs.map rowD) = true
  | [] => rfl
  | r :: rs => Bool.and_eq_true_iff.mpr ⟨by
      show PyData.canLayAll0 (r.map nD) = true
      rw [nat_ints]
      exact lay_ints _, lay_rows rs⟩
theorem depth_rows : ∀ rs : List (List Nat), PyData.depthAll (rs.map rowD) ≤ 2
  | [] => by decide
  | r :: rs => by
    show max (PyData.depthAll (r.map nD) + 1) (PyData.depthAll (rs.map rowD)) ≤ 2
    have h1 := depth_rows rs
    rw [nat_ints, depth_ints]
    omega
theorem shaped_rows (rs : List (List Nat)) : SeqAt.shaped (.list (rs.map rowD)) = true := by
  refine Bool.and_eq_true_iff.mpr ⟨lay_rows rs, decide_eq_true ?_⟩
  show PyData.depthAll (rs.map rowD) + 1 ≤ 64
  have := depth_rows rs
  omega
theorem eqv_all_rows : ∀ (a b : List (List Nat)), PyData.eqvAll (a.map rowD) (b.map rowD) = decide (a = b)
  | [], [] => by simp [PyData.eqvAll]
  | [], y :: b => by simp [PyData.eqvAll]
  | x :: a, [] => by simp [PyData.eqvAll]
  | x :: a, y :: b => by
    rw [List.map_cons, List.map_cons, PyData.eqvAll, eqv_rows, eqv_all_rows a b]
    simp [Bool.decide_and]
theorem eqv_lrows (a b : List (List Nat)) : PyData.eqv (.list (a.map rowD)) (.list (b.map rowD)) = decide (a = b) := by
  rw [PyData.eqv, eqv_all_rows]
theorem dp_rows {K : PySem.W.Frag} {H : Hp} {p : Addr} {ps : List (Addr × List Nat)} (h : SqL K H p (refsV ps)) (hall : ∀ q ∈ ps, SqT K H q.1 (q.2.map iV)) : Dp K H (.ref p) (.list ((ps.map (·.2)).map rowD)) := by
  refine .lst h ?_
  clear h
  induction ps with
  | nil => exact .nil
  | cons q ps ih => exact .cons ((row_of (hall q List.mem_cons_self)).dp _ _) (ih fun q' hq => hall q' (List.mem_cons_of_mem _ hq))
theorem fits_rows {rs : List (List Nat)} (h : rs.length ≤ 1000) (hr : ∀ r ∈ rs, r.length ≤ 1000) : fits 3 (.list (rs.map rowD)) := by
  have zl : (sizeLine : Nat) = 16777216 := by decide
  refine ⟨by rw [List.length_map]; omega, fun d hd => ?_⟩
  obtain ⟨r, hm, rfl⟩ := List.mem_map.mp hd
  exact fits_row 0 (hr r hm)
/-- rows that stand at addresses, each a tuple of its own -/
def TupR (H : Hp) (ps : List (Addr × List Nat)) : Prop := ∀ p ∈ ps, H p.1 = some (.tup (p.2.map iV))
theorem TupR.k {H H' : Hp} {ps : List (Addr × List Nat)} (h : TupR H ps) (e : Same H H') : TupR H' ps := fun p hp => e _ _ (h p hp)
theorem TupR.snoc {H : Hp} {ps : List (Addr × List Nat)} {b : Addr} {r : List Nat} (h : TupR H ps) (hb : H b = some (.tup (r.map iV))) : TupR H (ps ++ [(b, r)]) := fun p hp => by
  rcases List.mem_append.mp hp with hp | hp
  · exact h p hp
  · rw [List.mem_singleton.mp hp]; exact hb
end G
set_option Elab.async false
set_option linter.all false
set_option maxRecDepth 100000
set_option maxHeartbeats 4000000
namespace G
open PySem PySem.Spec PyProof.Rows L2
/-! wheels -/
def rot (n j : Nat) : List Nat := (List.range n).map fun k => (k + j) % n
theorem rot_len (n j : Nat) : (rot n j).length = n := by unfold rot; rw [List.length_map, List.length_range]
theorem rot_row {n j : Nat} : RowN n (rot n j) := by
  refine ⟨rot_len n j, fun x hx => ?_⟩
  obtain ⟨k, hk, rfl⟩ := List.mem_map.mp hx
  have := List.mem_range.mp hk
  exact Nat.mod_lt _ (by omega)
theorem at_rot {n j i : Nat} (h : i < n) : at0 (rot n j) i = (i + j) % n := by
  unfold at0 rot
  rw [List.getD_eq_getElem?_getD, List.getElem?_map, List.getElem?_range h]
  rfl
theorem then_rot (n i j : Nat) : thenN (rot n i) (rot n j) = rot n ((i + j) % n) := by
  show (rot n i).map (at0 (rot n j)) = _
  unfold rot
  rw [List.map_map]
  refine List.map_congr_left fun k hk => ?_
  have hk' := List.mem_range.mp hk
  show at0 (rot n j) ((k + i) % n) = _
  rw [at_rot (Nat.mod_lt _ (by omega)), Nat.mod_add_mod, Nat.add_mod_mod, Nat.add_assoc]
theorem rot_zero (n : Nat) : rot n 0 = idN n := by
  unfold rot idN
  conv => rhs; rw [← List.map_id (List.range n)]
  refine List.map_congr_left fun k hk => ?_
  rw [Nat.add_zero]
  exact Nat.mod_eq_of_lt (List.mem_range.mp hk)
theorem bnd_wheel {n : Nat} (h1 : 1 ≤ n) : Bnd n [rot n 1] ((List.range n).map (rot n)) n where
  rows := fun m hm => by rw [List.mem_singleton.mp hm]; exact rot_row
  one := List.mem_map.mpr ⟨0, List.mem_range.mpr h1, rot_zero n⟩
  step := fun x hx m hm => by
    obtain ⟨j, _, rfl⟩ := List.mem_map.mp hx
    rw [List.mem_singleton.mp hm, then_rot]
    exact List.mem_map.mpr ⟨_, List.mem_range.mpr (Nat.mod_lt _ (by omega)), rfl⟩
  len := by rw [List.length_map, List.length_range]; exact Nat.le_refl _
def rot2 (f o i j : Nat) : List Nat := rot f i ++ (rot o j).map fun x => f + x
theorem rot2_row {f o i j : Nat} : RowN (f + o) (rot2 f o i j) := by
  unfold rot2
  refine ⟨by rw [List.length_append, List.length_map, rot_len, rot_len], fun x hx => ?_⟩
  rcases List.mem_append.mp hx with hx | hx
  · have := rot_row.2 x hx
    omega
  · obtain ⟨k, hk, rfl⟩ := List.mem_map.mp hx
    have := rot_row.2 k hk
    show f + k < f + o
    omega
theorem at_rot2 {f o i j x : Nat} (h : x < f) : at0 (rot2 f o i j) x = at0 (rot f i) x := by
  unfold at0 rot2
  rw [List.getD_eq_getElem?_getD, List.getD_eq_getElem?_getD, List.getElem?_append_left (by rw [rot_len]; exact h)]
theorem at_rot2' {f o i j x : Nat} (h : x < o) : at0 (rot2 f o i j) (f + x) = f + at0 (rot o j) x := by
  have e := at0_some (p := rot o j) (i := x) (by rw [rot_len]; exact h)
  unfold at0 rot2
  rw [List.getD_eq_getElem?_getD, List.getElem?_append_right (by rw [rot_len]; omega), rot_len, Nat.add_sub_cancel_left, List.getElem?_map, e]
  rfl
theorem then_rot2 (f o i j a b : Nat) : thenN (rot2 f o i j) (rot2 f o a b) = rot2 f o ((i + a) % f) ((j + b) % o) := by
  show (rot f i ++ (rot o j).map fun x => f + x).map (at0 (rot2 f o a b)) = rot f ((i + a) % f) ++ (rot o ((j + b) % o)).map fun x => f + x
  rw [List.map_append, List.map_map, ← then_rot, ← then_rot]
  have e1 : (rot f i).map (at0 (rot2 f o a b)) = thenN (rot f i) (rot f a) := List.map_congr_left fun x hx => at_rot2 (rot_row.2 x hx)
  have e2 : (rot o j).map (at0 (rot2 f o a b) ∘ fun x => f + x) = (thenN (rot o j) (rot o b)).map fun x => f + x := by
    show _ = ((rot o j).map (at0 (rot o b))).map fun x => f + x
    rw [List.map_map]
    exact List.map_congr_left fun x hx => at_rot2' (rot_row.2 x hx)
  rw [e1, e2]
theorem id_two (f o : Nat) : rot2 f o 0 0 = idN (f + o) := by
  unfold rot2
  rw [rot_zero, rot_zero]
  unfold idN
  rw [List.range_add]
theorem bnd_two {f o : Nat} (hf : 1 ≤ f) (ho : 1 ≤ o) : Bnd (f + o) [rot2 f o 1 0, rot2 f o 0 1] ((List.range f).flatMap fun i => (List.range o).map fun j => rot2 f o i j) (f * o) where
  rows := fun m hm => by
    rcases List.mem_cons.mp hm with rfl | hm
    · exact rot2_row
    · rw [List.mem_singleton.mp hm]; exact rot2_row
  one := List.mem_flatMap.mpr ⟨0, List.mem_range.mpr hf, List.mem_map.mpr ⟨0, List.mem_range.mpr ho, id_two f o⟩⟩
  step := fun x hx m hm => by
    obtain ⟨i, hi, h2⟩ := List.mem_flatMap.mp hx
    obtain ⟨j, hj, rfl⟩ := List.mem_map.mp h2
    have go : ∀ a b, thenN (rot2 f o i j) (rot2 f o a b) ∈ (List.range f).flatMap fun i => (List.range o).map fun j => rot2 f o i j := fun a b => by
      rw [then_rot2]
      exact List.mem_flatMap.mpr ⟨_, List.mem_range.mpr (Nat.mod_lt _ (by omega)), List.mem_map.mpr ⟨_, List.mem_range.mpr (Nat.mod_lt _ (by omega)), rfl⟩⟩
    rcases List.mem_cons.mp hm with rfl | hm
    · exact go 1 0
    · rw [List.mem_singleton.mp hm]; exact go 0 1
  len := by
    have : ∀ l : List Nat, (l.flatMap fun i => (List.range o).map fun j => rot2 f o i j).length = l.length * o := by
      intro l
      induction l with
      | nil => simp
      | cons x l ih => rw [List.flatMap_cons, List.length_append, ih, List.length_map, List.length_range, List.length_cons, Nat.succ_mul, Nat.add_comm]
    rw [this, List.length_range]
    exact Nat.le_refl _
/-! the small ones of the law -/
def reflN (n : Nat) : List Nat := (List.range n).map fun k => (n - k) % n
def permB (n : Nat) (p : List Nat) : Bool := decide (p.length = n) && p.all (fun x => decide (x < n)) && decide p.Nodup
theorem perm_of {n : Nat} {p : List Nat} (h : permB n p = true) : Perm n p := by
  unfold permB at h
  simp only [Bool.and_eq_true, List.all_eq_true, decide_eq_true_eq] at h
  exact ⟨h.1.1, h.1.2, h.2⟩
theorem wheel_perm {n : Nat} (h1 : 1 ≤ n) (h : n ≤ 6) : Perm n (rot n 1) ∧ Perm n (reflN n) := by
  match n, h1, h with
  | 1, _, _ => exact ⟨perm_of (by decide +kernel), perm_of (by decide +kernel)⟩
  | 2, _, _ => exact ⟨perm_of (by decide +kernel), perm_of (by decide +kernel)⟩
  | 3, _, _ => exact ⟨perm_of (by decide +kernel), perm_of (by decide +kernel)⟩
  | 4, _, _ => exact ⟨perm_of (by decide +kernel), perm_of (by decide +kernel)⟩
  | 5, _, _ => exact ⟨perm_of (by decide +kernel), perm_of (by decide +kernel)⟩
  | 6, _, _ => exact ⟨perm_of (by decide +kernel), perm_of (by decide +kernel)⟩
end G
set_option Elab.async false
set_option linter.all false
set_option maxRecDepth 100000
set_option maxHeartbeats 4000000
namespace G
open PySem PySem.Spec PyProof.Rows L2 TL
/-! ### a <= b, texts -/
def rLeS : R2 := fun x y H Q => ∃ a b : Str, x = .str a ∧ y = .str b ∧ Q (.bl (!decide (b.cps.toList < a.cps.toList))) H
theorem op_leS {X : Cx} : OpR X (compareOp .LtE) rLeS := by
  intro pins s σ H x y v u Q I rx ry h
  obtain ⟨a, b, rfl, rfl, q⟩ := h
  obtain ⟨t, rfl⟩ := rx
  obtain ⟨t', rfl⟩ := ry
  exact PySem.P.le_str ⟨.bl (!decide (b.cps.toList < a.cps.toList)), H, I, rfl, q⟩
/-! ### str(i), int(text) -/
def rStrI : List V → Hp → VK → Prop := fun xs H Q => ∃ i : Int, xs = [.int i] ∧ i.natAbs.log2 < 1920 ∧ Q (.str (Str.ofString (toString i))) H
theorem call_strI {X : Cx} : CallR X (.type "str") rStrI := call_str_int
def rIntT : List V → Hp → VK → Prop := fun xs H Q => ∃ a n, xs = [.str a] ∧ PySem.intText? a = some n ∧ a.length ≤ 640 ∧ Q (.int n) H
theorem call_intT {X : Cx} : CallR X (.type "int") rIntT := call_int_str
/-! ### for x in a list or a tuple -/
def iSq (K : PySem.W.Frag) (te : TE) : TI := fun σ H R => te σ H fun x H1 => ∃ a, x = .ref a ∧ ((∃ xs, SqL K H1 a xs) ∧ R (Itl K a) H1 ∨ (∃ xs, SqT K H1 a xs) ∧ R (Itt K a) H1)
theorem pi_sqK {X : Cx} {K : PySem.W.Frag} {tg l : Expr} {tl : TE} (eK : X.K = K) (hl : PE X l tl) : PI X tg l (iSq K tl) := by
  subst eK
  refine ⟨fun pins s σ H R I h => ?_⟩
  refine thn (hl.run pins s σ H _ I h) fun v s1 ⟨x, H1, I1, r1, q1⟩ => ?_
  obtain ⟨a, e, q⟩ := q1
  subst e
  cases r1
  rcases q with ⟨⟨xs, hq⟩, q⟩ | ⟨⟨xs, hq⟩, q⟩
  · obtain ⟨its, rv, p, hz⟩ := I1.list hq
    refine wpAny_pyIter_list p.isList ?_
    refine ⟨s1.heap.objs.size, [s1.heap.objs.size], _, _, H1, rfl, I1.kept (t' := s1.toks) fun b o e => Heap.get?_push_of_some _ e, turn_list a _, ⟨_, Heap.get?_push_size _ rfl, rfl, rfl⟩, fun b hb => ?_, q⟩
    have e : b = s1.heap.objs.size := by simpa using hb
    subst e
    exact I1.fpOk (Nat.le_refl _) (I1.hok.fresh (Nat.le_refl _))
  · obtain ⟨its, rv, p, hz⟩ := I1.tuple hq
    refine wpAny_pyIter_tuple (show s1.heap.IsTuple a its.toArray from p) ?_
    refine ⟨s1.heap.objs.size, [s1.heap.objs.size], _, _, H1, rfl, I1.kept (t' := s1.toks) fun b o e => Heap.get?_push_of_some _ e, turn_tuple a _, ⟨_, Heap.get?_push_size _ rfl, rfl, rfl⟩, fun b hb => ?_, q⟩
    have e : b = s1.heap.objs.size := by simpa using hb
    subst e
    exact I1.fpOk (Nat.le_refl _) (I1.hok.fresh (Nat.le_refl _))
/-! ### texts of numbers -/
/-- each behind the sign s -/
def rstJ (s : Nat) (ps : List (List Nat)) : List Nat := (ps.map fun p => s :: p).flatten
theorem rstJ_cons (s : Nat) (p : List Nat) (ps : List (List Nat)) : rstJ s (p :: ps) = s :: (p ++ rstJ s ps) := rfl
theorem joinL_rst (s : Nat) : ∀ (p : List Nat) (ps : List (List Nat)), joinL [s] (p :: ps) = p ++ rstJ s ps
  | p, [] => by
    show p = p ++ []
    rw [List.append_nil]
  | p, q :: ps => by
    show p ++ ([s] ++ joinL [s] (q :: ps)) = p ++ rstJ s (q :: ps)
    rw [joinL_rst s q ps]
    rfl
def numsL (ns : List Nat) : List Nat := joinL [32] (ns.map numL)
theorem numsL_cons (n : Nat) (ns : List Nat) : numsL (n :: ns) = numL n ++ rstJ 32 (ns.map numL) := joinL_rst 32 (numL n) (ns.map numL)
def isDg : List Nat → Bool
  | [c] => decide (48 ≤ c ∧ c ≤ 57)
  | _ => false
theorem numL_small : ∀ n < 100, (n < 10 ∧ numL n = [48 + n]) ∨ (10 ≤ n ∧ numL n = [48 + n / 10, 48 + n % 10]) := fun n hn => by
  by_cases h : n < 10
  · exact .inl ⟨h, numL_lt h⟩
  · refine .inr ⟨by omega, ?_⟩
    rw [numL_step (by omega), numL_lt (show n / 10 < 10 by omega)]
    rfl
theorem num_str (n : Nat) : Str.ofString (toString (n : Int)) = ⟨(numL n).toArray⟩ := ext_tl (by rw [tl_num, tl_mk])
theorem intText_num {n : Nat} (h : n < 100) : PySem.intText? ⟨(numL n).toArray⟩ = some (n : Int) := by
  rw [← num_str]
  refine int_num ?_
  rcases numL_small n h with ⟨_, e⟩ | ⟨_, e⟩
  · rw [e]
    show 1 ≤ 4300
    decide
  · rw [e]
    show 2 ≤ 4300
    decide
/-! slices of texts -/
theorem six_nat (n d k : Nat) : HT.sIx n d (some (k : Int)) = min k n := HT.sIx_nat n d k
theorem cutS_nat (L : List Nat) (j k : Nat) : cutS ⟨L.toArray⟩ (some (j : Int)) (some (k : Int)) = ⟨((L.drop (min j L.length)).take (min k L.length - min j L.length)).toArray⟩ := by
  unfold cutS
  rw [six_nat, six_nat]
  have e : (⟨L.toArray⟩ : Str).length = L.length := str_len L
  rw [e]
theorem cutS_one {L : List Nat} {k : Nat} : cutS ⟨L.toArray⟩ (some (k : Int)) (some ((k : Int) + 1)) = ⟨((L.drop k).take 1).toArray⟩ := by
  have e1 : (k : Int) + 1 = ((k + 1 : Nat) : Int) := rfl
  rw [e1, cutS_nat]
  by_cases h : k < L.length
  · rw [Nat.min_eq_left (by omega), Nat.min_eq_left (by omega), show k + 1 - k = 1 by omega]
  · rw [Nat.min_eq_right (by omega), Nat.min_eq_right (by omega), Nat.sub_self, List.drop_eq_nil_of_le (Nat.le_refl _), List.drop_eq_nil_of_le (by omega)]
    rfl
theorem cutS_in {L : List Nat} {j k : Nat} (h1 : j ≤ k) (h2 : k ≤ L.length) : cutS ⟨L.toArray⟩ (some (j : Int)) (some (k : Int)) = ⟨((L.drop j).take (k - j)).toArray⟩ := by
  rw [cutS_nat, Nat.min_eq_left (show j ≤ L.length by omega), Nat.min_eq_left h2]
end G
set_option Elab.async false
set_option linter.all false
set_option maxRecDepth 100000
set_option maxHeartbeats 4000000
namespace G
open PySem PySem.Spec PyProof.Rows L2
/-! ### for i, c in enumerate(text) -/
theorem for_enS {L : List Nat} {g : TG} {tb : TS} {D : Ends} {σ : L2.St} {H : Hp} (Pv : Nat → L2.St → Hp → Prop) (h0 : Pv 0 σ H)
    (hs : ∀ i c σ H T, L[i]? = some c → Pv i σ H → H T = none → g (.ref T) σ (upd H T (.tup [.int (i : Nat), .str ⟨#[c]⟩])) fun σ2 H2 => tb { D with nx := Pv (i + 1), ct := Pv (i + 1), bk := D.nx } σ2 H2) (hd : ∀ σ H, Pv L.length σ H → D.nx σ H) :
    ∃ W : Nat → Nat → L2.St → Hp → Prop, (∃ m, W 0 m σ H) ∧ ∀ i m σ H, W i m σ H → ((ItS ⟨L.toArray⟩).stop i H ∧ D.nx σ H) ∨
      ((ItS ⟨L.toArray⟩).go i H ∧ ∃ N : L2.St → Hp → Prop, (∀ σ' H', N σ' H' → ∃ m', m' < m ∧ W (i + 1) m' σ' H') ∧ ∀ x H', (ItS ⟨L.toArray⟩).yld i H x H' → g x σ H' fun σ2 H2 => tb { D with nx := N, ct := N, bk := D.nx } σ2 H2) := by
  have hsz : (⟨L.toArray⟩ : Str).cps.size = L.length := List.size_toArray
  refine ⟨fun i m σ H => m + i = L.length ∧ Pv i σ H, ⟨L.length, rfl, h0⟩, ?_⟩
  rintro i m σ H ⟨hm, p⟩
  by_cases hlt : i < L.length
  · refine .inr ⟨by show i < _; rw [hsz]; exact hlt, Pv (i + 1), fun σ' H' p' => ⟨m - 1, by omega, by omega, p'⟩, ?_⟩
    rintro v H' ⟨T, c, rfl, hT, rfl, hx⟩
    have hx2 : L[i]? = some c := by
      rw [← List.getElem?_toArray]
      exact hx
    exact hs i c σ H T hx2 p hT
  · have e : i = L.length := by omega
    subst e
    exact .inl ⟨by show _ ≤ L.length; rw [hsz]; exact Nat.le_refl _, hd σ H p⟩
theorem r_iEnumS {ta : TA} {σ : L2.St} {H : Hp} {R : It → Hp → Prop} (h : ta σ H fun vs H1 => ∃ x : Str, vs = [.str x] ∧ R (ItS x) H1) : iEnumS ta σ H R := h
/-- one sign is not behind another one -/
theorem le_sg {a b : Nat} {H : Hp} {Q : VK} (q : Q (.bl (decide (a ≤ b))) H) : rLeS (.str ⟨#[a]⟩) (.str ⟨#[b]⟩) H Q := by
  refine ⟨_, _, rfl, rfl, ?_⟩
  have e : (!decide ((⟨#[b]⟩ : Str).cps.toList < (⟨#[a]⟩ : Str).cps.toList)) = decide (a ≤ b) := by
    show (!decide ([b] < [a])) = decide (a ≤ b)
    by_cases h : a ≤ b
    · rw [decide_eq_true h, decide_eq_false]
      · rfl
      · intro z
        rw [List.cons_lt_cons_iff] at z
        rcases z with z | ⟨_, z⟩
        · omega
        · exact absurd z (List.not_lt_nil _)
    · rw [decide_eq_false h, decide_eq_true]
      · rfl
      · exact List.cons_lt_cons_iff.mpr (.inl (by omega))
  rw [e]
  exact q
end G
set_option Elab.async false
set_option linter.all false
set_option maxRecDepth 100000
set_option maxHeartbeats 4000000
namespace G
/-! ### the first token with which no formula goes on: a reader by ranks, and a walk with frames -/
/-- what a token is: opens a level, says something of one operand, is one, stands between two (its rank), closes, is the end -/
inductive TK
  | par | un | atom | bin (r : Nat) | close | eof | other
  deriving DecidableEq
inductive RCmd
  | op (r i v : Nat) | loop (r i v : Nat) | plain (i v : Nat)
/-- the reader: where it ends, or the place of the fault -/
inductive RdR (kd : Nat → TK) : RCmd → Except Nat Nat → Prop
  | op3 {i v : Nat} {x : Except Nat Nat} : RdR kd (.plain i v) x → RdR kd (.op 3 i v) x
  | opE {r i v j : Nat} (h : r < 3) : RdR kd (.op (r + 1) i v) (.error j) → RdR kd (.op r i v) (.error j)
  | opL {r i v i' : Nat} {x : Except Nat Nat} (h : r < 3) : RdR kd (.op (r + 1) i v) (.ok i') → RdR kd (.loop r i' v) x → RdR kd (.op r i v) x
  | loopN {r i v : Nat} (h : kd i ≠ .bin r) : RdR kd (.loop r i v) (.ok i)
  | loopE {r i v j : Nat} (h : kd i = .bin r) : RdR kd (.op (r + 1) (i + 1) v) (.error j) → RdR kd (.loop r i v) (.error j)
  | loopL {r i v i' : Nat} {x : Except Nat Nat} (h : kd i = .bin r) : RdR kd (.op (r + 1) (i + 1) v) (.ok i') → RdR kd (.loop r i' v) x → RdR kd (.loop r i v) x
  | atom {i v : Nat} (h : kd i = .atom) : RdR kd (.plain i v) (.ok (i + 1))
  | full {i v : Nat} (h : kd i = .un ∨ kd i = .par) (hv : v = 12) : RdR kd (.plain i v) (.error i)
  | un {i v : Nat} {x : Except Nat Nat} (h : kd i = .un) (hv : v < 12) : RdR kd (.plain (i + 1) (v + 1)) x → RdR kd (.plain i v) x
  | parE {i v j : Nat} (h : kd i = .par) (hv : v < 12) : RdR kd (.op 0 (i + 1) (v + 1)) (.error j) → RdR kd (.plain i v) (.error j)
  | parC {i v k : Nat} (h : kd i = .par) (hv : v < 12) (hk : kd k = .close) : RdR kd (.op 0 (i + 1) (v + 1)) (.ok k) → RdR kd (.plain i v) (.ok (k + 1))
  | parX {i v k : Nat} (h : kd i = .par) (hv : v < 12) (hk : kd k ≠ .close) : RdR kd (.op 0 (i + 1) (v + 1)) (.ok k) → RdR kd (.plain i v) (.error k)
  | bad {i v : Nat} (h1 : kd i ≠ .atom) (h2 : kd i ≠ .un) (h3 : kd i ≠ .par) : RdR kd (.plain i v) (.error i)
/-- the walk: whether an operand is wanted, the levels that are open, those of them that the next operand ends, the same behind each open parenthesis -/
inductive AuR (kd : Nat → TK) : Bool → Nat → Nat → List Nat → Nat → Option Nat → Prop
  | wFull {v p k : Nat} {F : List Nat} (h : kd k = .un ∨ kd k = .par) (hv : v = 12) : AuR kd true v p F k (some k)
  | wPar {v p k : Nat} {F : List Nat} {x : Option Nat} (h : kd k = .par) (hv : v ≠ 12) : AuR kd true (v + 1) 0 (p :: F) (k + 1) x → AuR kd true v p F k x
  | wUn {v p k : Nat} {F : List Nat} {x : Option Nat} (h : kd k = .un) (hv : v ≠ 12) : AuR kd true (v + 1) (p + 1) F (k + 1) x → AuR kd true v p F k x
  | wAtom {v p k : Nat} {F : List Nat} {x : Option Nat} (h : kd k = .atom) : AuR kd false (v - p) 0 F (k + 1) x → AuR kd true v p F k x
  | wBad {v p k : Nat} {F : List Nat} (h1 : kd k ≠ .atom) (h2 : kd k ≠ .un) (h3 : kd k ≠ .par) : AuR kd true v p F k (some k)
  | nBin {v p k r : Nat} {F : List Nat} {x : Option Nat} (h : kd k = .bin r) : AuR kd true v p F (k + 1) x → AuR kd false v p F k x
  | nClose {v p k f : Nat} {F : List Nat} {x : Option Nat} (h : kd k = .close) : AuR kd false (v - 1 - f) 0 F (k + 1) x → AuR kd false v p (f :: F) k x
  | nEnd {v p k : Nat} (h : kd k = .eof) : AuR kd false v p [] k none
  | nBad {v p k : Nat} {F : List Nat} (h1 : ∀ r, kd k ≠ .bin r) (h2 : kd k = .close → F = []) (h3 : kd k = .eof → F ≠ []) : AuR kd false v p F k (some k)
def Meets (kd : Nat → TK) : RCmd → Except Nat Nat → Prop
  | .plain i v, .error j => ∀ p F, p ≤ v → AuR kd true v p F i (some j)
  | .plain i v, .ok k => ∀ p F x, p ≤ v → AuR kd false (v - p) 0 F k x → AuR kd true v p F i x
  | .op _ i v, .error j => ∀ F, AuR kd true v 0 F i (some j)
  | .op r i v, .ok k => (∀ F x, AuR kd false v 0 F k x → AuR kd true v 0 F i x) ∧ ∀ s, r ≤ s → kd k ≠ .bin s
  | .loop r i v, .error j => (∀ s, r < s → kd i ≠ .bin s) → ∀ F, AuR kd false v 0 F i (some j)
  | .loop r i v, .ok k => (∀ s, r < s → kd i ≠ .bin s) → (∀ F x, AuR kd false v 0 F k x → AuR kd false v 0 F i x) ∧ ∀ s, r ≤ s → kd k ≠ .bin s
theorem RdR.meets {kd : Nat → TK} (h3 : ∀ k r, kd k = .bin r → r < 3) {c : RCmd} {y : Except Nat Nat} (h : RdR kd c y) : Meets kd c y := by
  induction h with
  | @op3 i v x _ ih =>
    cases x with
    | error j => exact fun F => ih 0 F (Nat.zero_le _)
    | ok k => exact ⟨fun F x h => ih 0 F x (Nat.zero_le _) h, fun s hs z => by have := h3 _ _ z; omega⟩
  | opE h _ ih => exact ih
  | @opL r i v i' x h _ _ i1 i2 =>
    have g := i1.2
    cases x with
    | error j => exact fun F => i1.1 F _ (i2 (fun s hs => g s hs) F)
    | ok k =>
      have := i2 fun s hs => g s hs
      exact ⟨fun F x h => i1.1 F _ (this.1 F x h), this.2⟩
  | @loopN r i v h =>
    intro g
    refine ⟨fun F x h => h, fun s hs z => ?_⟩
    by_cases e : s = r
    · rw [e] at z; exact h z
    · exact g s (by omega) z
  | loopE h _ ih => exact fun _ F => .nBin h (ih F)
  | @loopL r i v i' x h _ _ i1 i2 =>
    have g := i1.2
    cases x with
    | error j => exact fun _ F => .nBin h (i1.1 F _ (i2 (fun s hs => g s hs) F))
    | ok k =>
      have := i2 fun s hs => g s hs
      exact fun _ => ⟨fun F x hx => .nBin h (i1.1 F _ (this.1 F x hx)), this.2⟩
  | atom h => exact fun p F x _ hx => .wAtom h hx
  | full h hv => exact fun p F _ => .wFull h hv
  | @un i v x h hv _ ih =>
    cases x with
    | error j => exact fun p F hp => .wUn h (by omega) (ih (p + 1) F (by omega))
    | ok k => exact fun p F x hp hx => .wUn h (by omega) (ih (p + 1) F x (by omega) (by rw [show v + 1 - (p + 1) = v - p by omega]; exact hx))
  | parE h hv _ ih => exact fun p F _ => .wPar h (by omega) (ih (p :: F))
  | @parC i v k h hv hk _ ih =>
    intro p F x hp hx
    refine .wPar h (by omega) (ih.1 (p :: F) x (.nClose hk ?_))
    rw [show v + 1 - 1 - p = v - p by omega]
    exact hx
  | parX h hv hk _ ih => exact fun p F _ => .wPar h (by omega) (ih.1 (p :: F) _ (.nBad (fun r => ih.2 r (Nat.zero_le _)) (fun z => absurd z hk) fun _ z => nomatch z))
  | bad h1 h2 h3 => exact fun p F _ => .wBad h1 h2 h3
/-- the whole text: the two agree -/
theorem RdR.whole {kd : Nat → TK} (h3 : ∀ k r, kd k = .bin r → r < 3) {y : Except Nat Nat} (h : RdR kd (.op 0 0 0) y) :
    AuR kd true 0 0 [] 0 (match y with | .error j => some j | .ok k => if kd k = .eof then none else some k) := by
  have g := h.meets h3
  cases y with
  | error j => exact g []
  | ok k =>
    refine g.1 [] _ ?_
    dsimp only
    split
    · rename_i e
      exact .nEnd e
    · rename_i e
      exact .nBad (fun r => g.2 r (Nat.zero_le _)) (fun _ => rfl) fun z => absurd z e
/-- the reader goes on -/
theorem RdR.more {kd : Nat → TK} {c : RCmd} {y : Except Nat Nat} (h : RdR kd c y) : match c, y with
    | .op _ i _, .ok k => i < k | .plain i _, .ok k => i < k | .loop _ i _, .ok k => i ≤ k | _, _ => True := by
  induction h with
  | @op3 i v x _ ih => cases x <;> exact ih
  | opE h _ ih => trivial
  | @opL r i v i' x h _ _ i1 i2 => cases x with
    | error j => trivial
    | ok k => exact Nat.lt_of_lt_of_le i1 i2
  | loopN h => exact Nat.le_refl _
  | loopE h _ ih => trivial
  | @loopL r i v i' x h _ _ i1 i2 => cases x with
    | error j => trivial
    | ok k => exact Nat.le_trans (Nat.le_of_lt (Nat.lt_trans (Nat.lt_succ_self _) i1)) i2
  | atom h => exact Nat.lt_succ_self _
  | full h hv => trivial
  | @un i v x h hv _ ih => cases x with
    | error j => trivial
    | ok k => exact Nat.lt_trans (Nat.lt_succ_self _) ih
  | parE h hv _ ih => trivial
  | parC h hv hk _ ih => exact Nat.lt_trans (Nat.lt_trans (Nat.lt_succ_self _) ih) (Nat.lt_succ_self _)
  | parX h hv hk _ ih => trivial
  | bad h1 h2 h3 => trivial
/-- the walk has one end -/
theorem AuR.det {kd : Nat → TK} {w : Bool} {v p k : Nat} {F : List Nat} {x y : Option Nat} (h : AuR kd w v p F k x) (h' : AuR kd w v p F k y) : x = y := by
  induction h generalizing y with
  | wFull h hv =>
    cases h' with
    | wFull => rfl
    | wPar h1 h2 => exact absurd hv h2
    | wUn h1 h2 => exact absurd hv h2
    | wAtom h1 => rcases h with h | h <;> (rw [h1] at h; exact nomatch h)
    | wBad h1 h2 h3 => rcases h with h | h
                       · exact absurd h h2
                       · exact absurd h h3
  | wPar h hv _ ih =>
    cases h' with
    | wFull _ h2 => exact absurd h2 hv
    | wPar _ _ g => exact ih g
    | wUn h1 => rw [h] at h1; exact nomatch h1
    | wAtom h1 => rw [h] at h1; exact nomatch h1
    | wBad h1 h2 h3 => exact absurd h h3
  | wUn h hv _ ih =>
    cases h' with
    | wFull _ h2 => exact absurd h2 hv
    | wPar h1 => rw [h] at h1; exact nomatch h1
    | wUn _ _ g => exact ih g
    | wAtom h1 => rw [h] at h1; exact nomatch h1
    | wBad h1 h2 h3 => exact absurd h h2
  | wAtom h _ ih =>
    cases h' with
    | wFull h1 => rcases h1 with h1 | h1 <;> (rw [h] at h1; exact nomatch h1)
    | wPar h1 => rw [h] at h1; exact nomatch h1
    | wUn h1 => rw [h] at h1; exact nomatch h1
    | wAtom _ g => exact ih g
    | wBad h1 h2 h3 => exact absurd h h1
  | wBad h1 h2 h3 =>
    cases h' with
    | wFull g => rcases g with g | g
                 · exact absurd g h2
                 · exact absurd g h3
    | wPar g => exact absurd g h3
    | wUn g => exact absurd g h2
    | wAtom g => exact absurd g h1
    | wBad => rfl
  | nBin h _ ih =>
    cases h' with
    | nBin _ g => exact ih g
    | nClose g => rw [h] at g; exact nomatch g
    | nEnd g => rw [h] at g; exact nomatch g
    | nBad g => exact absurd h (g _)
  | nClose h _ ih =>
    cases h' with
    | nBin g => rw [h] at g; exact nomatch g
    | nClose _ g => exact ih g
    | nBad _ g => exact nomatch g h
  | nEnd h =>
    cases h' with
    | nBin g => rw [h] at g; exact nomatch g
    | nEnd => rfl
    | nBad _ _ g => exact absurd rfl (g h)
  | nBad h1 h2 h3 =>
    cases h' with
    | nBin g => exact absurd g (h1 _)
    | nClose g => exact nomatch h2 g
    | nEnd g => exact absurd rfl (h3 g)
    | nBad => rfl
/-- the reader comes to an end: n places on, nothing but the end stands -/
theorem RdR.total {kd : Nat → TK} {n : Nat} (hn : ∀ k, n ≤ k → kd k = .eof) : ∀ (m i v : Nat), n ≤ i + m → v ≤ 12 → (∃ y, RdR kd (.plain i v) y) ∧ (∀ r, r ≤ 3 → ∃ y, RdR kd (.op r i v) y) ∧ (∀ r, r < 3 → ∃ y, RdR kd (.loop r i v) y) := by
  intro m
  induction m with
  | zero =>
    intro i v hi hv
    have e := hn i (by omega)
    have hp : ∃ y, RdR kd (.plain i v) y := ⟨_, .bad (by rw [e]; exact fun z => nomatch z) (by rw [e]; exact fun z => nomatch z) (by rw [e]; exact fun z => nomatch z)⟩
    have h3 : RdR kd (.op 3 i v) (.error i) := .op3 (.bad (by rw [e]; exact fun z => nomatch z) (by rw [e]; exact fun z => nomatch z) (by rw [e]; exact fun z => nomatch z))
    have h2 := RdR.opE (r := 2) (by decide) h3
    have h1 := RdR.opE (r := 1) (by decide) h2
    have h0 := RdR.opE (r := 0) (by decide) h1
    refine ⟨hp, fun r hr => ?_, fun r hr => ⟨_, .loopN (by rw [e]; exact fun z => nomatch z)⟩⟩
    have : r = 0 ∨ r = 1 ∨ r = 2 ∨ r = 3 := by omega
    rcases this with rfl | rfl | rfl | rfl
    · exact ⟨_, h0⟩
    · exact ⟨_, h1⟩
    · exact ⟨_, h2⟩
    · exact ⟨_, h3⟩
  | succ m ih =>
    intro i v hi hv
    have hp : ∃ y, RdR kd (.plain i v) y := by
      by_cases h1 : kd i = .atom
      · exact ⟨_, .atom h1⟩
      by_cases h2 : kd i = .un
      · by_cases h12 : v = 12
        · exact ⟨_, .full (.inl h2) h12⟩
        · obtain ⟨y, hy⟩ := (ih (i + 1) (v + 1) (by omega) (by omega)).1
          exact ⟨y, .un h2 (by omega) hy⟩
      by_cases h3 : kd i = .par
      · by_cases h12 : v = 12
        · exact ⟨_, .full (.inr h3) h12⟩
        · obtain ⟨y, hy⟩ := (ih (i + 1) (v + 1) (by omega) (by omega)).2.1 0 (by decide)
          cases y with
          | error j => exact ⟨_, .parE h3 (by omega) hy⟩
          | ok k =>
            by_cases hk : kd k = .close
            · exact ⟨_, .parC h3 (by omega) hk hy⟩
            · exact ⟨_, .parX h3 (by omega) hk hy⟩
      exact ⟨_, .bad h1 h2 h3⟩
    have loopAt : ∀ (r j : Nat), r < 3 → i ≤ j → ∃ y, RdR kd (.loop r j v) y := by
      intro r j hr hij
      by_cases hj : i < j
      · exact (ih j v (by omega) hv).2.2 r hr
      · obtain rfl : j = i := by omega
        by_cases hb : kd j = .bin r
        · obtain ⟨y, hy⟩ := (ih (j + 1) v (by omega) hv).2.1 (r + 1) (by omega)
          cases y with
          | error k => exact ⟨_, .loopE hb hy⟩
          | ok k =>
            have hm : j + 1 < k := hy.more
            obtain ⟨z, hz⟩ := (ih k v (by omega) hv).2.2 r hr
            exact ⟨z, .loopL hb hy hz⟩
        · exact ⟨_, .loopN hb⟩
    have o3 : ∃ y, RdR kd (.op 3 i v) y := by
      obtain ⟨y, hy⟩ := hp
      exact ⟨y, .op3 hy⟩
    have down : ∀ r, r < 3 → (∃ y, RdR kd (.op (r + 1) i v) y) → ∃ y, RdR kd (.op r i v) y := by
      intro r hr ⟨y, hy⟩
      cases y with
      | error j => exact ⟨_, .opE hr hy⟩
      | ok k =>
        have hm : i < k := hy.more
        obtain ⟨z, hz⟩ := loopAt r k hr (by omega)
        exact ⟨z, .opL hr hy hz⟩
    have o2 := down 2 (by decide) o3
    have o1 := down 1 (by decide) o2
    have o0 := down 0 (by decide) o1
    refine ⟨hp, fun r hr => ?_, fun r hr => loopAt r i hr (Nat.le_refl _)⟩
    have : r = 0 ∨ r = 1 ∨ r = 2 ∨ r = 3 := by omega
    rcases this with rfl | rfl | rfl | rfl
    · exact o0
    · exact o1
    · exact o2
    · exact o3
end G
namespace G
def RCmd.place : RCmd → Nat
  | .op _ i _ => i
  | .loop _ i _ => i
  | .plain i _ => i
/-- where nothing but the end stands from n on, the reader stays within -/
theorem RdR.within {kd : Nat → TK} {n : Nat} (hn : ∀ k, n ≤ k → kd k = .eof) {c : RCmd} {y : Except Nat Nat} (h : RdR kd c y) : c.place ≤ n → (∀ k, y = .ok k → k ≤ n) ∧ ∀ k, y = .error k → k ≤ n := by
  have lt : ∀ {i : Nat} {t : TK}, kd i = t → t ≠ .eof → i + 1 ≤ n := fun {i t} h ht => by
    rcases Nat.lt_or_ge i n with g | g
    · exact g
    · exact absurd (h.symm.trans (hn i g)) ht
  have er : ∀ {j : Nat}, j ≤ n → (∀ k, (Except.error j : Except Nat Nat) = .ok k → k ≤ n) ∧ ∀ k, (Except.error j : Except Nat Nat) = .error k → k ≤ n := fun h => ⟨(fun k e => nomatch e), fun k e => by cases e; exact h⟩
  have ok : ∀ {j : Nat}, j ≤ n → (∀ k, (Except.ok j : Except Nat Nat) = .ok k → k ≤ n) ∧ ∀ k, (Except.ok j : Except Nat Nat) = .error k → k ≤ n := fun h => ⟨(fun k e => by cases e; exact h), (fun k e => nomatch e)⟩
  induction h with
  | op3 _ ih => exact ih
  | opE h _ ih => exact fun hi => er ((ih hi).2 _ rfl)
  | opL h _ _ i1 i2 => exact fun hi => i2 ((i1 hi).1 _ rfl)
  | loopN h => exact fun hi => ok hi
  | loopE h _ ih => exact fun hi => er ((ih (lt h (fun z => nomatch z))).2 _ rfl)
  | loopL h _ _ i1 i2 => exact fun hi => i2 ((i1 (lt h (fun z => nomatch z))).1 _ rfl)
  | atom h => exact fun hi => ok (lt h (fun z => nomatch z))
  | full h hv => exact fun hi => er hi
  | un h hv _ ih => exact fun hi => ih (lt h (fun z => nomatch z))
  | parE h hv _ ih => exact fun hi => er ((ih (lt h (fun z => nomatch z))).2 _ rfl)
  | parC h hv hk _ ih => exact fun hi => ok (lt hk (fun z => nomatch z))
  | parX h hv hk _ ih => exact fun hi => er ((ih (lt h (fun z => nomatch z))).1 _ rfl)
  | bad h1 h2 h3 => exact fun hi => er hi
end G
set_option Elab.async false
set_option linter.all false
set_option maxRecDepth 100000
set_option maxHeartbeats 4000000
namespace G
open PySem PySem.Spec PyProof.Rows L2
/-! ### own errors with an __init__ that says super().__init__(..) and keeps one field -/
/-- what the two levels of the class tell -/
structure SupC (K : PySem.W.Frag) (D : Addr) : Prop where
  T : OexC K D
  so : PySem.W.ks_superIn K D D "__init__" = some (some (.builtin "ValueError.__init__"))
  me : PySem.W.mroIn K D (.ref D) = some true
  ve : PySem.W.subIn K (.ref D) (.type "ValueError") = some true
  op : PySem.W.nsIn K cStatics "thirdparty.any" = some none
section
variable {prog : Program} {w : World} {M : Model} {A : Around} {E : Value → Shared → Prop} {h : Heap} {g : Array GenState} {d : Drawn} {t : Nat} {os : OsState} {K : PySem.W.Frag} {D u e t0 : Addr} {rest : List Value}
/-- the wrapper of ValueError.__init__, called -/
theorem sup_call {Q : Value → Shared → Prop} (X : K.In h) (S : SupC K D) (he : h.get? e = some (HandSPX.excO D t0)) (hu : h.get? u = some (PySem.W.kxs_mw "ValueError.__init__" e)) (hr : rest.length ≤ sizeLine)
    (hq : ∀ h' t1, (∀ b o, b ≠ e → h.get? b = some o → h'.get? b = some o) → h'.get? e = some (HandSPX.excO D t1) → Q .none ⟨h', g, d, t, os⟩) :
    wpAny (model prog w) A (call (.ref u) rest) Q E ⟨h, g, d, t, os⟩ := by
  obtain ⟨nm, q, N, bs, bm, sn, sub, ab, col, dd, k0, k1, k2, k3, k5, hC, hbm⟩ := S.T.cls
  have hC' := X _ _ hC
  refine wpAny_call (codeAny_of_tree ?_)
  show wpAny _ A.in1 (callAny (.ref u) ⟨rest, []⟩) _ _ _
  simp only [callAny]
  refine wpAny_bind (wpAny_load hu ?_)
  simp only [PySem.W.kxs_mw, show (Value.type "method-wrapper" == Value.type "method" || Value.type "method-wrapper" == Value.type "builtin_function_or_method" || Value.type "method-wrapper" == Value.type "method-wrapper") = true by decide, if_true]
  refine PySem.W.KFB.if_so (by decide) ?_
  refine wpAny_bind (PySem.W.check_bound_init F.excBase_ValueError.toExcCallFacts hC' he rfl ?_)
  refine wpAny_bind (wpAny_pure (wpAny_pure ?_))
  refine ⟨plainId_quiet F.excBase_ValueError.init.plain _, codeAny_builtin F.excBase_ValueError.initEntry ?_⟩
  exact PySem.W.exc_init_tree (cls := .ref D) (t0 := t0) (dv := none) (c2 := .none) (c3 := .none) (b4 := .bool false) he hr fun h' k e' _ => hq h' _ k e'
end
end G
namespace G
open PySem PySem.Spec PyProof.Rows L2
abbrev supBody (fld : Str) (arg : Expr) (p0 p1 p2 p3 p4 p5 p6 p7 p8 : Pos) : List Stmt :=
  [.Expr (.Call (.Attribute (.Call (.Name "super" p0) [] [] p1) "__init__" p2) [arg] [] p3) p4, .Assign [.Attribute (.Name "self" p5) fld p6] (.Name fld p7) p8]
structure SupS (fld : Str) (sc : Scope) : Prop where
  kind : sc.kind = .function
  co : sc.isCoroutine = false
  gen : sc.isGenerator = false
  su : sc.names.lookup ("super" : Str) = some .globalImplicit
  cl : sc.names.lookup ("__class__" : Str) = some .free
  se : sc.names.lookup ("self" : Str) = some .local
  fl : sc.names.lookup fld = some .local
  nc : ∀ x ∈ sc.names, x.2 ≠ .cell
  of : ∀ x ∈ sc.names, x.2 = .free → x.1 = "__class__"
/-- the def of such an __init__ -/
structure SupD (K : PySem.W.Frag) (P : Program) (D f : Addr) (fd : FuncData) (fld : Str) (arg : Expr) : Prop where
  ex : ∃ (oc : Value) (od : Option Addr) (name qual : Str) (sc : Scope) (kV doc pm ct : Value) (an : Option Addr) (osl : Array (Option Value)) (cda cc : Addr) (a0 a1 : Option Expr) (q0 q1 p0 p1 p2 p3 p4 p5 p6 p7 p8 : Pos),
    fd = PySem.W.ksFn name qual ⟨[], [⟨"self", a0, q0⟩, ⟨fld, a1, q1⟩], none, [], [], none, []⟩ (supBody fld arg p0 p1 p2 p3 p4 p5 p6 p7 p8) sc .none kV doc pm an (.ref cda) ct cc ∧
    K.lookup f = some ⟨oc, od, .func fd, osl⟩ ∧ PySem.W.codeIn K (.ref cda) qual = true ∧ SupS fld sc ∧ (p2.endLine == p3.line) = true ∧
    (∃ ccl cdd vs ccs file tf, K.lookup cda = some ⟨ccl, cdd, .fields vs, ccs⟩ ∧ vs[2]? = some (.str file tf) ∧ ((P.main.file : Str) == file) = true) ∧
    (∃ cl cld csl, K.lookup cc = some ⟨cl, cld, .cell (some (.ref D)), csl⟩)
  top : (P.main.scope.names.lookup ("super" : Str)).isSome = false
def spSup (D : Addr) (fld : Str) (Gd : V → Prop) : Sp := fun vs H Q _ => ∃ a x, vs = [.ref a, x] ∧ Gd x ∧ H a = some (exo a D none) ∧ ∀ dx, H dx = none → dx ≠ a → Q .non (upd (upd H dx (exd dx [(fld, x)])) a (exo a D (some dx)))
/-- the context of such a body -/
def cxSup (CX : CXT) (P : Program) (w : World) (K : PySem.W.Frag) (mg : Str → Option Value) (base : Heap) (N : List Str) (env : Env) (A : Around) (outer : List Env) (s : Shared) (H : Hp) (E : XK) : Cx where
  prog := P
  w := w
  K := K
  mg := mg
  base := base
  A := A.deeper env
  N := N
  s_0 := s
  H_0 := H
  env := env
  outer := outer
  stack := env :: outer
  ex := []
  calm := true
  fn := fun _ => false
  pn := []
  xe := fun e s' => wpAny (model P w) (A.deeper env) (leaving env e) (fun _ s'' => CX outer H s E e s'') (fun e' s'' => CX outer H s E e' s'') s'
section
variable {P : Program} {w : World} {K : PySem.W.Frag} {mg : Str → Option Value} {base : Heap} {CX : CXT} {k : Nat} {f D : Addr} {fd : FuncData} {fld : Str} {arg : Expr}
theorem sup_inv {A : Around} {outer : List Env} {s : Shared} {H : Hp} {E : XK} {qual : Str} {sc : Scope} {cda cc : Addr} {u0 u1 : Value} {v0 v1 : V} {h0 : Heap} {tk : Nat} (S : SupS fld sc) (hd : A.handled = none) (e0 : Env0 P w K mg base A outer s H) (r0 : RelV v0 u0) (r1 : RelV v1 u1) (hfs : fld ≠ "self")
    (hcell : ∃ cl cld csl, K.lookup cc = some ⟨cl, cld, .cell (some (.ref D)), csl⟩)
    (hns : h0.Ns s.heap.objs.size (fun x => ((["self", fld] : List Str).zip [u0, u1]).reverse.lookup x)) (hk : ∀ b o, s.heap.get? b = some o → h0.get? b = some o) :
    Inv (cxSup CX P w K mg base ["self", fld] (PySem.W.ksEnv qual sc s.heap.objs.size f (.ref cda) cc) A outer s H E) [] [some v0, some v1] H { s with heap := h0, toks := tk } := by
  obtain ⟨cl, cld, csl, hcc⟩ := hcell
  have hb := e0.mod.kin _ _ hcc
  obtain ⟨hs, hH⟩ := e0.bs _ _ hb
  have noA : ∀ b : Addr, b ∉ (cxSup CX P w K mg base ["self", fld] (PySem.W.ksEnv qual sc s.heap.objs.size f (.ref cda) cc) A outer s H E).ex := fun b z => absurd (show b ∈ ([] : List Addr) from z) (by simp)
  have lk1 : ∀ {x : Str} {c : Addr}, ([("__class__", cc)] : List (Str × Addr)).lookup x = some c → x = "__class__" ∧ c = cc := fun {x c} e => by
    simp only [List.lookup_cons, List.lookup_nil] at e
    split at e
    · rename_i q
      exact ⟨by simpa using q, (Option.some.inj e).symm⟩
    · cases e
  have hmem : ∀ {sc : List (Str × NameKind)} {x : Str} {kd : NameKind}, sc.lookup x = some kd → (x, kd) ∈ sc := fun h => PySem.mem_of_lookup h
  refine ⟨⟨e0.mod, S.kind, rfl, rfl, Nat.le_refl _, fun y z c h1 h2 => ?_, fun y hy => ?_, fun y c h => absurd h Bool.false_ne_true, fun _ => hd, Around.frames_deeper e0.frames, .inr ⟨rfl, rfl⟩, fun b z => absurd z (noA b), e0.bs, e0.bsz, fun b _ _ => noA b, fun b z => absurd z (noA b), e0.funs, e0.frf⟩,
    rfl, e0.bare, Un.kept hk, ⟨_, hns, fun i y v h1 h2 h3 => ?_⟩, fun y c h => ?_, e0.hok.fresh (Nat.le_refl _), fun y c h => ?_, fun p hp => absurd (show p ∈ ([] : List (Addr × Obj)) from hp) (by simp), e0.hok.kept hk, rfl⟩
  · rw [(lk1 h1).1, (lk1 h2).1]
  · have hy : sc.names.lookup y = some .cell ∨ sc.names.lookup y = some .free := hy
    rcases hy with hy | hy
    · exact absurd rfl (S.nc _ (hmem hy))
    · obtain rfl : y = "__class__" := S.of _ (hmem hy) rfl
      exact ⟨cc, rfl⟩
  · match i, h1, h2 with
    | 0, h1, h2 =>
      have e1 : y = "self" := (Option.some.inj h1).symm
      have e2 : v = v0 := (Option.some.inj (Option.some.inj h2)).symm
      subst e1 e2
      refine ⟨u0, r0, .inl ⟨S.se, ?_⟩⟩
      show List.lookup ("self" : Str) ([(fld, u1), ("self", u0)] : List (Str × Value)) = some u0
      rw [List.lookup_cons, show (("self" : Str) == fld) = false from beq_eq_false_iff_ne.mpr (Ne.symm hfs)]
      rfl
    | 1, h1, h2 =>
      have e1 : y = fld := (Option.some.inj h1).symm
      have e2 : v = v1 := (Option.some.inj (Option.some.inj h2)).symm
      subst e1 e2
      refine ⟨u1, r1, .inl ⟨S.fl, ?_⟩⟩
      show List.lookup y ([(y, u1), ("self", u0)] : List (Str × Value)) = some u1
      rw [List.lookup_cons, show (y == y) = true from beq_self_eq_true _]
    | n + 2, h1, h2 => cases h2
  · obtain ⟨_, rfl⟩ := lk1 h
    exact ⟨_, _, hk _ _ hs, rfl⟩
  · obtain ⟨_, rfl⟩ := lk1 h
    exact hH
theorem ok_sup {ta : TA} {Gd : V → Prop} (S : SupC K D) (F : SupD K P D f fd fld arg) (hmg : mg "super" = none) (hno : PySem.W.findIn K (.ref D) fld = some none) (hfs : fld ≠ "self") (hdb : (fld == ("__debug__" : Str)) = false) (hcd : (fld == ("__classdict__" : Str)) = false)
    (harg : ∀ X : Cx, X.K = K → X.N = (["self", fld] : List Str) → X.env.scope.names.lookup fld = some .local → PA X [arg] ta)
    (hst : ∀ env, starEach [arg] env = (false, eval arg env) :: starEach [] env)
    (hta : ∀ a x H (R : List V → Hp → Prop), Gd x → (∀ y, R [.str y] H) → ta [some (.ref a), some x] H R)
    (hmc : ∀ env p0 p1 p2 p3, ((p2 : Pos).endLine == (p3 : Pos).line) = true → ∃ pl, eval (.Call (.Attribute (.Call (.Name "super" p0) [] [] p1) "__init__" p2) [arg] [] p3) env = (do
      let ov ← attributeBase (.Call (.Name "super" p0) [] [] p1) "__init__" env (eval (.Call (.Name "super" p0) [] [] p1) env)
      standAt p2.atName
      let (f, first) ← holding [ov] (getMethod ov "__init__" pl)
      callWith p3 f first (backTo p3 (starEach [arg] env)) []))
    : FnOk P w K mg base CX (k + 1) f fd (["self", fld] : List Str) (spSup D fld Gd) := by
  refine ⟨fun vs H Q E h => by obtain ⟨a, x, rfl, _⟩ := h; rfl, fun A outer s H args us vs Q E hr e0 hb r hsp => ?_⟩
  obtain ⟨a, x, rfl, gx, ea, q⟩ := hsp
  obtain ⟨oc, od, name, qual, sc, kV, doc, pm, ct, an, osl, cda, cc, a0, a1, q0, q1, p0, p1, p2, p3, p4, p5, p6, p7, p8, rfl, lk, hcode, SS, hline, hfile, hcell⟩ := F.ex
  have KX : K.In s.heap := e0.mod.kin.keeps fun b o e => (e0.bs b o e).1
  have lim : s.heap.NoLimit := e0.mod.nolimit.keeps fun b o e => (e0.bs b o e).1
  obtain ⟨w0, u1, rfl, rw0, r1⟩ : ∃ w0 u1, us = [w0, u1] ∧ RelV (.ref a) w0 ∧ RelV x u1 := by
    cases r with
    | @cons _ u0 _ ur ra rb =>
      cases rb with
      | @cons _ u1 _ ur2 rc rd =>
        cases rd
        exact ⟨_, _, rfl, ra, rc⟩
  obtain rfl : w0 = Value.ref a := rw0
  refine PySem.ks_codeAny_call_defAt (fd := PySem.W.ksFn name qual _ (supBody fld arg p0 p1 p2 p3 p4 p5 p6 p7 p8) sc .none kV doc pm an (.ref cda) ct cc) (binds := (["self", fld] : List Str).zip [.ref a, u1]) hr.depth (KX _ _ lk) rfl lim (PySem.W.codeRec_of KX hcode) rfl hb SS.nc (fun y hy => ?_) (fun h0 hns hk => ?_) SS.co SS.gen SS.kind
  · rcases List.mem_cons.mp hy with rfl | hy
    · exact SS.se
    · rcases List.mem_cons.mp hy with rfl | hy
      · exact SS.fl
      · cases hy
  have I : Inv (cxSup CX P w K mg base ["self", fld] (PySem.W.ksEnv qual sc s.heap.objs.size f (.ref cda) cc) A outer s H E) [] [some (.ref a), some x] H { s with heap := h0, toks := s.toks + 2 } :=
    sup_inv SS hr.hd e0 rfl r1 hfs hcell hns hk
  have hX : ∃ X, X = cxSup CX P w K mg base ["self", fld] (PySem.W.ksEnv qual sc s.heap.objs.size f (.ref cda) cc) A outer s H E := ⟨_, rfl⟩
  obtain ⟨X, eX⟩ := hX
  have eenv : X.env = PySem.W.ksEnv qual sc s.heap.objs.size f (.ref cda) cc := by rw [eX]; rfl
  have eA : X.A = A.deeper (PySem.W.ksEnv qual sc s.heap.objs.size f (.ref cda) cc) := by rw [eX]; rfl
  have eK : X.K = K := by rw [eX]; rfl
  have eN : X.N = (["self", fld] : List Str) := by rw [eX]; rfl
  have ep : X.prog = P := by rw [eX]; rfl
  have ew : X.w = w := by rw [eX]; rfl
  have pa : PA X [arg] ta := harg X eK eN (by rw [eenv]; exact SS.fl)
  subst eX
  obtain ⟨ccl, cdd, vs0, ccs, file, tf, hcda, hvs, hfl⟩ := hfile
  obtain ⟨cl, cld, csl, hcc⟩ := hcell
  have KI : K.In h0 := by have z := I.kIn; rw [eK] at z; exact z
  obtain ⟨cdD, hcdD⟩ : ∃ cd, PySem.W.clsIn K D = some cd := by
    obtain ⟨nm, q, N, bs, bm, sn, sub, ab, col, dd, k0, k1, k2, k3, k5, hC, hbm⟩ := S.T.cls
    exact ⟨_, by unfold PySem.W.clsIn; rw [hC]⟩
  obtain ⟨oD, hD1, hD2⟩ : ∃ oD, h0.get? D = some oD ∧ oD.data = .cls cdD := by
    unfold PySem.W.clsIn at hcdD
    split at hcdD
    · rename_i c d cd' sl ho
      cases hcdD
      exact ⟨_, KI _ _ ho, rfl⟩
    · cases hcdD
  obtain ⟨t1, hex⟩ := exo_at I.hok ea
  obtain ⟨pl, hpl⟩ := hmc (PySem.W.ksEnv qual sc s.heap.objs.size f (.ref cda) cc) p0 p1 p2 p3 hline
  refine PySem.ks_wpAt_execs_cons (PySem.ks_wpAt_Expr_any (PySem.ks_wpAt_MethodCall ?_ hpl) I.quiet (by rfl))
  refine PySem.ks_wpAt_super_base (env := PySem.W.ksEnv qual sc s.heap.objs.size f (.ref cda) cc) SS.su SS.cl (by decide) rfl (KI _ _ lk) rfl rfl rfl (KI _ _ hcda) rfl hvs hfl F.top ?_
  obtain ⟨mb, hb1, hb2⟩ := e0.mod.blt
  have bk : ∀ b o, base.get? b = some o → h0.get? b = some o := fun b o e => hk _ _ (e0.bs b o e).1
  refine PySem.W.ks_loadName_global SS.kind SS.su (Calls.loadGlobal_builtin (env := PySem.W.ksEnv qual sc s.heap.objs.size f (.ref cda) cc) (e0.mod.glob.keeps bk) hmg (hb1.keeps bk) ((hb2 "super" (by decide)).trans (show bootBuiltins "super" = some (.type "super") from PyProof.Rows.Boot.super)) ⟨rfl, ?_⟩)
  refine wpAny_loadName_free SS.kind SS.cl rfl ⟨_, KI _ _ hcc, rfl⟩ ?_
  refine wpAny_loadName_local SS.kind SS.se hns (v := .ref a) ?_ ?_
  · show List.lookup ("self" : Str) ([(fld, u1), ("self", .ref a)] : List (Str × Value)) = some (Value.ref a)
    rw [List.lookup_cons, show (("self" : Str) == fld) = false from beq_eq_false_iff_ne.mpr (Ne.symm hfs)]
    rfl
  refine PySem.ks_wpAny_isType_cls hD1 hD2 ⟨rfl, ?_⟩
  refine PySem.ks_wpAny_call_super hD1 hD2 hex rfl (fun c e => nomatch e) (PySem.W.looks_mroIn KI S.me) (fun h1 hso hk1 => ?_)
  have I1 := I.kept (t' := s.toks + 2) hk1
  have K1 : K.In h1 := KI.keeps hk1
  have hI : PySem.W.Looks (model P w) h1 (isInstance (.ref a) (.type "ValueError")) true := (show PySem.W.InstAt h1 a _ D none from ⟨hk1 _ _ hex, rfl, rfl, trivial⟩).type.andThen (PySem.W.looks_subIn K1 S.ve)
  have haD : a ≠ D := fun z => by
    rw [z, hD1] at hex
    cases hex
    cases hD2
  have hsup := S.so
  unfold PySem.W.ks_superIn at hsup
  rw [hcdD] at hsup
  refine PySem.W.kxs_getMethod PySem.W.kxs_ValueError hso (PySem.W.looks_opaque K1 S.op) (l₀ := cdD.mro) (fun A Q E s k q => wpAny_bind ((PySem.W.looks_clsIn K1 hcdD) A _ E s k (wpAny_pure q))) rfl K1 hsup hI haD (by decide) ?_
  have I2 := ClX.pin_new (o := PySem.W.kxs_mw "ValueError.__init__" a) (t' := s.toks + 2 + 1) I1 (fun _ _ z => Heap.get?_push_of_some _ z) (Nat.le_refl _) (Heap.get?_push_size h1 rfl) (fun v z => nomatch z)
  have hrun := pa.run p3 _ _ _ H (fun ws H' => H' = H ∧ ∃ y, ws = [.str y]) I2 (hta a x H _ gx fun y => ⟨rfl, y, rfl⟩)
  refine PySem.W.kxs_callWith (i := "ValueError.__init__") (x := a) (by rw [hst]; rfl) ?_
  rw [hst] at hrun ⊢
  refine Calls.evalArgs_plain (wpAny_mono hrun (fun ws s1 hws => ?_) fun _ _ z => z)
  obtain ⟨vs, H1, I3, rv, eH, y, ev⟩ := hws
  subst eH ev
  refine ⟨ClX.pin_at I3, ?_⟩
  obtain ⟨t2, hex2⟩ := exo_at I3.hok ea
  have hlen : ws.length ≤ sizeLine := by rw [← rv.length, sizeLine_eq]; show (1 : Nat) ≤ _; omega
  obtain ⟨hh, g, dr, tk, os⟩ := s1
  refine sup_call (rest := ws) I3.kIn S hex2 (ClX.pin_at I3) hlen fun h' t3 k3 e3 => ?_
  have J := I3.write (t' := tk) (x := a) (e := a) (o := exo a D none) (by rw [ea]; exact True.intro) (.inl rfl) k3 ⟨_, e3⟩ (exo_ok e3)
  have eu : upd H1 a (exo a D none) = H1 := by
    funext b
    by_cases hb : b = a
    · rw [hb, upd_same, ea]
    · rw [upd_ne hb]
  rw [eu] at J
  have J2 := ClX.unpin J
  refine wpAt_of_wpAny (wpAny_mono ((pss_one (ps_ost (pe_var (i := 0) rfl (.inl SS.se)) (pe_var (i := 1) rfl (.inl SS.fl) hdb hcd) (by rfl))).run [] _ _ H1 { nx := fun _ H' => Q .non H', rt := fun _ _ => False } J2 ?_) (fun fl s' hs => ?_) fun _ _ z => z)
  · refine ⟨_, rfl, _, rfl, a, D, rfl, S.T, hno, .inl ⟨ea, fun dx n1 n2 => ?_⟩⟩
    exact q dx n1 n2
  · cases fl with
    | next =>
      obtain ⟨σ', H', J3, q3⟩ := hs
      exact ⟨.non, H', J3.os, J3.bare, J3.base, J3.hok, rfl, q3⟩
    | ret u =>
      obtain ⟨_, _, _, _, _, z⟩ := hs
      exact z.elim
    | brk =>
      obtain ⟨_, _, _, z⟩ := hs
      exact z.elim
    | cont =>
      obtain ⟨_, _, _, z⟩ := hs
      exact z.elim
end
end G
namespace G
open PySem PySem.Spec PyProof.Rows L2
/-! ### the shape of such a def, read off K -/
def supBodyB (fld : Str) : List Stmt → Option Expr
  | [.Expr (.Call (.Attribute (.Call (.Name su _) [] [] _) ini p2) [arg] [] p3) _, .Assign [.Attribute (.Name se _) f2 _] (.Name f3 _) _] => if (p2.endLine == p3.line) = true ∧ su = "super" ∧ ini = "__init__" ∧ se = "self" ∧ f2 = fld ∧ f3 = fld then some arg else none
  | _ => none
theorem supBodyB_ok {fld : Str} {b : List Stmt} {arg : Expr} (h : supBodyB fld b = some arg) : ∃ p0 p1 p2 p3 p4 p5 p6 p7 p8, b = supBody fld arg p0 p1 p2 p3 p4 p5 p6 p7 p8 ∧ (p2.endLine == p3.line) = true := by
  unfold supBodyB at h
  split at h
  · split at h
    · rename_i hh
      obtain ⟨hl, rfl, rfl, rfl, rfl, rfl⟩ := hh
      cases h
      exact ⟨_, _, _, _, _, _, _, _, _, rfl, hl⟩
    · cases h
  · cases h
def supParB (fld : Str) : Arguments → Bool
  | ⟨[], [⟨se, _, _⟩, ⟨fl, _, _⟩], none, [], [], none, []⟩ => decide (se = "self" ∧ fl = fld)
  | _ => false
theorem supParB_ok {fld : Str} {p : Arguments} (h : supParB fld p = true) : ∃ a0 q0 a1 q1, p = ⟨[], [⟨"self", a0, q0⟩, ⟨fld, a1, q1⟩], none, [], [], none, []⟩ := by
  unfold supParB at h
  split at h
  · obtain ⟨rfl, rfl⟩ := of_decide_eq_true h
    exact ⟨_, _, _, _, rfl⟩
  · cases h
def supScB (fld : Str) (sc : Scope) : Bool := decide (sc.kind = .function) && (!sc.isCoroutine && (!sc.isGenerator && (decide (sc.names.lookup ("super" : Str) = some .globalImplicit) && (decide (sc.names.lookup ("__class__" : Str) = some .free) && (decide (sc.names.lookup ("self" : Str) = some .local) && (decide (sc.names.lookup fld = some .local) &&
  (sc.names.all (fun x => !decide (x.2 = .cell)) && sc.names.all fun x => !decide (x.2 = .free) || decide (x.1 = "__class__"))))))))
theorem supScB_ok {fld : Str} {sc : Scope} (h : supScB fld sc = true) : SupS fld sc := by
  unfold supScB at h
  simp only [Bool.and_eq_true, decide_eq_true_eq, Bool.not_eq_true', List.all_eq_true, Bool.or_eq_true, decide_eq_false_iff_not] at h
  obtain ⟨a1, a2, a3, a4, a5, a6, a7, a8, a9⟩ := h
  exact ⟨a1, a2, a3, a4, a5, a6, a7, a8, fun x hx hf => (a9 x hx).resolve_left fun z => z hf⟩
/-- the argument: a text, or an f-string of a text and the field's number -/
def supArgT : Expr → Bool
  | .Constant (.str _) _ _ => true
  | _ => false
def supArgF (fld : Str) : Expr → Bool
  | .JoinedStr [.Constant (.str s) _ _, .FormattedValue (.Name x _) c none _] _ => decide (x = fld ∧ c = -1 ∧ s.length ≤ 2000)
  | _ => false
def Gnum (x : V) : Prop := ∃ i : Int, x = .int i ∧ i.natAbs < 1000000
def supFdB (pr : Program) (K : PySem.W.Frag) (D : Addr) (fld : Str) (num : Bool) (fd : FuncData) : Bool := match fd with
  | ⟨_, qual, params, .stmts body, sc, gl, [(cn, cc)], .none, _, _, _, _, .ref cda, _, bt⟩ => PySem.W.codeIn K (.ref cda) qual && (supParB fld params && (supScB fld sc && (decide (gl = mainGlobals ∧ bt = builtinsNs ∧ cn = "__class__") &&
    ((match K.lookup cda with
      | some ⟨_, _, .fields vs, _⟩ => (match (vs[2]? : Option Value) with
        | some (.str file _) => (pr.main.file : Str) == file
        | _ => false)
      | _ => false) && ((match K.lookup cc with
      | some ⟨_, _, .cell (some (.ref D')), _⟩ => decide (D' = D)
      | _ => false) && (match supBodyB fld body with
      | some arg => if num then supArgF fld arg else supArgT arg
      | none => false))))))
  | _ => false
theorem supFdB_ok {pr : Program} {K : PySem.W.Frag} {D f : Addr} {fld : Str} {num : Bool} {fd : FuncData} {oc : Value} {od : Option Addr} {osl : Array (Option Value)} (h : supFdB pr K D fld num fd = true) (lk : K.lookup f = some ⟨oc, od, .func fd, osl⟩) (ht : (pr.main.scope.names.lookup ("super" : Str)).isSome = false) :
    ∃ arg, SupD K pr D f fd fld arg ∧ (if num then supArgF fld arg else supArgT arg) = true := by
  unfold supFdB at h
  split at h
  · rename_i name qual params body sc gl cn cc kV doc pm an cda ct bt
    simp only [Bool.and_eq_true] at h
    obtain ⟨c1, c2, c3, c4, c5, c6, c7⟩ := h
    obtain ⟨a0, q0, a1, q1, rfl⟩ := supParB_ok c2
    obtain ⟨rfl, rfl, rfl⟩ := of_decide_eq_true c4
    cases hb : supBodyB fld body with
    | none => rw [hb] at c7; cases c7
    | some arg =>
      rw [hb] at c7
      obtain ⟨p0, p1, p2, p3, p4, p5, p6, p7, p8, rfl, hl⟩ := supBodyB_ok hb
      refine ⟨arg, ⟨⟨_, _, _, _, _, _, _, _, _, _, _, _, _, _, _, _, _, _, _, _, _, _, _, _, _, _, rfl, lk, c1, supScB_ok c3, hl, ?_, ?_⟩, ht⟩, c7⟩
      · split at c5
        · split at c5
          · rename_i h1 _ _ _ h2
            exact ⟨_, _, _, _, _, _, h1, h2, c5⟩
          · cases c5
        · cases c5
      · split at c6
        · rename_i h1
          obtain rfl := of_decide_eq_true c6
          exact ⟨_, _, _, h1⟩
        · cases c6
  · cases h
theorem eval_sup {arg : Expr} {env : Env} {p0 p1 p2 p3 : Pos} (hl : (p2.endLine == p3.line) = true) (hf : starEach [arg] env = [(false, eval arg env)]) : ∃ pl, eval (.Call (.Attribute (.Call (.Name "super" p0) [] [] p1) "__init__" p2) [arg] [] p3) env = (do
      let ov ← attributeBase (.Call (.Name "super" p0) [] [] p1) "__init__" env (eval (.Call (.Name "super" p0) [] [] p1) env)
      standAt p2.atName
      let (f, first) ← holding [ov] (getMethod ov "__init__" pl)
      callWith p3 f first (backTo p3 (starEach [arg] env)) []) := by
  have hform : methodCallForm (([arg] : List Expr).length + ([] : List Keyword).length) (backTo p3 (starEach [arg] env)) (backToKw p3 (keywordEach [] env)) = true := by rw [hf]; rfl
  have hpos : methodCallPos true (.Call (.Name "super" p0) [] [] p1) env p2 p3 = pure p3 := by unfold methodCallPos; simp [hl]
  refine ⟨(do return (← importBound (.Call (.Name "super" p0) [] [] p1) env).getD true), ?_⟩
  rw [arm_eval_Call]
  unfold methodCall
  simp only [hform, calleeOf, if_true, hpos, pure_bind]
  rfl
theorem pe_supT {arg : Expr} (h : supArgT arg = true) : ∃ s : Str, (∀ X : Cx, PA X [arg] (tCons (tC (.str s)) tNil)) ∧ (∀ env, starEach [arg] env = (false, eval arg env) :: starEach [] env) ∧ (∀ env p0 p1 p2 p3, ((p2 : Pos).endLine == (p3 : Pos).line) = true → ∃ pl, eval (.Call (.Attribute (.Call (.Name "super" p0) [] [] p1) "__init__" p2) [arg] [] p3) env = (do
      let ov ← attributeBase (.Call (.Name "super" p0) [] [] p1) "__init__" env (eval (.Call (.Name "super" p0) [] [] p1) env)
      standAt p2.atName
      let (f, first) ← holding [ov] (getMethod ov "__init__" pl)
      callWith p3 f first (backTo p3 (starEach [arg] env)) [])) := by
  unfold supArgT at h
  split at h
  · exact ⟨_, fun X => pa_cons pe_str pa_nil, fun _ => rfl, fun _ _ _ _ _ hl => eval_sup hl rfl⟩
  · cases h
theorem pe_supF {fld : Str} {arg : Expr} (hdb : (fld == ("__debug__" : Str)) = false) (hcd : (fld == ("__classdict__" : Str)) = false) (h : supArgF fld arg = true) : ∃ s : Str, s.length ≤ 2000 ∧ (∀ X : Cx, X.N = (["self", fld] : List Str) → X.env.scope.names.lookup fld = some .local → PA X [arg] (tCons (fun σ H Q => tJs [tC (.str s), tFmt (tVar 1)] Str.empty σ H fun out H1 => Q (.str out) H1) tNil)) ∧ (∀ env, starEach [arg] env = (false, eval arg env) :: starEach [] env) ∧ (∀ env p0 p1 p2 p3, ((p2 : Pos).endLine == (p3 : Pos).line) = true → ∃ pl, eval (.Call (.Attribute (.Call (.Name "super" p0) [] [] p1) "__init__" p2) [arg] [] p3) env = (do
      let ov ← attributeBase (.Call (.Name "super" p0) [] [] p1) "__init__" env (eval (.Call (.Name "super" p0) [] [] p1) env)
      standAt p2.atName
      let (f, first) ← holding [ov] (getMethod ov "__init__" pl)
      callWith p3 f first (backTo p3 (starEach [arg] env)) [])) := by
  unfold supArgF at h
  split at h
  · obtain ⟨rfl, rfl, hl⟩ := of_decide_eq_true h
    exact ⟨_, hl, fun X hN hs => pa_cons (pe_joined (PJ.cons pe_str (PJ.cons (pe_fmt (pe_var (i := 1) (by rw [hN]; rfl) (.inl hs) hdb hcd)) PJ.nil))) pa_nil, fun _ => rfl, fun _ _ _ _ _ hl => eval_sup hl rfl⟩
  · cases h
/-- what is known of such an error class: its name x, the one field that it keeps -/
structure OwnI (K : PySem.W.Frag) (P : Program) (mg : Str → Option Value) (x : Str) (C f : Addr) (fd : FuncData) (fld : Str) (Gd : V → Prop) : Prop where
  g : mg x = some (.ref C)
  S : SupC K C
  iC : PySem.W.findIn K (.ref C) "__init__" = some (some (.ref f))
  tI : PySem.W.typeIn K (.ref f) = some (.type "function")
  b : Binds K fd (["self", fld] : List Str) []
  no : PySem.W.findIn K (.ref C) fld = some none
  e : ExcC K C
  xf : XfC K C
  ok : ∀ (w : World) (base : Heap) (CX : CXT) (k : Nat), FnOk P w K mg base CX (k + 1) f fd (["self", fld] : List Str) (spSup C fld Gd)
def oexB (K : PySem.W.Frag) (C : Addr) : Bool := (match K.lookup C with
    | some ⟨.type "type", _, .cls ⟨_, _, .ref C' :: bm, _, _, true, _, _, _, _, false⟩, ⟨[_, _, _, _, some (.builtin n), _]⟩⟩ => decide (C' = C ∧ n = "ValueError.__new__") && PySem.HandSPX.refsVE bm
    | _ => false) && (decide (PySem.W.findIn K (.ref C) "__setattr__" = some (some (.builtin "object.__setattr__"))) && (decide (PySem.W.subIn K (.ref C) (.type "BaseException") = some true) && (decide (PySem.W.typeIn K (.ref C) = some (.type "type")) && PySem.W.keepIn K (.ref C))))
theorem oexB_ok {K : PySem.W.Frag} {C : Addr} (h : oexB K C = true) : OexC K C := by
  unfold oexB at h
  simp only [Bool.and_eq_true, decide_eq_true_eq] at h
  obtain ⟨c1, c2, c3, c4, c5⟩ := h
  refine ⟨?_, c2, c3, c4, c5⟩
  split at c1
  · rename_i h1
    simp only [Bool.and_eq_true, decide_eq_true_eq] at c1
    obtain ⟨⟨rfl, rfl⟩, c⟩ := c1
    exact ⟨_, _, _, _, _, _, _, _, _, _, _, _, _, _, _, h1, c⟩
  · cases c1
def ownIB (pr : Program) (K : PySem.W.Frag) (C : Addr) (fld : Str) (num : Bool) : Bool := oexB K C && (decide (PySem.W.ks_superIn K C C "__init__" = some (some (.builtin "ValueError.__init__"))) && (decide (PySem.W.mroIn K C (.ref C) = some true) && (decide (PySem.W.subIn K (.ref C) (.type "ValueError") = some true) &&
  (decide (PySem.W.nsIn K cStatics "thirdparty.any" = some none) && (decide (PySem.W.findIn K (.ref C) fld = some none) && (excCB K C && (xfB K C && (decide (PySem.W.nsIn K mainGlobals "super" = some none) && (!(pr.main.scope.names.lookup ("super" : Str)).isSome &&
  (match PySem.W.findIn K (.ref C) "__init__" with
    | some (some (.ref f)) => decide (PySem.W.typeIn K (.ref f) = some (.type "function")) && (match K.lookup f with
      | some ⟨_, _, .func fd, _⟩ => supFdB pr K C fld num fd
      | _ => false)
    | _ => false))))))))))
def iniF (K : PySem.W.Frag) (C : Addr) : Addr := match PySem.W.findIn K (.ref C) "__init__" with
  | some (some (.ref f)) => f
  | _ => 0
def iniD (K : PySem.W.Frag) (C : Addr) : FuncData := match K.lookup (iniF K C) with
  | some ⟨_, _, .func fd, _⟩ => fd
  | _ => default
theorem ownI_ok {K : PySem.W.Frag} {P : Program} {mg : Str → Option Value} {h : Heap} {x : Str} {C : Addr} {fld : Str} {num : Bool} (X : K.In h) (G : h.Ns mainGlobals mg) (c : ownIB P K C fld num = true) (g : mg x = some (.ref C)) (hfs : fld ≠ "self") (hdb : (fld == ("__debug__" : Str)) = false) (hcd : (fld == ("__classdict__" : Str)) = false)
    (hbind : ∀ (name qual : Str) (body : List Stmt) (sc : Scope) (kV doc pm cdv ct : Value) (an : Option Addr) (cc : Addr) (a0 a1 : Option Expr) (q0 q1 : Pos) (u0 u1 : Value), bindArgs (PySem.W.ksFn name qual ⟨[], [⟨"self", a0, q0⟩, ⟨fld, a1, q1⟩], none, [], [], none, []⟩ body sc .none kV doc pm an cdv ct cc) ⟨[u0, u1], []⟩ = pure ([("self", u0), (fld, u1)] : List (Str × Value))) :
    OwnI K P mg x C (iniF K C) (iniD K C) fld (if num then Gnum else fun _ => True) := by
  unfold ownIB at c
  simp only [Bool.and_eq_true, decide_eq_true_eq, Bool.not_eq_true'] at c
  obtain ⟨c1, c2, c3, c4, c5, c6, c7, c8, c9, c10, c11⟩ := c
  have S : SupC K C := ⟨oexB_ok c1, c2, c3, c4, c5⟩
  split at c11
  · rename_i f hf
    simp only [Bool.and_eq_true, decide_eq_true_eq] at c11
    obtain ⟨t1, t2⟩ := c11
    have ef : iniF K C = f := by unfold iniF; rw [hf]
    split at t2
    · rename_i oc od fd osl lk
      have ed : iniD K C = fd := by unfold iniD; rw [ef, lk]
      rw [ef, ed]
      obtain ⟨arg, F, ha⟩ := supFdB_ok t2 lk c10
      have hsu := PySem.W.mg_none_of X G c9
      refine ⟨g, S, hf, t1, ?_, c6, excCB_ok c7, xfB_ok c8, fun w base CX k => ?_⟩
      · obtain ⟨_, _, _, _, _, _, _, _, _, _, _, _, _, _, _, _, _, _, _, _, _, _, _, _, _, _, rfl, _⟩ := F.ex
        intro s us _ hl
        rw [List.append_nil] at hl ⊢
        match us, hl with
        | [u0, u1], _ => exact .of_eq (hbind _ _ _ _ _ _ _ _ _ _ _ _ _ _ _ u0 u1)
      · cases num with
        | true =>
          obtain ⟨s, hs, h1, h2, h3⟩ := pe_supF hdb hcd ha
          refine ok_sup (Gd := Gnum) S F hsu c6 hfs hdb hcd (fun X eK eN hl => h1 X eN hl) h2 (fun a x H R gx hR => ?_) h3
          obtain ⟨i, rfl, hi⟩ := gx
          show tJs _ _ _ _ _
          refine js_ok _ _ (fun t ht => ?_) (by show 0 + 2000 * 2 ≤ 100000; decide) fun y => hR y
          simp only [List.mem_cons, List.not_mem_nil, or_false] at ht
          rcases ht with rfl | rfl
          · exact part_c hs
          · exact part_i (log_lt hi) fun Q q => ⟨_, rfl, q⟩
        | false =>
          obtain ⟨s, h1, h2, h3⟩ := pe_supT ha
          exact ok_sup (Gd := fun _ => True) S F hsu c6 hfs hdb hcd (fun X eK eN hl => h1 X) h2 (fun a x H R gx hR => hR s) h3
    · cases t2
  · cases c11
/-! ### raise C(e) -/
def tRaiseI (C : Addr) (fld : Str) (Gd : V → Prop) (W : WX) (ta : TE) : TS := fun _ σ H => tMkO C (spSup C fld Gd) [] (tCons ta tNil) σ H fun cls d H' => W cls d σ H'
section
variable {X : Cx}
theorem ps_raiseI {K : PySem.W.Frag} {P : Program} {mg : Str → Option Value} {C f : Addr} {fd : FuncData} {x fld : Str} {Gd : V → Prop} {e : Expr} {ta : TE} {W : WX} {p pos pos2 : Pos} {k : Nat} (O : OwnI K P mg x C f fd fld Gd) (hP : X.prog = P) (hK : X.K = K) (hmg : X.mg = mg) (hc : X.calm = true) (tk : Takes X W) (hr : Room (k + 2) X.A) (hg : Gl X x) (he : PE X e ta)
    (hs : starEach [e] X.env = (false, eval e X.env) :: starEach [] X.env := by rfl) (hdb : (x == ("__debug__" : Str)) = false := by decide) :
    PS X (.Raise (some (.Call (.Name x p) [e] [] pos)) none pos2) (tRaiseI C fld Gd W ta) := by
  subst hP hK hmg
  exact ps_raise (X := X) (pos := pos2) hc tk (pmk_oex (p := p) (pos := pos) (es := []) (dvs := []) (ds := []) O.S.T O.iC O.tI (O.ok X.w X.base CX0 0) (hr.mono (by omega)) O.b .nil (fun _ _ _ _ _ _ _ z => z.elim) hg O.g (pa_cons he pa_nil hs) hdb hs)
theorem r_raiseI {C : Addr} {fld : Str} {Gd : V → Prop} {W : WX} {ta : TE} {D : Ends} {σ : L2.St} {H : Hp} (h : tCons ta tNil σ H fun vs H1 => vs.length ≤ 1000 ∧ ∀ a, H1 a = none → spSup C fld Gd (.ref a :: (vs ++ [])) (upd H1 a (exo a C none))
  (fun v H2 => v = .non ∧ ∃ (d : Addr) (fs : List (Str × V)), H2 a = some (exo a C (some d)) ∧ H2 d = some (exd d fs) ∧ H1 d = none ∧ W (.ref C) (some d) σ (upd (del H2 a) d (.xd fs))) (fun _ _ _ => False)) : tRaiseI C fld Gd W ta D σ H := h
/-- behind the argument -/
theorem raiseI_in {C : Addr} {fld : Str} {Gd : V → Prop} {Q : XK} {x : V} {H1 : Hp} {E0 : XK} (g : Gd x) (h : ∀ dx, H1 dx = none → Q (.ref C) (some dx) (upd H1 dx (.xd [(fld, x)]))) : [x].length ≤ 1000 ∧ ∀ a, H1 a = none → spSup C fld Gd (.ref a :: ([x] ++ [])) (upd H1 a (exo a C none))
  (fun v H2 => v = .non ∧ ∃ (d : Addr) (fs : List (Str × V)), H2 a = some (exo a C (some d)) ∧ H2 d = some (exd d fs) ∧ H1 d = none ∧ Q (.ref C) (some d) (upd (del H2 a) d (.xd fs))) E0 := by
  refine ⟨by show (1 : Nat) ≤ 1000; decide, fun a ha => ⟨a, x, rfl, g, upd_same, fun dx hd hne => ⟨rfl, dx, [(fld, x)], upd_same, by rw [upd_ne hne]; exact upd_same, ?_, ?_⟩⟩⟩
  · rw [upd_ne hne] at hd
    exact hd
  · have hd1 : H1 dx = none := by
      rw [upd_ne hne] at hd
      exact hd
    have e : upd (del (upd (upd (upd H1 a (exo a C none)) dx (exd dx [(fld, x)])) a (exo a C (some dx))) a) dx (.xd [(fld, x)]) = upd H1 dx (.xd [(fld, x)]) := by
      funext b
      by_cases hb : b = dx
      · rw [hb, upd_same, upd_same]
      · rw [upd_ne hb, upd_ne hb]
        by_cases hba : b = a
        · rw [hba, del_same, ha]
        · rw [del_ne hba, upd_ne hba, upd_ne hb, upd_ne hba]
    rw [e]
    exact h dx hd1
end
theorem passX {X : Cx} {E : XK} (tk : Takes X fun c d _ H => E c d H) : Passes (L2.CX X.prog X.w) X E := fun _ _ _ _ e s' I c => tk e s' (XE.of_call I (fun _ _ _ h => h) c)
/-! ### isinstance(e, c), e the error that the suite holds, with its dict -/
def rIsI (K : PySem.W.Frag) (a : Addr) (cls : Value) (d : Option Addr) : List V → Hp → VK → Prop := fun xs H Q => ∃ (D dd : Addr) (fs : List (Str × V)) (c : V) (cv : Value) (b : Bool), cls = .ref D ∧ d = some dd ∧ ExcC K D ∧ H dd = some (.xd fs) ∧ xs = [.ref a, c] ∧ (∀ u, RelV c u → u = cv) ∧ PySem.W.kitOne K (.ref D) cv = some b ∧ Q (.bl b) H
theorem call_isI {X : Cx} {a : Addr} {oe : Obj} {cls : Value} {d : Option Addr} {pn : List (Addr × Obj)} (hz : Zc cls d oe) (hf : ∃ vs, oe.data = .fields vs) : CallR (X.suite a ((a, oe) :: pn)) (.builtin "isinstance") (rIsI X.K a cls d) := by
  intro pins s σ H xs us Q I r h
  obtain ⟨D, dd, fs, c, cv, b, rfl, rfl, C, hdd, rfl, hcv, e, q⟩ := h
  obtain ⟨u0, u1, rfl, r0, r1⟩ : ∃ u0 u1, us = [u0, u1] ∧ RelV (.ref a) u0 ∧ RelV c u1 := by
    cases r with
    | cons ra rb => cases rb with
      | cons rc rd =>
        cases rd
        exact ⟨_, _, rfl, ra, rc⟩
  obtain rfl : u0 = Value.ref a := r0
  obtain rfl := hcv _ r1
  have hp := (I.pin (a, oe) (List.mem_append.mpr (.inl List.mem_cons_self))).1
  obtain ⟨vs, hv⟩ := hf
  obtain ⟨mA, hns, _⟩ := (show ObjOk _ _ _ _ dd (.xd fs) from I.hok dd _ hdd)
  obtain ⟨od, ho, _⟩ := lookIn_ns hns
  have J : PySem.W.InstAt s.heap a oe D (some od) := ⟨hp, hz.1, by unfold PySem.W.notCls; rw [hv], by rw [hz.2]; exact ho⟩
  have hcl : (PySem.W.clsIn X.K D).isSome = true := by
    have z := C.hd
    unfold PySem.W.hasDictIn at z
    cases e : PySem.W.clsIn X.K D with
    | none => rw [e] at z; exact nomatch z
    | some cd => rfl
  exact PySem.W.kia_one (PySem.W.kitx_exc hcl C.hg C.hk C.hs C.ha C.hn C.ht C.hm) I.kIn J e (fun z => nomatch z) fun tk => ⟨.bl b, H, I.kept (t' := tk) fun _ _ z => z, rfl, q⟩
theorem r_isI {K : PySem.W.Frag} {a D dd : Addr} {fs : List (Str × V)} {c : V} {cv : Value} {b : Bool} {H : Hp} {Q : VK} (hE : ExcC K D) (hd : H dd = some (.xd fs)) (hc : ∀ u, RelV c u → u = cv) (k : PySem.W.kitOne K (.ref D) cv = some b) (q : Q (.bl b) H) : rIsI K a (.ref D) (some dd) [.ref a, c] H Q :=
  ⟨D, dd, fs, c, cv, b, rfl, rfl, hE, hd, rfl, hc, k, q⟩
end G
set_option Elab.async false
set_option linter.all false
set_option maxRecDepth 100000
set_option maxHeartbeats 4000000
namespace G
open PySem PySem.Spec PyProof.Rows L2 He
/-! ### the hook, with the interpreter's own table in sight -/
/-- the part of the heap that is looked at -/
def frY (n : Nat) (g : Addr → Option Obj) : PySem.W.Frag := frT g (cStatics :: asD g n)
def obsY (n : Nat) (fa : List Fa) (fn : List DefD) (ts : List Tab) (tf : List Defn) (ex : PySem.W.Frag → Bool) (g : Addr → Option Obj) : AlX := (obsT fa fn ts (frY n g), ex (frY n g) && tabsB g tf (frY n g))
theorem tab_at {g : Addr → Option Obj} {a : Addr} (h : (match g a with | some o => emptyTab o | none => false) = true) : ∃ o, g a = some o ∧ emptyTab o = true := by
  cases e : g a with
  | none => rw [e] at h; exact nomatch h
  | some o => rw [e] at h; exact ⟨o, rfl, h⟩
theorem saysY {n : Nat} {fa : List Fa} {fn : List DefD} {ts : List Tab} {tf : List Defn} {ex : PySem.W.Frag → Bool} {w : World} {h : Heap} (e : obsY n fa fn ts tf ex h.get? = valX fn ts w) : SaysX fa fn ts tf ex w h (frY n h.get?) := by
  obtain ⟨e1, e2⟩ := Prod.mk.inj e
  obtain ⟨b1, b2⟩ := ba e2
  have all := fun p hp => ba (List.all_eq_true.mp b2 p hp)
  refine ⟨e1, b1, fun p hp => (all p hp).1, fun p hp => ?_, fun p hp => ?_⟩
  · obtain ⟨o, q, z⟩ := tab_at (all p hp).2
    exact frT_none q z
  · obtain ⟨o, q, z⟩ := tab_at (all p hp).2
    rw [q, emptyTab_eq z]
def hookY (n : Nat) (fa : List Fa) (fn : List DefD) (ts : List Tab) (tf : List Defn) (ex : PySem.W.Frag → Bool) : PySem.W.Hook := {
  α := AlX, obs := fun s => obsY n fa fn ts tf ex s.heap.get?, val := fun w => valX fn ts w
  says := fun w h => ∃ K : PySem.W.Frag, K.In h ∧ SaysX fa fn ts tf ex w h K
  of := fun _ _ e => ⟨_, frT_in, saysY e⟩
  keeps := fun _ _ _ z st => z.elim fun K c => ⟨K, PySem.W.Frag.In.keeps c.1 st, c.2.t, c.2.more, c.2.hd, c.2.out, fun p hp => st _ _ (c.2.empty p hp)⟩ }
theorem obsY_eq {n : Nat} {fa : List Fa} {fn : List DefD} {ts : List Tab} {tf : List Defn} {ex : PySem.W.Frag → Bool} {g : Addr → Option Obj} {s : Shared} (h : ∀ a, g a = s.heap.get? a) : obsY n fa fn ts tf ex g = (hookY n fa fn ts tf ex).obs s :=
  congrArg (obsY n fa fn ts tf ex) (funext h)
end G
set_option Elab.async false
set_option linter.all false
set_option maxRecDepth 100000
set_option maxHeartbeats 4000000
namespace G
open PySem PySem.Spec PyProof.Rows L2 LamX NdefX
/-! ### lambdas that a def returns: their cells outlive its frame, and stand among the objects until the lambda is handed on -/
def CellF (o : Obj) (c : Addr) (v : V) : HO := .frz o (.ext fun h => ∃ u, RelV v u ∧ h.IsCell c (some u))
theorem cellF_ok {P : Program} {w : World} {H : Hp} {h : Heap} {c : Addr} {v : V} {u : Value} {o : Obj} (r : RelV v u) (ho : h.get? c = some o) (hd : o.data = .cell (some u)) : ObjOk P w H h c (CellF o c v) :=
  ⟨ho, ⟨u, r, o, ho, hd⟩, ⟨o, ho⟩, fun h1 h2 ⟨u', r', o', ho', hd'⟩ st => ⟨u', r', o', st _ ho', hd'⟩⟩
theorem cellF_at {P : Program} {w : World} {H : Hp} {h : Heap} {c : Addr} {v : V} {o : Obj} (ok : HOk P w H h) (e : H c = some (CellF o c v)) : ∃ u, RelV v u ∧ h.IsCell c (some u) := (ok c _ e).2.1
/-- without the cells -/
def delH (H : Hp) (cs : List Addr) : Hp := fun b => if b ∈ cs then none else H b
theorem delH_ne {H : Hp} {cs : List Addr} {b : Addr} (h : b ∉ cs) : delH H cs b = H b := by unfold delH; rw [if_neg h]
theorem delH_in {H : Hp} {cs : List Addr} {b : Addr} (h : b ∈ cs) : delH H cs b = none := by unfold delH; rw [if_pos h]
theorem delH_none {H : Hp} {cs : List Addr} {b : Addr} (h : H b = none) : delH H cs b = none := by
  unfold delH
  split
  · rfl
  · exact h
theorem delH_some {H : Hp} {cs : List Addr} {b : Addr} {o : HO} (h : delH H cs b = some o) : H b = some o := by
  unfold delH at h
  split at h
  · exact nomatch h
  · exact h
theorem delH_nil {H : Hp} : delH H [] = H := by
  funext b
  exact delH_ne (by simp)
/-- what is no cell stays -/
theorem delH_keep {H : Hp} {cs : List Addr} {b : Addr} {o : HO} (hc : ∀ c ∈ cs, ∃ o v, H c = some (CellF o c v)) (h : H b = some o) (n : ∀ o' φ, o ≠ .frz o' (.ext φ)) : delH H cs b = some o := by
  rw [delH_ne fun hb => ?_]
  · exact h
  · obtain ⟨o', v, e⟩ := hc b hb
    rw [h] at e
    exact n _ _ (Option.some.inj e)
section
variable {X : Cx} {pins : List (Addr × Obj)} {σ : L2.St} {H : Hp} {s : Shared}
theorem hok_del {P : Program} {w : World} {h : Heap} {cs : List Addr} (ok : HOk P w H h) (hc : ∀ c ∈ cs, ∃ o v, H c = some (CellF o c v)) : HOk P w (delH H cs) h := fun a o e =>
  (ok a o (delH_some e)).stay (fun _ _ _ z => z) (fun b z => delH_keep hc z fun _ φ q => nomatch q) fun b xs z => delH_keep hc z fun _ φ q => nomatch q
theorem inv_del {cs : List Addr} (I : Inv X pins σ H s) (hc : ∀ c ∈ cs, X.H_0 c = none ∧ ∃ o v, H c = some (CellF o c v)) : Inv X pins σ (delH H cs) s := by
  have hn : ∀ b u, X.H_0 b = some u → b ∉ cs := fun b u e hb => by rw [(hc b hb).1] at e; exact nomatch e
  refine ⟨I.ok, I.os, I.bare, ⟨I.base.keep, I.base.slot, fun b o e n hx => delH_none (I.base.free b o e n hx), I.base.there, fun b xs e => ?_, fun b o u e => ?_, fun b ps e => ?_⟩,
    I.loc, I.cell, delH_none I.free, fun x c e => delH_none (I.freeC x c e), fun p hp => ?_, hok_del I.hok fun c h => (hc c h).2, I.len⟩
  · rw [delH_ne (hn b _ e)]
    exact I.base.tups b xs e
  · rw [delH_ne (hn b _ e)]
    exact I.base.frzs b o u e
  · rw [delH_ne (hn b _ e)]
    exact I.base.tbls b ps e
  · obtain ⟨a1, a2, a3⟩ := I.pin p hp
    exact ⟨a1, delH_none a2, a3⟩
end
/-- a lambda whose cells stand among the objects -/
structure CloH (C : Clo) (H : Hp) : Prop where
  len : C.ws.length = C.fr.length
  all : ∀ y c, C.cl.lookup y = some c → ∃ o v, H c = some (CellF o c v)
  inj : ∀ x y c, C.cl.lookup x = some c → C.cl.lookup y = some c → x = y
  has : ∀ (i : Nat) (y : Str), C.fr[i]? = some y → ∃ c, C.cl.lookup y = some c ∧ ∀ v, C.ws[i]? = some (some v) → ∃ o, H c = some (CellF o c v)
section
variable {X : Cx} {pins : List (Addr × Obj)} {σ : L2.St} {H : Hp} {s : Shared}
theorem held_of {C : Clo} {cs : List Addr} (I : Inv X pins σ H s) (h : CloH C H) (hs : ∀ y c, C.cl.lookup y = some c → c ∈ cs) : HeldC C X.stack s.heap (delH H cs) := by
  refine ⟨⟨h.len, fun y c e => ⟨delH_in (hs y c e), ?_⟩, h.inj, fun i y e => ?_⟩, fun y c e hc => ?_⟩
  · obtain ⟨o, v, z⟩ := h.all y c e
    obtain ⟨u, _, q⟩ := cellF_at I.hok z
    exact ⟨_, q⟩
  · obtain ⟨c, e1, e2⟩ := h.has i y e
    exact ⟨c, e1, fun v ev => (e2 v ev).elim fun o z => cellF_at I.hok z⟩
  · obtain ⟨o, v, z⟩ := h.all y c e
    rw [I.stkFree c hc] at z
    exact nomatch z
end
/-- f(..) of a def that is handed lambdas: such as were returned (their cells cs go out of sight), and own ones -/
def tCallR (H0 : Hp) (own : L2.St → List Clo) (sp : List Clo → Sp) (E : L2.St → XK) (t : TA) : TE := fun σ H Q => t σ H fun vs H1 => ∃ (cs : List Addr) (Cs : List Clo),
  (∀ c ∈ cs, H0 c = none ∧ ∃ o v, H1 c = some (CellF o c v)) ∧ (∀ C ∈ Cs, CloH C H1 ∧ ∀ y c, C.cl.lookup y = some c → c ∈ cs) ∧ sp (Cs ++ own σ) vs (delH H1 cs) Q (E σ)
section
variable {X : Cx} {CX : CXT} {k : Nat} {f : Addr} {fd : FuncData} {ps : List Str} {sp : List Clo → Sp} {E : L2.St → XK} {x : Str} {p pos : Pos} {e : Expr} {es : List Expr} {t : TA} {own : L2.St → List Clo}
theorem pe_callR (F : FnOkC X.prog X.w X.K X.mg X.base CX k f fd ps sp) (hC : ∀ pins σ H s, Inv X pins σ H s → ∀ C ∈ own σ, HeldC C X.stack s.heap H) (hr : Room k X.A) (hg : Gl X x) (hm : X.mg x = some (.ref f)) (hk : PySem.W.keepIn X.K (.ref f) = true) (hb : Binds X.K fd ps [])
    (hx : ∀ σ, PassesAt CX X σ (E σ)) (ha : PA X (e :: es) t) (hdb : (x == ("__debug__" : Str)) = false := by decide) (hst : starEach (e :: es) X.env = (false, eval e X.env) :: starEach es X.env := by rfl) (hpl : (backTo pos (starEach es X.env)).any (·.1) = false := by rfl) :
    PE X (.Call (.Name x p) (e :: es) [] pos) (tCallR X.H_0 own sp E t) := by
  constructor
  intro pins s σ H Q I h
  refine wpAny_Call_Name_kw (ld_glob I hg hm ?_ hdb)
  refine PySem.W.callWith_K (h₀ := X.base) I.ok.mod.kin hk (thn (ha.run pos pins s σ H _ I h) fun us s1 q1 => ?_) hst hpl
  obtain ⟨vs, H1, I1, r, cs, Cs, hcs, hCs, q⟩ := q1
  have I2 := inv_del I1 hcs
  refine ⟨I2.kIn, ?_⟩
  have hl : us.length = ps.length := by
    rw [← r.length]
    exact F.len _ _ _ _ _ q
  have bnd := hb s1 us I2.kIn (by rw [List.append_nil]; exact hl)
  rw [List.append_nil] at bnd
  have held : ∀ C ∈ Cs ++ own σ, HeldC C X.stack s1.heap (delH H1 cs) := fun C h => by
    rcases List.mem_append.mp h with h | h
    · exact held_of I1 (hCs C h).1 (hCs C h).2
    · exact hC _ _ _ _ I2 C h
  refine wpAny_call (codeAny_mono (F.run (Cs ++ own σ) X.A X.stack s1 (delH H1 cs) ⟨us, []⟩ us vs Q (E σ) hr I2.env0 bnd r held q) fun r s' hq => ?_)
  cases r with
  | error err => exact hx σ pins _ s1 err s' I2 hq
  | ok fl =>
    cases fl with
    | ret u => exact I2.after hq
    | next => exact (show False from hq).elim
    | brk => exact (show False from hq).elim
    | cont => exact (show False from hq).elim
theorem r_callR {H0 H : Hp} {σ : L2.St} {Q : VK} (h : t σ H fun vs H1 => ∃ (cs : List Addr) (Cs : List Clo),
    (∀ c ∈ cs, H0 c = none ∧ ∃ o v, H1 c = some (CellF o c v)) ∧ (∀ C ∈ Cs, CloH C H1 ∧ ∀ y c, C.cl.lookup y = some c → c ∈ cs) ∧ sp (Cs ++ own σ) vs (delH H1 cs) Q (E σ)) : tCallR H0 own sp E t σ H Q := h
end
/-! ### a def that returns a lambda over its two parameters -/
def spRet2 (T : List (Addr × Str)) (qual x0 x1 : Str) (lam : Expr) : Sp := fun vs H Q _ => ∃ v0 v1, vs = [v0, v1] ∧ Tabs T H ∧
  ∀ (H1 : Hp) (g c' c0 c1 : Addr) (o0 o1 : Obj) (cl : List (Str × Addr)), ExD H H1 → Tabs T H1 → H g = none →
    H1 g = some (LamO g ⟨"<lambda>", qual ++ ".<locals>." ++ "<lambda>", eLamArgs lam, [], eLamScope lam, cl, c'⟩ (eLamBody lam)) → H1 c' = some (CodeO c' (qual ++ ".<locals>." ++ "<lambda>")) →
    H1 c0 = none → H1 c1 = none → H c0 = none → H c1 = none → c0 ≠ c1 → (∀ y c, cl.lookup y = some c → c = c0 ∨ c = c1) →
    CloH ⟨cl, [x0, x1], [some v0, some v1]⟩ (upd (upd H1 c0 (CellF o0 c0 v0)) c1 (CellF o1 c1 v1)) → Q (.ref g) (upd (upd H1 c0 (CellF o0 c0 v0)) c1 (CellF o1 c1 v1))
theorem del_two {H : Hp} {c0 c1 : Addr} {u0 u1 : HO} (h0 : H c0 = none) (h1 : H c1 = none) : delH (upd (upd H c0 u0) c1 u1) [c0, c1] = H := by
  funext b
  by_cases e1 : b = c1
  · subst e1
    rw [delH_in (by simp), h1]
  · by_cases e0 : b = c0
    · subst e0
      rw [delH_in (by simp), h0]
    · rw [delH_ne (by simp [e0, e1]), upd_ne e1, upd_ne e0]
section
variable {P : Program} {w : World} {K : PySem.W.Frag} {mg : Str → Option Value} {base : Heap}
theorem exd_add {H H' : Hp} {c : Addr} {o : HO} (e : ExD H H') (hn : H c = none) : ExD H (L2.upd H' c o) := ⟨fun b u hb n => by
  rw [upd_ne (ne_of_none hb hn)]
  exact e.n b u hb n, Dom.upd e.d⟩
theorem FunC.okRet2 {x0 x1 qual : Str} {st : Stmt} {f c Pt : Addr} {fd : FuncData} {k : Nat} {T : List (Addr × Str)} {params : Arguments} {body : Expr} {scope : Scope} {lpos rpos : Pos} (F : FunC K qual qual st f fd c) (S : FnScope [x0, x1] [x0, x1] (defScope st))
    (hb : defBody st = [.Return (some (.Lambda params body scope lpos)) rpos]) (hN : ndefB (defScope st) scope [x0, x1] = true) (TB : TabB base mg c Pt) (hm : (Pt, qual ++ ".<locals>." ++ "<lambda>") ∈ T) (hu : ∀ p ∈ T, p.1 = Pt → p.2 = qual ++ ".<locals>." ++ "<lambda>")
    (hdef : ∀ env, defaultsOf params env = ([], [])) (hfree : ∀ y ∈ scope.names, y.2 = .free → y.1 = x0 ∨ y.1 = x1) :
    FnOk P w K mg base CX0 (k + 1) f fd [x0, x1] (spRet2 T qual x0 x1 (.Lambda params body scope lpos)) := by
  obtain ⟨oc, od, kV, doc, pm, an, ct, osl, rfl, lk, hcd⟩ := F.ex
  have ndx : x0 ≠ x1 := fun e => by
    have := S.nd
    rw [e] at this
    simp at this
  refine ⟨fun vs H Q E h => ?_, fun A outer s H args us vs Q E hr e0 hbd r hsp => ?_⟩
  · obtain ⟨v0, v1, rfl, _⟩ := h
    rfl
  obtain ⟨v0, v1, rfl, hT, q⟩ := hsp
  have kin : K.In s.heap := e0.mod.kin.keeps fun b o z => (e0.bs b o z).1
  have nol : s.heap.NoLimit := e0.mod.nolimit.keeps fun b o z => (e0.bs b o z).1
  refine codeAny_call_function hr.depth (kin _ _ lk) rfl S.co S.gen rfl (PySem.W.codeRec_of kin hcd) (hbd _ _ _ _ ?_)
  refine wpAny_newFunctionEnv_cells S.kind (fun y hy => ?_) fun env he s1 ic => ?_
  · obtain ⟨n, v⟩ := y
    refine (S.par n (List.of_mem_zip hy).1).imp id fun z => ⟨z, PySem.W.cellsFrom_some _ _ _ (.inl z)⟩
  subst he
  refine ⟨nol.keeps ic.toInCall.keep, codeAny_func ?_⟩
  have I : Inv (cxOf CX0 P w K mg base [x0, x1] qual (defScope st) f (.ref c) A outer s H E) [] (L2.start [x0, x1] [v0, v1]) H s1 := inv_start S hr.hd e0 rfl r ic
  rw [hb]
  refine wpAny_execs_cons (wpAny_Return_some ?_)
  have hX : ∀ x, (cxOf CX0 P w K mg base [x0, x1] qual (defScope st) f (.ref c) A outer s H E).fn x = true := fun _ => rfl
  have eq0 : (cxOf CX0 P w K mg base [x0, x1] qual (defScope st) f (.ref c) A outer s H E).env.qual = qual ++ ".<locals>." := rfl
  have caps : Caps (cxOf CX0 P w K mg base [x0, x1] qual (defScope st) f (.ref c) A outer s H E) (cloFrom (cxOf CX0 P w K mg base [x0, x1] qual (defScope st) f (.ref c) A outer s H E).env.cells scope.names []) [x0, x1] [0, 1] :=
    Caps.made I.ok (ndef_free hN) (ndef_fr hN) rfl
  have fr : ∀ y ∈ scope.names, y.2 = .free → ∃ c0, (cxOf CX0 P w K mg base [x0, x1] qual (defScope st) f (.ref c) A outer s H E).env.cells.lookup y.1 = some c0 := fun y hy e =>
    (ndef_free hN y hy e).elim (fun z => I.ok.has _ (.inl z)) fun z => I.ok.has _ (.inr z)
  refine lam_make (T := T) I TB rfl hm hu hT (hdef _) fr fun g c' H1 s' I1 x1' d1 t1 n1 l1 k1 => ?_
  have Ca := cells_of I1 caps
  have Hh := held_made (C := ⟨_, [x0, x1], [some v0, some v1]⟩) caps rfl hX I1
  generalize ecl : cloFrom (cxOf CX0 P w K mg base [x0, x1] qual (defScope st) f (.ref c) A outer s H E).env.cells scope.names [] = cl at *
  have Ca : CellsAt cl [x0, x1] [some v0, some v1] s'.heap H1 := Ca
  obtain ⟨c0, e0', w0⟩ := Ca.has 0 x0 rfl
  obtain ⟨c1, e1', w1⟩ := Ca.has 1 x1 rfl
  obtain ⟨u0, r0, o0, ho0, hd0⟩ := w0 v0 rfl
  obtain ⟨u1, r1, o1, ho1, hd1⟩ := w1 v1 rfl
  have cne : c0 ≠ c1 := fun z => ndx (Ca.inj x0 x1 c0 e0' (by rw [z]; exact e1'))
  have new : ∀ y cc, cl.lookup y = some cc → s.heap.objs.size ≤ cc ∧ H1 cc = none := fun y cc e => by
    have e2 := caps.sub y cc e
    exact ⟨I1.ok.cab y cc rfl e2, I1.freeC y cc e2⟩
  have only : ∀ y cc, cl.lookup y = some cc → cc = c0 ∨ cc = c1 := fun y cc e => by
    have hy : y = x0 ∨ y = x1 := by
      rw [← ecl] at e
      rcases cloFrom_mem (PySem.mem_of_lookup e) with hm' | ⟨h1, h2⟩
      · exact nomatch hm'
      · exact hfree _ h1 rfl
    rcases hy with rfl | rfl
    · rw [e0'] at e
      exact .inl (Option.some.inj e).symm
    · rw [e1'] at e
      exact .inr (Option.some.inj e).symm
  obtain ⟨g0, f0⟩ := new x0 c0 e0'
  obtain ⟨g1, f1⟩ := new x1 c1 e1'
  have hH0 := e0.hok.fresh g0
  have hH1 := e0.hok.fresh g1
  have a0 : (upd (upd H1 c0 (CellF o0 c0 v0)) c1 (CellF o1 c1 v1)) c0 = some (CellF o0 c0 v0) := (upd_ne cne).trans upd_same
  have a1 : (upd (upd H1 c0 (CellF o0 c0 v0)) c1 (CellF o1 c1 v1)) c1 = some (CellF o1 c1 v1) := upd_same
  have keep2 : ∀ b o, H1 b = some o → (upd (upd H1 c0 (CellF o0 c0 v0)) c1 (CellF o1 c1 v1)) b = some o := fun b o z => by
    rw [upd_ne (ne_of_none z f1), upd_ne (ne_of_none z f0)]
    exact z
  refine ⟨.ref g, upd (upd H1 c0 (CellF o0 c0 v0)) c1 (CellF o1 c1 v1), I1.os, I1.bare, ⟨I1.base.keep, I1.base.slot, fun b o e n hx => ?_, I1.base.there, fun b xs e => keep2 _ _ (I1.base.tups b xs e), fun b o u e => keep2 _ _ (I1.base.frzs b o u e), fun b ps e => ?_⟩, ?_, rfl, ?_⟩
  · have lt := Heap.lt_size e
    rw [upd_ne (Nat.ne_of_lt (Nat.lt_of_lt_of_le lt g1)), upd_ne (Nat.ne_of_lt (Nat.lt_of_lt_of_le lt g0))]
    exact I1.base.free b o e n hx
  · obtain ⟨more, z⟩ := I1.base.tbls b ps e
    exact ⟨more, keep2 _ _ z⟩
  · intro a o e
    by_cases h1 : a = c1
    · subst h1
      rw [upd_same] at e
      obtain rfl := Option.some.inj e
      exact cellF_ok r1 ho1 hd1
    · rw [upd_ne h1] at e
      by_cases h0 : a = c0
      · subst h0
        rw [upd_same] at e
        obtain rfl := Option.some.inj e
        exact cellF_ok r0 ho0 hd0
      · rw [upd_ne h0] at e
        exact (I1.hok a o e).stay (fun _ _ _ z => z) (fun b z => keep2 _ _ z) fun b xs z => keep2 _ _ z
  · refine q H1 g c' c0 c1 o0 o1 cl ⟨x1', d1⟩ t1 n1 ?_ k1 f0 f1 hH0 hH1 cne only ⟨rfl, fun y cc e => ?_, fun y z cc h1 h2 => Ca.inj y z cc h1 h2, fun i y e => ?_⟩
    · refine l1.trans ?_
      rw [← ecl]
      rfl
    · rcases only y cc e with rfl | rfl
      · exact ⟨o0, v0, a0⟩
      · exact ⟨o1, v1, a1⟩
    · have hi : i < 2 := (List.getElem?_eq_some_iff.mp e).1
      rcases Nat.lt_or_ge i 1 with hi1 | hi1
      · obtain rfl : i = 0 := by omega
        obtain rfl : x0 = y := Option.some.inj e
        exact ⟨c0, e0', fun v ev => ⟨o0, by rw [← Option.some.inj (Option.some.inj ev)]; exact a0⟩⟩
      · obtain rfl : i = 1 := by omega
        obtain rfl : x1 = y := Option.some.inj e
        exact ⟨c1, e1', fun v ev => ⟨o1, by rw [← Option.some.inj (Option.some.inj ev)]; exact a1⟩⟩
end
/-! what stays without the cells -/
theorem exd_del {H H1 : Hp} {cs : List Addr} (e : ExD H H1) (h : ∀ c ∈ cs, H c = none) : ExD H (delH H1 cs) := ⟨fun b u hb n => by
  rw [delH_ne fun z => by rw [h b z] at hb; exact nomatch hb]
  exact e.n b u hb n, fun b hb => by
  rw [delH_ne fun z => hb (h b z)]
  exact e.d b hb⟩
theorem tabs_del {T : List (Addr × Str)} {H : Hp} {cs : List Addr} (t : Tabs T H) (hc : ∀ c ∈ cs, ∃ o v, H c = some (CellF o c v)) : Tabs T (delH H cs) := fun p hp => by
  obtain ⟨ps, h1, h2, h3⟩ := t p hp
  refine ⟨ps, delH_keep hc h1 (fun _ _ z => nomatch z), h2, fun pos cv hcv => ?_⟩
  obtain ⟨c, e1, e2⟩ := h3 pos cv hcv
  exact ⟨c, e1, delH_keep hc e2 fun _ _ z => nomatch z⟩
end G
set_option Elab.async false
set_option linter.all false
set_option maxRecDepth 100000
set_option maxHeartbeats 4000000
namespace G
open PySem PySem.Spec PyProof.Rows L2 LamX NdefX
/-! ### lambdas that are handed on, with their cells among the objects for as long as they may be called -/
/-- the cells cs stand again as they stood in H1 -/
def addH (H2 H1 : Hp) (cs : List Addr) : Hp := fun b => if b ∈ cs then H1 b else H2 b
theorem addH_in {H2 H1 : Hp} {cs : List Addr} {b : Addr} (h : b ∈ cs) : addH H2 H1 cs b = H1 b := by unfold addH; rw [if_pos h]
theorem addH_ne {H2 H1 : Hp} {cs : List Addr} {b : Addr} (h : b ∉ cs) : addH H2 H1 cs b = H2 b := by unfold addH; rw [if_neg h]
theorem add_del {H : Hp} {cs : List Addr} : addH (delH H cs) H cs = H := by
  funext b
  by_cases h : b ∈ cs
  · exact addH_in h
  · rw [addH_ne h, delH_ne h]
theorem same_add {H1 H2 : Hp} {cs : List Addr} (s : Same (delH H1 cs) H2) : Same H1 (addH H2 H1 cs) := fun b o e => by
  by_cases h : b ∈ cs
  · rw [addH_in h]
    exact e
  · rw [addH_ne h]
    exact s _ _ ((delH_ne h).trans e)
theorem add_keep {H1 H2 : Hp} {cs : List Addr} {b : Addr} {o : HO} (hc : ∀ c ∈ cs, H2 c = none) (h : H2 b = some o) : addH H2 H1 cs b = some o := by
  rw [addH_ne fun z => by rw [hc b z] at h; exact nomatch h]
  exact h
section
variable {P : Program} {w : World} {outer : List Env} {H H2 : Hp} {s s' : Shared} {Q : VK} {u : Value}
/-- a call that did not see the cells: they stand behind it as before -/
theorem ce_add {cs : List Addr} (hok : HOk P w H s.heap) (hc : ∀ c ∈ cs, (∃ o v, H c = some (CellF o c v)) ∧ c ∉ frs outer) (h : CE outer P w (delH H cs) s (fun v H2 => (∀ c ∈ cs, H2 c = none) → Q v (addH H2 H cs)) u s') : CE outer P w H s Q u s' := by
  obtain ⟨v, H2, os, bare, un, ok2, r, q⟩ := h
  have hn : ∀ c ∈ cs, H2 c = none := fun c hcs => by
    obtain ⟨⟨o, v, e⟩, hf⟩ := hc c hcs
    exact un.free c o (hok c _ e).1 (delH_in hcs) (by simp)
  refine ⟨v, _, os, bare, ⟨fun b o e n hb hx => un.keep b o e (delH_none n) hb hx, fun b o e n hb hx => un.slot b o e (delH_none n) hb hx, fun b o e n hx => ?_, un.there, fun b xs e => ?_, fun b o w e => ?_, fun b ps e => ?_⟩, fun a o e => ?_, r, q hn⟩
  · have hb : b ∉ cs := fun z => by
      obtain ⟨⟨o, v, e⟩, _⟩ := hc b z
      rw [n] at e
      exact nomatch e
    rw [addH_ne hb]
    exact un.free b o e (delH_none n) hx
  · exact add_keep hn (un.tups b xs (delH_keep (fun c h => (hc c h).1) e fun _ _ z => nomatch z))
  · by_cases hb : b ∈ cs
    · rw [addH_in hb]
      exact e
    · rw [addH_ne hb]
      exact un.frzs b o w ((delH_ne hb).trans e)
  · obtain ⟨more, z⟩ := un.tbls b ps (delH_keep (fun c h => (hc c h).1) e fun _ _ z => nomatch z)
    exact ⟨more, add_keep hn z⟩
  · by_cases ha : a ∈ cs
    · rw [addH_in ha] at e
      obtain ⟨⟨o2, v2, e2⟩, hf⟩ := hc a ha
      have h1 := hok a o e
      rw [e2] at e
      obtain rfl := Option.some.inj e
      have keep := un.keep a o2 h1.1 (delH_in ha) hf (by simp)
      obtain ⟨u2, r2, z2⟩ := h1.2.1
      obtain ⟨o3, ho3, hd3⟩ := z2
      obtain rfl : o2 = o3 := by
        have := h1.1
        rw [ho3] at this
        exact (Option.some.inj this).symm
      exact cellF_ok r2 keep hd3
    · rw [addH_ne ha] at e
      exact (ok2 a o e).stay (fun _ _ _ z => z) (fun b z => add_keep hn z) fun b xs z => add_keep hn z
end
/-- what is wanted behind such a call -/
def Back (Q : VK) (H1 : Hp) (cs : List Addr) : VK := fun v H2 => (∀ c ∈ cs, H2 c = none) → Q v (addH H2 H1 cs)
/-- x(..), x a name that holds a lambda whose cells stand among the objects -/
def tCallK (P : Program) (w : World) (K : PySem.W.Frag) (mg : Str → Option Value) (base : Heap) (k i : Nat) (t : TA) : TE := fun σ H Q => ∃ f F e, σ[i]? = some (some (.ref f)) ∧ H f = some (LamO f F e) ∧
  t σ H fun vs H1 => H1 f = some (LamO f F e) ∧ ∃ (C : Clo) (ps : List Str) (spL : List (Option V) → Sp) (cs : List Addr), C.cl = F.cl ∧ LOk P w K mg base CX0 k f F e ps C.fr spL ∧ CloH C H1 ∧ (∀ c ∈ cs, ∃ o v, H1 c = some (CellF o c v)) ∧ (∀ y c, C.cl.lookup y = some c → c ∈ cs) ∧
    delH H1 cs f = some (LamO f F e) ∧ delH H1 cs F.c = some (CodeO F.c F.qual) ∧ spL C.ws vs (delH H1 cs) (Back Q H1 cs) E0
section
variable {X : Cx} {k j i : Nat} {x : Str} {t : TA} {e : Expr} {es : List Expr} {p pos : Pos}
theorem env0_del {P : Program} {w : World} {K : PySem.W.Frag} {mg : Str → Option Value} {base : Heap} {A : Around} {outer : List Env} {s : Shared} {H : Hp} {cs : List Addr} (e : Env0 P w K mg base A outer s H) (hc : ∀ c ∈ cs, ∃ o v, H c = some (CellF o c v)) : Env0 P w K mg base A outer s (delH H cs) :=
  ⟨e.frames, e.mod, fun b o z => ⟨(e.bs b o z).1, delH_none (e.bs b o z).2⟩, e.bsz, e.funs, fun b hb => delH_none (e.frf b hb), hok_del e.hok hc, e.bare⟩
theorem pe_callK (hr : Room j X.A) (hk : k ≤ j) (hN : X.N[i]? = some x) (hv : Vis X.env.scope x) (ha : PA X (e :: es) t)
    (hd : (x == ("__debug__" : Str)) = false := by decide) (hcd : (x == ("__classdict__" : Str)) = false := by decide)
    (he : starEach (e :: es) X.env = (false, eval e X.env) :: starEach es X.env := by rfl) (hpl : (backTo pos (starEach es X.env)).any (·.1) = false := by rfl) :
    PE X (.Call (.Name x p) (e :: es) [] pos) (tCallK X.prog X.w X.K X.mg X.base k i t) := by
  constructor
  intro pins s σ H Q I h
  obtain ⟨f, F, e', hs, hf, ht⟩ := h
  have nm := (pe_var (pos := p) hN hv hd hcd).run pins s σ H (fun v H1 => v = .ref f ∧ H1 = H) I ⟨.ref f, hs, rfl, rfl⟩
  refine wpAny_Call_Name_kw (thn nm fun u s1 q1 => ?_)
  obtain ⟨v, H1, I1, r1, ev, eH⟩ := q1
  subst ev
  rw [eH] at I1
  obtain rfl : u = Value.ref f := r1
  refine PySem.W.callWith_F (first := []) (fnAt_lam I1 hf) (thn (ha.run pos pins s1 σ H _ I1 ht) fun us s2 q2 => ?_) he hpl
  obtain ⟨vs, H2, I2, r, h1, C, ps, spL, cs, eC, L, hC, hcs, hin, hf2, hc2, q⟩ := q2
  refine ⟨fnAt_lam I2 h1, ?_⟩
  show wpAny _ _ (call (.ref f) us) _ _ _
  have hh := (held_of I2 hC hin).at_
  rw [eC] at hh
  refine wpAny_call (codeAny_mono (L.run X.A X.stack s2 (delH H2 cs) us vs C.ws _ E0 (hr.mono hk) (env0_del I2.env0 hcs) hf2 hc2 hh r q) fun r s' hq => ?_)
  cases r with
  | error _ => exact (show False from hq).elim
  | ok fl =>
    cases fl with
    | ret u => exact I2.after (ce_add I2.hok (fun c hc => ⟨hcs c hc, fun z => by
        obtain ⟨o, v, e⟩ := hcs c hc
        rw [I2.stkFree c z] at e
        exact nomatch e⟩) hq)
    | next => exact (show False from hq).elim
    | brk => exact (show False from hq).elim
    | cont => exact (show False from hq).elim
end
/-! ### own lambdas handed on: their cells are put among the objects for the call -/
def setL (H : Hp) (l : List (Addr × Obj × V)) : Hp := fun b => match l.find? fun p => decide (p.1 = b) with
  | some p => some (CellF p.2.1 p.1 p.2.2)
  | none => H b
theorem setL_ne {H : Hp} {l : List (Addr × Obj × V)} {b : Addr} (h : ∀ p ∈ l, p.1 ≠ b) : setL H l b = H b := by
  unfold setL
  rw [List.find?_eq_none.mpr fun p hp => by rw [decide_eq_true_eq]; exact h p hp]
theorem setL_in {H : Hp} {l : List (Addr × Obj × V)} (u : ∀ p ∈ l, ∀ q ∈ l, p.1 = q.1 → p = q) {p : Addr × Obj × V} (h : p ∈ l) : setL H l p.1 = some (CellF p.2.1 p.1 p.2.2) := by
  unfold setL
  cases e : l.find? fun q => decide (q.1 = p.1) with
  | none => exact absurd (List.find?_eq_none.mp e p h) (by simp)
  | some q =>
    have h1 := List.mem_of_find?_eq_some e
    have h2 := List.find?_some e
    rw [decide_eq_true_eq] at h2
    rw [u q h1 p h h2]
def ofVal : Value → V
  | .none => .non
  | .bool b => .bl b
  | .int i _ => .int i
  | .str x _ => .str x
  | .bytes b _ => .byt b
  | .float b _ => .flt b
  | .ref a => .ref a
  | .type n => .ty n
  | _ => .non
theorem ofVal_eq : ∀ {v : V} {u : Value}, L2.RelV v u → v = ofVal u
  | .non, u, h => by
    obtain rfl : u = Value.none := h
    rfl
  | .bl b, u, h => by
    obtain rfl : u = Value.bool b := h
    rfl
  | .int i, u, h => by
    obtain ⟨t, rfl⟩ := h
    rfl
  | .str x, u, h => by
    obtain ⟨t, rfl⟩ := h
    rfl
  | .byt b, u, h => by
    obtain ⟨t, rfl⟩ := h
    rfl
  | .flt b, u, h => by
    obtain ⟨t, rfl⟩ := h
    rfl
  | .ref a, u, h => by
    obtain rfl : u = Value.ref a := h
    rfl
  | .ty n, u, h => by
    obtain rfl : u = Value.type n := h
    rfl
/-- the cells of such lambdas, with what they hold -/
theorem cells_list {X : Cx} {h : Heap} {H : Hp} {l : List Env} : ∀ (Cs : List Clo), (∀ C ∈ Cs, HeldC C l h H ∧ ∀ y c, C.cl.lookup y = some c → y ∈ C.fr ∧ X.base.get? c = none) → (∀ C ∈ Cs, ∀ i, i < C.fr.length → ∃ v, C.ws[i]? = some (some v)) →
    ∃ L : List (Addr × Obj × V), (∀ p ∈ L, X.base.get? p.1 = none ∧ H p.1 = none ∧ p.1 ∉ frs l ∧ h.get? p.1 = some p.2.1 ∧ ∃ u, L2.RelV p.2.2 u ∧ p.2.1.data = .cell (some u)) ∧
      (∀ C ∈ Cs, (∀ y c, C.cl.lookup y = some c → ∃ p ∈ L, p.1 = c) ∧ ∀ (i : Nat) (y : Str), C.fr[i]? = some y → ∃ c, C.cl.lookup y = some c ∧ ∀ v, C.ws[i]? = some (some v) → ∃ o, (c, o, v) ∈ L)
  | [], _, _ => ⟨[], (fun p hp => nomatch hp), fun C hC => nomatch hC⟩
  | C :: Cs, hh, hv => by
    obtain ⟨L, l1, l2⟩ := cells_list (X := X) Cs (fun C h => hh C (List.mem_cons_of_mem _ h)) fun C h => hv C (List.mem_cons_of_mem _ h)
    obtain ⟨hC, v1⟩ := hh C List.mem_cons_self
    have v2 := hv C List.mem_cons_self
    have one : ∀ i, i < C.fr.length → ∃ p : Addr × Obj × V, (X.base.get? p.1 = none ∧ H p.1 = none ∧ p.1 ∉ frs l ∧ h.get? p.1 = some p.2.1 ∧ ∃ u, L2.RelV p.2.2 u ∧ p.2.1.data = .cell (some u)) ∧ (∃ y, C.fr[i]? = some y ∧ C.cl.lookup y = some p.1) ∧ C.ws[i]? = some (some p.2.2) := fun i hi => by
      obtain ⟨v, ev⟩ := v2 i hi
      obtain ⟨y, ey⟩ : ∃ y, C.fr[i]? = some y := ⟨_, List.getElem?_eq_getElem hi⟩
      obtain ⟨c, e1, e2⟩ := hC.at_.has i y ey
      obtain ⟨u, r, o, ho, hd⟩ := e2 v ev
      exact ⟨(c, o, v), ⟨(v1 y c e1).2, (hC.at_.all y c e1).1, hC.nofr y c e1, ho, u, r, hd⟩, ⟨y, ey, e1⟩, ev⟩
    have all : ∀ n, n ≤ C.fr.length → ∃ M : List (Addr × Obj × V), (∀ p ∈ M, X.base.get? p.1 = none ∧ H p.1 = none ∧ p.1 ∉ frs l ∧ h.get? p.1 = some p.2.1 ∧ ∃ u, L2.RelV p.2.2 u ∧ p.2.1.data = .cell (some u)) ∧ ∀ i, i < n → ∃ p ∈ M, (∃ y, C.fr[i]? = some y ∧ C.cl.lookup y = some p.1) ∧ C.ws[i]? = some (some p.2.2) := by
      intro n
      induction n with
      | zero => exact fun _ => ⟨[], (fun p hp => nomatch hp), fun i hi => absurd hi (Nat.not_lt_zero i)⟩
      | succ n ih =>
        intro hn
        obtain ⟨M, m1, m2⟩ := ih (by omega)
        obtain ⟨p, p1, p2⟩ := one n (by omega)
        refine ⟨p :: M, fun q hq => ?_, fun i hi => ?_⟩
        · rcases List.mem_cons.mp hq with rfl | hq
          · exact p1
          · exact m1 q hq
        · rcases Nat.lt_succ_iff_lt_or_eq.mp hi with hi | rfl
          · obtain ⟨q, q1, q2⟩ := m2 i hi
            exact ⟨q, List.mem_cons_of_mem _ q1, q2⟩
          · exact ⟨p, List.mem_cons_self, p2⟩
    obtain ⟨M, m1, m2⟩ := all C.fr.length (Nat.le_refl _)
    refine ⟨M ++ L, fun p hp => (List.mem_append.mp hp).elim (m1 p) (l1 p), fun C' hC' => ?_⟩
    rcases List.mem_cons.mp hC' with rfl | hC'
    · refine ⟨fun y c e => ?_, fun i y ey => ?_⟩
      · obtain ⟨i, ei⟩ := List.mem_iff_getElem?.mp (v1 y c e).1
        obtain ⟨p, pm, ⟨y', ey', e1⟩, _⟩ := m2 i (List.getElem?_eq_some_iff.mp ei).1
        rw [ei] at ey'
        obtain rfl := Option.some.inj ey'
        rw [e] at e1
        exact ⟨p, List.mem_append_left _ pm, (Option.some.inj e1).symm⟩
      · obtain ⟨p, pm, ⟨y', ey', e1⟩, e2⟩ := m2 i (List.getElem?_eq_some_iff.mp ey).1
        rw [ey] at ey'
        obtain rfl := Option.some.inj ey'
        refine ⟨p.1, e1, fun v ev => ⟨p.2.1, List.mem_append_left _ ?_⟩⟩
        rw [e2] at ev
        obtain rfl := Option.some.inj (Option.some.inj ev)
        exact pm
    · obtain ⟨a1, a2⟩ := l2 C' hC'
      refine ⟨fun y c e => ?_, fun i y ey => ?_⟩
      · obtain ⟨p, pm, e⟩ := a1 y c e
        exact ⟨p, List.mem_append_right _ pm, e⟩
      · obtain ⟨c, e1, e2⟩ := a2 i y ey
        exact ⟨c, e1, fun v ev => (e2 v ev).imp fun o h => List.mem_append_right _ h⟩
/-- an exception that passes: the cells go out of sight -/
def DelX (P : Program) (w : World) (CX : CXT) : Prop := ∀ (outer : List Env) (H Hp' : Hp) (s : Shared) (E : XK) (e : Value) (s' : Shared) (cs : List Addr), HOk P w Hp' s.heap → (∀ c ∈ cs, H c = none ∧ ∃ o v, Hp' c = some (CellF o c v)) → (∀ b, b ∉ cs → Hp' b = H b) →
  CX outer Hp' s (fun c d H' => E c d (delH H' cs)) e s' → CX outer H s E e s'
theorem delX0 {P : Program} {w : World} : DelX P w CX0 := fun _ _ _ _ _ _ _ _ _ _ _ h => h.elim
theorem delXX {P : Program} {w : World} : DelX P w (L2.CX P w) := fun outer H Hp' s E e s' cs hok hc ho h => by
  obtain ⟨a, B, H', cls, d, rfl, fl, ok', ub, na, os, bare, q⟩ := h
  have hin : ∀ c ∈ cs, ∃ o v, H' c = some (CellF o c v) := fun c hcs => by
    obtain ⟨_, o, v, z⟩ := hc c hcs
    exact ⟨o, v, ub.frzs _ _ _ z⟩
  have nin : ∀ b o, H b = some o → b ∉ cs := fun b o e z => by
    rw [(hc b z).1] at e
    exact nomatch e
  refine ⟨a, B, delH H' cs, cls, d, rfl, fl, hok_del ok' hin, ⟨fun b o e n hb => ?_, ub.slot, fun b o e n => ?_, ub.there, fun b xs e => ?_, fun b o u e => ?_, fun b ps e => ?_⟩, delH_none na, os, bare, q⟩
  · by_cases z : b ∈ cs
    · obtain ⟨_, o', v, e'⟩ := hc b z
      have h1 := (hok b _ e').1
      rw [e] at h1
      obtain rfl := Option.some.inj h1
      exact (ok' b _ (ub.frzs _ _ _ e')).1
    · exact ub.keep b o e ((ho b z).trans n) hb
  · by_cases z : b ∈ cs
    · exact delH_in z
    · exact delH_none (ub.free b o e ((ho b z).trans n))
  · rw [delH_ne (nin b _ e)]
    exact ub.tups b xs ((ho b (nin b _ e)).trans e)
  · rw [delH_ne (nin b _ e)]
    exact ub.frzs b o u ((ho b (nin b _ e)).trans e)
  · rw [delH_ne (nin b _ e)]
    exact ub.tbls b ps ((ho b (nin b _ e)).trans e)
theorem ce_del {P : Program} {w : World} {outer : List Env} {H Hp' : Hp} {s s' : Shared} {Q : VK} {u : Value} {cs : List Addr} (hok : HOk P w Hp' s.heap) (hc : ∀ c ∈ cs, H c = none ∧ ∃ o v, Hp' c = some (CellF o c v)) (ho : ∀ b, b ∉ cs → Hp' b = H b)
    (h : CE outer P w Hp' s (fun v H2 => Q v (delH H2 cs)) u s') : CE outer P w H s Q u s' := by
  obtain ⟨v, H2, os, bare, un, ok2, r, q⟩ := h
  have hin : ∀ c ∈ cs, ∃ o v, H2 c = some (CellF o c v) := fun c hcs => by
    obtain ⟨_, o, v, z⟩ := hc c hcs
    exact ⟨o, v, un.frzs _ _ _ z⟩
  have nin : ∀ b o, H b = some o → b ∉ cs := fun b o e z => by
    rw [(hc b z).1] at e
    exact nomatch e
  have at_ : ∀ b o, s.heap.get? b = some o → b ∈ cs → s'.heap.get? b = some o := fun b o e z => by
    obtain ⟨_, o', v, e'⟩ := hc b z
    have h1 := (hok b _ e').1
    rw [e] at h1
    obtain rfl := Option.some.inj h1
    exact (ok2 b _ (un.frzs _ _ _ e')).1
  refine ⟨v, delH H2 cs, os, bare, ⟨fun b o e n hb hx => ?_, fun b o e n hb hx => ?_, fun b o e n hx => ?_, un.there, fun b xs e => ?_, fun b o u e => ?_, fun b ps e => ?_⟩, hok_del ok2 hin, r, q⟩
  · by_cases z : b ∈ cs
    · exact at_ b o e z
    · exact un.keep b o e ((ho b z).trans n) hb hx
  · by_cases z : b ∈ cs
    · exact ⟨o.slots, at_ b o e z⟩
    · exact un.slot b o e ((ho b z).trans n) hb hx
  · by_cases z : b ∈ cs
    · exact delH_in z
    · exact delH_none (un.free b o e ((ho b z).trans n) hx)
  · rw [delH_ne (nin b _ e)]
    exact un.tups b xs ((ho b (nin b _ e)).trans e)
  · rw [delH_ne (nin b _ e)]
    exact un.frzs b o u ((ho b (nin b _ e)).trans e)
  · rw [delH_ne (nin b _ e)]
    exact un.tbls b ps ((ho b (nin b _ e)).trans e)
/-- f(..) of a def that is handed own lambdas: for the call their cells stand among the objects -/
def tCallO (own : L2.St → List Clo) (sp : Sp) (E : L2.St → XK) (t : TA) : TE := fun σ H Q => t σ H fun vs H1 => (∀ C ∈ own σ, ∀ i, i < C.fr.length → ∃ v, C.ws[i]? = some (some v)) ∧ vs.length = vs.length ∧
  ∀ (H2 : Hp) (cs : List Addr), Same H1 H2 → (∀ c ∈ cs, H1 c = none ∧ ∃ o v, H2 c = some (CellF o c v)) → (∀ b, b ∉ cs → H2 b = H1 b) → (∀ C ∈ own σ, CloH C H2) → (∀ C ∈ own σ, ∀ y c, C.cl.lookup y = some c → c ∈ cs) →
    sp vs H2 (fun v H3 => Q v (delH H3 cs)) (fun c d H3 => E σ c d (delH H3 cs))
/-- own lambdas: what is known of their cells -/
def OwnOk (X : Cx) (own : L2.St → List Clo) : Prop := ∀ pins σ H s, Inv X pins σ H s → ∀ C ∈ own σ, HeldC C X.stack s.heap H ∧ ∀ y c, C.cl.lookup y = some c → y ∈ C.fr ∧ X.base.get? c = none
theorem own_nil {X : Cx} : OwnOk X fun _ => [] := fun _ _ _ _ _ C hC => nomatch hC
def capB (nsc : Scope) (fr : List Str) : Bool := nsc.names.all fun y => !decide (y.2 = .free) || decide (y.1 ∈ fr)
theorem own_cons {X : Cx} {scope : Scope} {js : List Nat} {fr : List Str} {Cs : L2.St → List Clo} (hfn : ∀ x, X.fn x = true) (hB : ndefB X.env.scope scope fr = true) (hc : capB scope fr = true) (hjs : js.map (fun j => X.N[j]?) = fr.map some) (rest : OwnOk X Cs) :
    OwnOk X fun σ => (⟨cloFrom X.env.cells scope.names [], fr, js.map (slotAt σ)⟩ : Clo) :: Cs σ := by
  intro pins σ H s I C hC
  rcases List.mem_cons.mp hC with rfl | hC
  · have cp := Caps.made I.ok (ndef_free hB) (ndef_fr hB) hjs
    refine ⟨held_made (js := js) cp rfl hfn I, fun y c e => ⟨?_, ?_⟩⟩
    · rcases cloFrom_mem (PySem.mem_of_lookup e) with hm | ⟨h1, h2⟩
      · exact nomatch hm
      · unfold capB at hc
        have := List.all_eq_true.mp hc _ h1
        simpa using this
    · exact Heap.get?_none_of_le (Nat.le_trans I.ok.bsz (I.ok.cab y c (hfn y) (cp.sub y c e)))
  · exact rest pins σ H s I C hC
section
variable {X : Cx} {CX : CXT} {k : Nat} {f : Addr} {fd : FuncData} {ps : List Str} {sp : Sp} {E : L2.St → XK} {x : Str} {p pos : Pos} {e : Expr} {es : List Expr} {t : TA} {own : L2.St → List Clo}
theorem pe_callO (F : FnOk X.prog X.w X.K X.mg X.base CX k f fd ps sp) (dx : DelX X.prog X.w CX) (hO : OwnOk X own) (hr : Room k X.A) (hg : Gl X x) (hm : X.mg x = some (.ref f)) (hk : PySem.W.keepIn X.K (.ref f) = true) (hb : Binds X.K fd ps [])
    (hx : ∀ σ, PassesAt CX X σ (E σ)) (ha : PA X (e :: es) t) (hdb : (x == ("__debug__" : Str)) = false := by decide) (hst : starEach (e :: es) X.env = (false, eval e X.env) :: starEach es X.env := by rfl) (hpl : (backTo pos (starEach es X.env)).any (·.1) = false := by rfl) :
    PE X (.Call (.Name x p) (e :: es) [] pos) (tCallO own sp E t) := by
  constructor
  intro pins s σ H Q I h
  refine wpAny_Call_Name_kw (ld_glob I hg hm ?_ hdb)
  refine PySem.W.callWith_K (h₀ := X.base) I.ok.mod.kin hk (thn (ha.run pos pins s σ H _ I h) fun us s1 q1 => ?_) hst hpl
  obtain ⟨vs, H1, I1, r, hws, _, q⟩ := q1
  refine ⟨I1.kIn, ?_⟩
  obtain ⟨L, l1, l2⟩ := cells_list (X := X) (own σ) (hO _ _ _ _ I1) hws
  have uq : ∀ p ∈ L, ∀ q ∈ L, p.1 = q.1 → p = q := fun p hp q hq e => by
    obtain ⟨_, _, _, a3, u, r1, d1⟩ := l1 p hp
    obtain ⟨_, _, _, b3, u', r2, d2⟩ := l1 q hq
    obtain ⟨p1, p2, p3⟩ := p
    obtain ⟨q1, q2, q3⟩ := q
    obtain rfl : p1 = q1 := e
    have a3 : s1.heap.get? p1 = some p2 := a3
    have b3 : s1.heap.get? p1 = some q2 := b3
    rw [a3] at b3
    obtain rfl := Option.some.inj b3
    have d1 : p2.data = .cell (some u) := d1
    have d2 : p2.data = .cell (some u') := d2
    rw [d1] at d2
    injection d2 with d2
    obtain rfl := Option.some.inj d2
    have e1 : p3 = _ := ofVal_eq r1
    have e2 : q3 = _ := ofVal_eq r2
    rw [e1, e2]
  have inL : ∀ p ∈ L, setL H1 L p.1 = some (CellF p.2.1 p.1 p.2.2) := fun p hp => setL_in uq hp
  have outL : ∀ b, b ∉ L.map (·.1) → setL H1 L b = H1 b := fun b hb => setL_ne fun p hp e => hb (by rw [← e]; exact List.mem_map_of_mem hp)
  have sm : Same H1 (setL H1 L) := fun b o eb => by
    rw [outL b fun z => ?_]
    · exact eb
    · obtain ⟨p, hp, rfl⟩ := List.mem_map.mp z
      rw [(l1 p hp).2.1] at eb
      exact nomatch eb
  have hcs : ∀ c ∈ L.map (·.1), H1 c = none ∧ ∃ o v, setL H1 L c = some (CellF o c v) := fun c hc => by
    obtain ⟨p, hp, rfl⟩ := List.mem_map.mp hc
    exact ⟨(l1 p hp).2.1, p.2.1, p.2.2, inL p hp⟩
  have hok : HOk X.prog X.w (setL H1 L) s1.heap := fun a o eo => by
    by_cases ha : a ∈ L.map (·.1)
    · obtain ⟨p, hp, rfl⟩ := List.mem_map.mp ha
      rw [inL p hp] at eo
      obtain rfl := Option.some.inj eo
      obtain ⟨_, _, _, a3, u, r1, d1⟩ := l1 p hp
      exact cellF_ok r1 a3 d1
    · rw [outL a ha] at eo
      exact (I1.hok a o eo).stay (fun _ _ _ z => z) (fun b z => sm _ _ z) fun b xs z => sm _ _ z
  have e0 := I1.env0
  have e0' : Env0 X.prog X.w X.K X.mg X.base X.A X.stack s1 (setL H1 L) := ⟨e0.frames, e0.mod, fun b o z => ⟨(e0.bs b o z).1, by
      rw [outL b fun zz => ?_]
      · exact (e0.bs b o z).2
      · obtain ⟨p, hp, rfl⟩ := List.mem_map.mp zz
        rw [(l1 p hp).1] at z
        exact nomatch z⟩, e0.bsz, e0.funs, fun b hb => by
      rw [outL b fun zz => ?_]
      · exact e0.frf b hb
      · obtain ⟨p, hp, rfl⟩ := List.mem_map.mp zz
        exact (l1 p hp).2.2.1 hb, hok, e0.bare⟩
  have clo : ∀ C ∈ own σ, CloH C (setL H1 L) := fun C hC => by
    obtain ⟨hH, _⟩ := hO _ _ _ _ I1 C hC
    obtain ⟨a1, a2⟩ := l2 C hC
    refine ⟨hH.at_.len, fun y c e => ?_, hH.at_.inj, fun i y ey => ?_⟩
    · obtain ⟨p, hp, rfl⟩ := a1 y c e
      exact ⟨_, _, inL p hp⟩
    · obtain ⟨c, e1, e2⟩ := a2 i y ey
      exact ⟨c, e1, fun v ev => by
        obtain ⟨o, hm⟩ := e2 v ev
        exact ⟨o, inL _ hm⟩⟩
  have inC : ∀ C ∈ own σ, ∀ y c, C.cl.lookup y = some c → c ∈ L.map (·.1) := fun C hC y c e => by
    obtain ⟨p, hp, rfl⟩ := (l2 C hC).1 y c e
    exact List.mem_map_of_mem hp
  have q := q _ _ sm hcs outL clo inC
  have hl : us.length = ps.length := by
    rw [← r.length]
    exact F.len _ _ _ _ q
  have bnd := hb s1 us I1.kIn (by rw [List.append_nil]; exact hl)
  rw [List.append_nil] at bnd
  refine wpAny_call (codeAny_mono (F.run X.A X.stack s1 (setL H1 L) ⟨us, []⟩ us vs _ _ hr e0' bnd r q) fun r s' hq => ?_)
  cases r with
  | error err => exact hx σ pins _ s1 err s' I1 (dx _ _ _ _ _ _ _ _ hok hcs outL hq)
  | ok fl =>
    cases fl with
    | ret u => exact I1.after (ce_del hok hcs outL hq)
    | next => exact (show False from hq).elim
    | brk => exact (show False from hq).elim
    | cont => exact (show False from hq).elim
theorem r_callO {σ : L2.St} {H : Hp} {Q : VK} (h : t σ H fun vs H1 => (∀ C ∈ own σ, ∀ i, i < C.fr.length → ∃ v, C.ws[i]? = some (some v)) ∧ vs.length = vs.length ∧
  ∀ (H2 : Hp) (cs : List Addr), Same H1 H2 → (∀ c ∈ cs, H1 c = none ∧ ∃ o v, H2 c = some (CellF o c v)) → (∀ b, b ∉ cs → H2 b = H1 b) → (∀ C ∈ own σ, CloH C H2) → (∀ C ∈ own σ, ∀ y c, C.cl.lookup y = some c → c ∈ cs) →
    sp vs H2 (fun v H3 => Q v (delH H3 cs)) (fun c d H3 => E σ c d (delH H3 cs))) : tCallO own sp E t σ H Q := h
theorem r_callK {P : Program} {w : World} {K : PySem.W.Frag} {mg : Str → Option Value} {base : Heap} {i : Nat} {σ : L2.St} {H : Hp} {Q : VK} (h : ∃ f F e, σ[i]? = some (some (.ref f)) ∧ H f = some (LamO f F e) ∧
  t σ H fun vs H1 => H1 f = some (LamO f F e) ∧ ∃ (C : Clo) (ps : List Str) (spL : List (Option V) → Sp) (cs : List Addr), C.cl = F.cl ∧ LOk P w K mg base CX0 k f F e ps C.fr spL ∧ CloH C H1 ∧ (∀ c ∈ cs, ∃ o v, H1 c = some (CellF o c v)) ∧ (∀ y c, C.cl.lookup y = some c → c ∈ cs) ∧
    delH H1 cs f = some (LamO f F e) ∧ delH H1 cs F.c = some (CodeO F.c F.qual) ∧ spL C.ws vs (delH H1 cs) (Back Q H1 cs) E0) : tCallK P w K mg base k i t σ H Q := h
end
end G
set_option Elab.async false
set_option linter.all false
set_option maxRecDepth 100000
set_option maxHeartbeats 4000000
namespace G
open PySem PySem.Spec PyProof.Rows L2
def rListN : List V → Hp → VK → Prop := fun xs H Q => ∃ (d : Addr) (rs : List (List Nat)), xs = [V.ref d] ∧ Rd H d (.dT (dictN rs)) ∧
  ∀ (p : Addr) (ps : List (Addr × List Nat)), H p = none → ps.map (·.2) = rs → TupR H ps → Q (.ref p) (upd H p (.lst (refsV ps)))
theorem keys_rows {H : Hp} : ∀ (rs : List (List Nat)) (bs : List Addr), IsKeys H (dictN rs) bs → ∃ ps : List (Addr × List Nat), ps.map (·.2) = rs ∧ TupR H ps ∧ bs.map V.ref = refsV ps
  | [], _, h => by
    cases (show Paired _ _ _ from h)
    exact ⟨[], rfl, (fun p hp => nomatch hp), rfl⟩
  | r :: rs, _, h => by
    cases (show Paired _ _ _ from h) with
    | @cons _ b _ bs h1 h2 =>
      obtain ⟨ps, e1, e2, e3⟩ := keys_rows rs bs h2
      have hb : H b = some (.tup ((kN r).map kV)) := h1
      rw [kN_row] at hb
      refine ⟨(b, r) :: ps, by rw [List.map_cons, e1], fun p hp => ?_, ?_⟩
      · rcases List.mem_cons.mp hp with rfl | hp
        · exact hb
        · exact e2 p hp
      · rw [List.map_cons, e3]
        rfl
section
variable {X : Cx} {H : Hp} {Q : VK} {K : PySem.W.Frag} {σ : L2.St} {te ty td tv : TE}
theorem call_listN (hc : X.calm = true) : CallR X (.type "list") rListN := by
  rintro pins s σ H xs us Q I rs ⟨d, rows, rfl, hd, key⟩
  refine call_list_dT hc pins s σ H _ us Q I rs ⟨d, _, rfl, hd, fun p bs hp hk => ?_⟩
  obtain ⟨ps, e1, e2, e3⟩ := keys_rows rows bs hk
  rw [e3]
  exact key p ps hp e1 e2
theorem r_listN {d : Addr} {rs : List (List Nat)} (h : H d = some (.dT (dictN rs))) (q : ∀ (p : Addr) (ps : List (Addr × List Nat)), H p = none → ps.map (·.2) = rs → TupR H ps → Q (.ref p) (upd H p (.lst (refsV ps)))) : rListN [.ref d] H Q := ⟨d, rs, rfl, .inl h, q⟩
theorem r_sortD {d : Addr} {rs : List (List Nat)} (h : H d = some (.dT (dictN rs))) (hn : ∀ r ∈ rs, r ≠ []) (q : ∀ (zs : List (Addr × List Nat)) (p : Addr), (zs.map (·.2)).Perm rs → sortedR zs → TupR H zs → H p = none → Q (.ref p) (upd H p (.lst (refsV zs)))) : rSortD [.ref d] H Q := ⟨d, rs, rfl, .inl h, hn, q⟩
theorem r_sortT {a : Addr} {ps : List (Addr × List Nat)} (h : SqL K H a (refsV ps)) (hall : ∀ p ∈ ps, SqT K H p.1 (p.2.map iV) ∧ p.2 ≠ []) (q : ∀ (zs : List (Addr × List Nat)) (p : Addr), zs.Perm ps → sortedR zs → H p = none → Q (.ref p) (upd H p (.lst (refsV zs)))) : rSortT K [.ref a] H Q := ⟨a, ps, rfl, h, hall, q⟩
theorem r_lenDT {d : Addr} {rs : List (List Nat)} (h : H d = some (.dT (dictN rs))) (q : Q (.int (rs.length : Nat)) H) : rLenT [.ref d] H Q := by
  refine ⟨d, dictN rs, rfl, h, ?_⟩
  rw [dictN_len]
  exact q
theorem r_dni {ty td : TE} (h : ty σ H fun y H1 => td σ H1 fun x H2 => ∃ a o, x = .ref a ∧ DGet H2 a y o ∧ Q (.bl (!o.isSome)) H2) : tDNotIn ty td σ H Q := h
open Classical in
theorem dni_at {d b : Addr} {rs : List (List Nat)} {r : List Nat} (h : H d = some (.dT (dictN rs))) (hb : H b = some (.tup (r.map iV))) : ∃ o, DGet H d (.ref b) o ∧ (!o.isSome) = decide (r ∉ rs) := by
  rw [← kN_row] at hb
  refine ⟨_, DGet.t h hb, ?_⟩
  by_cases e : r ∈ rs
  · rw [valV_in e, decide_eq_false (fun z => z e)]
    rfl
  · rw [valV_out e, decide_eq_true e]
    rfl
theorem r_dput {D : Ends} {td ty tv : TE} (h : tv σ H fun v H1 => td σ H1 fun x H2 => ty σ H2 fun y H3 => ∃ a H4, x = .ref a ∧ DPut H3 a y v H4 ∧ D.nx σ H4) : sDPut td ty tv D σ H := h
theorem r_dputE {D : Ends} {d b : Addr} {rs : List (List Nat)} {r : List Nat} (h : H d = some (.dT (dictN rs))) (hb : H b = some (.tup (r.map iV))) (hr : r ∉ rs) (hl : rs.length < sizeLine) (q : D.nx σ (upd H d (.dT (dictN (rs ++ [r]))))) : ∃ a H4, V.ref d = .ref a ∧ DPut H a (.ref b) (.bl true) H4 ∧ D.nx σ H4 := by
  rw [← kN_row] at hb
  refine ⟨d, _, rfl, DPut.t h hb (by rw [dictN_len]; exact hl), ?_⟩
  rw [putN hr]
  exact q
theorem r_dispT {tk tv : TE} (h : ∀ p, H p = none → tk σ (upd H p (.dT [])) fun x H1 => tv σ H1 fun y H2 => ∃ b r, x = .ref b ∧ H2 b = some (.tup ((r : List Nat).map iV)) ∧ H2 p = some (.dT []) ∧ y = .bl true ∧ Q (.ref p) (upd H2 p (.dT (dictN [r])))) : tDispT tk tv σ H Q := h
theorem at_refs {ps : List (Addr × List Nat)} {i : Nat} {p : Addr × List Nat} (h : ps[i]? = some p) : atI (refsV ps) (i : Int) = some (.ref p.1) := by
  refine at_of rfl ?_
  unfold refsV
  rw [List.getElem?_map, h]
  rfl
end
end G
set_option Elab.async false
set_option linter.all false
set_option maxRecDepth 100000
set_option maxHeartbeats 4000000
namespace G
open PySem PySem.Spec PyProof.Rows L2
/-! ### dicts from rows to texts -/
abbrev Wm := List (List Nat × List Nat)
def dictW (m : Wm) : List (List Key × V) := m.map fun p => (kN p.1, sV p.2)
theorem dictW_len (m : Wm) : (dictW m).length = m.length := List.length_map _
theorem valW_in : ∀ {m : Wm} {i : Nat} {p : List Nat × List Nat}, (m.map (·.1)).Nodup → m[i]? = some p → valV (dictW m) (kN p.1) = some (sV p.2)
  | x :: m, 0, p, _, h => by
    cases Option.some.inj (show some x = some p from h)
    exact valV_pos rfl
  | x :: m, i + 1, p, nd, h => by
    have h' : m[i]? = some p := h
    obtain ⟨n1, n2⟩ := List.nodup_cons.mp (show (x.1 :: m.map (·.1)).Nodup from nd)
    show valV ((kN x.1, sV x.2) :: dictW m) (kN p.1) = _
    rw [valV_neg (fun z => n1 (by rw [kN_inj z]; exact List.mem_map_of_mem (List.mem_of_getElem? h')))]
    exact valW_in n2 h'
  | [], _, _, _, h => by simp at h
theorem valW_out {m : Wm} {r : List Nat} (h : r ∉ m.map (·.1)) : valV (dictW m) (kN r) = none := by
  induction m with
  | nil => rfl
  | cons x m ih =>
    have h2 : r ∉ x.1 :: m.map (·.1) := h
    show valV ((kN x.1, sV x.2) :: dictW m) (kN r) = _
    rw [valV_neg (fun z => h2 (by rw [← kN_inj z]; exact List.mem_cons_self))]
    exact ih fun z => h2 (List.mem_cons_of_mem _ z)
theorem putW {m : Wm} {r z : List Nat} (h : r ∉ m.map (·.1)) : putK (dictW m) (kN r) (sV z) = dictW (m ++ [(r, z)]) := by
  rw [putK_new _ (valW_out h)]
  unfold dictW
  rw [List.map_append]
  rfl
/-- {t: v}, one key, a row -/
def tDispV (tk tv : TE) : TE := fun σ H Q => ∀ p, H p = none → tk σ (upd H p (.dT [])) fun x H1 => tv σ H1 fun y H2 => ∃ b r, x = .ref b ∧ H2 b = some (.tup ((r : List Nat).map iV)) ∧ H2 p = some (.dT []) ∧ Q (.ref p) (upd H2 p (.dT [(kN r, y)]))
section
variable {X : Cx} {K : PySem.W.Frag} {σ : L2.St} {H : Hp} {Q : VK} {tk tv : TE}
theorem pe_dispV {k v : Expr} {pos : Pos} (hu : X.A.units + 1 < cLine) (hk : PE X k tk) (hv : PE X v tv) : PE X (.Dict [some k] [v] pos) (tDispV tk tv) := by
  constructor
  intro pins s σ H Q I q
  have hn := I.hok.fresh (Nat.le_refl s.heap.objs.size)
  have I1 := I.laid (a := s.heap.objs.size) (o := .dT []) (h' := s.heap.push { cls := .type "dict", data := .dict #[] }) (t' := s.toks) (fun _ _ e => Heap.get?_push_of_some _ e) (Nat.le_refl _) (dt_empty s.heap I.big)
  rw [arm_eval_Dict, zip_pairTrees [some k] [v] X.env pos rfl rfl, dictDisplay_pairs (pairTrees [some k] [v] X.env pos) (by simp [pairTrees]) (by simp [pairTrees])]
  refine wpAny_bind (wpAny_standAt (wpAny_bind ?_))
  refine wpAny_subDictH (knd := tupleKind (mixKind X.prog X.w)) (Q := fun d s' => wpAny (model X.prog X.w) X.A (pure (Value.ref d)) (EP X pins σ Q) X.xe s') (show X.A.units < cLine by omega) (by simp [pairTrees]) ?_
  refine pairTrees_cons_walk (thn (hk.run pins _ σ _ _ I1 (q _ hn)) fun u s1 ⟨x, H1, I2, rx, q1⟩ => thn (hv.run pins s1 σ H1 _ I2 q1) fun w2 s2 ⟨y, H2, I3, ry, b, r, ex, hb, hp, q2⟩ => pairTrees_nil_walk ?_)
  subst ex
  cases rx
  rw [← kN_row] at hb
  obtain ⟨z, hd, xs, rel, dd⟩ := dt_of I3.hok hp
  cases rel
  refine ⟨[(kN r, b, w2)], ⟨rfl, rfl, key_of I3.hok hb, trivial⟩, dd, fun h' tk dd' hs => wpAny_pure ?_⟩
  obtain ⟨ob, es, ep, hq, h2, h3, h4, _, h5⟩ := dd'
  have I4 := d_write (t' := tk) (ob := .dT [(kN r, y)]) I3 (by rw [hp]; exact True.intro) hs ⟨ob, hq⟩ ⟨by show 1 ≤ sizeLine; decide, hd, [(kN r, b, w2)], .cons ⟨rfl, by rw [upd_ne (ne_of hb hp (fun z => nomatch z))]; exact hb, ry⟩ .nil, ob, es, ep, hq, h2, h3, h4, h5⟩
  exact ⟨.ref _, _, I4, rfl, q2⟩
theorem r_dispV (h : ∀ p, H p = none → tk σ (upd H p (.dT [])) fun x H1 => tv σ H1 fun y H2 => ∃ b r, x = .ref b ∧ H2 b = some (.tup ((r : List Nat).map iV)) ∧ H2 p = some (.dT []) ∧ Q (.ref p) (upd H2 p (.dT [(kN r, y)]))) : tDispV tk tv σ H Q := h
open Classical in
theorem dnw_at {d b : Addr} {m : Wm} {r : List Nat} (h : H d = some (.dT (dictW m))) (hb : H b = some (.tup (r.map iV))) (nd : (m.map (·.1)).Nodup) : ∃ o, DGet H d (.ref b) o ∧ (!o.isSome) = decide (r ∉ m.map (·.1)) := by
  rw [← kN_row] at hb
  refine ⟨_, DGet.t h hb, ?_⟩
  by_cases e : r ∈ m.map (·.1)
  · obtain ⟨i, hi⟩ := List.mem_iff_getElem?.mp e
    rw [List.getElem?_map] at hi
    obtain ⟨p, hp, rfl⟩ := Option.map_eq_some_iff.mp hi
    rw [valW_in nd hp, decide_eq_false (fun z => z e)]
    rfl
  · rw [valW_out e, decide_eq_true e]
    rfl
theorem r_dputW {D : Ends} {d b : Addr} {m : Wm} {r z : List Nat} (h : H d = some (.dT (dictW m))) (hb : H b = some (.tup (r.map iV))) (hr : r ∉ m.map (·.1)) (hl : m.length < sizeLine) (q : D.nx σ (upd H d (.dT (dictW (m ++ [(r, z)]))))) :
    ∃ a H4, V.ref d = .ref a ∧ DPut H a (.ref b) (sV z) H4 ∧ D.nx σ H4 := by
  rw [← kN_row] at hb
  refine ⟨d, _, rfl, DPut.t h hb (by rw [dictW_len]; exact hl), ?_⟩
  rw [putW hr]
  exact q
theorem r_dg {td ty : TE} (h : td σ H fun x H1 => ty σ H1 fun y H2 => ∃ a v, x = .ref a ∧ DGet H2 a y (some v) ∧ Q v H2) : tDGet td ty σ H Q := h
theorem r_dgetW {d b : Addr} {m : Wm} {i : Nat} {p : List Nat × List Nat} (h : H d = some (.dT (dictW m))) (hb : H b = some (.tup (p.1.map iV))) (nd : (m.map (·.1)).Nodup) (hi : m[i]? = some p) (q : Q (sV p.2) H) :
    ∃ a v, V.ref d = .ref a ∧ DGet H a (.ref b) (some v) ∧ Q v H := by
  rw [← kN_row] at hb
  refine ⟨d, _, rfl, ?_, q⟩
  have g := DGet.t h hb
  rw [valW_in nd hi] at g
  exact g
theorem r_dg1 {td ty : TE} (h : td σ H fun x H1 => ∃ a, x = .ref a ∧ IsD H1 a ∧ ty σ H1 fun y H2 => ∃ o, DGet H2 a y o ∧ Q (o.getD .non) H2) : tDGet1 td ty σ H Q := h
theorem dget1_at {d b : Addr} {m : Wm} {r : List Nat} (h : H d = some (.dT (dictW m))) (hb : H b = some (.tup (r.map iV))) (nd : (m.map (·.1)).Nodup) :
    ∃ o, DGet H d (.ref b) o ∧ ((∃ (i : Nat) (p : List Nat × List Nat), m[i]? = some p ∧ p.1 = r ∧ o = some (sV p.2)) ∨ (r ∉ m.map (·.1) ∧ o = none)) := by
  rw [← kN_row] at hb
  refine ⟨_, DGet.t h hb, ?_⟩
  by_cases e : r ∈ m.map (·.1)
  · obtain ⟨i, hi⟩ := List.mem_iff_getElem?.mp e
    rw [List.getElem?_map] at hi
    obtain ⟨p, hp, rfl⟩ := Option.map_eq_some_iff.mp hi
    exact .inl ⟨i, p, hp, rfl, valW_in nd hp⟩
  · exact .inr ⟨e, valW_out e⟩
theorem dgetW_at {d b : Addr} {m : Wm} {i : Nat} {p : List Nat × List Nat} (h : H d = some (.dT (dictW m))) (hb : H b = some (.tup (p.1.map iV))) (nd : (m.map (·.1)).Nodup) (hi : m[i]? = some p) : DGet H d (.ref b) (some (sV p.2)) := by
  rw [← kN_row] at hb
  have g := DGet.t h hb
  rw [valW_in nd hi] at g
  exact g
theorem abcd_at {k j c : Nat} (h4 : k ≤ 4) (h : (abcdG k)[j]? = some c) : c = 97 + j := by
  unfold abcdG at h
  rw [List.getElem?_take] at h
  split at h
  · match j, h with
    | 0, h => cases Option.some.inj h; rfl
    | 1, h => cases Option.some.inj h; rfl
    | 2, h => cases Option.some.inj h; rfl
    | 3, h => cases Option.some.inj h; rfl
    | n + 4, h => simp at h
  · exact nomatch h
theorem keys_rowsW {H : Hp} : ∀ (m : Wm) (bs : List Addr), IsKeys H (dictW m) bs → ∃ ps : List (Addr × List Nat), ps.map (·.2) = m.map (·.1) ∧ TupR H ps ∧ bs.map V.ref = refsV ps
  | [], _, h => by
    cases (show Paired _ _ _ from h)
    exact ⟨[], rfl, (fun p hp => nomatch hp), rfl⟩
  | x :: m, _, h => by
    cases (show Paired _ _ _ from h) with
    | @cons _ b _ bs h1 h2 =>
      obtain ⟨ps, e1, e2, e3⟩ := keys_rowsW m bs h2
      have hb : H b = some (.tup ((kN x.1).map kV)) := h1
      rw [kN_row] at hb
      refine ⟨(b, x.1) :: ps, by rw [List.map_cons, List.map_cons, e1], fun p hp => ?_, ?_⟩
      · rcases List.mem_cons.mp hp with rfl | hp
        · exact hb
        · exact e2 p hp
      · rw [List.map_cons, e3]
        rfl
def rListW : List V → Hp → VK → Prop := fun xs H Q => ∃ (d : Addr) (m : Wm), xs = [V.ref d] ∧ Rd H d (.dT (dictW m)) ∧
  ∀ (p : Addr) (ps : List (Addr × List Nat)), H p = none → ps.map (·.2) = m.map (·.1) → TupR H ps → Q (.ref p) (upd H p (.lst (refsV ps)))
theorem call_listW (hc : X.calm = true) : CallR X (.type "list") rListW := by
  rintro pins s σ H xs us Q I rs ⟨d, m, rfl, hd, key⟩
  refine call_list_dT hc pins s σ H _ us Q I rs ⟨d, _, rfl, hd, fun p bs hp hk => ?_⟩
  obtain ⟨ps, e1, e2, e3⟩ := keys_rowsW m bs hk
  rw [e3]
  exact key p ps hp e1 e2
theorem r_lenW {d : Addr} {m : Wm} (h : H d = some (.dT (dictW m))) (q : Q (.int (m.length : Nat)) H) : rLenT [.ref d] H Q := by
  refine ⟨d, dictW m, rfl, h, ?_⟩
  rw [dictW_len]
  exact q
end
theorem at_abcd {c : Nat} (h : c < 4) : atI (Str.ofString "abcd").cps.toList (c : Int) = some (97 + c) := by
  match c, h with
  | 0, _ => decide +kernel
  | 1, _ => decide +kernel
  | 2, _ => decide +kernel
  | 3, _ => decide +kernel
end G
set_option Elab.async false
set_option linter.all false
set_option maxRecDepth 100000
set_option maxHeartbeats 4000000
namespace G
open PySem PySem.Spec PyProof.Rows L2
/-! ### walking a dict whose keys are tuples: it is locked as the walk begins -/
theorem frzTv {X : Cx} {pins : List (Addr × Obj)} {σ : L2.St} {H : Hp} {s : Shared} {d : Addr} {o : Obj} {kvs : List (List Key × V)} (I : Inv X pins σ H s) (h : H d = some (.frz o (.dT kvs))) :
    (d == sysModules) = false ∧ s.heap.get? d = some o ∧ o.ExactDict ∧ ∃ (es : Array DictEntry) (ep : Nat), o.data = .dict es ep ∧ es.size = kvs.length ∧
      ∀ (i : Nat) (k : List Key) (v : V), kvs[i]? = some (k, v) → ∃ (en : DictEntry) (q : Addr), es[i]? = some en ∧ en.key = .ref q ∧ H q = some (.tup (k.map kV)) ∧ RelV v en.val := by
  obtain ⟨hd, z, hs, xs, pr, o', es, ep, ho, hx, hdt, he, _⟩ := I.hok d _ h
  rw [hd] at ho
  cases ho
  refine ⟨hs, hd, hx, es, ep, hdt, ?_, fun i k v e => ?_⟩
  · have l1 : es.size = xs.length := size_of_entries he
    have l2 : kvs.length = xs.length := Paired.length pr
    omega
  · obtain ⟨b, hb, e1, e2, e3⟩ := paired_get pr e
    have q := entry_at he i
    rw [hb] at q
    exact ⟨_, b.2.1, q, rfl, e2, e3⟩
/-- the pairs, each a new tuple of the key's own tuple and the value -/
def Itit (d : Addr) (o : Obj) (kvs : List (List Key × V)) : It :=
  ⟨fun i H => H d = some (.frz o (.dT kvs)) ∧ i < kvs.length, fun i H x H' => ∃ (T : Addr) (k : List Key) (v : V) (q : Addr), kvs[i]? = some (k, v) ∧ x = .ref T ∧ H T = none ∧ H q = some (.tup (k.map kV)) ∧ H' = upd H T (.tup [.ref q, v]), fun i H => H d = some (.frz o (.dT kvs)) ∧ kvs.length ≤ i⟩
section
variable {P : Program} {w : World} {K : PySem.W.Frag} {tg : Expr} {d : Addr} {o : Obj} {es : Array DictEntry} {ep : Nat}
theorem turn_itemsT {kvs : List (List Key × V)} {elts : List Expr} {kk : Nat} {tpos : Pos} (it : Addr) (hod : o.data = .dict es ep) :
    Turn P w K (.Tuple elts kk tpos) (Itit d o kvs) [it] it (fun i h => ∃ ok ov, IsItemIter h it d i kvs.length ep ok ov) where
  mem := by simp
  obj := fun i h st b hb => by
    have e : b = it := by simpa using hb
    subst e
    obtain ⟨ok, ov, e⟩ := st
    exact ⟨_, e, fun v z => nomatch z⟩
  keep := fun i h h' st k => let ⟨ok, ov, e⟩ := st; ⟨ok, ov, k it (by simp) _ e⟩
  item := by
    intro X hP hw hK hc i pins s σ H E I hf st hg
    subst hP hw hK
    obtain ⟨hd, hi⟩ := hg
    obtain ⟨hs, hgd, hx, es', ep', hdt, hsz, ent⟩ := frzTv I hd
    obtain ⟨rfl, rfl⟩ := dict_ep hod hdt
    obtain ⟨⟨k, v⟩, hkv⟩ : ∃ p, kvs[i]? = some p := ⟨kvs[i], List.getElem?_eq_getElem hi⟩
    obtain ⟨en, q, hen, hkey, hq, rv⟩ := ent i k v hkv
    obtain ⟨ok, ov, he⟩ := st
    rw [← hsz] at he
    have hlt : it < s.heap.objs.size := Heap.lt_size he
    have hie : i < es'.size := by omega
    obtain rfl : es'[i] = en := by
      rw [Array.getElem?_eq_getElem hie] at hen
      exact Option.some.inj hen
    refine wpAny_pyNext_items_item_raw he ⟨o, hgd, hx, hdt⟩ hie fun h' ho hT hz hk => ?_
    refine ⟨_, rfl, wpAny_letOwnedTupleGo_items (s := { s with heap := h' }) ho fun h'' he' sb => ?_⟩
    have hT2 : h''.get? s.heap.objs.size = some { cls := .type "tuple", data := .seq #[es'[i].key, es'[i].val] } := (sb.2 _ (Nat.ne_of_gt hlt)).trans hT
    have new : ObjOk X.prog X.w (upd H s.heap.objs.size (.tup [.ref q, v])) h'' s.heap.objs.size (.tup [.ref q, v]) :=
      ⟨by show 2 ≤ sizeLine; decide, [es'[i].key, es'[i].val], .cons hkey (.cons rv .nil), ⟨_, hT2, rfl, _, rfl⟩⟩
    have I1 : Inv X pins σ (upd H s.heap.objs.size (.tup [.ref q, v])) { s with heap := h'' } :=
      I.turnedNew (t' := s.toks) (ch := [it]) (fun b ob hb e => (sb.2 b (by simpa using hb)).trans (hk b ob (by simpa using hb) e)) hf (Nat.le_refl _) new
    refine ⟨.ref s.heap.objs.size, _, I1, rfl, ⟨_, k, v, q, hkv, rfl, I.hok.fresh (Nat.le_refl _), hq, rfl⟩, ⟨es'[i].key, es'[i].val, ?_⟩, fun b hb => ?_⟩
    · rw [← hsz]; exact he'
    · have e : b = it := by simpa using hb
      rw [e, upd_ne (Nat.ne_of_lt hlt)]
      exact (hf it (by simp)).1
  done := by
    intro X hP hw hK hc i pins s σ H E I hf st hg
    subst hP hw hK
    obtain ⟨hd, hi⟩ := hg
    obtain ⟨f0, f1, f2, f3, f4, f5⟩ := hf it (by simp)
    obtain ⟨hs, hgd, hx, es', ep', hdt, hsz, ent⟩ := frzTv I hd
    obtain ⟨rfl, rfl⟩ := dict_ep hod hdt
    obtain ⟨ok, ov, he⟩ := st
    rw [← hsz] at he
    exact wpAny_pyNext_items_end_raw (I.ok.hd hc) he ⟨o, hgd, hx, hdt⟩ (by omega) fun h' eb => ⟨rfl, I.turned (t' := s.toks) (fun b ob hb e => eb b ob hb e) f0 f1 f3 f4 f5⟩
  self := fun A i s Q E st h => let ⟨_, _, e⟩ := st; PySem.W.kcp_self e h
end
def iKeysL (td : TE) : TI := fun σ H R => td σ H fun x H1 => ∃ (d : Addr) (kvs : List (List Key × V)), x = .ref d ∧ ((H1 d = some (.dT kvs) ∧ ∀ o, R (Itkt d o kvs) (upd H1 d (.frz o (.dT kvs)))) ∨ ∃ o, H1 d = some (.frz o (.dT kvs)) ∧ R (Itkt d o kvs) H1)
def iItemsL (td : TE) : TI := fun σ H R => td σ H fun x H1 => ∃ (d : Addr) (kvs : List (List Key × V)), x = .ref d ∧ ((H1 d = some (.dT kvs) ∧ ∀ o, R (Itit d o kvs) (upd H1 d (.frz o (.dT kvs)))) ∨ ∃ o, H1 d = some (.frz o (.dT kvs)) ∧ R (Itit d o kvs) H1)
section
variable {X : Cx} {tg e : Expr} {td : TE} {apos cpos : Pos}
theorem pi_keysL (he : PE X e td) : PI X tg e (iKeysL td) := by
  refine ⟨fun pins s σ H R I h => ?_⟩
  refine thn (he.run pins s σ H _ I h) fun u s1 ⟨x, H1, I1, rx, d, kvs, ex, q⟩ => ?_
  subst ex
  obtain rfl : u = Value.ref d := rx
  rcases q with ⟨hd, q⟩ | ⟨o, hd, q⟩
  · obtain ⟨od, I2⟩ := I1.lock hd trivial
    obtain ⟨hs, hgd, hx, es, ep, hdt, hsz, ent⟩ := I2.frzT upd_same
    refine iter_keys hs hgd hx hdt (pi_one (tk := s1.toks) I2 _ (turn_keysT _ hdt) ⟨_, Heap.get?_push_size _ rfl, rfl, ?_⟩ (q od))
    rw [hsz] <;> rfl
  · obtain ⟨hs, hgd, hx, es, ep, hdt, hsz, ent⟩ := I1.frzT hd
    refine iter_keys hs hgd hx hdt (pi_one (tk := s1.toks) I1 _ (turn_keysT _ hdt) ⟨_, Heap.get?_push_size _ rfl, rfl, ?_⟩ q)
    rw [hsz] <;> rfl
theorem pi_itemsF {pins : List (Addr × Obj)} {σ : L2.St} {H1 : Hp} {s1 : Shared} {R : It → Hp → Prop} {d : Addr} {o : Obj} {kvs : List (List Key × V)} {elts : List Expr} {kk : Nat} {tpos : Pos}
    (I1 : Inv X pins σ H1 s1) (hd : H1 d = some (.frz o (.dT kvs))) (q : R (Itit d o kvs) H1) :
    (s1.TypeIs (.ref d) "dict") ∧ wpAny (model X.prog X.w) X.A (pyIter (.ref s1.heap.objs.size)) (PIE X pins σ (.Tuple elts kk tpos) R) X.xe { s1 with heap := s1.heap.push { cls := .type "dict_items", data := .fields #[.ref d] } } := by
  obtain ⟨hs, hgd, hx, es, ep, hdt, hsz, ent⟩ := frzTv I1 hd
  refine ⟨⟨o, hgd, hx.1⟩, ?_⟩
  have I2 : Inv X pins σ H1 { s1 with heap := s1.heap.push { cls := .type "dict_items", data := .fields #[.ref d] } } := I1.kept (t' := s1.toks) fun b o q => Heap.get?_push_of_some _ q
  refine wpAny_pyIter_items_raw (d := d) ⟨_, Heap.get?_push_size _ rfl, rfl, rfl⟩ ⟨o, Heap.get?_push_of_some _ hgd, hx, hdt⟩ (pi_one (tk := s1.toks) I2 _ (turn_itemsT _ hdt) ⟨.none, .none, ?_⟩ q)
  rw [← hsz]
  exact Heap.get?_push_size _ rfl
theorem pi_itemsL {elts : List Expr} {kk : Nat} {tpos : Pos} (he : PE X e td) (hbase : attributeBase e "items" X.env (eval e X.env) = eval e X.env := by rfl) (hline : (apos.endLine == cpos.line) = true := by rfl) :
    PI X (.Tuple elts kk tpos) (.Call (.Attribute e "items" apos) [] [] cpos) (iItemsL td) := by
  refine ⟨fun pins s σ H R I h => ?_⟩
  refine wpAny_Call_method (T := "dict") (id := "dict.items") hbase rfl hline F.plainAttrs_dict F.slot_dict_items F.type_dict_items (thn (he.run pins s σ H _ I h) fun u s1 ⟨x, H1, I1, rx, d, kvs, ex, q⟩ => ?_)
  subst ex
  obtain rfl : u = Value.ref d := rx
  obtain ⟨H2, o, I2, hd, q2⟩ : ∃ H2 o, Inv X pins σ H2 s1 ∧ H2 d = some (.frz o (.dT kvs)) ∧ R (Itit d o kvs) H2 := by
    rcases q with ⟨hd, q⟩ | ⟨o, hd, q⟩
    · obtain ⟨od, I2⟩ := I1.lock hd trivial
      exact ⟨_, od, I2, upd_same, q od⟩
    · exact ⟨_, o, I1, hd, q⟩
  obtain ⟨hs, hgd, hx, es, ep, hdt, hsz, ent⟩ := frzTv I2 hd
  obtain ⟨ht, fin⟩ := pi_itemsF (elts := elts) (kk := kk) (tpos := tpos) I2 hd q2
  refine ⟨ht, (fun b z => by cases z; exact ⟨o, hgd, hx.2.1⟩), ?_⟩
  show wpAny _ _ (callWith cpos (.builtin "dict.items") [.ref d] [] []) _ X.xe s1
  exact method_meetsIn F.slot_dict_items F.entry_dict_items rfl (PySem.evalArgs_none ⟨rfl, ht, F.args_dict_items_1 _, _, meets_dict_items_raw d hs, ⟨es, ep, o, hgd, hx, hdt⟩, fin⟩)
end
/-! the readings -/
section
variable {σ : L2.St} {H : Hp} {td : TE} {R : It → Hp → Prop} {d : Addr} {kvs : List (List Key × V)}
theorem r_iKeysL (h : td σ H fun x H1 => ∃ (d : Addr) (kvs : List (List Key × V)), x = .ref d ∧ ((H1 d = some (.dT kvs) ∧ ∀ o, R (Itkt d o kvs) (upd H1 d (.frz o (.dT kvs)))) ∨ ∃ o, H1 d = some (.frz o (.dT kvs)) ∧ R (Itkt d o kvs) H1)) : iKeysL td σ H R := h
theorem r_iItemsL (h : td σ H fun x H1 => ∃ (d : Addr) (kvs : List (List Key × V)), x = .ref d ∧ ((H1 d = some (.dT kvs) ∧ ∀ o, R (Itit d o kvs) (upd H1 d (.frz o (.dT kvs)))) ∨ ∃ o, H1 d = some (.frz o (.dT kvs)) ∧ R (Itit d o kvs) H1)) : iItemsL td σ H R := h
theorem lockQ {C : Obj → Prop} {C2 : Obj → Prop} (h : H d = some (.dT kvs)) (q : ∀ o, C o) : (H d = some (.dT kvs) ∧ ∀ o, C o) ∨ ∃ o, H d = some (.frz o (.dT kvs)) ∧ C2 o := .inl ⟨h, q⟩
end
theorem walk_itemsT {d : Addr} {o : Obj} {kvs : List (List Key × V)} : Walk (Itit d o kvs) kvs.length (fun H => H d = some (.frz o (.dT kvs)))
    (fun i H x H' => ∃ (T : Addr) (k : List Key) (v : V) (q : Addr), kvs[i]? = some (k, v) ∧ x = .ref T ∧ H T = none ∧ H q = some (.tup (k.map kV)) ∧ H' = upd H T (.tup [.ref q, v])) :=
  ⟨fun _ _ hi q => ⟨q, hi⟩, fun _ q => ⟨q, Nat.le_refl _⟩, fun _ _ _ _ _ _ y => y⟩
/-! dicts from rows to texts -/
theorem dictW_get {m : Wm} {i : Nat} {p : List Nat × List Nat} (h : m[i]? = some p) : (dictW m)[i]? = some (kN p.1, sV p.2) := by
  unfold dictW
  rw [List.getElem?_map, h]
  rfl
theorem for_keysW {d : Addr} {o : Obj} {m : Wm} {g : TG} {tb : TS} {D : Ends} {σ : L2.St} {H : Hp} (Pv : Nat → L2.St → Hp → Prop) (h0 : Pv 0 σ H) (hG : ∀ i σ H, i ≤ m.length → Pv i σ H → H d = some (.frz o (.dT (dictW m))))
    (hs : ∀ i (p : List Nat × List Nat) (q : Addr) σ H, m[i]? = some p → Pv i σ H → H q = some (.tup (p.1.map iV)) → g (.ref q) σ H fun σ2 H2 => tb { D with nx := Pv (i + 1), ct := Pv (i + 1), bk := D.nx } σ2 H2) (hd : ∀ σ H, Pv m.length σ H → D.nx σ H) :
    ∃ W : Nat → Nat → L2.St → Hp → Prop, (∃ m, W 0 m σ H) ∧ ∀ i m' σ H, W i m' σ H →
      ((Itkt d o (dictW m)).stop i H ∧ D.nx σ H) ∨ ((Itkt d o (dictW m)).go i H ∧ ∃ N : L2.St → Hp → Prop, (∀ σ' H', N σ' H' → ∃ m2, m2 < m' ∧ W (i + 1) m2 σ' H') ∧ ∀ x H', (Itkt d o (dictW m)).yld i H x H' → g x σ H' fun σ2 H2 => tb { D with nx := N, ct := N, bk := D.nx } σ2 H2) := by
  have el : (dictW m).length = m.length := dictW_len m
  refine for_it (walk_keysT (d := d) (o := o) (kvs := dictW m)) Pv h0 (fun i σ H hi p => hG i σ H (by omega) p) (fun i x σ H H' hi p y => ?_) (fun σ H p => hd σ H (by rw [← el]; exact p))
  obtain ⟨rfl, k, v, q, h1, rfl, h2⟩ := y
  obtain ⟨z, hz⟩ : ∃ z, m[i]? = some z := ⟨_, List.getElem?_eq_getElem (by omega)⟩
  rw [dictW_get hz] at h1
  cases Option.some.inj h1
  rw [kN_row] at h2
  exact hs i z q σ _ hz p h2
theorem lc_keysW {d : Addr} {o : Obj} {m : Wm} {g : TG} {tt : TT} {te : TE} {vs : List Nat} {σ : L2.St} {H1 : Hp} {D : Addr} {Qd : Hp → Prop} (Pv : Nat → Hp → Prop) (h0 : Pv 0 (upd H1 D (.lst []))) (hG : ∀ i H, i ≤ m.length → Pv i H → H d = some (.frz o (.dT (dictW m))))
    (hs : ∀ i (p : List Nat × List Nat) (q : Addr) H, m[i]? = some p → Pv i H → H q = some (.tup (p.1.map iV)) → g (.ref q) (wipe σ vs) H fun σ2 H2 => wipe σ2 vs = wipe σ vs ∧ tt σ2 H2 fun b H3 =>
      if b = true then te σ2 H3 fun y H4 => ∃ acc, H4 D = some (.lst acc) ∧ acc.length < sizeLine ∧ Pv (i + 1) (upd H4 D (.lst (acc ++ [y]))) else Pv (i + 1) H3) (hd : ∀ H, Pv m.length H → Qd H) :
    ∃ W : Nat → Nat → Hp → Prop, (∃ m, W 0 m (upd H1 D (.lst []))) ∧ ∀ i m' H, W i m' H →
      ((Itkt d o (dictW m)).stop i H ∧ Qd H) ∨ ((Itkt d o (dictW m)).go i H ∧ ∃ Nx : Hp → Prop, (∀ H', Nx H' → ∃ m2, m2 < m' ∧ W (i + 1) m2 H') ∧ ∀ x H', (Itkt d o (dictW m)).yld i H x H' → g x (wipe σ vs) H' fun σ2 H2 => wipe σ2 vs = wipe σ vs ∧ tt σ2 H2 fun b H3 =>
        if b = true then te σ2 H3 fun y H4 => ∃ acc, H4 D = some (.lst acc) ∧ acc.length < sizeLine ∧ Nx (upd H4 D (.lst (acc ++ [y]))) else Nx H3) := by
  have el : (dictW m).length = m.length := dictW_len m
  refine lc_it (walk_keysT (d := d) (o := o) (kvs := dictW m)) Pv h0 (fun i H hi p => hG i H (by omega) p) (fun i x H H' hi p y => ?_) (fun H p => hd H (by rw [← el]; exact p))
  obtain ⟨rfl, k, v, q, h1, rfl, h2⟩ := y
  obtain ⟨z, hz⟩ : ∃ z, m[i]? = some z := ⟨_, List.getElem?_eq_getElem (by omega)⟩
  rw [dictW_get hz] at h1
  cases Option.some.inj h1
  rw [kN_row] at h2
  exact hs i z q _ hz p h2
theorem for_itemsW {d : Addr} {o : Obj} {m : Wm} {g : TG} {tb : TS} {D : Ends} {σ : L2.St} {H : Hp} (Pv : Nat → L2.St → Hp → Prop) (h0 : Pv 0 σ H) (hG : ∀ i σ H, i ≤ m.length → Pv i σ H → H d = some (.frz o (.dT (dictW m))))
    (hs : ∀ i (p : List Nat × List Nat) (T q : Addr) σ H, m[i]? = some p → Pv i σ H → H q = some (.tup (p.1.map iV)) → H T = none → g (.ref T) σ (upd H T (.tup [.ref q, sV p.2])) fun σ2 H2 => tb { D with nx := Pv (i + 1), ct := Pv (i + 1), bk := D.nx } σ2 H2) (hd : ∀ σ H, Pv m.length σ H → D.nx σ H) :
    ∃ W : Nat → Nat → L2.St → Hp → Prop, (∃ m, W 0 m σ H) ∧ ∀ i m' σ H, W i m' σ H →
      ((Itit d o (dictW m)).stop i H ∧ D.nx σ H) ∨ ((Itit d o (dictW m)).go i H ∧ ∃ N : L2.St → Hp → Prop, (∀ σ' H', N σ' H' → ∃ m2, m2 < m' ∧ W (i + 1) m2 σ' H') ∧ ∀ x H', (Itit d o (dictW m)).yld i H x H' → g x σ H' fun σ2 H2 => tb { D with nx := N, ct := N, bk := D.nx } σ2 H2) := by
  have el : (dictW m).length = m.length := dictW_len m
  refine for_it (walk_itemsT (d := d) (o := o) (kvs := dictW m)) Pv h0 (fun i σ H hi p => hG i σ H (by omega) p) (fun i x σ H H' hi p y => ?_) (fun σ H p => hd σ H (by rw [← el]; exact p))
  obtain ⟨T, k, v, q, h1, rfl, hT, h2, rfl⟩ := y
  obtain ⟨z, hz⟩ : ∃ z, m[i]? = some z := ⟨_, List.getElem?_eq_getElem (by omega)⟩
  rw [dictW_get hz] at h1
  cases Option.some.inj h1
  rw [kN_row] at h2
  exact hs i z T q σ _ hz p h2 hT
/-! min of a list -/
theorem cr_minQ {X : Cx} {K : PySem.W.Frag} (hK : X.K = K) (hc : X.calm = true) : CallR X (.builtin "min") (rMin K) := hK ▸ cr_min hc
theorem r_min {K : PySem.W.Frag} {H : Hp} {Q : VK} {p : Addr} {ns : List Int} (h : SqL K H p (ns.map V.int)) (hn : 0 < ns.length) (q : ∀ m, m ∈ ns → (∀ y, y ∈ ns → m ≤ y) → Q (.int m) H) : rMin K [.ref p] H Q := ⟨p, ns, rfl, h, hn, q⟩
end G
set_option Elab.async false
set_option linter.all false
set_option maxRecDepth 100000
set_option maxHeartbeats 4000000
namespace G
open PySem PySem.Spec PyProof.Rows L2
/-! ### a row in a list of rows -/
theorem hu65 {k : Nat} {A : Around} (hr : Room k A) : A.units + 65 < cLine := by
  have := hr.un
  omega
theorem hu64 {k : Nat} {A : Around} (hr : Room k A) : A.units + 64 < cLine := by
  have := hr.un
  omega
theorem any_rows (rs : List (List Nat)) (r : List Nat) : ((rs.map rowD).any fun z => PyData.eqv z (rowD r)) = decide (r ∈ rs) := by
  rw [List.any_map]
  by_cases h : r ∈ rs
  · rw [decide_eq_true h]
    exact List.any_eq_true.mpr ⟨r, h, by show PyData.eqv (rowD r) (rowD r) = true; rw [eqv_rows]; simp⟩
  · rw [decide_eq_false h]
    refine List.any_eq_false.mpr fun y hy e => h ?_
    have e2 : PyData.eqv (rowD y) (rowD r) = true := e
    rw [eqv_rows] at e2
    rw [← of_decide_eq_true e2]
    exact hy
section
variable {X : Cx} {K : PySem.W.Frag} {H : Hp} {Q : VK}
theorem op_inDK (hK : X.K = K) (hu : X.A.units + 65 < cLine) : OpR X (compareOp .In) (rInD K) := hK ▸ op_inD hu
theorem op_notInDK (hK : X.K = K) (hu : X.A.units + 65 < cLine) : OpR X (compareOp .NotIn) (rNotInD K) := hK ▸ op_notInD hu
theorem r_inRow {b p : Addr} {r : List Nat} {qs : List (Addr × List Nat)} (h1 : SqT K H b (r.map iV)) (h2 : SqL K H p (refsV qs)) (hall : ∀ q ∈ qs, SqT K H q.1 (q.2.map iV)) (q : Q (.bl (decide (r ∈ qs.map (·.2)))) H) : rInD K (.ref b) (.ref p) H Q :=
  ⟨rowD r, (qs.map (·.2)).map rowD, (row_of h1).dp, dp_rows h2 hall, shaped_row r, shaped_rows _, by rw [any_rows]; exact q⟩
theorem r_notInRow {b p : Addr} {r : List Nat} {qs : List (Addr × List Nat)} (h1 : SqT K H b (r.map iV)) (h2 : SqL K H p (refsV qs)) (hall : ∀ q ∈ qs, SqT K H q.1 (q.2.map iV)) (q : Q (.bl (!decide (r ∈ qs.map (·.2)))) H) : rNotInD K (.ref b) (.ref p) H Q :=
  ⟨rowD r, (qs.map (·.2)).map rowD, (row_of h1).dp, dp_rows h2 hall, shaped_row r, shaped_rows _, by rw [any_rows]; exact q⟩
end
end G
set_option Elab.async false
set_option linter.all false
set_option maxRecDepth 100000
set_option maxHeartbeats 4000000
namespace G
open PySem PySem.Spec PyProof.Rows L2
/-! ### max of a tuple of numbers -/
theorem reads_ints {h : Heap} {its : List Value} {ns : List Int} (r : IntsAre its ns) : ReadsAll h its (ns.map PyData.int) [] := by
  induction r with
  | nil => exact .nil
  | cons n t _ ih => exact ReadsAll.cons (as := []) (.int n t) ih
theorem alike_ints (ns : List Int) : PySem.W.AlikeAll (ns.map PyData.int) := by
  refine ⟨fun x hx y hy => ?_, fun x hx => ?_⟩
  · obtain ⟨i, _, rfl⟩ := List.mem_map.mp hx
    obtain ⟨j, _, rfl⟩ := List.mem_map.mp hy
    rfl
  · obtain ⟨i, _, rfl⟩ := List.mem_map.mp hx
    exact fun z => nomatch z
theorem fold_max : ∀ (ns : List Int) (n : Int), (List.foldl max n ns = n ∨ List.foldl max n ns ∈ ns) ∧ n ≤ List.foldl max n ns ∧ ∀ y ∈ ns, y ≤ List.foldl max n ns
  | [], n => ⟨.inl rfl, Int.le_refl _, fun y hy => nomatch hy⟩
  | x :: ns, n => by
    obtain ⟨h1, h2, h3⟩ := fold_max ns (max n x)
    rw [List.foldl_cons]
    refine ⟨?_, by omega, fun y hy => ?_⟩
    · rcases h1 with h1 | h1
      · rw [h1]
        by_cases e : n ≤ x
        · exact .inr (by rw [show max n x = x by omega]; exact List.mem_cons_self)
        · exact .inl (by omega)
      · exact .inr (List.mem_cons_of_mem _ h1)
    · rcases List.mem_cons.mp hy with rfl | hy
      · omega
      · exact h3 y hy
def rMaxT (K : PySem.W.Frag) : List V → Hp → VK → Prop := fun vs H Q => ∃ (a : Addr) (ns : List Int), vs = [V.ref a] ∧ SqT K H a (ns.map V.int) ∧ 0 < ns.length ∧ ∀ m, m ∈ ns → (∀ y, y ∈ ns → y ≤ m) → Q (.int m) H
theorem cr_maxT {X : Cx} {K : PySem.W.Frag} (hK : X.K = K) (hc : X.calm = true) (hu : X.A.units + 64 < cLine) : CallR X (.builtin "max") (rMaxT K) := by
  subst hK
  rintro pins s σ H vs us Q I rs ⟨a, ns, rfl, hs, h0, q⟩
  rw [Vals.ref1 rs]
  obtain ⟨its, rv, pl, hz⟩ := I.tuple hs
  have hi := rv.ints
  obtain ⟨n, ms, rfl⟩ : ∃ n ms, ns = n :: ms := by
    cases ns with
    | nil => exact absurd h0 (Nat.lt_irrefl 0)
    | cons n ms => exact ⟨n, ms, rfl⟩
  have hd : PyData.depthAll ((n :: ms).map PyData.int) = 0 := depth_ints _
  refine PySem.W.max_tuple_data (x := PyData.int n) (xs := ms.map PyData.int) (as := []) (I.ok.hd hc) (show s.heap.IsTuple a its.toArray from pl) (reads_ints hi) (alike_ints (n :: ms)) (by rw [← List.map_cons, hd]; omega) (fun i v h' tk bs hv hr hk => ?_)
  rw [PySem.W.maxD_ints] at hr
  obtain ⟨f1, f2, f3⟩ := fold_max ms n
  cases hr with
  | int j t =>
    refine ⟨.int (List.foldl max n ms), H, I.kept (t' := tk) (fun b o e => hk b o e), ⟨t, rfl⟩, q _ ?_ fun y hy => ?_⟩
    · rcases f1 with f1 | f1
      · rw [f1]; exact List.mem_cons_self
      · exact List.mem_cons_of_mem _ f1
    · rcases List.mem_cons.mp hy with rfl | hy
      · exact f2
      · exact f3 y hy
theorem cr_maxLK {X : Cx} {K : PySem.W.Frag} (hK : X.K = K) (hc : X.calm = true) : CallR X (.builtin "max") (rMax K) := hK ▸ cr_max hc
theorem op_catAK {X : Cx} {K : PySem.W.Frag} (hK : X.K = K) : OpR X (binaryOp .Add) (rCatA K) := hK ▸ op_catA
/-! ### rows of whole numbers, also such below zero -/
def rowZ (z : List Int) : PyData := .tuple (z.map PyData.int)
theorem rowD_Z (r : List Nat) : rowD r = rowZ (r.map fun n : Nat => (n : Int)) := by
  unfold rowD rowZ
  rw [nat_ints]
theorem shaped_rowZ (z : List Int) : SeqAt.shaped (rowZ z) = true := by
  refine Bool.and_eq_true_iff.mpr ⟨lay_ints _, decide_eq_true ?_⟩
  show PyData.depthAll (z.map PyData.int) + 1 ≤ 64
  rw [depth_ints]
  decide
theorem eqv_rowZ (a b : List Int) : PyData.eqv (rowZ a) (rowZ b) = decide (a = b) := by
  unfold rowZ
  rw [PyData.eqv, eqv_ints_all]
theorem dtZ {K : PySem.W.Frag} {H : Hp} {p : Addr} {z : List Int} (h : SqT K H p (z.map V.int)) : Dt K H (.ref p) (rowZ z) := .tup h (DtAll.map (α := Int) (f := V.int) (g := PyData.int) (fun n => .int n) z)
theorem any_rowsZ (rs : List (List Nat)) (z : List Int) : ((rs.map rowD).any fun y => PyData.eqv y (rowZ z)) = decide (∃ r ∈ rs, z = r.map fun n : Nat => (n : Int)) := by
  rw [List.any_map]
  by_cases h : ∃ r ∈ rs, z = r.map fun n : Nat => (n : Int)
  · rw [decide_eq_true h]
    obtain ⟨r, hr, rfl⟩ := h
    exact List.any_eq_true.mpr ⟨r, hr, by show PyData.eqv (rowD r) (rowZ (r.map fun n : Nat => (n : Int))) = true; rw [rowD_Z, eqv_rowZ]; simp⟩
  · rw [decide_eq_false h]
    refine List.any_eq_false.mpr fun y hy e => h ⟨y, hy, ?_⟩
    have e2 : PyData.eqv (rowD y) (rowZ z) = true := e
    rw [rowD_Z, eqv_rowZ] at e2
    exact (of_decide_eq_true e2).symm
theorem r_inZ {K : PySem.W.Frag} {H : Hp} {Q : VK} {b p : Addr} {z : List Int} {qs : List (Addr × List Nat)} (h1 : SqT K H b (z.map V.int)) (h2 : SqL K H p (refsV qs)) (hall : ∀ q ∈ qs, SqT K H q.1 (q.2.map iV)) (q : Q (.bl (decide (∃ r ∈ qs.map (·.2), z = r.map fun n : Nat => (n : Int)))) H) : rInD K (.ref b) (.ref p) H Q :=
  ⟨rowZ z, (qs.map (·.2)).map rowD, (dtZ h1).dp, dp_rows h2 hall, shaped_rowZ z, shaped_rows _, by rw [any_rowsZ]; exact q⟩
/-! ### dicts with numbers as keys -/
theorem r_dsetd {td ty tx : TE} {σ : L2.St} {H : Hp} {Q : VK} (h : td σ H fun x H1 => ∃ a, x = .ref a ∧ IsD H1 a ∧ ty σ H1 fun y H2 => tx σ H2 fun z H3 => ∃ (kvs : List (Key × V)) (k : Key), H3 a = some (.dK kvs) ∧ y = kV k ∧ kvs.length < sizeLine ∧ (∀ v, valV kvs k = some v → Q v H3) ∧ (valV kvs k = none → Q z (upd H3 a (.dK (putK kvs k z))))) : tDSetd td ty tx σ H Q := h
/-- the marks found, each with its number -/
def dictF : Nat → List Int → List (Key × V)
  | _, [] => []
  | k, x :: l => (.inl x, iV k) :: dictF (k + 1) l
theorem dictF_len : ∀ (l : List Int) (k : Nat), (dictF k l).length = l.length
  | [], _ => rfl
  | x :: l, k => by
    show (dictF (k + 1) l).length + 1 = _
    rw [dictF_len l (k + 1), List.length_cons]
theorem dictF_val : ∀ (l : List Int) (k : Nat) (y : Int), valV (dictF k l) (.inl y) = if y ∈ l then some (iV (k + l.idxOf y)) else none
  | [], k, y => by simp [dictF, valV]
  | x :: l, k, y => by
    have ih := dictF_val l (k + 1) y
    by_cases e : x = y
    · subst e
      rw [if_pos List.mem_cons_self, List.idxOf_cons_self]
      simp [dictF, valV]
    · have e2 : y ≠ x := fun z => e z.symm
      have h1 : valV (dictF k (x :: l)) (Sum.inl y) = valV (dictF (k + 1) l) (Sum.inl y) := by
        show Option.map _ (List.find? _ ((Sum.inl x, iV k) :: dictF (k + 1) l)) = _
        rw [List.find?_cons_of_neg (by simp [e])]
        rfl
      have h3 : (x :: l).idxOf y = l.idxOf y + 1 := by rw [List.idxOf_cons, show (x == y) = false from by simp [e]]; rfl
      rw [h1, ih, h3]
      by_cases m : y ∈ l
      · rw [if_pos m, if_pos (List.mem_cons_of_mem _ m), show k + 1 + l.idxOf y = k + (l.idxOf y + 1) by omega]
      · rw [if_neg m, if_neg (fun z => (List.mem_cons.mp z).elim e2 m)]
theorem dictF_snoc : ∀ (l : List Int) (k : Nat) (y : Int), dictF k (l ++ [y]) = dictF k l ++ [(.inl y, iV (k + l.length))]
  | [], k, y => rfl
  | x :: l, k, y => by
    show (Sum.inl x, iV k) :: dictF (k + 1) (l ++ [y]) = (Sum.inl x, iV k) :: (dictF (k + 1) l ++ _)
    rw [dictF_snoc l (k + 1) y, List.length_cons, show k + 1 + l.length = k + (l.length + 1) by omega]
theorem put_new {kvs : List (Key × V)} {k : Key} {v : V} (h : valV kvs k = none) : putK kvs k v = kvs ++ [(k, v)] := by
  unfold putK
  rw [if_neg]
  intro z
  obtain ⟨p, hp, e⟩ := List.any_eq_true.mp z
  unfold valV at h
  rw [Option.map_eq_none_iff, List.find?_eq_none] at h
  exact h p hp e
/-- rows kept by a number -/
def dictL (ls : List (Int × Addr)) : List (Key × V) := ls.map fun p => (.inl p.1, .ref p.2)
theorem dictL_some {ls : List (Int × Addr)} {y : Int} {v : V} (h : valV (dictL ls) (.inl y) = some v) : ∃ p ∈ ls, p.1 = y ∧ v = .ref p.2 := by
  unfold valV at h
  obtain ⟨kv, h1, rfl⟩ := Option.map_eq_some_iff.mp h
  have h2 := List.mem_of_find?_eq_some h1
  have h3 := of_decide_eq_true (List.find?_some (p := fun kv : Key × V => decide (kv.1 = Sum.inl y)) h1)
  obtain ⟨p, hp, rfl⟩ := List.mem_map.mp h2
  exact ⟨p, hp, Sum.inl.inj h3, rfl⟩
theorem dictL_none {ls : List (Int × Addr)} {y : Int} (h : valV (dictL ls) (.inl y) = none) : ∀ p ∈ ls, p.1 ≠ y := fun p hp e => by
  unfold valV at h
  rw [Option.map_eq_none_iff, List.find?_eq_none] at h
  exact h _ (List.mem_map_of_mem hp) (decide_eq_true (by rw [e]))
/-! ### partitions, as the document writes them -/
def numGo : List Int → List Int → List Nat
  | _, [] => []
  | ds, x :: l => ds.idxOf x :: numGo (if x ∈ ds then ds else ds ++ [x]) l
def rgsGo : Nat → List Int → Prop
  | _, [] => True
  | k, x :: l => (0 ≤ x ∧ x ≤ (k : Int)) ∧ rgsGo (if x = (k : Int) then k + 1 else k) l
def topGo : Nat → List Int → Nat
  | k, [] => k
  | k, x :: l => topGo (if x = (k : Int) then k + 1 else k) l
def upZ (k : Nat) : List Int := (List.range k).map fun n : Nat => (n : Int)
theorem upZ_mem {k : Nat} {x : Int} : x ∈ upZ k ↔ 0 ≤ x ∧ x < (k : Int) := by
  unfold upZ
  rw [List.mem_map]
  constructor
  · rintro ⟨n, hn, rfl⟩
    have := List.mem_range.mp hn
    omega
  · rintro ⟨h1, h2⟩
    exact ⟨x.toNat, List.mem_range.mpr (by omega), by omega⟩
theorem upZ_succ (k : Nat) : upZ (k + 1) = upZ k ++ [(k : Int)] := by
  unfold upZ
  rw [List.range_succ, List.map_append]
  rfl
theorem upZ_len (k : Nat) : (upZ k).length = k := by
  unfold upZ
  rw [List.length_map, List.length_range]
theorem upZ_nd (k : Nat) : (upZ k).Nodup := by
  unfold upZ List.Nodup
  rw [List.pairwise_map]
  exact List.Pairwise.imp (fun h e => h (by omega)) (List.nodup_range (n := k))
theorem upZ_idx {k : Nat} {x : Int} (h : x ∈ upZ k) : (((upZ k).idxOf x : Nat) : Int) = x := by
  have h1 := List.idxOf_lt_length_of_mem h
  have h2 : (upZ k)[(upZ k).idxOf x]? = some x := by
    rw [List.getElem?_eq_getElem h1, List.getElem_idxOf h1]
  unfold upZ at h2
  rw [List.getElem?_map] at h2
  obtain ⟨n, e1, e2⟩ := Option.map_eq_some_iff.mp h2
  have e3 := List.getElem?_eq_some_iff.mp e1
  obtain ⟨e4, e5⟩ := e3
  rw [List.getElem_range] at e5
  unfold upZ
  omega
theorem num_rgs : ∀ (l : List Int) (k : Nat), (numGo (upZ k) l).map (fun n : Nat => (n : Int)) = l ↔ rgsGo k l
  | [], k => ⟨fun _ => trivial, fun _ => rfl⟩
  | x :: l, k => by
    show (((upZ k).idxOf x : Nat) : Int) :: (numGo (if x ∈ upZ k then upZ k else upZ k ++ [x]) l).map (fun n : Nat => (n : Int)) = x :: l ↔ (0 ≤ x ∧ x ≤ (k : Int)) ∧ rgsGo (if x = (k : Int) then k + 1 else k) l
    rw [List.cons.injEq]
    by_cases h : x ∈ upZ k
    · have h1 := upZ_mem.mp h
      rw [if_pos h, if_neg (by omega), num_rgs l k]
      exact ⟨fun z => ⟨by omega, z.2⟩, fun z => ⟨upZ_idx h, z.2⟩⟩
    · have h1 : (upZ k).idxOf x = k := by rw [List.idxOf_eq_length h, upZ_len]
      rw [if_neg h, h1]
      by_cases e : x = (k : Int)
      · subst e
        rw [if_pos rfl, ← upZ_succ, num_rgs l (k + 1)]
        exact ⟨fun z => ⟨by omega, z.2⟩, fun z => ⟨rfl, z.2⟩⟩
      · constructor
        · exact fun z => absurd z.1.symm e
        · intro z
          exact absurd (upZ_mem.mpr ⟨z.1.1, by omega⟩) h
theorem rgs_snoc : ∀ (l : List Int) (k : Nat) (b : Int), rgsGo k (l ++ [b]) ↔ rgsGo k l ∧ 0 ≤ b ∧ b ≤ (topGo k l : Int)
  | [], k, b => by
    show (0 ≤ b ∧ b ≤ (k : Int)) ∧ True ↔ True ∧ 0 ≤ b ∧ b ≤ (k : Int)
    simp
  | x :: l, k, b => by
    show (0 ≤ x ∧ x ≤ (k : Int)) ∧ rgsGo _ (l ++ [b]) ↔ ((0 ≤ x ∧ x ≤ (k : Int)) ∧ rgsGo _ l) ∧ 0 ≤ b ∧ b ≤ (topGo _ l : Int)
    rw [rgs_snoc l _ b]
    simp [and_assoc]
/-- one more than the greatest -/
def mxN (r : List Nat) : Nat := r.foldl (fun m x => max m (x + 1)) 0
theorem top_mx : ∀ (r : List Nat) (k : Nat), rgsGo k (r.map fun n : Nat => (n : Int)) → topGo k (r.map fun n : Nat => (n : Int)) = r.foldl (fun m x => max m (x + 1)) k
  | [], k, _ => rfl
  | x :: r, k, h => by
    obtain ⟨h1, h2⟩ := h
    show topGo (if (x : Int) = (k : Int) then k + 1 else k) _ = r.foldl (fun m x => max m (x + 1)) (max k (x + 1))
    rw [top_mx r _ h2]
    congr 1
    have h3 : (0 : Int) ≤ (x : Int) ∧ (x : Int) ≤ (k : Int) := h1
    by_cases e : x = k
    · subst e
      rw [if_pos rfl]
      exact (Nat.max_eq_right (Nat.le_succ _)).symm
    · rw [if_neg (fun z => e (by have z2 : (x : Int) = (k : Int) := z; omega))]
      exact (Nat.max_eq_left (by omega)).symm
def partsN : Nat → List (List Nat)
  | 0 => [[]]
  | n + 1 => (partsN n).flatMap fun r => (List.range (mxN r + 1)).map fun b => r ++ [b]
theorem parts_len : ∀ n, n < 7 → (partsN n).length ≤ 203 := by decide +kernel
theorem parts_mem : ∀ (n : Nat) (r : List Nat), r ∈ partsN n ↔ r.length = n ∧ rgsGo 0 (r.map fun n : Nat => (n : Int))
  | 0, r => by
    constructor
    · intro h
      rw [List.mem_singleton.mp h]
      exact ⟨rfl, trivial⟩
    · rintro ⟨h, _⟩
      rw [List.length_eq_zero_iff.mp h]
      exact List.mem_singleton.mpr rfl
  | n + 1, r => by
    constructor
    · intro h
      obtain ⟨t, ht, h2⟩ := List.mem_flatMap.mp h
      obtain ⟨b, hb, rfl⟩ := List.mem_map.mp h2
      obtain ⟨a1, a2⟩ := (parts_mem n t).mp ht
      have hb := List.mem_range.mp hb
      refine ⟨by rw [List.length_append, a1]; rfl, ?_⟩
      rw [List.map_append]
      refine (rgs_snoc _ 0 (b : Int)).mpr ⟨a2, by omega, ?_⟩
      rw [top_mx t 0 a2]
      unfold mxN at hb
      omega
    · rintro ⟨h1, h2⟩
      obtain ⟨t, b, rfl⟩ : ∃ t b, r = t ++ [b] := by
        have : r ≠ [] := fun e => by rw [e] at h1; exact nomatch h1
        exact ⟨r.dropLast, r.getLast this, (List.dropLast_concat_getLast this).symm⟩
      rw [List.map_append] at h2
      obtain ⟨a1, a2, a3⟩ := (rgs_snoc _ 0 (b : Int)).mp h2
      rw [top_mx t 0 a1] at a3
      refine List.mem_flatMap.mpr ⟨t, (parts_mem n t).mpr ⟨?_, a1⟩, List.mem_map.mpr ⟨b, List.mem_range.mpr ?_, rfl⟩⟩
      · rw [List.length_append] at h1
        exact Nat.succ.inj h1
      · unfold mxN
        omega
theorem rgs_nat {k : Nat} : ∀ {z : List Int}, rgsGo k z → ∃ r : List Nat, z = r.map fun n : Nat => (n : Int)
  | [], _ => ⟨[], rfl⟩
  | x :: z, h => by
    obtain ⟨r, rfl⟩ := rgs_nat h.2
    exact ⟨x.toNat :: r, by rw [List.map_cons]; congr 1; have := h.1.1; omega⟩
theorem rgs_head {n : Nat} {r : List Nat} (h : r ∈ partsN (n + 1)) : ∃ t, r = 0 :: t := by
  obtain ⟨h1, h2⟩ := (parts_mem (n + 1) r).mp h
  cases r with
  | nil => exact nomatch h1
  | cons x t => exact ⟨t, by have h3 : (0 : Int) ≤ (x : Int) ∧ (x : Int) ≤ ((0 : Nat) : Int) := h2.1; congr 1; omega⟩
theorem rgs_lt : ∀ (r : List Nat) (k : Nat), rgsGo k (r.map fun n : Nat => (n : Int)) → ∀ x ∈ r, x < k + r.length
  | [], _, _, x, hx => nomatch hx
  | y :: r, k, h, x, hx => by
    obtain ⟨h1, h2⟩ := h
    have h3 : (0 : Int) ≤ (y : Int) ∧ (y : Int) ≤ (k : Int) := h1
    rw [List.length_cons]
    rcases List.mem_cons.mp hx with rfl | hx
    · omega
    · have := rgs_lt r _ h2 x hx
      split at this <;> omega
end G
set_option Elab.async false
set_option linter.all false
set_option maxRecDepth 100000
set_option maxHeartbeats 4000000
namespace G
open PySem PySem.Spec PyProof.Rows L2
/-! ### two dicts with tuples as keys that hold the same -/
section
variable {prog : Program} {w : World} {K : Type} [DecidableEq K] {knd : HeapKind prog w K} {A : Around} {E : Value → Shared → Prop} {s : Shared}
theorem samePairsT {nm : String} {a b : Addr} {xa xb : List (K × Addr × Value)} {Q : Bool → Shared → Prop} (hu : knd.room A) (ha : (a == sysModules) = false) (hb : (b == sysModules) = false)
    (da : s.heap.DictOfH knd a xa) (db : s.heap.DictOfH knd b xb) (hl : xa.length = xb.length) (hits : ∀ (i : Nat) (x : K × Addr × Value), xa[i]? = some x → ∃ p : Addr × Value, xb[i]? = some (x.1, p) ∧ SeqAt.EqAt A s x.2.2 p.2 true) (h : Q true s) :
    wpAny (model prog w) A (Builtin.Dict.samePairs nm a b) Q E s := by
  obtain ⟨oa, es, ep, hoa, _, hda, hea, hia, hna⟩ := da
  obtain ⟨ob, es', ep', hob, _, hdb, heb, hib, hnb⟩ := db
  have hla : es.size = xa.length := size_of_entries hea
  have hlb : es'.size = xb.length := size_of_entries heb
  have hsz : es.size = es'.size := by omega
  unfold Builtin.Dict.samePairs Builtin.Dict.showsAll
  rw [if_neg (show ¬ (a == sysModules) = true by rw [ha]; exact Bool.false_ne_true), if_neg (show ¬ (b == sysModules) = true by rw [hb]; exact Bool.false_ne_true)]
  refine wpAny_bind (wpAny_pure (wpAny_bind (wpAny_pure ?_)))
  refine wpAny_bind (wpAny_dictEntries hoa hda ?_)
  dsimp only
  refine wpAny_bind (wpAny_dictEntries hob hdb ?_)
  rw [if_neg (by rw [hsz]; simp)]
  refine wpAny_bind (wpAny_dictEpoch hoa hda ?_)
  refine wpAny_bind ?_
  rw [Std.Legacy.Range.forIn_eq_forIn_range']
  simp only [Std.Legacy.Range.size, Nat.sub_zero, Nat.add_sub_cancel, Nat.div_one]
  refine wpAny_forIn_list _
    (fun rest q s' => s' = s ∧ q = (none, ()) ∧ ∃ i, rest = List.range' i (es.size - i) ∧ i ≤ es.size)
    _ ?_ ?_ _ _ ⟨rfl, rfl, 0, by simp, Nat.zero_le _⟩
  · rintro x rest q s' ⟨rfl, rfl, i, hr, hi⟩
    have hlt : i < es.size := by
      rcases Nat.lt_or_ge i es.size with h | h
      · exact h
      · rw [Nat.sub_eq_zero_of_le h] at hr; simp at hr
    obtain ⟨rfl, hrest⟩ : x = i ∧ rest = List.range' (i + 1) (es.size - (i + 1)) := by
      have e : es.size - i = (es.size - (i + 1)) + 1 := by omega
      rw [e, List.range'_succ] at hr
      injection hr with h1 h2
      exact ⟨h1, h2⟩
    refine wpAny_bind (wpAny_dictEntries hoa hda ?_)
    rw [Array.getElem?_eq_getElem hlt]
    obtain ⟨y, hy⟩ : ∃ y, xa[x]? = some y := ⟨_, List.getElem?_eq_getElem (by omega)⟩
    have hen : es[x] = entryOfKey knd y := by
      have q := entry_at hea x
      rw [hy, Array.getElem?_eq_getElem hlt] at q
      exact Option.some.inj q
    obtain ⟨p, hp, heq⟩ := hits x y hy
    show wpAny _ _ (holding [es[x].key, es[x].val] _ >>= _) _ _ _
    rw [hen]
    refine wpAny_bind (wpAny_holding (wpAny_bind (wpAny_dictFind_heap (k := y.1) hu (hia y (List.mem_of_getElem? hy)) hob hdb heb hib hnb (fun hno => absurd hp (hno x p)) fun j p' hj => ?_)))
    obtain rfl : j = x := by
      have a1 : (xb.map (·.1))[j]? = some y.1 := by rw [List.getElem?_map, hj]; rfl
      have a2 : (xb.map (·.1))[x]? = some y.1 := by rw [List.getElem?_map, hp]; rfl
      obtain ⟨b1, c1⟩ := List.getElem?_eq_some_iff.mp a1
      obtain ⟨b2, c2⟩ := List.getElem?_eq_some_iff.mp a2
      rcases Nat.lt_trichotomy j x with h | h | h
      · exact absurd (c1.trans c2.symm) (List.pairwise_iff_getElem.mp hnb j x b1 b2 h)
      · exact h
      · exact absurd (c2.trans c1.symm) (List.pairwise_iff_getElem.mp hnb x j b2 b1 h)
    refine wpAny_bind (wpAny_dictEntries hob hdb ?_)
    have hjlt : j < es'.size := by omega
    rw [Array.getElem?_eq_getElem hjlt]
    have hen' : es'[j] = entryOfKey knd (y.1, p) := by
      have q := entry_at heb j
      rw [hp, Array.getElem?_eq_getElem hjlt] at q
      exact Option.some.inj q
    show wpAny _ _ (holding [es'[j].val] (eqBool (entryOfKey knd y).val es'[j].val)) _ _ _
    rw [hen']
    refine wpAny_holding (heq prog w _ _ ?_)
    show wpAny _ _ (if (!true) = true then _ else _) _ _ _
    rw [if_neg (by decide)]
    refine wpAny_bind (wpAny_dictEpoch hoa hda ?_)
    rw [if_neg (by simp)]
    exact wpAny_pure ⟨rfl, rfl, j + 1, hrest, hlt⟩
  · rintro q s' ⟨rfl, rfl, i, hr, hi⟩
    exact wpAny_pure h
end
section
variable {prog : Program} {w : World} {K : Type} [DecidableEq K] {knd : HeapKind prog w K} {A : Around} {E : Value → Shared → Prop} {s : Shared}
theorem eqT {a b : Addr} {xa xb : List (K × Addr × Value)} {Q : Value → Shared → Prop} (hr : knd.room A.in1) (ha : (a == sysModules) = false) (hb : (b == sysModules) = false)
    (da : s.heap.DictOfH knd a xa) (db : s.heap.DictOfH knd b xb) (hu : A.units < cLine) (hl : xa.length = xb.length) (hits : ∀ (i : Nat) (x : K × Addr × Value), xa[i]? = some x → ∃ p : Addr × Value, xb[i]? = some (x.1, p) ∧ SeqAt.EqAt A.in1 s x.2.2 p.2 true) (h : Q (.bool true) s) :
    wpAny (model prog w) A (compareOp .Eq (.ref a) (.ref b)) Q E s := by
  refine wpAny_richCompare_same_room (op := .Eq) da.typeIs db.typeIs PySem.F.slot_dict_eq (wpAny_call_entry PySem.F.slot_dict_eq da.typeIs PySem.F.entry_dict_eq ?_ (PySem.F.args_dict_eq_2 _ _)) hu
  show wpAny _ _ (Builtin.Dict.dictSlotArgs "__eq__" ⟨[.ref a, .ref b], []⟩ >>= _) _ _ s
  refine wpAny_bind ?_
  unfold Builtin.Dict.dictSlotArgs
  refine wpAny_bind (wpAny_notOrdered_dict da.typeIs ?_)
  show wpAny _ _ (pure (Value.ref a, Value.ref b)) _ _ s
  refine wpAny_pure ?_
  refine wpAny_bind (wpAny_isInstance (T := "dict") db.typeIs PySem.F.sub_dict_dict ?_)
  simp only [Bool.not_true, Bool.false_eq_true, if_false]
  refine wpAny_bind (wpAny_pure (wpAny_bind (wpAny_pure ?_)))
  refine wpAny_bind (samePairsT hr ha hb da db hl hits ?_)
  refine wpAny_pure ⟨_, rfl, ?_, ?_⟩
  · exact fun x => nomatch x
  · simpa using h
theorem neT {a b : Addr} {xa xb : List (K × Addr × Value)} {Q : Value → Shared → Prop} (hr : knd.room A.in1) (ha : (a == sysModules) = false) (hb : (b == sysModules) = false)
    (da : s.heap.DictOfH knd a xa) (db : s.heap.DictOfH knd b xb) (hu : A.units < cLine) (hl : xa.length = xb.length) (hits : ∀ (i : Nat) (x : K × Addr × Value), xa[i]? = some x → ∃ p : Addr × Value, xb[i]? = some (x.1, p) ∧ SeqAt.EqAt A.in1 s x.2.2 p.2 true) (h : Q (.bool false) s) :
    wpAny (model prog w) A (compareOp .NotEq (.ref a) (.ref b)) Q E s := by
  refine wpAny_richCompare_same_room (op := .NotEq) da.typeIs db.typeIs PySem.F.slot_dict_ne (wpAny_call_entry PySem.F.slot_dict_ne da.typeIs PySem.F.entry_dict_ne ?_ (PySem.F.args_dict_ne_2 _ _)) hu
  show wpAny _ _ (Builtin.Dict.dictSlotArgs "__ne__" ⟨[.ref a, .ref b], []⟩ >>= _) _ _ s
  refine wpAny_bind ?_
  unfold Builtin.Dict.dictSlotArgs
  refine wpAny_bind (wpAny_notOrdered_dict da.typeIs ?_)
  show wpAny _ _ (pure (Value.ref a, Value.ref b)) _ _ s
  refine wpAny_pure ?_
  refine wpAny_bind (wpAny_isInstance (T := "dict") db.typeIs PySem.F.sub_dict_dict ?_)
  simp only [Bool.not_true, Bool.false_eq_true, if_false]
  refine wpAny_bind (wpAny_pure (wpAny_bind (wpAny_pure ?_)))
  refine wpAny_bind (samePairsT hr ha hb da db hl hits ?_)
  refine wpAny_pure ⟨_, rfl, ?_, ?_⟩
  · exact fun x => nomatch x
  · simpa using h
end
theorem paired_at {α β : Type} {G : α → β → Prop} {l₁ : List α} {l₂ : List β} (h : Paired G l₁ l₂) : ∀ {i : Nat} {b : β}, l₂[i]? = some b → ∃ a, l₁[i]? = some a ∧ G a b := by
  induction h with
  | nil => intro i a e; simp at e
  | @cons a b l₁ l₂ r t ih =>
    intro i b' e
    cases i with
    | zero =>
      simp only [List.getElem?_cons_zero, Option.some.injEq] at e
      subst e
      exact ⟨a, rfl, r⟩
    | succ j =>
      simp only [List.getElem?_cons_succ] at e ⊢
      exact ih e
theorem kt_hits {H : Hp} {kvs : List (List Key × V)} {xa xb : List (List Key × Addr × Value)} {A : Around} {s : Shared} (ra : KT H kvs xa) (rb : KT H kvs xb) (fl : ∀ p ∈ kvs, flatB p.2 = true) :
    ∀ (i : Nat) (x : List Key × Addr × Value), xa[i]? = some x → ∃ p : Addr × Value, xb[i]? = some (x.1, p) ∧ SeqAt.EqAt A s x.2.2 p.2 true := fun i x hx => by
  obtain ⟨p, hp, e1, _, e3⟩ := paired_at ra hx
  obtain ⟨y, hy, f1, _, f3⟩ := paired_get rb hp
  refine ⟨y.2, ?_, eqAt_same e3 f3 (fl p (List.mem_of_getElem? hp))⟩
  rw [hy, ← e1, f1]
def rEqT : R2 := fun x y H Q => ∃ (a b : Addr) (kvs : List (List Key × V)), x = .ref a ∧ y = .ref b ∧ Rd H a (.dT kvs) ∧ Rd H b (.dT kvs) ∧ (∀ p ∈ kvs, flatB p.2 = true) ∧ Q (.bl true) H
def rNeT : R2 := fun x y H Q => ∃ (a b : Addr) (kvs : List (List Key × V)), x = .ref a ∧ y = .ref b ∧ Rd H a (.dT kvs) ∧ Rd H b (.dT kvs) ∧ (∀ p ∈ kvs, flatB p.2 = true) ∧ Q (.bl false) H
section
variable {X : Cx}
theorem op_eqT (hu : X.A.units + 1 < cLine) : OpR X (compareOp .Eq) rEqT := by
  intro pins s σ H x y v u Q I rx ry h
  obtain ⟨a, b, kvs, rfl, rfl, ea, eb, fl, q⟩ := h
  obtain rfl : v = Value.ref a := rx
  obtain rfl : u = Value.ref b := ry
  obtain ⟨_, ya, xa, ra, da⟩ := dt_rd I.hok ea
  obtain ⟨_, yb, xb, rb, db⟩ := dt_rd I.hok eb
  exact eqT (tupleKind_room_in1 hu) ya yb da db (by omega) (ra.length.symm.trans rb.length) (kt_hits ra rb fl) (fin_bl I q rfl)
theorem op_neT (hu : X.A.units + 1 < cLine) : OpR X (compareOp .NotEq) rNeT := by
  intro pins s σ H x y v u Q I rx ry h
  obtain ⟨a, b, kvs, rfl, rfl, ea, eb, fl, q⟩ := h
  obtain rfl : v = Value.ref a := rx
  obtain rfl : u = Value.ref b := ry
  obtain ⟨_, ya, xa, ra, da⟩ := dt_rd I.hok ea
  obtain ⟨_, yb, xb, rb, db⟩ := dt_rd I.hok eb
  exact neT (tupleKind_room_in1 hu) ya yb da db (by omega) (ra.length.symm.trans rb.length) (kt_hits ra rb fl) (fin_bl I q rfl)
theorem r_eqT {a b : Addr} {m : Wm} {H : Hp} {Q : VK} (h1 : Rd H a (.dT (dictW m))) (h2 : Rd H b (.dT (dictW m))) (q : Q (.bl true) H) : rEqT (.ref a) (.ref b) H Q :=
  ⟨a, b, _, rfl, rfl, h1, h2, fun p hp => by obtain ⟨x, _, rfl⟩ := List.mem_map.mp hp; rfl, q⟩
theorem r_neT {a b : Addr} {m : Wm} {H : Hp} {Q : VK} (h1 : Rd H a (.dT (dictW m))) (h2 : Rd H b (.dT (dictW m))) (q : Q (.bl false) H) : rNeT (.ref a) (.ref b) H Q :=
  ⟨a, b, _, rfl, rfl, h1, h2, fun p hp => by obtain ⟨x, _, rfl⟩ := List.mem_map.mp hp; rfl, q⟩
/-! d.clear() -/
def rDClearT : V → List V → Hp → VK → Prop := fun x vs H Q => ∃ (a : Addr) (kvs : List (List Key × V)), x = .ref a ∧ vs = [] ∧ H a = some (.dT kvs) ∧ Q .non (upd H a (.dT []))
theorem mt_dclearT : MtR X "dict.clear" rDClearT := by
  intro pins s σ H x vs v us Q I rx rv h
  obtain ⟨a, kvs, ex, ev, e, q⟩ := h
  subst ex
  subst ev
  obtain rfl : v = Value.ref a := rx
  have hus := rv.zero
  subst hus
  obtain ⟨hl, hd, xs, rel, o, es, ep, ho, hx, hdt, he, _⟩ := dt_of I.hok e
  have hsz : es.size ≤ sizeLine := by
    have l1 : es.size = xs.length := size_of_entries he
    have l2 : kvs.length = xs.length := Paired.length rel
    omega
  refine call_meetsIn PySem.F.slot_dict_clear ⟨o, ho, hx.1⟩ PySem.F.entry_dict_clear (PySem.F.args_dict_clear_1 _) (meets_dict_clear_raw a) ⟨es, ep, ⟨o, ho, hx, hdt⟩, hsz, fun h' dr hs => ?_⟩
  obtain ⟨o', ho', hx', hdt'⟩ := dr
  have I4 := d_write (t' := s.toks) (ob := .dT []) I (by rw [e]; exact True.intro) hs ⟨o', ho'⟩ ⟨Nat.zero_le _, hd, [], .nil, o', #[], ep + 1, ho', hx', hdt', rfl, List.nodup_nil⟩
  exact ⟨.non, _, I4, rfl, q⟩
end
end G
set_option Elab.async false
set_option linter.all false
set_option maxRecDepth 100000
set_option maxHeartbeats 4000000
namespace G
open PySem PySem.Spec PyProof.Rows L2
def tLenSetT (K : PySem.W.Frag) (ta : TE) : TE := fun σ H Q => ta σ H fun x H1 =>
  ∃ (l : Addr) (ns : List Int), x = .ref l ∧ SqT K H1 l (ns.map V.int) ∧ ns.length ≤ 4000 ∧
  ∀ ks : List Int, ks.Nodup → (∀ k, k ∈ ks ↔ k ∈ ns) → Q (.int (ks.length : Nat)) H1
theorem pe_lenSetT {X : Cx} {K : PySem.W.Frag} {a : Expr} {ta : TE} {p p2 q pos : Pos} (hK : X.K = K) (hc : X.calm = true)
    (hg : Gl X "len") (hm : X.mg "len" = none) (hg2 : Gl X "set") (hm2 : X.mg "set" = none) (ha : PE X a ta)
    (na : starEach [a] X.env = (false, eval a X.env) :: starEach [] X.env := by rfl) :
    PE X (.Call (.Name "len" p) [.Call (.Name "set" p2) [a] [] q] [] pos) (tLenSetT K ta) := by
  subst hK
  constructor
  intro pins s σ H Q I h
  refine Call_ (ld_blt I hg hm boot_len (callWith_builtin1 (args_cons ?_ rfl) rfl rfl))
  refine Call_ (ld_blt I hg2 hm2 boot_set ?_)
  refine callWith_type1 (args_cons (thn (ha.run pins s σ H _ I h) ?_) na) na rfl
  rintro v s1 ⟨x, H1, I1, r1, l, ns, rfl, hq, hl, q1⟩
  refine args_nil ?_
  cases r1
  obtain ⟨its, r, pl, hz⟩ := I1.tuple hq
  have hi : IntsAre its.toArray.toList ns := ints_of_vals r
  refine call_set_tupI ns (I1.ok.hd hc) (show s1.heap.IsTuple l its.toArray from pl) hi (by unfold scanBound; omega) ?_
  rintro h' tk c ⟨o, es, ep, t, ho, hex, hd, g, nd, hmem, hb, hf, hn, _, _⟩ hcn kk
  refine args_nil ?_
  have I2 : Inv X pins σ H1 { s1 with heap := h', toks := tk } := I1.kept kk
  have e1 : (es.toList.map keyOf).length = es.size := by rw [List.length_map, Array.length_toList]
  have q2 := q1 (es.toList.map keyOf) nd (fun k => ⟨fun hk => of_decide_eq_true ((hmem k).mpr hk), fun hk => (hmem k).mp (decide_eq_true hk)⟩)
  rw [e1] at q2
  exact call_len_set ho hex hd hf (by unfold scanBound at hb; omega) ⟨.int es.size, H1, I2.tok _, ⟨_, rfl⟩, q2⟩
theorem pa_starK {X : Cx} {K : PySem.W.Frag} {e : Expr} {es : List Expr} {te : TE} {t : TA} {p : Pos} (hK : X.K = K) (he : PE X e te) (hr : PA X es t)
    (hs : starEach (.Starred e p :: es) X.env = (true, eval e X.env) :: starEach es X.env := by rfl) : PA X (.Starred e p :: es) (StX.tStar K te t) := hK ▸ StX.pa_star he hr hs
theorem r_star {K : PySem.W.Frag} {σ : L2.St} {H : Hp} {te : TE} {t : TA} {QA : List V → Hp → Prop} (h : te σ H fun x H1 => ∃ p xs, x = V.ref p ∧ (SqT K H1 p xs ∨ SqL K H1 p xs) ∧ t σ H1 fun ys H2 => QA (xs ++ ys) H2) : StX.tStar K te t σ H QA := h
theorem pe_revLK {X : Cx} {K : PySem.W.Frag} {e : Expr} {te : TE} {k : Nat} {p1 p2 p3 pos : Pos} (hK : X.K = K) (he : PE X e te) : PE X (.Subscript e (.Slice none none (some (.UnaryOp .USub (.Constant (.int 1) k p1) p2)) p3) pos) (tRevL K te) := hK ▸ pe_revL he
end G
set_option Elab.async false
set_option linter.all false
set_option maxRecDepth 100000
set_option maxHeartbeats 4000000
namespace G
open PySem PySem.Spec PyProof.Rows L2
/-! ### setdefault with rows for keys -/
section
variable {X : Cx} {K : PySem.W.Frag} {H : Hp} {Q : VK}
def rSetdT : V → List V → Hp → VK → Prop := fun o xs H Q => ∃ (d : Addr) (kvs : List (List Key × V)) (b : Addr) (k : List Key) (z : V), o = .ref d ∧ xs = [.ref b, z] ∧ H d = some (.dT kvs) ∧ H b = some (.tup (k.map kV)) ∧ kvs.length < sizeLine ∧
  (∀ v, valV kvs k = some v → Q v H) ∧ (valV kvs k = none → Q z (upd H d (.dT (putK kvs k z))))
theorem mt_setdT (hu : X.A.units + 1 < cLine) : MtR X "dict.setdefault" rSetdT := by
  intro pins s σ H x vs v us Q I rx rv h
  obtain ⟨d, kvs, b, k, z, ex, ev, e, hb, hl, qs, qn⟩ := h
  subst ex
  subst ev
  obtain rfl : v = Value.ref d := rx
  obtain ⟨u1, u2, rfl, r1, r2⟩ := vals2 rv
  obtain rfl : u1 = Value.ref b := r1
  obtain ⟨_, hd, xs, rel, dd⟩ := dt_of I.hok e
  have lx : kvs.length = xs.length := Paired.length rel
  have hv := rel.val k
  refine call_setdefault_heap (knd := tupleKind (mixKind X.prog X.w)) (tupleKind_room_in1 hu) (key_of I.hok hb) hd dd (fun p hp => ?_) (fun hn h' dd' hs => ?_) (by omega)
  · rw [hp] at hv
    cases ev : valV kvs k with
    | none =>
      rw [ev] at hv
      exact False.elim hv
    | some y =>
      rw [ev] at hv
      exact ⟨y, H, I.tok _, hv, qs y ev⟩
  · rw [hn] at hv
    have ev : valV kvs k = none := by
      cases ev : valV kvs k with
      | none => rfl
      | some y => rw [ev] at hv; exact False.elim hv
    have rel2 := rel.put k hb r2
    obtain ⟨ob, es, ep, hq, h2, h3, h4, _, h5⟩ := dd'
    have I4 := d_write (t' := s.toks + (tupleKind (mixKind X.prog X.w)).draws k) (ob := .dT (putK kvs k z)) I (by rw [e]; exact True.intro) hs ⟨ob, hq⟩ ⟨by rw [putK_new _ ev, List.length_append]; exact hl, hd, _, rel2.keeps (fun b ys hb => by rw [upd_ne (ne_of hb e fun z => nomatch z)]; exact hb), ob, es, ep, hq, h2, h3, h4, h5⟩
    exact ⟨z, _, I4, r2, qn ev⟩
theorem r_setdT {d b : Addr} {kvs : List (List Key × V)} {k : List Key} {z : V} (h : H d = some (.dT kvs)) (hb : H b = some (.tup (k.map kV))) (hl : kvs.length < sizeLine) (qs : ∀ v, valV kvs k = some v → Q v H) (qn : valV kvs k = none → Q z (upd H d (.dT (putK kvs k z)))) : rSetdT (.ref d) [.ref b, z] H Q := ⟨d, kvs, b, k, z, rfl, rfl, h, hb, hl, qs, qn⟩
theorem r_dg2 {td ty tx : TE} {σ : L2.St} (h : td σ H fun x H1 => ∃ a, x = V.ref a ∧ IsD H1 a ∧ ty σ H1 fun y H2 => tx σ H2 fun z H3 => ∃ o, DGet H3 a y o ∧ Q (o.getD z) H3) : tDGet2 td ty tx σ H Q := h
end
/-! ### len(set(..)) of a list -/
def tLenSetL (K : PySem.W.Frag) (ta : TE) : TE := fun σ H Q => ta σ H fun x H1 =>
  ∃ (l : Addr) (ns : List Int), x = .ref l ∧ SqL K H1 l (ns.map V.int) ∧ ns.length ≤ 4000 ∧
  ∀ ks : List Int, ks.Nodup → (∀ k, k ∈ ks ↔ k ∈ ns) → Q (.int (ks.length : Nat)) H1
theorem pe_lenSetL {X : Cx} {K : PySem.W.Frag} {a : Expr} {ta : TE} {p p2 q pos : Pos} (hK : X.K = K) (hc : X.calm = true)
    (hg : Gl X "len") (hm : X.mg "len" = none) (hg2 : Gl X "set") (hm2 : X.mg "set" = none) (ha : PE X a ta)
    (na : starEach [a] X.env = (false, eval a X.env) :: starEach [] X.env := by rfl) :
    PE X (.Call (.Name "len" p) [.Call (.Name "set" p2) [a] [] q] [] pos) (tLenSetL K ta) := by
  subst hK
  constructor
  intro pins s σ H Q I h
  refine Call_ (ld_blt I hg hm boot_len (callWith_builtin1 (args_cons ?_ rfl) rfl rfl))
  refine Call_ (ld_blt I hg2 hm2 boot_set ?_)
  refine callWith_type1 (args_cons (thn (ha.run pins s σ H _ I h) ?_) na) na rfl
  rintro v s1 ⟨x, H1, I1, r1, l, ns, rfl, hq, hl, q1⟩
  refine args_nil ?_
  cases r1
  obtain ⟨its, r, pl, hz⟩ := I1.list hq
  refine set_of_list ns (I1.ok.hd hc) pl.isList (by simpa using ints_of_vals r) (by unfold scanBound; omega) ?_
  rintro h' tk c ⟨o, es, ep, t, ho, hex, hd, g, nd, hmem, hb, hf, hn, _, _⟩ hcn kk
  refine args_nil ?_
  have I2 : Inv X pins σ H1 { s1 with heap := h', toks := tk } := I1.kept kk
  have e1 : (es.toList.map keyOf).length = es.size := by rw [List.length_map, Array.length_toList]
  have q2 := q1 (es.toList.map keyOf) nd (fun k => ⟨fun hk => of_decide_eq_true ((hmem k).mpr hk), fun hk => (hmem k).mp (decide_eq_true hk)⟩)
  rw [e1] at q2
  exact call_len_set ho hex hd hf (by unfold scanBound at hb; omega) ⟨.int es.size, H1, I2.tok _, ⟨_, rfl⟩, q2⟩
end G
set_option Elab.async false
set_option linter.all false
set_option maxRecDepth 100000
set_option maxHeartbeats 4000000
namespace G
open PySem PySem.Spec PyProof.Rows L2
/-! ### dicts whose keys are tuples of any depth -/
mutual
/-- the value is the key: whole numbers (a bool is 0 or 1), texts, None, tuples of such -/
inductive Dn (K : PySem.W.Frag) (H : Hp) : V → NestedKey → Prop
  | non : Dn K H .non .none
  | bl (b : Bool) : Dn K H (.bl b) (.num (if b = true then 1 else 0))
  | int (i : Int) : Dn K H (.int i) (.num i)
  | str (x : Str) : Dn K H (.str x) (.text x)
  | tup {a : Addr} {xs : List V} {ks : List NestedKey} : SqT K H a xs → DnAll K H xs ks → Dn K H (.ref a) (.tup ks)
inductive DnAll (K : PySem.W.Frag) (H : Hp) : List V → List NestedKey → Prop
  | nil : DnAll K H [] []
  | cons {v : V} {vs : List V} {k : NestedKey} {ks : List NestedKey} : Dn K H v k → DnAll K H vs ks → DnAll K H (v :: vs) (k :: ks)
end
mutual
theorem Dn.keep {K : PySem.W.Frag} {H H' : Hp} (e : SameT H H') : ∀ (k : NestedKey) (v : V), Dn K H v k → Dn K H' v k
  | .none, _, h => by cases h; exact .non
  | .num i, _, h => by
    cases h with
    | bl b => exact .bl b
    | int i => exact .int i
  | .text x, _, h => by cases h; exact .str x
  | .tup ks, _, h => by
    cases h with
    | tup hs ha => exact .tup (e.sq hs) (DnAll.keep e ks _ ha)
theorem DnAll.keep {K : PySem.W.Frag} {H H' : Hp} (e : SameT H H') : ∀ (ks : List NestedKey) (vs : List V), DnAll K H vs ks → DnAll K H' vs ks
  | [], _, h => by cases h; exact .nil
  | k :: ks, _, h => by
    cases h with
    | cons h1 h2 => exact .cons (Dn.keep e k _ h1) (DnAll.keep e ks _ h2)
end
theorem Dn.k {K : PySem.W.Frag} {H H' : Hp} {v : V} {k : NestedKey} (h : Dn K H v k) (e : SameT H H') : Dn K H' v k := Dn.keep e k v h
theorem DnAll.k {K : PySem.W.Frag} {H H' : Hp} {vs : List V} {ks : List NestedKey} (h : DnAll K H vs ks) (e : SameT H H') : DnAll K H' vs ks := DnAll.keep e ks vs h
section
variable {X : Cx} {pins : List (Addr × Obj)} {σ : L2.St} {H : Hp} {s : Shared}
mutual
theorem Dn.is (I : Inv X pins σ H s) : ∀ (k : NestedKey) (v : V) (u : Value), Dn X.K H v k → RelV v u → NestedIs s.heap k u
  | .none, v, u, h, r => by
    cases h
    obtain rfl : u = Value.none := r
    exact .none
  | .num i, v, u, h, r => by
    cases h with
    | bl b =>
      obtain rfl : u = Value.bool b := r
      exact .bool rfl
    | int i =>
      obtain ⟨t, rfl⟩ := r
      exact .int i t
  | .text x, v, u, h, r => by
    cases h
    obtain ⟨t, rfl⟩ := r
    exact .text x t
  | .tup ks, v, u, h, r => by
    cases h with
    | @tup a xs _ hs ha =>
      obtain rfl : u = Value.ref a := r
      obtain ⟨its, rv, ⟨⟨cls, dd, dt, sl⟩, ho, hc, n, hd⟩, hz⟩ := I.tuple hs
      exact .tup ho hc hd (by rw [List.toList_toArray]; exact DnAll.is I ks xs its ha rv)
theorem DnAll.is (I : Inv X pins σ H s) : ∀ (ks : List NestedKey) (vs : List V) (us : List Value), DnAll X.K H vs ks → Vals vs us → NestedAll s.heap ks us
  | [], vs, us, h, r => by
    cases h
    cases r
    exact .nil
  | k :: ks, vs, us, h, r => by
    cases h with
    | cons h1 h2 =>
      cases r with
      | cons r1 r2 => exact .cons (Dn.is I k _ _ h1 r1) (DnAll.is I ks _ _ h2 r2)
end
end
/-- the entries: key, its own tuple, value -/
abbrev NL := List (NestedKey × Addr × V)
def atN (L : NL) (k : NestedKey) : Option (Addr × V) := (L.find? fun x => decide (x.1 = k)).map (·.2)
def valN (L : NL) (k : NestedKey) : Option V := (atN L k).map (·.2)
def putNd (L : NL) (k : NestedKey) (a : Addr) (v : V) : NL := if (atN L k).isSome = true then L.map (fun x => if x.1 = k then (x.1, x.2.1, v) else x) else L ++ [(k, a, v)]
def RelN (p : NestedKey × Addr × V) (q : NestedKey × Addr × Value) : Prop := p.1 = q.1 ∧ p.2.1 = q.2.1 ∧ RelV p.2.2 q.2.2
theorem relN_at : ∀ {L : NL} {xs : List (NestedKey × Addr × Value)}, Paired RelN L xs → ∀ k, (atN L k = none ∧ atKey xs k = none) ∨ ∃ a v u, atN L k = some (a, v) ∧ atKey xs k = some (a, u) ∧ RelV v u
  | [], [], .nil, k => .inl ⟨rfl, rfl⟩
  | p :: L, q :: xs, .cons r t, k => by
    obtain ⟨r1, r2, r3⟩ := r
    by_cases e : p.1 = k
    · refine .inr ⟨p.2.1, p.2.2, q.2.2, ?_, ?_, r3⟩
      · show Option.map _ (List.find? _ (p :: L)) = _
        rw [List.find?_cons_of_pos (by exact decide_eq_true e)]
        rfl
      · show Option.map _ (List.find? _ (q :: xs)) = _
        rw [List.find?_cons_of_pos (by rw [← r1]; exact decide_eq_true e), r2]
        rfl
    · have ih := relN_at t k
      have e1 : atN (p :: L) k = atN L k := by
        show Option.map _ (List.find? _ (p :: L)) = _
        rw [List.find?_cons_of_neg (by rw [decide_eq_true_eq]; exact e)]
        rfl
      have e2 : atKey (q :: xs) k = atKey xs k := by
        show Option.map _ (List.find? _ (q :: xs)) = _
        rw [List.find?_cons_of_neg (by rw [← r1, decide_eq_true_eq]; exact e)]
        rfl
      rw [e1, e2]
      exact ih
theorem relN_map {k : NestedKey} {v : V} {u : Value} (r : RelV v u) : ∀ {L : NL} {xs : List (NestedKey × Addr × Value)}, Paired RelN L xs → Paired RelN (L.map fun x => if x.1 = k then (x.1, x.2.1, v) else x) (xs.map (PySem.putAt k u))
  | [], [], .nil => .nil
  | p :: L, q :: xs, .cons h t => by
    refine .cons ?_ (relN_map r t)
    obtain ⟨r1, r2, r3⟩ := h
    unfold PySem.putAt
    dsimp only
    by_cases e : p.1 = k
    · rw [if_pos e, if_pos (by rw [← r1]; exact e)]
      exact ⟨r1, r2, r⟩
    · rw [if_neg e, if_neg (by rw [← r1]; exact e)]
      exact ⟨r1, r2, r3⟩
theorem paired_app {α β : Type} {R : α → β → Prop} : ∀ {l : List α} {m : List β} {l' : List α} {m' : List β}, Paired R l m → Paired R l' m' → Paired R (l ++ l') (m ++ m')
  | [], [], _, _, .nil, h => h
  | _ :: _, _ :: _, _, _, .cons r t, h => .cons r (paired_app t h)
theorem relN_put {L : NL} {xs : List (NestedKey × Addr × Value)} (h : Paired RelN L xs) (k : NestedKey) (a : Addr) {v : V} {u : Value} (r : RelV v u) : Paired RelN (putNd L k a v) (storedH xs k a u) := by
  unfold putNd storedH
  rcases relN_at h k with ⟨e1, e2⟩ | ⟨b, v0, u0, e1, e2, _⟩
  · rw [e1, e2]
    exact paired_app h (.cons ⟨rfl, rfl, r⟩ .nil)
  · rw [e1, e2]
    exact relN_map r h
def ND0 (P : Program) (w : World) (h : Heap) (d : Addr) (L : NL) : Prop := L.length ≤ sizeLine ∧ (d == sysModules) = false ∧ ∃ xs : List (NestedKey × Addr × Value), Paired RelN L xs ∧
  ∃ o es ep, h.get? d = some o ∧ o.ExactDict ∧ o.data = .dict es ep ∧ es.toList = xs.map (entryOfKey (nestedKind P w)) ∧ (xs.map (·.1)).Nodup
/-- the dict at d -/
def NDO (P : Program) (w : World) (d : Addr) (L : NL) : HO := .ext fun h => ND0 P w h d L
theorem ndo_new {P : Program} {w : World} {H : Hp} {h : Heap} {d : Addr} {L : NL} (R : ND0 P w h d L) : ObjOk P w H h d (NDO P w d L) := by
  obtain ⟨_, _, _, _, o, _, _, ho, _⟩ := id R
  refine ⟨R, ⟨o, ho⟩, fun h1 h2 r k => ?_⟩
  obtain ⟨a1, a2, xs, a3, o, es, ep, b1, b2⟩ := r
  exact ⟨a1, a2, xs, a3, o, es, ep, k o b1, b2⟩
/-- the keys stand, and are not too deep -/
def KeysN (K : PySem.W.Frag) (H : Hp) (L : NL) : Prop := ∀ p ∈ L, Dn K H (.ref p.2.1) p.1 ∧ p.1.depth ≤ 8
theorem KeysN.k {K : PySem.W.Frag} {H H' : Hp} {L : NL} (h : KeysN K H L) (e : SameT H H') : KeysN K H' L := fun p hp => ⟨(h p hp).1.k e, (h p hp).2⟩
theorem KeysN.put {K : PySem.W.Frag} {H : Hp} {L : NL} (h : KeysN K H L) {k : NestedKey} {a : Addr} {v : V} (hk : Dn K H (.ref a) k) (hd : k.depth ≤ 8) : KeysN K H (putNd L k a v) := fun p hp => by
  unfold putNd at hp
  split at hp
  · obtain ⟨x, hx, rfl⟩ := List.mem_map.mp hp
    split
    · exact h x hx
    · exact h x hx
  · rcases List.mem_append.mp hp with hp | hp
    · exact h p hp
    · rw [List.mem_singleton.mp hp]
      exact ⟨hk, hd⟩
theorem putNd_len {L : NL} {k : NestedKey} {a : Addr} {v : V} : (putNd L k a v).length ≤ L.length + 1 := by
  unfold putNd
  split
  · rw [List.length_map]; omega
  · rw [List.length_append]; exact Nat.le_refl _
/-- the dict at d, walked or not -/
def RdN (P : Program) (w : World) (H : Hp) (d : Addr) (L : NL) : Prop := H d = some (NDO P w d L) ∨ ∃ o, H d = some (.frz o (NDO P w d L))
section
variable {X : Cx} {pins : List (Addr × Obj)} {σ : L2.St} {H : Hp} {s : Shared} {d : Addr} {L : NL}
theorem nd_of (I : Inv X pins σ H s) (h : RdN X.prog X.w H d L) : ND0 X.prog X.w s.heap d L := by
  rcases h with h | ⟨o, h⟩
  · exact (I.hok d _ h).1
  · exact (I.hok d _ h).2.1
theorem nd_dict (I : Inv X pins σ H s) (h : RdN X.prog X.w H d L) (ks : KeysN X.K H L) : L.length ≤ sizeLine ∧ (d == sysModules) = false ∧ ∃ xs : List (NestedKey × Addr × Value), Paired RelN L xs ∧ s.heap.DictOfH (nestedKind X.prog X.w) d xs := by
  obtain ⟨a1, a2, xs, pr, o, es, ep, b1, b2, b3, b4, b5⟩ := nd_of I h
  refine ⟨a1, a2, xs, pr, o, es, ep, b1, b2, b3, b4, fun x hx => ?_, b5⟩
  have go : ∀ {L : NL} {xs : List (NestedKey × Addr × Value)}, Paired RelN L xs → KeysN X.K H L → ∀ x ∈ xs, Dn X.K H (.ref x.2.1) x.1 ∧ x.1.depth ≤ 8 := by
    intro L xs pr
    induction pr with
    | nil => intro _ x hx; exact nomatch hx
    | cons r _ ih =>
      intro ks x hx
      rcases List.mem_cons.mp hx with rfl | hx
      · have := ks _ List.mem_cons_self
        rw [← r.1, ← r.2.1]
        exact this
      · exact ih (fun p hp => ks p (List.mem_cons_of_mem _ hp)) x hx
  obtain ⟨h1, h2⟩ := go pr ks x hx
  exact ⟨Dn.is I _ _ _ h1 rfl, h2⟩
theorem nd_room {A : Around} (hu : A.units + 64 < cLine) : (nestedKind X.prog X.w).room A.in1 := by
  show A.units + 1 + 8 < cLine
  omega
theorem nd_facts (I : Inv X pins σ H s) (h : RdN X.prog X.w H d L) : s.TypeIs (.ref d) "dict" ∧ (∀ b, Value.ref d = .ref b → ∃ ob, s.heap.get? b = some ob ∧ ob.dict = none) ∧ (d == sysModules) = false := by
  obtain ⟨a1, a2, xs, pr, o, es, ep, b1, b2, b3, b4, b5⟩ := nd_of I h
  exact ⟨⟨o, b1, b2.1⟩, fun b q => by cases q; exact ⟨o, b1, b2.2.1⟩, a2⟩
theorem nd_key (I : Inv X pins σ H s) {b : Addr} {k : NestedKey} (h : Dn X.K H (.ref b) k) (hd : k.depth ≤ 8) : (nestedKind X.prog X.w).is s.heap k b := ⟨Dn.is I k _ _ h rfl, hd⟩
theorem nd_mut (h : H d = some (NDO X.prog X.w d L)) : Mut (H d) := by rw [h]; trivial
end
/-! the readings -/
/-- what is looked up: the dict at d has the entries L, y is the key k -/
def NAt (K : PySem.W.Frag) (P : Program) (w : World) (x y : V) (H : Hp) (C : NL → NestedKey → Prop) : Prop := ∃ (d b : Addr) (k : NestedKey) (L : NL), x = .ref d ∧ y = .ref b ∧ RdN P w H d L ∧ KeysN K H L ∧ Dn K H (.ref b) k ∧ k.depth ≤ 8 ∧ C L k
def tNGet (K : PySem.W.Frag) (P : Program) (w : World) (td ty : TE) : TE := fun σ H Q => td σ H fun x H1 => ty σ H1 fun y H2 => NAt K P w x y H2 fun L k => ∃ v, valN L k = some v ∧ Q v H2
def tNIn (K : PySem.W.Frag) (P : Program) (w : World) (neg : Bool) (ty td : TE) : TE := fun σ H Q => ty σ H fun y H1 => td σ H1 fun x H2 => NAt K P w x y H2 fun L k => Q (.bl (if neg = true then !(valN L k).isSome else (valN L k).isSome)) H2
def tNGet1 (K : PySem.W.Frag) (P : Program) (w : World) (td ty : TE) : TE := fun σ H Q => td σ H fun x H1 => ∃ d L, x = .ref d ∧ RdN P w H1 d L ∧ ty σ H1 fun y H2 => NAt K P w x y H2 fun L k => Q ((valN L k).getD .non) H2
def tNSetd (K : PySem.W.Frag) (P : Program) (w : World) (td ty tx : TE) : TE := fun σ H Q => td σ H fun x H1 => ∃ d L, x = .ref d ∧ RdN P w H1 d L ∧ ty σ H1 fun y H2 => tx σ H2 fun z H3 =>
  ∃ (d b : Addr) (k : NestedKey) (L : NL), x = .ref d ∧ y = .ref b ∧ H3 d = some (NDO P w d L) ∧ KeysN K H3 L ∧ Dn K H3 (.ref b) k ∧ k.depth ≤ 8 ∧ L.length < sizeLine ∧ (∀ v, valN L k = some v → Q v H3) ∧ (valN L k = none → Q z (upd H3 d (NDO P w d (L ++ [(k, b, z)]))))
def sNPut (K : PySem.W.Frag) (P : Program) (w : World) (td ty tv : TE) : TS := fun D σ H => tv σ H fun v H1 => td σ H1 fun x H2 => ty σ H2 fun y H3 =>
  ∃ (d b : Addr) (k : NestedKey) (L : NL), x = .ref d ∧ y = .ref b ∧ H3 d = some (NDO P w d L) ∧ KeysN K H3 L ∧ Dn K H3 (.ref b) k ∧ k.depth ≤ 8 ∧ L.length < sizeLine ∧ D.nx σ (upd H3 d (NDO P w d (putNd L k b v)))
section
variable {X : Cx} {o i e f value : Expr} {pos pos' apos cpos : Pos} {td ty tx tv : TE}
theorem pe_nget (hu : X.A.units + 64 < cLine) (ho : PE X o td) (hi : PE X i ty) (hs : NoSl i) : PE X (.Subscript o i pos) (tNGet X.K X.prog X.w td ty) := by
  refine ⟨fun pins s σ H Q I h => ?_⟩
  refine subD_of PySem.F.slot_dict_getitem.lookup hs (thn (ho.run pins s σ H _ I h) fun u s1 ⟨x, H1, I1, rx, q1⟩ => thn (hi.run pins s1 σ H1 _ I1 q1) fun iv s2 ⟨y, H2, I2, ry, d, b, k, L, ex, ey, g, ks, hk, hd, v, hv, q2⟩ => ?_)
  subst ex ey
  obtain rfl : u = Value.ref d := rx
  obtain rfl : iv = Value.ref b := ry
  obtain ⟨_, _, xs, pr, dd⟩ := nd_dict I2 g ks
  refine ⟨(nd_facts I2 g).1, ?_⟩
  rcases relN_at pr k with ⟨e1, e2⟩ | ⟨a, v0, u0, e1, e2, r⟩
  · unfold valN at hv
    rw [e1] at hv
    exact nomatch hv
  · unfold valN at hv
    rw [e1] at hv
    obtain rfl : v0 = v := Option.some.inj hv
    exact wpAny_getItem_heap (nd_room hu) (nd_key I2 hk hd) dd e2 ⟨v0, H2, I2.tok _, r, q2⟩
theorem pe_nin {neg : Bool} {op : CmpOp} (hop : op = if neg = true then .NotIn else .In) (hu : X.A.units + 64 < cLine) (hi : PE X i ty) (ho : PE X o td) : PC X op i o (tNIn X.K X.prog X.w neg ty td) := by
  refine ⟨fun pins s σ H Q I h => ?_⟩
  refine thn (hi.run pins s σ H _ I h) fun iv s1 ⟨y, H1, I1, ry, q1⟩ => thn (ho.run pins s1 σ H1 _ I1 q1) fun u s2 ⟨x, H2, I2, rx, d, b, k, L, ex, ey, g, ks, hk, hd, q2⟩ => ?_
  subst ex ey
  obtain rfl : u = Value.ref d := rx
  obtain rfl : iv = Value.ref b := ry
  obtain ⟨_, hsm, xs, pr, dd⟩ := nd_dict I2 g ks
  have ev : (valN L k).isSome = (atKey xs k).isSome := by
    unfold valN
    rcases relN_at pr k with ⟨e1, e2⟩ | ⟨a, v0, u0, e1, e2, r⟩ <;> rw [e1, e2] <;> rfl
  cases neg with
  | false =>
    subst hop
    refine wpAny_in_heap (nd_room hu) (nd_key I2 hk hd) hsm dd ?_
    rw [← ev]
    exact ⟨.bl (valN L k).isSome, H2, I2.tok _, rfl, q2⟩
  | true =>
    subst hop
    refine wpAny_notIn_heap (nd_room hu) (nd_key I2 hk hd) hsm dd ?_
    rw [← ev]
    exact ⟨.bl (!(valN L k).isSome), H2, I2.tok _, rfl, q2⟩
theorem pe_nget1 (hu : X.A.units + 64 < cLine) (ho : PE X o td) (he : PE X e ty) (m : M1 X o "get" apos e cpos) : PE X (.Call (.Attribute o "get" apos) [e] [] cpos) (tNGet1 X.K X.prog X.w td ty) := by
  refine ⟨fun pins s σ H Q I h => ?_⟩
  refine wpAny_Call_method m.base m.few m.line PySem.F.plainAttrs_dict PySem.F.slot_dict_get PySem.F.type_dict_get (thn (ho.run pins s σ H _ I h) fun u s1 ⟨x, H1, I1, rx, d0, L0, ex0, g0, q1⟩ => ?_)
  subst ex0
  obtain rfl : u = Value.ref d0 := rx
  obtain ⟨t1, t2, _⟩ := nd_facts I1 g0
  refine ⟨t1, t2, ?_⟩
  rw [m.trees]
  refine Calls.callWith_builtin rfl (Calls.evalArgs_plain (Calls.spliced_cons (thn (he.run pins s1 σ H1 _ I1 q1) fun iv s2 ⟨y, H2, I2, ry, d, b, k, L, ex, ey, g, ks, hk, hd, q2⟩ => Calls.spliced_nil ?_)))
  subst ey
  cases ex
  obtain rfl : iv = Value.ref b := ry
  obtain ⟨_, hsm, xs, pr, dd⟩ := nd_dict I2 g ks
  refine call_meetsIn F.slot_dict_get dd.typeIs F.entry_dict_get (F.args_dict_get_2 _ _) (meetsH_dict_get (nestedKind X.prog X.w) d0 b hsm) ⟨nd_room hu, k, xs, nd_key I2 hk hd, dd, ?_⟩
  have ev : RelV ((valN L k).getD .non) (((atKey xs k).map (·.2)).getD .none) := by
    unfold valN
    rcases relN_at pr k with ⟨e1, e2⟩ | ⟨a, v0, u0, e1, e2, r⟩ <;> rw [e1, e2]
    · exact rfl
    · exact r
  exact ⟨_, H2, I2.tok _, ev, q2⟩
theorem pe_nsetd (hu : X.A.units + 64 < cLine) (ho : PE X o td) (he : PE X e ty) (hf : PE X f tx) (m : M2 X o "setdefault" apos e f cpos) : PE X (.Call (.Attribute o "setdefault" apos) [e, f] [] cpos) (tNSetd X.K X.prog X.w td ty tx) := by
  refine ⟨fun pins s σ H Q I h => ?_⟩
  refine wpAny_Call_method m.base m.few m.line PySem.F.plainAttrs_dict PySem.F.slot_dict_setdefault PySem.F.type_dict_setdefault (thn (ho.run pins s σ H _ I h) fun u s1 ⟨x, H1, I1, rx, d0, L0, ex0, g0, q1⟩ => ?_)
  subst ex0
  obtain rfl : u = Value.ref d0 := rx
  obtain ⟨t1, t2, _⟩ := nd_facts I1 g0
  refine ⟨t1, t2, ?_⟩
  rw [m.trees]
  refine Calls.callWith_builtin rfl (Calls.evalArgs_plain (Calls.spliced_cons (thn (he.run pins s1 σ H1 _ I1 q1) fun iv s2 ⟨y, H2, I2, ry, q2⟩ =>
    Calls.spliced_cons (thn (hf.run pins s2 σ H2 _ I2 q2) fun fv s3 ⟨z, H3, I3, rz, d, b, k, L, ex, ey, g, ks, hk, hd, hl, q3, q4⟩ => Calls.spliced_nil ?_))))
  subst ey
  cases ex
  obtain rfl : iv = Value.ref b := ry
  obtain ⟨_, hsm, xs, pr, dd⟩ := nd_dict I3 (.inl g) ks
  have lx : L.length = xs.length := Paired.length pr
  refine call_setdefault_heap (nd_room hu) (nd_key I3 hk hd) hsm dd (fun p hp => ?_) (fun hn h' dd' hs => ?_) (by omega)
  · rcases relN_at pr k with ⟨e1, e2⟩ | ⟨a, v0, u0, e1, e2, r⟩
    · rw [e2] at hp
      exact nomatch hp
    · rw [e2] at hp
      cases hp
      exact ⟨v0, H3, I3.tok _, r, q3 v0 (by unfold valN; rw [e1]; rfl)⟩
  · rcases relN_at pr k with ⟨e1, e2⟩ | ⟨a, v0, u0, e1, e2, r⟩
    · have rel2 := relN_put pr k b rz
      have e3 : putNd L k b z = L ++ [(k, b, z)] := by
        unfold putNd
        rw [e1]
        rfl
      rw [e3] at rel2
      obtain ⟨ob, es, ep, hq, h2, h3, h4, _, h5⟩ := dd'
      refine ⟨z, _, d_write (t' := s3.toks + (nestedKind X.prog X.w).draws k) I3 (nd_mut g) hs ⟨ob, hq⟩ (ndo_new ⟨?_, hsm, _, rel2, ob, es, ep, hq, h2, h3, h4, h5⟩), rz, q4 (by unfold valN; rw [e1]; rfl)⟩
      rw [List.length_append]
      exact hl
    · rw [e2] at hn
      exact nomatch hn
theorem ps_nput (hu : X.A.units + 64 < cLine) (ho : PE X o td) (hi : PE X i ty) (hv : PE X value tv) (hs : swapsWith value (some (.Subscript o i pos')) pos.line X.env = pure false) :
    PS X (.Assign [.Subscript o i pos'] value pos) (sNPut X.K X.prog X.w td ty tv) := by
  refine ⟨fun pins s σ H D I h => ?_⟩
  refine wpAny_Assign_Subscript (thn (hv.run pins s σ H _ I h) fun r s1 ⟨v, H1, I1, rv, q1⟩ => thn (ho.run pins s1 σ H1 _ I1 q1) fun u s2 ⟨x, H2, I2, rx, q2⟩ => thn (hi.run pins s2 σ H2 _ I2 q2) fun iv s3 ⟨y, H3, I3, ry, d, b, k, L, ex, ey, g, ks, hk, hd, hl, q3⟩ => ?_) hs
  subst ex ey
  obtain rfl : u = Value.ref d := rx
  obtain rfl : iv = Value.ref b := ry
  obtain ⟨_, hsm, xs, pr, dd⟩ := nd_dict I3 (.inl g) ks
  have lx : L.length = xs.length := Paired.length pr
  refine wpAny_setItem_heap (nd_room hu) (nd_key I3 hk hd) dd (fun h' dd' hs' => ?_) (by omega)
  obtain ⟨ob, es, ep, hq, h2, h3, h4, _, h5⟩ := dd'
  refine ⟨σ, _, d_write (t' := s3.toks + (nestedKind X.prog X.w).draws k) I3 (nd_mut g) hs' ⟨ob, hq⟩ (ndo_new ⟨?_, hsm, _, relN_put pr k b rv, ob, es, ep, hq, h2, h3, h4, h5⟩), q3⟩
  exact Nat.le_trans putNd_len hl
end
/-- a new one -/
def tDNewN (P : Program) (w : World) : TE := fun _ H Q => ∀ p, H p = none → Q (.ref p) (upd H p (NDO P w p []))
theorem nd_empty {P : Program} {w : World} {H : Hp} (h : Heap) (hb : sysModules < h.objs.size) : ObjOk P w H (h.push { cls := .type "dict", data := .dict #[] }) h.objs.size (NDO P w h.objs.size []) :=
  ndo_new ⟨Nat.zero_le _, beq_eq_false_iff_ne.mpr (Ne.symm (Nat.ne_of_lt hb)), [], .nil, _, #[], 0, Heap.get?_push_size _ rfl, ⟨rfl, rfl, rfl⟩, rfl, rfl, List.nodup_nil⟩
theorem pe_dnewN {X : Cx} {pos : Pos} : PE X (.Dict [] [] pos) (tDNewN X.prog X.w) := ⟨fun pins s σ H Q I h =>
  wpAny_Dict_empty ⟨.ref s.heap.objs.size, _, I.laid (t' := s.toks) (fun _ _ q => Heap.get?_push_of_some _ q) (Nat.le_refl _) (nd_empty s.heap I.big), rfl, h _ (I.hok.fresh (Nat.le_refl _))⟩⟩
/-! len -/
def rLenN (K : PySem.W.Frag) (P : Program) (w : World) : List V → Hp → VK → Prop := fun vs H Q => ∃ d L, vs = [.ref d] ∧ RdN P w H d L ∧ KeysN K H L ∧ Q (.int (L.length : Nat)) H
theorem call_lenN {X : Cx} : CallR X (.builtin "len") (rLenN X.K X.prog X.w) := by
  intro pins s σ H xs us Q I r h
  obtain ⟨d, L, rfl, hp, ks, q⟩ := h
  obtain ⟨u, rfl, rx⟩ := vals1 r
  obtain rfl : u = .ref d := rx
  obtain ⟨z, hd, ys, rel, dd⟩ := nd_dict I hp ks
  have hl : L.length = ys.length := Paired.length rel
  refine call_len_dictH hd dd (by rw [← hl]; rw [sizeLine_eq] at z; omega) ?_
  rw [← hl]
  exact ⟨.int ((L.length : Nat) : Int), H, I.tok _, ⟨_, rfl⟩, q⟩
end G
set_option Elab.async false
set_option linter.all false
set_option maxRecDepth 100000
set_option maxHeartbeats 4000000
namespace G
open PySem PySem.Spec PyProof.Rows L2
/-! ### walking a dict with keys of any depth: it is locked as the walk begins -/
theorem paired_getN : ∀ {L : NL} {xs : List (NestedKey × Addr × Value)}, Paired RelN L xs → ∀ {i : Nat} {p : NestedKey × Addr × V}, L[i]? = some p → ∃ q, xs[i]? = some q ∧ RelN p q
  | [], _, _, i, _, e => by simp at e
  | p :: L, q :: xs, .cons r t, 0, _, e => by
    cases Option.some.inj (show some p = some _ from e)
    exact ⟨q, rfl, r⟩
  | p :: L, q :: xs, .cons r t, i + 1, p', e => by
    obtain ⟨q', h1, h2⟩ := paired_getN t (i := i) (p := p') e
    exact ⟨q', h1, h2⟩
theorem frzN {X : Cx} {pins : List (Addr × Obj)} {σ : L2.St} {H : Hp} {s : Shared} {d : Addr} {o : Obj} {L : NL} (I : Inv X pins σ H s) (h : H d = some (.frz o (NDO X.prog X.w d L))) :
    (d == sysModules) = false ∧ s.heap.get? d = some o ∧ o.ExactDict ∧ L.length ≤ sizeLine ∧ ∃ (es : Array DictEntry) (ep : Nat), o.data = .dict es ep ∧ es.size = L.length ∧
      ∀ (i : Nat) (k : NestedKey) (a : Addr) (v : V), L[i]? = some (k, a, v) → ∃ en : DictEntry, es[i]? = some en ∧ en.key = .ref a ∧ RelV v en.val := by
  obtain ⟨hd, ⟨z, hs, xs, pr, o', es, ep, ho, hx, hdt, he, _⟩, _⟩ := I.hok d _ h
  rw [hd] at ho
  cases ho
  refine ⟨hs, hd, hx, z, es, ep, hdt, ?_, fun i k a v e => ?_⟩
  · have l1 : es.size = xs.length := size_of_entries he
    have l2 : L.length = xs.length := Paired.length pr
    omega
  · obtain ⟨b, hb, e1, e2, e3⟩ := paired_getN pr e
    have q := entry_at he i
    rw [hb] at q
    exact ⟨_, q, congrArg Value.ref e2.symm, e3⟩
/-- the keys: each key's own tuple -/
def Itkn (P : Program) (w : World) (d : Addr) (o : Obj) (L : NL) : It :=
  ⟨fun i H => H d = some (.frz o (NDO P w d L)) ∧ i < L.length, fun i H x H' => H' = H ∧ ∃ k a v, L[i]? = some (k, a, v) ∧ x = .ref a, fun i H => H d = some (.frz o (NDO P w d L)) ∧ L.length ≤ i⟩
/-- the pairs, each a new tuple of the key's own tuple and the value -/
def Itin (P : Program) (w : World) (d : Addr) (o : Obj) (L : NL) : It :=
  ⟨fun i H => H d = some (.frz o (NDO P w d L)) ∧ i < L.length, fun i H x H' => ∃ (T : Addr) (k : NestedKey) (a : Addr) (v : V), L[i]? = some (k, a, v) ∧ x = .ref T ∧ H T = none ∧ H' = upd H T (.tup [.ref a, v]), fun i H => H d = some (.frz o (NDO P w d L)) ∧ L.length ≤ i⟩
section
variable {P : Program} {w : World} {K : PySem.W.Frag} {tg : Expr} {d : Addr} {o : Obj} {es : Array DictEntry} {ep : Nat} {L : NL}
theorem turn_keysN (it : Addr) (hod : o.data = .dict es ep) : Turn P w K tg (Itkn P w d o L) [it] it (fun i h => h.IsKeyIter it d i L.length ep) where
  mem := by simp
  obj := fun i h st b hb => by
    have e : b = it := by simpa using hb
    rw [e]
    obtain ⟨oi, e1, c, dd⟩ := st
    exact ⟨oi, e1, fun v z => by rw [dd] at z; cases z⟩
  keep := fun i h h' st k => st.at fun oi e => k it (by simp) oi e
  item := by
    intro X hP hw hK hc i pins s σ H E I hf st hg
    subst hP hw hK
    obtain ⟨hd, hi⟩ := hg
    obtain ⟨g0, g1, g2, g3, g4, g5⟩ := hf it (List.mem_singleton.mpr rfl)
    obtain ⟨hs, hgd, hx, _, es', ep', hdt, hsz, ent⟩ := frzN I hd
    obtain ⟨rfl, rfl⟩ := dict_ep hod hdt
    obtain ⟨⟨k, a, v⟩, hkv⟩ : ∃ p, L[i]? = some p := ⟨L[i], List.getElem?_eq_getElem hi⟩
    obtain ⟨en, hen, hkey, hrv⟩ := ent i k a v hkv
    refine next_key_item st hgd hdt hsz hen fun h' st' sb => ?_
    have I1 : Inv X pins σ H { s with heap := h' } := I.turned (t' := s.toks) (fun b ob hb e => (sb.2 b hb).trans e) g0 g1 g3 g4 g5
    obtain ⟨oi, e, c, dd⟩ := id st'
    exact ⟨en.key, rfl, go_of (s := { s with heap := h' }) e c dd (by decide) ⟨.ref a, H, I1, hkey, ⟨rfl, k, a, v, hkv, rfl⟩, st', fun b hb => (hf b hb).1⟩⟩
  done := by
    intro X hP hw hK hc i pins s σ H E I hf st hg
    subst hP hw hK
    obtain ⟨hd, hi⟩ := hg
    obtain ⟨g0, g1, g2, g3, g4, g5⟩ := hf it (List.mem_singleton.mpr rfl)
    obtain ⟨hs, hgd, hx, _, es', ep', hdt, hsz, ent⟩ := frzN I hd
    obtain ⟨rfl, rfl⟩ := dict_ep hod hdt
    exact next_key_end (I.ok.hd hc) st hgd hdt hsz hi fun h1 ek => ⟨rfl, I.turned (t' := s.toks) (fun b ob nb e => ek b ob nb e) g0 g1 g3 g4 g5⟩
  self := fun A i s Q E st h => by
    have ty := st.typeIs
    refine wpAny_pyIter_slot ty F.slot_dict_keyiterator_iter (wpAny_call_entry F.slot_dict_keyiterator_iter ty F.entry_dict_keyiterator_iter ?_ (F.args_dict_keyiterator_iter_1 _))
    show wpAny _ _ (ret (Value.ref it)) _ _ _
    exact wpAny_pure ⟨_, rfl, "dict_keyiterator", _, ty, F.slot_dict_keyiterator_next.lookup, h⟩
theorem turn_itemsN {elts : List Expr} {kk : Nat} {tpos : Pos} (it : Addr) (hod : o.data = .dict es ep) :
    Turn P w K (.Tuple elts kk tpos) (Itin P w d o L) [it] it (fun i h => ∃ ok ov, IsItemIter h it d i L.length ep ok ov) where
  mem := by simp
  obj := fun i h st b hb => by
    have e : b = it := by simpa using hb
    subst e
    obtain ⟨ok, ov, e⟩ := st
    exact ⟨_, e, fun v z => nomatch z⟩
  keep := fun i h h' st k => let ⟨ok, ov, e⟩ := st; ⟨ok, ov, k it (by simp) _ e⟩
  item := by
    intro X hP hw hK hc i pins s σ H E I hf st hg
    subst hP hw hK
    obtain ⟨hd, hi⟩ := hg
    obtain ⟨hs, hgd, hx, _, es', ep', hdt, hsz, ent⟩ := frzN I hd
    obtain ⟨rfl, rfl⟩ := dict_ep hod hdt
    obtain ⟨⟨k, a, v⟩, hkv⟩ : ∃ p, L[i]? = some p := ⟨L[i], List.getElem?_eq_getElem hi⟩
    obtain ⟨en, hen, hkey, rv⟩ := ent i k a v hkv
    obtain ⟨ok, ov, he⟩ := st
    rw [← hsz] at he
    have hlt : it < s.heap.objs.size := Heap.lt_size he
    have hie : i < es'.size := by omega
    obtain rfl : es'[i] = en := by
      rw [Array.getElem?_eq_getElem hie] at hen
      exact Option.some.inj hen
    refine wpAny_pyNext_items_item_raw he ⟨o, hgd, hx, hdt⟩ hie fun h' ho hT hz hk => ?_
    refine ⟨_, rfl, wpAny_letOwnedTupleGo_items (s := { s with heap := h' }) ho fun h'' he' sb => ?_⟩
    have hT2 : h''.get? s.heap.objs.size = some { cls := .type "tuple", data := .seq #[es'[i].key, es'[i].val] } := (sb.2 _ (Nat.ne_of_gt hlt)).trans hT
    have new : ObjOk X.prog X.w (upd H s.heap.objs.size (.tup [.ref a, v])) h'' s.heap.objs.size (.tup [.ref a, v]) :=
      ⟨by show 2 ≤ sizeLine; decide, [es'[i].key, es'[i].val], .cons hkey (.cons rv .nil), ⟨_, hT2, rfl, _, rfl⟩⟩
    have I1 : Inv X pins σ (upd H s.heap.objs.size (.tup [.ref a, v])) { s with heap := h'' } :=
      I.turnedNew (t' := s.toks) (ch := [it]) (fun b ob hb e => (sb.2 b (by simpa using hb)).trans (hk b ob (by simpa using hb) e)) hf (Nat.le_refl _) new
    refine ⟨.ref s.heap.objs.size, _, I1, rfl, ⟨_, k, a, v, hkv, rfl, I.hok.fresh (Nat.le_refl _), rfl⟩, ⟨es'[i].key, es'[i].val, ?_⟩, fun b hb => ?_⟩
    · rw [← hsz]; exact he'
    · have e : b = it := by simpa using hb
      rw [e, upd_ne (Nat.ne_of_lt hlt)]
      exact (hf it (by simp)).1
  done := by
    intro X hP hw hK hc i pins s σ H E I hf st hg
    subst hP hw hK
    obtain ⟨hd, hi⟩ := hg
    obtain ⟨g0, g1, g2, g3, g4, g5⟩ := hf it (List.mem_singleton.mpr rfl)
    obtain ⟨hs, hgd, hx, _, es', ep', hdt, hsz, ent⟩ := frzN I hd
    obtain ⟨rfl, rfl⟩ := dict_ep hod hdt
    obtain ⟨ok, ov, he⟩ := st
    rw [← hsz] at he
    exact wpAny_pyNext_items_end_raw (I.ok.hd hc) he ⟨o, hgd, hx, hdt⟩ (by omega) fun h' eb => ⟨rfl, I.turned (t' := s.toks) (fun b ob hb e => eb b ob hb e) g0 g1 g3 g4 g5⟩
  self := fun A i s Q E st h => let ⟨_, _, e⟩ := st; PySem.W.kcp_self e h
end
/-- locked as the walk begins, or locked already -/
def LockN (P : Program) (w : World) (d : Addr) (L : NL) (H : Hp) (C : Obj → Hp → Prop) : Prop := (H d = some (NDO P w d L) ∧ ∀ o, C o (upd H d (.frz o (NDO P w d L)))) ∨ ∃ o, H d = some (.frz o (NDO P w d L)) ∧ C o H
theorem LockN.get {X : Cx} {pins : List (Addr × Obj)} {σ : L2.St} {H : Hp} {s : Shared} {d : Addr} {L : NL} {C : Obj → Hp → Prop} (I : Inv X pins σ H s) (h : LockN X.prog X.w d L H C) : ∃ o H2, Inv X pins σ H2 s ∧ H2 d = some (.frz o (NDO X.prog X.w d L)) ∧ C o H2 := by
  rcases h with ⟨hd, q⟩ | ⟨o, hd, q⟩
  · obtain ⟨od, I2⟩ := I.lock hd trivial
    exact ⟨od, _, I2, upd_same, q od⟩
  · exact ⟨o, _, I, hd, q⟩
def iKeysN (P : Program) (w : World) (td : TE) : TI := fun σ H R => td σ H fun x H1 => ∃ (d : Addr) (L : NL), x = .ref d ∧ LockN P w d L H1 fun o H2 => R (Itkn P w d o L) H2
def iItemsN (P : Program) (w : World) (td : TE) : TI := fun σ H R => td σ H fun x H1 => ∃ (d : Addr) (L : NL), x = .ref d ∧ LockN P w d L H1 fun o H2 => R (Itin P w d o L) H2
section
variable {X : Cx} {tg e : Expr} {td : TE} {apos cpos : Pos}
theorem pi_keysN (he : PE X e td) : PI X tg e (iKeysN X.prog X.w td) := by
  refine ⟨fun pins s σ H R I h => ?_⟩
  refine thn (he.run pins s σ H _ I h) fun u s1 ⟨x, H1, I1, rx, d, L, ex, q⟩ => ?_
  subst ex
  obtain rfl : u = Value.ref d := rx
  obtain ⟨o, H2, I2, hd, q2⟩ := q.get I1
  obtain ⟨hs, hgd, hx, _, es, ep, hdt, hsz, ent⟩ := frzN I2 hd
  refine iter_keys hs hgd hx hdt (pi_one (tk := s1.toks) I2 _ (turn_keysN _ hdt) ⟨_, Heap.get?_push_size _ rfl, rfl, ?_⟩ q2)
  rw [hsz] <;> rfl
theorem pi_itemsN {elts : List Expr} {kk : Nat} {tpos : Pos} (he : PE X e td) (hbase : attributeBase e "items" X.env (eval e X.env) = eval e X.env := by rfl) (hline : (apos.endLine == cpos.line) = true := by rfl) :
    PI X (.Tuple elts kk tpos) (.Call (.Attribute e "items" apos) [] [] cpos) (iItemsN X.prog X.w td) := by
  refine ⟨fun pins s σ H R I h => ?_⟩
  refine wpAny_Call_method (T := "dict") (id := "dict.items") hbase rfl hline F.plainAttrs_dict F.slot_dict_items F.type_dict_items (thn (he.run pins s σ H _ I h) fun u s1 ⟨x, H1, I1, rx, d, L, ex, q⟩ => ?_)
  subst ex
  obtain rfl : u = Value.ref d := rx
  obtain ⟨o, H2, I2, hd, q2⟩ := q.get I1
  obtain ⟨hs, hgd, hx, _, es, ep, hdt, hsz, ent⟩ := frzN I2 hd
  have ht : s1.TypeIs (.ref d) "dict" := ⟨o, hgd, hx.1⟩
  have fin : wpAny (model X.prog X.w) X.A (pyIter (.ref s1.heap.objs.size)) (PIE X pins σ (.Tuple elts kk tpos) R) X.xe { s1 with heap := s1.heap.push { cls := .type "dict_items", data := .fields #[.ref d] } } := by
    have I3 : Inv X pins σ H2 { s1 with heap := s1.heap.push { cls := .type "dict_items", data := .fields #[.ref d] } } := I2.kept (t' := s1.toks) fun b o q => Heap.get?_push_of_some _ q
    refine wpAny_pyIter_items_raw (d := d) ⟨_, Heap.get?_push_size _ rfl, rfl, rfl⟩ ⟨o, Heap.get?_push_of_some _ hgd, hx, hdt⟩ (pi_one (tk := s1.toks) I3 _ (turn_itemsN _ hdt) ⟨.none, .none, ?_⟩ q2)
    rw [← hsz]
    exact Heap.get?_push_size _ rfl
  refine ⟨ht, (fun b z => by cases z; exact ⟨o, hgd, hx.2.1⟩), ?_⟩
  show wpAny _ _ (callWith cpos (.builtin "dict.items") [.ref d] [] []) _ X.xe s1
  exact method_meetsIn F.slot_dict_items F.entry_dict_items rfl (PySem.evalArgs_none ⟨rfl, ht, F.args_dict_items_1 _, _, meets_dict_items_raw d hs, ⟨es, ep, o, hgd, hx, hdt⟩, fin⟩)
end
theorem walk_keysN {P : Program} {w : World} {d : Addr} {o : Obj} {L : NL} : Walk (Itkn P w d o L) L.length (fun H => H d = some (.frz o (NDO P w d L))) (fun i H x H' => H' = H ∧ ∃ k a v, L[i]? = some (k, a, v) ∧ x = .ref a) :=
  ⟨fun _ _ hi q => ⟨q, hi⟩, fun _ q => ⟨q, Nat.le_refl _⟩, fun _ _ _ _ _ _ y => y⟩
theorem walk_itemsN {P : Program} {w : World} {d : Addr} {o : Obj} {L : NL} : Walk (Itin P w d o L) L.length (fun H => H d = some (.frz o (NDO P w d L))) (fun i H x H' => ∃ (T : Addr) (k : NestedKey) (a : Addr) (v : V), L[i]? = some (k, a, v) ∧ x = .ref T ∧ H T = none ∧ H' = upd H T (.tup [.ref a, v])) :=
  ⟨fun _ _ hi q => ⟨q, hi⟩, fun _ q => ⟨q, Nat.le_refl _⟩, fun _ _ _ _ _ _ y => y⟩
end G
set_option Elab.async false
set_option linter.all false
set_option maxRecDepth 100000
set_option maxHeartbeats 4000000
namespace G
open PySem PySem.Spec PyProof.Rows L2
/-! ### set(xs), xs a list of tuples of ints, fewer than 64 of them different -/
/-- fewer than 64 differ -/
def Few (ks : List (Addr × List Int)) : Prop := ∀ L : List (Addr × List Int), (L.map (·.2)).Nodup → (∀ p ∈ L, p ∈ ks) → L.length < 64
section
variable {P : Program} {w : World} {A : Around} {E : Value → Shared → Prop} {s : Shared}
theorem put_row {a : Addr} {L : List (Addr × List Int)} {es : Array (Int × Value)} {ep : Nat} {t : SetTable} (R : SetTR P w s.heap a L es ep t) {x : Addr} {k : List Int} (hx : IsT P w s.heap k x) (room : A.units < cLine) (few : k ∉ L.map (·.2) → L.length + 1 < 64)
    {Q : Bool → Shared → Prop} (key : ∀ b h1 L1 es1 ep1 t1, Heap.SameBut a s.heap h1 → SetTR P w h1 a L1 es1 ep1 t1 → (k ∈ L.map (·.2) → L1 = L) → (k ∉ L.map (·.2) → L1.Perm ((x, k) :: L)) → Q b { s with heap := h1 }) :
    wpAny (model P w) A (setAddHashed a (.ref x) (thash P w k)) Q E s := by
  rcases Classical.em (k ∈ L.map (·.2)) with there | new
  · obtain ⟨o, at_, _, dat⟩ := R.ob
    unfold setAddHashed
    refine wpAny_holding (show wpAny _ _ (setAddHashedIn a (.ref x) _ (99999 + 1)) _ _ _ from ?_)
    rw [setAddHashedIn_succ]
    refine wpAny_bind (wpAny_setState_of at_ dat R.fits (show wpAny _ _ _ _ _ _ from ?_))
    refine wp_if_neg (show ¬ _ from by simp [byScan, Value.scannable]) ?_
    try refine wpAny_bind (wpAny_pure (show wpAny _ _ _ _ _ _ from ?_))
    refine wpAny_bind (search_at R hx room (fun _ => (show wpAny _ _ _ _ _ _ from ?_)) fun _ no _ _ => absurd there no)
    exact wpAny_pure (key false _ _ _ _ _ (Heap.SameBut.refl _ _) R (fun _ => rfl) fun no => absurd there no)
  · exact add_at R hx room (few new) key
theorem update_rows {I S : Addr} {fp wr : List Addr} {G : Array GenState → Array GenState → Prop} {n : Nat} {Pv : Nat → Value → Prop} {St : Nat → Shared → Prop} {R : Result → Shared → Prop} (W : WalksS P w A.in1 I fp wr G n Pv St) (apart : S ∉ fp)
    {ks : List (Addr × List Int)} (en : n = ks.length) (few : Few ks) (val : ∀ i v, Pv i v → ∃ p, ks[i]? = some p ∧ v = .ref p.1) {g : Heap} (rows : ∀ p ∈ ks, IsT P w g p.2 p.1) (gS : g.get? S = none) (gw : ∀ b ∈ wr, g.get? b = none) (room : A.in1.units < cLine)
    (stop : ∀ s1 L es ep t, Moved (S :: wr) G s s1 → SetTR P w s1.heap S L es ep t → Got ks n L → (∀ b o, g.get? b = some o → s1.heap.get? b = some o) → R (.ok (.ret .none)) s1) :
    ∀ (m i : Nat) (s2 : Shared), n - i = m → i ≤ n → St i s2 → (∀ b o, g.get? b = some o → s2.heap.get? b = some o) → (∃ L es ep t, SetTR P w s2.heap S L es ep t ∧ Got ks i L) → (∀ s3, Moved (S :: wr) G s2 s3 → Moved (S :: wr) G s s3) →
      codeAny (model P w) A (.builtin "set.update.loop" ⟨[.ref S, .ref I], []⟩) R s2 := by
  have sw : S ∉ wr := fun z => apart (W.sub _ z)
  have wide : ∀ b ∈ wr, b ∈ S :: wr := fun b z => List.mem_cons_of_mem _ z
  have stay : ∀ {x y : Shared}, Moved wr G x y → (∀ b o, g.get? b = some o → x.heap.get? b = some o) → ∀ b o, g.get? b = some o → y.heap.get? b = some o := fun mv k b o e =>
    mv.heap b o (fun z => absurd ((gw b z).symm.trans e) (by simp)) (k b o e)
  intro m
  induction m with
  | zero =>
    intro i s2 em hi st k ⟨L, es, ep, t, hR, got⟩ way
    obtain rfl : i = n := by omega
    refine codeAny_builtin F.entry_set_update_loop (show wpAny _ _ _ _ _ _ from ?_)
    rw [Around.under_plainId F.plain_set_update_loop _]
    refine wpAny_bind (show wpAny _ A.in1 (pyNext (.ref I)) _ _ _ from W.done s2 _ _ st fun s3 mv => wpAny_pure (stop s3 L es ep t (way s3 (mv.mono wide)) ?_ got (stay mv k)))
    exact hR.keep (fun o e => mv.heap S o sw e) fun p z => isT_keep (rows p (List.mem_of_mem_take (got.sub p z))) (stay mv k)
  | succ m ih =>
    intro i s2 em hi st k ⟨L, es, ep, t, hR, got⟩ way
    have lt : i < n := by omega
    refine codeAny_builtin F.entry_set_update_loop (show wpAny _ _ _ _ _ _ from ?_)
    rw [Around.under_plainId F.plain_set_update_loop _]
    refine wpAny_bind (show wpAny _ A.in1 (pyNext (.ref I)) _ _ _ from W.item i s2 _ _ lt st fun v s3 pv st3 mv => ?_)
    obtain ⟨p, hp, rfl⟩ := val i v pv
    have k3 := stay mv k
    have inside : ∀ q ∈ L, q ∈ ks := fun q z => List.mem_of_mem_take (got.sub q z)
    have R3 : SetTR P w s3.heap S L es ep t := hR.keep (fun o e => mv.heap S o sw e) fun q z => isT_keep (rows q (inside q z)) k3
    have row : IsT P w s3.heap p.2 p.1 := isT_keep (rows p (List.mem_of_getElem? hp)) k3
    refine wpAny_bind (wpAny_holding (show wpAny _ A.in1 (setAdd S (.ref p.1)) _ _ _ from ?_))
    unfold setAdd
    refine wpAny_holding (wpAny_bind (wpAny_pyHash_tuple room row (show wpAny _ _ (setAddHashed S (.ref p.1) (thash P w p.2)) _ _ _ from ?_)))
    refine put_row (s := { s3 with toks := s3.toks + (p.2.length + 1) }) R3 row room (fun no => ?_) fun b h1 L1 es1 ep1 t1 but R1 same more => ?_
    · exact few (p :: L) (by rw [List.map_cons]; exact List.nodup_cons.mpr ⟨no, hR.nd⟩) fun q z => (List.mem_cons.mp z).elim (fun e => e ▸ List.mem_of_getElem? hp) (inside q)
    · have got1 : Got ks (i + 1) L1 := (Classical.em (p.2 ∈ L.map (·.2))).elim (fun y => by rw [same y]; exact got.same hp y) fun y => got.more hp (more y)
      have k4 : ∀ b o, g.get? b = some o → h1.get? b = some o := fun b o e => (but.2 b (fun z => absurd (gS.symm.trans (z ▸ e)) (by simp))).trans (k3 b o e)
      refine wpAny_pure ⟨plainId_quiet F.plain_set_update_loop _, ih (i + 1) _ (by omega) lt (W.frame _ s3 _ _ st3 (Nat.le_add_right _ _) fun b z o e => ?_) k4 ⟨L1, es1, ep1, t1, R1, got1⟩ fun s5 mv5 => way s5 ?_⟩
      · exact (but.2 b fun z2 => apart (z2 ▸ z)).trans e
      · exact Moved.trans W.gtrans ((mv.mono wide).then_heap (Nat.le_add_right _ _) fun b o z e => (but.2 b fun z2 => z (z2 ▸ List.mem_cons_self)).trans e) mv5
theorem set_of_rows {l : Addr} {its : Array Value} (ks : List (Addr × List Int)) {Q : Value → Shared → Prop} (calm : A.handled = none) (hl : s.heap.IsList l its) (hit : its.toList = ks.map fun p => Value.ref p.1) (rows : ∀ p ∈ ks, IsT P w s.heap p.2 p.1) (few : Few ks) (room : A.units + 3 < cLine)
    (h : ∀ (h' : Heap) (tk : Nat) L es ep t, SetTR P w h' s.heap.objs.size L es ep t → Got ks ks.length L → (∀ b o, s.heap.get? b = some o → h'.get? b = some o) →
      Q (.ref s.heap.objs.size) { s with heap := h', toks := tk }) :
    wpAny (model P w) A (call (.type "set") [.ref l]) Q E s := by
  have lens : its.size = ks.length := (Array.length_toList (xs := its)).symm.trans (by rw [hit, List.length_map])
  have k0 := F.called_set.mro
  obtain ⟨mc, mtl, k0⟩ := k0
  have k1 := F.called_set.made
  have k2 := F.called_set.sub
  have k3 := F.called_set.notType
  have k4 := F.called_set.canCreate
  have k5 := F.typeCall_set_1 (.ref l)
  refine wpAny_call (codeAny_of_tree (show wpAny _ _ (callAny (.type "set") _) _ _ _ from ?_))
  refine wpAny_pure (And.intro (Code.quiet_builtin _ (by decide +kernel)) (codeAny_builtin F.entry_type_call ?_))
  rw [Around.under_plain (weight_type_call_type "set" [Value.ref l] []) rfl]
  repeat any_goals (first | assumption | wp_step)
  refine codeAny_mono (code_set_led1 (.ref l) (E := E)
    (Q₁ := fun obj s₁ => obj = .ref s.heap.objs.size ∧ s₁ = { s with heap := s.heap.push (newSetO w) }) (And.intro rfl rfl)) fun r s₁ hr => ?_
  cases r with
  | error e => exact hr
  | ok fl =>
    cases fl with
    | ret obj =>
      obtain ⟨eo, es⟩ := hr
      subst eo es
      have atS : (s.heap.push (newSetO w)).get? s.heap.objs.size = some (newSetO w) := Heap.get?_push_size _ rfl
      have isT : Shared.TypeIs { s with heap := s.heap.push (newSetO w) } (.ref s.heap.objs.size) "set" := ⟨_, atS, rfl⟩
      have j1 := F.called_set.init.lookup
      have j2 := F.called_set.init.bind (Value.ref s.heap.objs.size)
      repeat any_goals (first | assumption | wp_step)
      refine codeAny_mono (codeAny_call_builtin
        (R := wants (fun r s₂ => r = .none ∧ ∃ h' tk L es ep t, s₂ = { s with heap := h', toks := tk } ∧ SetTR P w h' s.heap.objs.size L es ep t ∧ Got ks ks.length L ∧ ∀ b o, s.heap.get? b = some o → h'.get? b = some o) E)
        F.called_set.init.plain F.entry_set_init (check_set_init_1 isT ?_)) fun r₂ s₂ hr₂ => ?_
      · obtain ⟨ol, atL, e1, nl, e2⟩ := hl
        obtain ⟨lc, ld, ldt, lsl⟩ := ol
        dsimp only at e1 e2
        subst e1 e2
        have atL1 : (s.heap.push (newSetO w)).get? l = some { cls := .type "list", dict := ld, data := .seq its nl, slots := lsl } := Heap.get?_push_of_some _ atL
        have n1 := F.sub_list_set
        have n2 := F.sub_list_frozenset
        have n3 : (Value.type "list" == Value.type "dict") = false := by decide
        have isL1 : (s.heap.push (newSetO w)).IsList l its := ⟨_, atL1, rfl, nl, rfl⟩
        unfold Builtin.«set.__init__» noKeywords Builtin.Frozenset.updateFrom
        generalize ePI : pyIter = PI
        wp_walk
        subst ePI
        refine wpAny_pyIter_list isL1 (wpAny_bind (wpAny_runValue ?_))
        have ltL : l < s.heap.objs.size := Heap.lt_size atL
        have sz : (s.heap.push (newSetO w)).objs.size = s.heap.objs.size + 1 := Heap.size_push ..
        have calm3 : A.in1.in1.in1.handled = none := calm
        have apart : s.heap.objs.size ∉ [(s.heap.push (newSetO w)).objs.size, l] := fun z => by
          rw [sz] at z
          rcases List.mem_cons.mp z with z | z
          · exact absurd z (Nat.ne_of_lt (Nat.lt_succ_self _))
          · exact absurd (List.mem_singleton.mp z) (Nat.ne_of_gt ltL)
        have notI : l ≠ (s.heap.push (newSetO w)).objs.size := by
          rw [sz]
          exact Nat.ne_of_lt (Nat.lt_succ_of_lt ltL)
        have free : ∀ b, s.heap.objs.size ≤ b → s.heap.get? b = none := fun b hb => by
          cases q : s.heap.get? b with
          | none => rfl
          | some o => exact absurd (Nat.lt_of_lt_of_le (Heap.lt_size q) hb) (Nat.lt_irrefl _)
        refine update_rows (g := s.heap) ((Walks.list calm3 _ l notI its).toS) apart lens few (fun i v hv => ?val) rows (free _ (Nat.le_refl _)) (fun b hb => ?out) room ?stop (its.size - 0) 0 _ (by omega) (Nat.zero_le _)
          ⟨⟨_, Heap.get?_push_size _ rfl, rfl, rfl⟩, isL1.push _⟩ (fun b o e => Heap.get?_push_of_some _ (Heap.get?_push_of_some _ e)) ⟨[], #[], 0, _, setTR_fresh (Heap.get?_push_of_some _ atS), Got.zero ks⟩ (fun _ z => z)
        case val =>
          have q : its.toList[i]? = some v := (Array.getElem?_toList (xs := its)).trans hv
          rw [hit, List.getElem?_map] at q
          obtain ⟨p, e1, e2⟩ := Option.map_eq_some_iff.mp q
          exact ⟨p, e1, e2.symm⟩
        case out =>
          rw [List.mem_singleton.mp hb, sz]
          exact free _ (Nat.le_succ _)
        case stop =>
          intro s' L es ep t hm hS' got k
          obtain ⟨h2, g2, d2, t2, o2⟩ := s'
          obtain rfl : g2 = s.gens := hm.gens
          obtain rfl : d2 = s.drawn := hm.drawn
          obtain rfl : o2 = s.os := hm.os
          refine wpAny_pure (show wpAny _ _ (ret Value.none) _ _ _ from wpAny_pure ⟨rfl, h2, t2, L, es, ep, t, rfl, hS', lens ▸ got, k⟩)
      · cases r₂ with
        | error e => exact hr₂
        | ok f2 =>
          cases f2 with
          | ret u =>
            obtain ⟨rfl, h', tk, L, es, ep, t, rfl, a1, a2, a3⟩ := hr₂
            repeat any_goals (first | assumption | wp_step)
            exact h h' tk L es ep t a1 a2 a3
          | next => exact hr₂.elim
          | brk => exact hr₂.elim
          | cont => exact hr₂.elim
    | next => exact hr.elim
    | brk => exact hr.elim
    | cont => exact hr.elim
end
/-! ### rows of whole numbers as such tuples -/
def toI (p : Addr × List Nat) : Addr × List Int := (p.1, p.2.map fun n : Nat => (n : Int))
theorem toI_row (r : List Nat) : (r.map fun n : Nat => (n : Int)).map V.int = r.map iV := by rw [List.map_map]; rfl
theorem ofNat_inj {a b : List Nat} (h : (a.map fun n : Nat => (n : Int)) = b.map fun n : Nat => (n : Int)) : a = b := by
  have e : ∀ r : List Nat, (r.map fun n : Nat => (n : Int)).map Int.toNat = r := fun r => by
    rw [List.map_map]
    exact (List.map_congr_left fun x _ => Int.toNat_natCast x).trans (List.map_id' r)
  rw [← e a, h, e b]
theorem back_of {qs : List (Addr × List Nat)} : ∀ L : List (Addr × List Int), (∀ p ∈ L, p ∈ qs.map toI) → ∃ ps : List (Addr × List Nat), L = ps.map toI ∧ ∀ p ∈ ps, p ∈ qs
  | [], _ => ⟨[], rfl, fun _ h => nomatch h⟩
  | x :: L, h => by
    obtain ⟨ps, e, hs⟩ := back_of L fun p hp => h p (List.mem_cons_of_mem _ hp)
    obtain ⟨q, hq, rfl⟩ := List.mem_map.mp (h x List.mem_cons_self)
    refine ⟨q :: ps, by rw [e]; rfl, fun p hp => ?_⟩
    rcases List.mem_cons.mp hp with rfl | hp
    · exact hq
    · exact hs p hp
/-- fewer than 64 rows differ -/
def FewN (qs : List (Addr × List Nat)) : Prop := ∀ rs : List (List Nat), rs.Nodup → (∀ r ∈ rs, r ∈ qs.map (·.2)) → rs.length < 64
theorem FewN.few {qs : List (Addr × List Nat)} (h : FewN qs) : Few (qs.map toI) := fun L nd hs => by
  obtain ⟨ps, rfl, hp⟩ := back_of L hs
  have e : (ps.map toI).map (·.2) = (ps.map (·.2)).map fun r : List Nat => r.map fun n : Nat => (n : Int) := by rw [List.map_map, List.map_map]; rfl
  rw [e] at nd
  have := h (ps.map (·.2)) (nodup_of_map nd) fun r hr => by
    obtain ⟨p, z, rfl⟩ := List.mem_map.mp hr
    exact List.mem_map_of_mem (hp p z)
  rw [List.length_map] at this ⊢
  exact this
def rSetR (K : PySem.W.Frag) (P : Program) (w : World) : List V → Hp → VK → Prop := fun xs H Q => ∃ (l : Addr) (qs : List (Addr × List Nat)), xs = [.ref l] ∧ SqL K H l (refsV qs) ∧ (∀ p ∈ qs, SqT K H p.1 (p.2.map iV)) ∧ FewN qs ∧
  ∀ (a : Addr) (ps : List (Addr × List Nat)), H a = none → (∀ p ∈ ps, p ∈ qs) → (∀ q ∈ qs, q.2 ∈ ps.map (·.2)) → (ps.map (·.2)).Nodup → Q (.ref a) (upd H a (SetTO P w a (ps.map toI)))
theorem cr_setR {X : Cx} {K : PySem.W.Frag} {P : Program} {w : World} (hK : X.K = K) (hP : X.prog = P) (hw : X.w = w) (hc : X.calm = true) (room : X.A.units + 64 < cLine) : CallR X (.type "set") (rSetR K P w) := by
  subst hK hP hw
  rintro pins s σ H xs us Q I rs ⟨l, qs, rfl, hl, hrow, few, key⟩
  rw [Vals.ref1 rs]
  obtain ⟨its, rv, pl, hz⟩ := I.list hl
  obtain rfl := refs_eq qs its rv
  refine set_of_rows (P := X.prog) (w := X.w) (qs.map toI) (I.ok.hd hc) pl.isList (by rw [List.map_map]; simp [refsU, toI]) (fun p hp => ?_) few.few (by omega) fun h' tk L es ep t R got k => ?_
  · obtain ⟨q, hq, rfl⟩ := List.mem_map.mp hp
    exact I.isT (by rw [show (toI q).2.map V.int = q.2.map iV from toI_row q.2]; exact hrow q hq)
  · obtain ⟨ps, rfl, hs⟩ := back_of (qs := qs) L fun p hp => List.mem_of_mem_take (got.sub p hp)
    refine ⟨.ref s.heap.objs.size, _, I.laid (t' := tk) k (Nat.le_refl _) (setTO_new R.t0), rfl, key _ ps (I.hok.fresh (Nat.le_refl _)) hs (fun q hq => ?_) ?_⟩
    · have := got.all (toI q) (by rw [List.take_length]; exact List.mem_map_of_mem hq)
      rw [List.map_map] at this
      obtain ⟨p, hp, e⟩ := List.mem_map.mp this
      exact List.mem_map.mpr ⟨p, hp, ofNat_inj e⟩
    · have nd := R.nd
      rw [List.map_map] at nd
      refine nodup_of_map (f := fun r : List Nat => r.map fun n : Nat => (n : Int)) ?_
      rw [List.map_map]
      exact nd
/-! ### sorted(s), s such a set: rows of any lengths -/
def rSortSR (K : PySem.W.Frag) (P : Program) (w : World) : List V → Hp → VK → Prop := fun vs H Q => ∃ (a : Addr) (ps : List (Addr × List Nat)), vs = [.ref a] ∧ H a = some (SetTO P w a (ps.map toI)) ∧ (∀ p ∈ ps, SqT K H p.1 (p.2.map iV) ∧ p.2 ≠ []) ∧
  ∀ (zs : List (Addr × List Nat)) (p : Addr), zs.Perm ps → sortedR zs → H p = none → Q (.ref p) (upd H p (.lst (refsV zs)))
theorem cr_sortSR {X : Cx} {K : PySem.W.Frag} {P : Program} {w : World} (hK : X.K = K) (hP : X.prog = P) (hw : X.w = w) (hc : X.calm = true) : CallR X (.builtin "sorted") (rSortSR K P w) := by
  subst hK hP hw
  rintro pins s σ H vs us Q I rs ⟨a, ps, rfl, hS, hall, key⟩
  have R0 : SetT0 X.prog X.w s.heap a (ps.map toI) := (I.hok a _ hS).1
  obtain ⟨es, ep, t, R⟩ := R0.full fun p hp => by
    obtain ⟨q, hq, rfl⟩ := List.mem_map.mp hp
    exact I.isT (by rw [show (toI q).2.map V.int = q.2.map iV from toI_row q.2]; exact (hall q hq).1)
  obtain ⟨o, at_, ex, dat⟩ := R.ob
  have size := R.size
  have few := R.few
  rw [List.length_map] at size few
  rw [Vals.ref1 rs]
  refine Calls.call_function_entry kind_sorted plain_sorted entry_sorted (args_sorted1 _) (show wpAny _ _ _ _ _ _ from ?_)
  unfold Builtin.«sorted»
  refine wpAny_bind (show wpAny _ _ (checkCount "sorted" 1 1 _) _ _ _ from wpAny_pure (show wpAny _ _ _ _ _ _ from ?_))
  refine wpAny_bind (collect_set (A := X.A.in1) (I.ok.hd hc) ⟨o, at_, ex.1, dat⟩ R.fits (by rw [size]; unfold scanBound; omega) R.tab.ris R.led fun s1 us1 k1 z1 g1 o1 pm => ?_)
  have ees : es.toList.map (·.2) = refsU ps := by
    rw [R.rows]
    simp [rowsOf, refsU, toI]
  rw [ees] at pm
  obtain ⟨qs, pq, eq⟩ := perm_lift (fun p : Addr × List Nat => Value.ref p.1) pm ps rfl
  obtain rfl : us1 = refsU qs := eq.symm
  have lq : (refsU qs).length = ps.length := by rw [show (refsU qs).length = qs.length from List.length_map _, pq.length_eq]
  have zl : (sizeLine : Nat) = 16777216 := by decide
  refine wpAny_bind (wpAny_newList (show wpAny _ _ _ _ _ _ from ?_) (by omega))
  have hl : (s1.heap.push (seqObj "list" (refsU qs).toArray 0)).get? s1.heap.objs.size = some (seqObj "list" (refsU qs).toArray 0) := Heap.get?_push_size _ rfl
  have hrow : ∀ p ∈ qs, RowAt (s1.heap.push (seqObj "list" (refsU qs).toArray 0)) p.1 p.2 := fun p hp => by
    have hp := pq.mem_iff.mp hp
    obtain ⟨js, jv, jt, _⟩ := I.tuple (hall p hp).1
    exact RowAt.keep (h := s.heap) ⟨(hall p hp).2, js, jv, jt⟩ fun b u e => Heap.get?_push_of_some _ (k1 b u e)
  obtain ⟨fs, hfs⟩ := tups_of qs hrow
  refine wpAny_bind (wpAny_holding (wpAny_call_entry slot_list_sort ⟨_, hl, rfl⟩ entry_list_sort (PyProof.Rows.G.list_sort_tups (s := { s1 with heap := s1.heap.push (seqObj "list" (refsU qs).toArray 0) }) hl hfs (keys_of hrow) (by omega) fun st p1 p2 _ => ⟨_, rfl, ?_⟩) (args_list_sort _)))
  obtain ⟨zs, g4, g5, g6⟩ := out_rows hrow p1 p2
  obtain ⟨c, hat⟩ := sortedHeap_at (vs := refsU qs) (out := (arrOf st).map (·.2)) hl
  obtain ⟨h1, n1, d1, tk1, os1⟩ := s1
  obtain rfl : n1 = s.gens := g1
  obtain rfl : os1 = s.os := o1
  have keep : ∀ b u, s.heap.get? b = some u → (sortedHeap (h1.push (seqObj "list" (refsU qs).toArray 0)) h1.objs.size (refsU qs) ((arrOf st).map (·.2))).get? b = some u := fun b u e => by
    have e1 := k1 b u e
    have lt := Heap.lt_size e1
    rw [sortedHeap_old (Nat.ne_of_lt lt) (by rw [size_push']; exact Nat.lt_succ_of_lt lt)]
    exact Heap.get?_push_of_some _ e1
  have free : H h1.objs.size = none := I.hok.fresh z1
  have lz : (refsV zs).length ≤ sizeLine := by
    rw [show (refsV zs).length = zs.length from List.length_map _, g4.length_eq, pq.length_eq]
    omega
  have vz : Vals (refsV zs) ((arrOf st).map (·.2)).toList := by
    rw [g5]
    exact refs_vals zs
  have new : ObjOk X.prog X.w (upd H h1.objs.size (.lst (refsV zs))) (sortedHeap (h1.push (seqObj "list" (refsU qs).toArray 0)) h1.objs.size (refsU qs) ((arrOf st).map (·.2))) h1.objs.size (.lst (refsV zs)) := ⟨lz, _, c, vz, hat⟩
  have J := I.call (ch := []) (d' := d1) (t' := tk1) (Un.laid keep z1 free) (I.hok.laid keep z1 new) I.bare (fun _ z => nomatch z)
  exact wpAny_pure ⟨_, rfl, .ref h1.objs.size, _, J, rfl, key zs _ (g4.trans pq) g6 free⟩
end G
set_option Elab.async false
set_option linter.all false
set_option maxRecDepth 100000
set_option maxHeartbeats 4000000
namespace G
open PySem PySem.Spec PyProof.Rows L2
theorem cr_allK {X : Cx} {K : PySem.W.Frag} (h : X.K = K) (hc : X.calm = true) : CallR X (.builtin "all") (rAll K) := h ▸ cr_all hc
/-! ### {e for x in ..}, e a row of whole numbers; fewer than 64 of them differ -/
/-- a turn's end: the row y goes into the set at D -/
def putRw (K : PySem.W.Frag) (P : Program) (w : World) (D : Addr) (R : Hp → Prop) : VK := fun y H => ∃ (b : Addr) (r : List Nat) (ps : List (Addr × List Nat)),
  y = .ref b ∧ SqT K H b (r.map iV) ∧ H D = some (SetTO P w D (ps.map toI)) ∧ (∀ p ∈ ps, SqT K H p.1 (p.2.map iV)) ∧ (r ∉ ps.map (·.2) → ps.length + 1 < 64) ∧
  ∀ ps' : List (Addr × List Nat), ((r ∈ ps.map (·.2) ∧ ps' = ps) ∨ (r ∉ ps.map (·.2) ∧ ps'.Perm ((b, r) :: ps))) → R (upd H D (SetTO P w D (ps'.map toI)))
def turnR (K : PySem.W.Frag) (P : Program) (w : World) (D : Addr) (vs : List Nat) (σ : L2.St) (g : TG) (tt : TT) (te : TE) (x : V) (H : Hp) (R : Hp → Prop) : Prop :=
  g x (wipe σ vs) H fun σ2 H2 => wipe σ2 vs = wipe σ vs ∧ tt σ2 H2 fun b H3 => if b = true then te σ2 H3 (putRw K P w D R) else R H3
def tScR (K : PySem.W.Frag) (P : Program) (w : World) (wi : TI) (g : TG) (tt : TT) (te : TE) (vs : List Nat) : TE := fun σ H Q => wi σ H fun J H1 => ∀ D, H1 D = none →
  ∃ W : Nat → Nat → Hp → Prop, (∃ m, W 0 m (upd H1 D (SetTO P w D []))) ∧ ∀ i m H, W i m H →
    (J.stop i H ∧ Q (.ref D) H) ∨ (J.go i H ∧ ∃ R : Hp → Prop, (∀ H', R H' → ∃ m', m' < m ∧ W (i + 1) m' H') ∧ ∀ x H', J.yld i H x H' → turnR K P w D vs σ g tt te x H' R)
section
variable {X : Cx}
theorem add_row {pins : List (Addr × Obj)} {σ : L2.St} {H : Hp} {s : Shared} {E : Value → Shared → Prop} {D : Addr} {v : Value} {y : V} {R : Hp → Prop} (un : X.A.units + 64 < cLine)
    (I : Inv X pins σ H s) (r : RelV y v) (h : putRw X.K X.prog X.w D R y H) :
    wpAny (model X.prog X.w) X.A (call (.builtin "set.add") [.ref D, v]) (fun _ s' => ∃ H', Inv X pins σ H' s' ∧ R H') E s := by
  obtain ⟨b, r0, ps, rfl, hb, hD, hall, few, q⟩ := h
  cases r
  have R0 : SetT0 X.prog X.w s.heap D (ps.map toI) := (I.hok D _ hD).1
  obtain ⟨es, ep, t, R⟩ := R0.full fun p hp => by
    obtain ⟨q, hq, rfl⟩ := List.mem_map.mp hp
    exact I.isT (by rw [show (toI q).2.map V.int = q.2.map iV from toI_row q.2]; exact hall q hq)
  have row : IsT X.prog X.w s.heap (toI (b, r0)).2 b := I.isT (by rw [show (toI (b, r0)).2.map V.int = r0.map iV from toI_row r0]; exact hb)
  obtain ⟨o, at_, ex, dat⟩ := R.ob
  have hT : Shared.TypeIs s (.ref D) "set" := ⟨o, at_, ex.1⟩
  have e0 : (ps.map toI).map (·.2) = (ps.map (·.2)).map fun r : List Nat => r.map fun n : Nat => (n : Int) := by rw [List.map_map, List.map_map]; rfl
  have hin : (toI (b, r0)).2 ∈ (ps.map toI).map (·.2) ↔ r0 ∈ ps.map (·.2) := by
    rw [e0]
    exact ⟨fun z => by
      obtain ⟨x, hx, e⟩ := List.mem_map.mp z
      have e2 : x = r0 := ofNat_inj e
      rw [← e2]
      exact hx, fun z => List.mem_map_of_mem z⟩
  refine wpAny_call_entry F.slot_set_add hT F.entry_set_add ?_ (F.args_set_add_2 _ _)
  unfold Builtin.«set.add» Builtin.Frozenset.oneOther
  simp only [List.isEmpty_nil, bind_assoc]
  unfold Builtin.Frozenset.addrOf setAdd
  refine wpAny_bind (wpAny_pure ?_)
  try dsimp only
  refine wpAny_bind (wpAny_pure ?_)
  try dsimp only
  refine wpAny_bind ?_
  refine wpAny_holding ?_
  have room : X.A.in1.units < cLine := by
    show X.A.units + 1 < cLine
    omega
  refine wpAny_bind (wpAny_pyHash_tuple room row (show wpAny _ _ (setAddHashed D (.ref b) (thash X.prog X.w (toI (b, r0)).2)) _ _ _ from ?_))
  refine put_row (s := { s with toks := s.toks + ((toI (b, r0)).2.length + 1) }) R row room (fun no => ?_) fun bb h1 L1 es1 ep1 t1 but R1 same more => ?_
  · rw [List.length_map]
    exact few fun z => no (hin.mpr z)
  · obtain ⟨ps1, rfl, hs⟩ : ∃ ps1 : List (Addr × List Nat), L1 = ps1.map toI ∧ ((r0 ∈ ps.map (·.2) ∧ ps1 = ps) ∨ (r0 ∉ ps.map (·.2) ∧ ps1.Perm ((b, r0) :: ps))) := by
      rcases Classical.em (r0 ∈ ps.map (·.2)) with z | z
      · exact ⟨ps, same (hin.mpr z), .inl ⟨z, rfl⟩⟩
      · have pm := more fun y => z (hin.mp y)
        obtain ⟨qs, pq, eq⟩ := perm_lift toI pm ((b, r0) :: ps) rfl
        exact ⟨qs, eq.symm, .inr ⟨z, pq⟩⟩
    show wpAny _ _ (ret Value.none) _ _ _
    refine wpAny_pure ⟨_, rfl, upd H D (SetTO X.prog X.w D (ps1.map toI)), I.write (e := D) (t' := s.toks + ((toI (b, r0)).2.length + 1)) ?_ (.inl rfl) (fun c u hc hu => (but.2 c hc).trans hu) ?_ (setTO_new R1.t0), q ps1 hs⟩
    · rw [hD]
      trivial
    · obtain ⟨o, ho, _⟩ := R1.ob
      exact ⟨o, ho⟩
theorem scR_core {pins : List (Addr × Obj)} {s : Shared} {σ : L2.St} {H : Hp} {Q : VK} {elt tg iter : Expr} {ifs : List Expr} {scope : Scope} {own : List (PySem.Str × Nat)} {pos pos' : Pos} {wi : TI} {g : TG} {tt : TT} {te : TE} {use : Option (Value → Sem Unit)} {Qf : Value → Shared → Prop}
    (un : X.A.units + 64 < cLine) (calm : X.calm = true) (nd : X.N.Nodup) (I : Inv X pins σ H s) (hi : PI X tg iter wi) (ok : BlkOk X.N X.env.scope scope own)
    (hg : ∀ (s : Shared) (H : Hp) (C : Addr) (cl : List (PySem.Str × Addr)) (fp : List Addr), PG (X.blk s H scope (compEnvC scope cl C X.env) fp) tg g)
    (ht : ∀ (s : Shared) (H : Hp) (C : Addr) (cl : List (PySem.Str × Addr)) (fp : List Addr), PTs (X.blk s H scope (compEnvC scope cl C X.env) fp) ifs tt)
    (he : ∀ (s : Shared) (H : Hp) (C : Addr) (cl : List (PySem.Str × Addr)) (fp : List Addr), PE (X.blk s H scope (compEnvC scope cl C X.env) fp) elt te)
    (plain : ∀ x, foldedSetIterable iter X.env x = pure x) (h : tScR X.K X.prog X.w wi g tt te (own.map (·.2)) σ H Q)
    (back : ∀ D C s' m H', Inv X pins σ H' s' → Q (.ref D) H' → s'.heap.Ns C m → FpOk X pins H' C → compPost (model X.prog X.w) X.A X.xe use Qf (.ref D) C (.ok .next) s') :
    wpAny (model X.prog X.w) X.A (comprehension (.SetComp elt [⟨tg, iter, ifs, 0⟩] scope pos) scope X.env pos' (newSet (.type "set")) false (eval iter X.env) use) Qf X.xe s := by
  have has : ∀ y ∈ scope.names, y.2 = .free → ∃ c, X.env.cells.lookup y.1 = some c := fun y hy e =>
    (ok.free y hy e).elim (fun k => I.ok.has _ (.inl k)) fun k => I.ok.has _ (.inr k)
  refine wpAny_comprehension_free (use := use) rfl plain (closure_ok has) ok.kind (fun y hy e => by rw [ok.uniq y hy, e]) ?_
  refine thn (hi.run pins s σ H _ I h) fun _ _ hx => thn hx fun _ sa ha => ?_
  obtain ⟨it, fp, at_, J, Ha, rfl, Ia, T, sta, fa, q⟩ := ha
  refine PpSet.newSet_ok (newEnv_comp ?_)
  obtain ⟨D, eD⟩ : ∃ D, sa.heap.objs.size = D := ⟨_, rfl⟩
  rw [eD]
  have freshD : Ha D = none := Ia.hok.fresh (Nat.le_of_eq eD)
  obtain ⟨W, ⟨m0, w0⟩, turn⟩ := q D freshD
  obtain ⟨sb, esb⟩ : ∃ sb : Shared, ({ sa with heap := sa.heap.push { cls := .type "set", dict := none, data := .set #[] 0 (.fresh 0 0 (!X.w.params.followText "set-order")) } } : Shared) = sb := ⟨_, rfl⟩
  have hb : sb.heap = sa.heap.push { cls := .type "set", dict := none, data := .set #[] 0 (.fresh 0 0 (!X.w.params.followText "set-order")) } := by rw [← esb]
  have Ib : Inv X pins σ (upd Ha D (SetTO X.prog X.w D [])) sb := by
    subst esb eD
    exact Ia.laid (t' := sa.toks) (fun _ _ e => Heap.get?_push_of_some _ e) (Nat.le_refl _) (setTO_new (setTR_fresh (Heap.get?_push_size _ rfl)).t0)
  obtain ⟨Hb, eHb⟩ : ∃ Hb, upd Ha D (SetTO X.prog X.w D []) = Hb := ⟨_, rfl⟩
  have fb : ∀ b ∈ fp, FpOk X pins Hb b ∧ b < sb.heap.objs.size := fun b hm => by
    obtain ⟨o, e, _⟩ := T.obj _ _ sta b hm
    have lt := Heap.lt_size e
    refine ⟨⟨?_, (fa b hm).2⟩, ?_⟩
    · rw [← eHb, upd_ne (by rw [← eD]; exact Nat.ne_of_lt lt)]
      exact (fa b hm).1
    · rw [hb, Heap.size_push]
      exact Nat.lt_succ_of_lt lt
  have stb : at_ 0 sb.heap := T.keep _ _ _ sta fun b _ o e => by
    rw [hb]
    exact Heap.get?_push_of_some _ e
  rw [eHb] at Ib w0
  have Ic := block_start Ib ok nd fb
  obtain ⟨C, eC⟩ : ∃ C, sb.heap.objs.size = C := ⟨_, rfl⟩
  have pg := hg sb Hb C (cellsFrom (C + 1) scope.names (cloFrom X.env.cells scope.names [])) fp
  have pt := ht sb Hb C (cellsFrom (C + 1) scope.names (cloFrom X.env.cells scope.names [])) fp
  have pe := he sb Hb C (cellsFrom (C + 1) scope.names (cloFrom X.env.cells scope.names [])) fp
  rw [eC] at Ic
  rw [esb, eC]
  show codeAny _ _ (.compStart (.SetComp elt [⟨tg, iter, ifs, 0⟩] scope pos) 0 (.ref it) (.ref D) (compEnvC scope (cellsFrom (C + 1) scope.names (cloFrom X.env.cells scope.names [])) C X.env))
    (compPost (model X.prog X.w) X.A X.xe use Qf (.ref D) C) { sb with heap := pushCells (sb.heap.push { cls := .type "dict", data := .dict #[] }) scope.names }
  obtain ⟨ce, ece⟩ : ∃ ce, compEnvC scope (cellsFrom (C + 1) scope.names (cloFrom X.env.cells scope.names [])) C X.env = ce := ⟨_, rfl⟩
  rw [ece] at Ic pg pt pe ⊢
  have eL : ce.locals = C := by rw [← ece]; rfl
  obtain ⟨sc, esc⟩ : ∃ sc : Shared, ({ sb with heap := pushCells (sb.heap.push { cls := .type "dict", data := .dict #[] }) scope.names } : Shared) = sc := ⟨_, rfl⟩
  rw [esc] at Ic ⊢
  have stc : at_ 0 sc.heap := T.keep _ _ _ stb fun b _ o e => by
    rw [← esc]
    exact pushCells_keeps _ _ _ _ (Heap.get?_push_of_some _ e)
  have stat : ∀ {τ : L2.St} {G : Hp} {r : Shared}, Inv (X.blk sb Hb scope ce fp) [] τ G r → (∀ b ∈ fp, G b = none) → ∀ b ∈ fp, FpOk (X.blk sb Hb scope ce fp) [] G b :=
    fun {τ G r} J hn b hm => ⟨hn b hm, (J.ok.exf b hm).1, J.ok.exfs b hm, .inl hm, fun x c e => (J.ok.exf b hm).2 x c e, fun p hp => nomatch (show p ∈ ([] : List (Addr × Obj)) ++ [] from hp)⟩
  have loop : codeAny (model X.prog X.w) X.A (.compLoop (.SetComp elt [⟨tg, iter, ifs, 0⟩] scope pos) 0 (.ref it) (.ref D) ce) (compPost (model X.prog X.w) X.A X.xe use Qf (.ref D) C) sc := by
    refine PpSet.compLoopS_any (fun n r => ∃ i G, Inv (X.blk sb Hb scope ce fp) [] (wipe σ (own.map (·.2))) G r ∧ at_ i r.heap ∧ (∀ b ∈ fp, G b = none) ∧ W i n G) ?_ m0
      ⟨0, Hb, Ic, stc, fun b hm => (fb b hm).1.1, w0⟩
    rintro n s5 ⟨i, H5, I5, st5, n5, w5⟩
    rcases turn i n H5 w5 with ⟨stop, fin⟩ | ⟨go, R, hR, step⟩
    · refine thnF (T.done (X.blk sb Hb scope ce fp) rfl rfl rfl calm i [] s5 _ H5 (fun _ _ => False) I5 (stat I5 n5) st5 stop) fun r s6 hr6 => ?_
      obtain ⟨rfl, I6⟩ := hr6
      have I7 : Inv X pins σ H5 s6 := Ib.call' (ch := fp) I6.os I6.base I6.hok I6.bare fun b hm =>
        ⟨(fb b hm).1.2.2.2.1, (fb b hm).1.2.1, (fb b hm).1.2.2.2.2.1, (fb b hm).1.2.2.2.2.2⟩
      have nC : H5 C = none := by
        rw [← eL]
        exact I6.free
      obtain ⟨m, hn, _⟩ := I6.loc
      have hn : s6.heap.Ns ce.locals m := hn
      rw [eL] at hn
      exact back D C s6 m H5 I7 fin hn (Ib.fpOk (Nat.le_of_eq eC) nC)
    · refine thnF (T.item (X.blk sb Hb scope ce fp) rfl rfl rfl calm i [] s5 _ H5 (fun _ _ => False) I5 (stat I5 n5) st5 go) fun r s6 hr6 => ?_
      obtain ⟨u, rfl, h6⟩ := hr6
      refine thnF h6 fun _ s7 h7 => ?_
      obtain ⟨x, H7, I7, r7, y7, st7, n7⟩ := h7
      have P7 := I7.pinned (stat I7 n7) (T.obj _ _ st7)
      refine thnF (pg.run _ s7 _ H7 x u _ P7 r7 (step x H7 y7)) fun _ s8 h8 => ?_
      obtain ⟨σ8, H8, I8, same8, q8⟩ := h8
      have turnEnd : ∀ {r : Shared} {G : Hp}, Inv (X.blk sb Hb scope ce fp) ([] ++ pinsAt fp s7.heap) σ8 G r → R G →
          ∃ m, m < n ∧ ∃ i G, Inv (X.blk sb Hb scope ce fp) [] (wipe σ (own.map (·.2))) G r ∧ at_ i r.heap ∧ (∀ b ∈ fp, G b = none) ∧ W i m G := fun {r G} J rG => by
        obtain ⟨m', lt, w'⟩ := hR G rG
        have pin : ∀ b ∈ fp, ∀ o, s7.heap.get? b = some o → r.heap.get? b = some o ∧ G b = none := fun b hm o e => by
          have z := J.pin (b, o) (List.mem_append_right _ (List.mem_append_right _ (mem_pinsAt hm e)))
          exact ⟨z.1, z.2.1⟩
        have len : (wipe σ (own.map (·.2))).length = σ8.length := by
          rw [← same8]
          exact wipe_length _ _
        refine ⟨m', lt, i + 1, G, (J.unpinned (pins := [])).weak len (fun j v e => ?_), T.keep _ _ _ st7 fun b hm o e => (pin b hm o e).1, fun b hm => ?_, w'⟩
        · rw [← same8] at e
          exact (wipe_some e).1
        · obtain ⟨o, e, _⟩ := T.obj _ _ st7 b hm
          exact (pin b hm o e).2
      refine thnF (pt.run _ s8 σ8 H8 _ I8 q8) fun b s9 h9 => ?_
      obtain ⟨H9, I9, q9⟩ := h9
      cases b with
      | false =>
        rw [if_neg Bool.false_ne_true] at q9
        simp only [Bool.false_eq_true, if_false]
        exact turnEnd I9 q9
      | true =>
        rw [if_pos rfl] at q9
        simp only [if_true]
        refine thnF (pe.run _ s9 σ8 H9 _ I9 q9) fun z s10 h10 => ?_
        obtain ⟨yv, H10, I10, r10, q10⟩ := h10
        refine thnF (add_row (X := X.blk sb Hb scope ce fp) (E := fun _ _ => False) un I10 r10 q10) fun _ s11 h11 => ?_
        obtain ⟨H11, I11, q11⟩ := h11
        exact turnEnd I11 q11
  exact PpSet.codeAny_compStart_set loop (T.self X.A 0 _ _ _ stc loop)
/-- as a value -/
theorem pe_scR {elt tg iter : Expr} {ifs : List Expr} {scope : Scope} {own : List (PySem.Str × Nat)} {pos : Pos} {wi : TI} {g : TG} {tt : TT} {te : TE} (un : X.A.units + 64 < cLine) (calm : X.calm = true) (nd : X.N.Nodup) (hi : PI X tg iter wi) (ok : BlkOk X.N X.env.scope scope own)
    (hg : ∀ (s : Shared) (H : Hp) (C : Addr) (cl : List (PySem.Str × Addr)) (fp : List Addr), PG (X.blk s H scope (compEnvC scope cl C X.env) fp) tg g)
    (ht : ∀ (s : Shared) (H : Hp) (C : Addr) (cl : List (PySem.Str × Addr)) (fp : List Addr), PTs (X.blk s H scope (compEnvC scope cl C X.env) fp) ifs tt)
    (he : ∀ (s : Shared) (H : Hp) (C : Addr) (cl : List (PySem.Str × Addr)) (fp : List Addr), PE (X.blk s H scope (compEnvC scope cl C X.env) fp) elt te)
    (plain : ∀ x, foldedSetIterable iter X.env x = pure x := by intro _; rfl) :
    PE X (.SetComp elt [⟨tg, iter, ifs, 0⟩] scope pos) (tScR X.K X.prog X.w wi g tt te (own.map (·.2))) := by
  refine ⟨fun pins s σ H Q I h => ?_⟩
  rw [PpSet.eval_SetComp]
  refine scR_core un calm nd I hi ok hg ht he plain h fun D C s' m H' J q hn f => ⟨m, hn, fun h'' sbut => ?_⟩
  obtain ⟨f0, f1, _, f3, f4, f5⟩ := f
  exact ⟨.ref D, H', J.turned (t' := s'.toks) (fun b o hb e => (sbut.2 b hb).trans e) f0 f1 f3 f4 f5, rfl, q⟩
end
theorem r_scR {K : PySem.W.Frag} {P : Program} {w : World} {wi : TI} {g : TG} {tt : TT} {te : TE} {vs : List Nat} {σ : L2.St} {H : Hp} {Q : VK} (h : wi σ H fun J H1 => ∀ D, H1 D = none → ∃ W : Nat → Nat → Hp → Prop, (∃ m, W 0 m (upd H1 D (SetTO P w D []))) ∧ ∀ i m H, W i m H →
    (J.stop i H ∧ Q (.ref D) H) ∨ (J.go i H ∧ ∃ R : Hp → Prop, (∀ H', R H' → ∃ m', m' < m ∧ W (i + 1) m' H') ∧ ∀ x H', J.yld i H x H' → turnR K P w D vs σ g tt te x H' R)) : tScR K P w wi g tt te vs σ H Q := h
/-- over a tuple -/
theorem scR_tup {P : Program} {w : World} {K : PySem.W.Frag} {a : Addr} {xs : List V} {g : TG} {tt : TT} {te : TE} {vs : List Nat} {σ : L2.St} {H1 : Hp} {D : Addr} {Qd : Hp → Prop} (Pv : Nat → Hp → Prop) (h0 : Pv 0 (upd H1 D (SetTO P w D [])))
    (hl : ∀ i H, i ≤ xs.length → Pv i H → SqT K H a xs) (hs : ∀ i x H, xs[i]? = some x → Pv i H → turnR K P w D vs σ g tt te x H (Pv (i + 1))) (hd : ∀ H, Pv xs.length H → Qd H) :
    ∃ W : Nat → Nat → Hp → Prop, (∃ m, W 0 m (upd H1 D (SetTO P w D []))) ∧ ∀ i m H, W i m H →
      ((Itt K a).stop i H ∧ Qd H) ∨ ((Itt K a).go i H ∧ ∃ R : Hp → Prop, (∀ H', R H' → ∃ m', m' < m ∧ W (i + 1) m' H') ∧ ∀ x H', (Itt K a).yld i H x H' → turnR K P w D vs σ g tt te x H' R) := by
  refine ⟨fun i m H => m = xs.length - i ∧ i ≤ xs.length ∧ Pv i H, ⟨xs.length, by simp, Nat.zero_le _, h0⟩, ?_⟩
  rintro i m H ⟨rfl, hi, p⟩
  have q := hl i H hi p
  by_cases lt : i < xs.length
  · refine .inr ⟨⟨xs, xs[i], q, by simp [lt]⟩, Pv (i + 1), fun H' p' => ⟨xs.length - (i + 1), by omega, rfl, lt, p'⟩, fun x H' y => ?_⟩
    obtain ⟨rfl, y⟩ := y
    exact hs i x _ (y xs q) p
  · obtain rfl : i = xs.length := by omega
    exact .inl ⟨⟨xs, q, Nat.le_refl _⟩, hd H p⟩
/-- over a list -/
theorem scR_list {P : Program} {w : World} {K : PySem.W.Frag} {a : Addr} {xs : List V} {g : TG} {tt : TT} {te : TE} {vs : List Nat} {σ : L2.St} {H1 : Hp} {D : Addr} {Qd : Hp → Prop} (Pv : Nat → Hp → Prop) (h0 : Pv 0 (upd H1 D (SetTO P w D [])))
    (hl : ∀ i H, i ≤ xs.length → Pv i H → SqL K H a xs) (hs : ∀ i x H, xs[i]? = some x → Pv i H → turnR K P w D vs σ g tt te x H (Pv (i + 1))) (hd : ∀ H, Pv xs.length H → Qd H) :
    ∃ W : Nat → Nat → Hp → Prop, (∃ m, W 0 m (upd H1 D (SetTO P w D []))) ∧ ∀ i m H, W i m H →
      ((Itl K a).stop i H ∧ Qd H) ∨ ((Itl K a).go i H ∧ ∃ R : Hp → Prop, (∀ H', R H' → ∃ m', m' < m ∧ W (i + 1) m' H') ∧ ∀ x H', (Itl K a).yld i H x H' → turnR K P w D vs σ g tt te x H' R) := by
  refine ⟨fun i m H => m = xs.length - i ∧ i ≤ xs.length ∧ Pv i H, ⟨xs.length, by simp, Nat.zero_le _, h0⟩, ?_⟩
  rintro i m H ⟨rfl, hi, p⟩
  have q := hl i H hi p
  by_cases lt : i < xs.length
  · refine .inr ⟨⟨xs, xs[i], q, by simp [lt]⟩, Pv (i + 1), fun H' p' => ⟨xs.length - (i + 1), by omega, rfl, lt, p'⟩, fun x H' y => ?_⟩
    obtain ⟨rfl, y⟩ := y
    exact hs i x _ (y xs q) p
  · obtain rfl : i = xs.length := by omega
    exact .inl ⟨⟨xs, q, Nat.le_refl _⟩, hd H p⟩
end G
set_option Elab.async false
set_option linter.all false
set_option maxRecDepth 100000
set_option maxHeartbeats 4000000
namespace G
open PySem PySem.Spec PyProof.Rows L2
/-! ### {k: v for x in ..}, the keys tuples of any depth -/
/-- a turn's end: the value z goes to the key y in the dict at D -/
def putDc (K : PySem.W.Frag) (P : Program) (w : World) (D : Addr) (R : Hp → Prop) (y z : V) (H : Hp) : Prop := ∃ (b : Addr) (k : NestedKey) (L : NL),
  y = .ref b ∧ H D = some (NDO P w D L) ∧ KeysN K H L ∧ Dn K H (.ref b) k ∧ k.depth ≤ 8 ∧ L.length < sizeLine ∧ R (upd H D (NDO P w D (putNd L k b z)))
def turnDc (K : PySem.W.Frag) (P : Program) (w : World) (D : Addr) (vs : List Nat) (σ : L2.St) (g : TG) (tt : TT) (tk tv : TE) (x : V) (H : Hp) (R : Hp → Prop) : Prop :=
  g x (wipe σ vs) H fun σ2 H2 => wipe σ2 vs = wipe σ vs ∧ tt σ2 H2 fun b H3 => if b = true then tk σ2 H3 fun y H4 => tv σ2 H4 fun z H5 => putDc K P w D R y z H5 else R H3
def tDcN (K : PySem.W.Frag) (P : Program) (w : World) (wi : TI) (g : TG) (tt : TT) (tk tv : TE) (vs : List Nat) : TE := fun σ H Q => wi σ H fun J H1 => ∀ D, H1 D = none →
  ∃ W : Nat → Nat → Hp → Prop, (∃ m, W 0 m (upd H1 D (NDO P w D []))) ∧ ∀ i m H, W i m H →
    (J.stop i H ∧ Q (.ref D) H) ∨ (J.go i H ∧ ∃ R : Hp → Prop, (∀ H', R H' → ∃ m', m' < m ∧ W (i + 1) m' H') ∧ ∀ x H', J.yld i H x H' → turnDc K P w D vs σ g tt tk tv x H' R)
theorem r_dcN {K : PySem.W.Frag} {P : Program} {w : World} {wi : TI} {g : TG} {tt : TT} {tk tv : TE} {vs : List Nat} {σ : L2.St} {H : Hp} {Q : VK} (h : wi σ H fun J H1 => ∀ D, H1 D = none →
  ∃ W : Nat → Nat → Hp → Prop, (∃ m, W 0 m (upd H1 D (NDO P w D []))) ∧ ∀ i m H, W i m H →
    (J.stop i H ∧ Q (.ref D) H) ∨ (J.go i H ∧ ∃ R : Hp → Prop, (∀ H', R H' → ∃ m', m' < m ∧ W (i + 1) m' H') ∧ ∀ x H', J.yld i H x H' → turnDc K P w D vs σ g tt tk tv x H' R)) : tDcN K P w wi g tt tk tv vs σ H Q := h
section
variable {X : Cx}
theorem nd_dictSet {pins : List (Addr × Obj)} {σ : L2.St} {H : Hp} {s : Shared} {E : Value → Shared → Prop} {D : Addr} {u1 u2 : Value} {y z : V} {R : Hp → Prop} {Q : Unit → Shared → Prop} (un : X.A.units + 64 < cLine)
    (I : Inv X pins σ H s) (r1 : RelV y u1) (r2 : RelV z u2) (h : putDc X.K X.prog X.w D R y z H) (q : ∀ s' H', Inv X pins σ H' s' → R H' → Q () s') :
    wpAny (model X.prog X.w) X.A (dictSet D u1 u2) Q E s := by
  obtain ⟨b, k, L, rfl, hD, ks, hk, hd, hl, hR⟩ := h
  obtain rfl : u1 = Value.ref b := r1
  obtain ⟨_, hsm, xs, pr, dd⟩ := nd_dict I (.inl hD) ks
  have lx : L.length = xs.length := Paired.length pr
  have room : (nestedKind X.prog X.w).room X.A := by
    show X.A.units + 8 < cLine
    omega
  refine wpAny_dictSet_heap (hsz := by omega) room (nd_key I hk hd) dd fun h' dd' hs' => ?_
  obtain ⟨ob, es, ep, hq, h2, h3, h4, _, h5⟩ := dd'
  exact q _ _ (d_write (t' := s.toks + (nestedKind X.prog X.w).draws k) I (nd_mut hD) hs' ⟨ob, hq⟩ (ndo_new ⟨Nat.le_trans putNd_len hl, hsm, _, relN_put pr k b r2, ob, es, ep, hq, h2, h3, h4, h5⟩)) hR
theorem dcN_core {pins : List (Addr × Obj)} {s : Shared} {σ : L2.St} {H : Hp} {Q : VK} {kx vx tg iter : Expr} {ifs : List Expr} {scope : Scope} {own : List (PySem.Str × Nat)} {pos pos' : Pos} {wi : TI} {g : TG} {tt : TT} {tk tv : TE} {use : Option (Value → Sem Unit)} {Qf : Value → Shared → Prop}
    (un : X.A.units + 64 < cLine) (calm : X.calm = true) (nd : X.N.Nodup) (I : Inv X pins σ H s) (hi : PI X tg iter wi) (ok : BlkOk X.N X.env.scope scope own)
    (hg : ∀ (s : Shared) (H : Hp) (C : Addr) (cl : List (PySem.Str × Addr)) (fp : List Addr), PG (X.blk s H scope (compEnvC scope cl C X.env) fp) tg g)
    (ht : ∀ (s : Shared) (H : Hp) (C : Addr) (cl : List (PySem.Str × Addr)) (fp : List Addr), PTs (X.blk s H scope (compEnvC scope cl C X.env) fp) ifs tt)
    (hk : ∀ (s : Shared) (H : Hp) (C : Addr) (cl : List (PySem.Str × Addr)) (fp : List Addr), PE (X.blk s H scope (compEnvC scope cl C X.env) fp) kx tk)
    (he : ∀ (s : Shared) (H : Hp) (C : Addr) (cl : List (PySem.Str × Addr)) (fp : List Addr), PE (X.blk s H scope (compEnvC scope cl C X.env) fp) vx tv)
    (plain : ∀ x, foldedSetIterable iter X.env x = pure x) (h : tDcN X.K X.prog X.w wi g tt tk tv (own.map (·.2)) σ H Q)
    (back : ∀ D C s' m H', Inv X pins σ H' s' → Q (.ref D) H' → s'.heap.Ns C m → FpOk X pins H' C → compPost (model X.prog X.w) X.A X.xe use Qf (.ref D) C (.ok .next) s') :
    wpAny (model X.prog X.w) X.A (comprehension (.DictComp kx vx [⟨tg, iter, ifs, 0⟩] scope pos) scope X.env pos' newDict false (eval iter X.env) use) Qf X.xe s := by
  have has : ∀ y ∈ scope.names, y.2 = .free → ∃ c, X.env.cells.lookup y.1 = some c := fun y hy e =>
    (ok.free y hy e).elim (fun k => I.ok.has _ (.inl k)) fun k => I.ok.has _ (.inr k)
  refine wpAny_comprehension_free (use := use) rfl plain (closure_ok has) ok.kind (fun y hy e => by rw [ok.uniq y hy, e]) ?_
  refine thn (hi.run pins s σ H _ I h) fun _ _ hx => thn hx fun _ sa ha => ?_
  obtain ⟨it, fp, at_, J, Ha, rfl, Ia, T, sta, fa, q⟩ := ha
  refine wpAny_newObj_type (newEnv_comp ?_)
  obtain ⟨D, eD⟩ : ∃ D, sa.heap.objs.size = D := ⟨_, rfl⟩
  rw [eD]
  have freshD : Ha D = none := Ia.hok.fresh (Nat.le_of_eq eD)
  obtain ⟨W, ⟨m0, w0⟩, turn⟩ := q D freshD
  obtain ⟨sb, esb⟩ : ∃ sb : Shared, ({ sa with heap := sa.heap.push { cls := .type "dict", data := .dict #[] } } : Shared) = sb := ⟨_, rfl⟩
  have hb : sb.heap = sa.heap.push { cls := .type "dict", data := .dict #[] } := by rw [← esb]
  have Ib : Inv X pins σ (upd Ha D (NDO X.prog X.w D [])) sb := by
    subst esb eD
    exact Ia.laid (t' := sa.toks) (fun _ _ e => Heap.get?_push_of_some _ e) (Nat.le_refl _) (nd_empty sa.heap Ia.big)
  obtain ⟨Hb, eHb⟩ : ∃ Hb, upd Ha D (NDO X.prog X.w D []) = Hb := ⟨_, rfl⟩
  have fb : ∀ b ∈ fp, FpOk X pins Hb b ∧ b < sb.heap.objs.size := fun b hm => by
    obtain ⟨o, e, _⟩ := T.obj _ _ sta b hm
    have lt := Heap.lt_size e
    refine ⟨⟨?_, (fa b hm).2⟩, ?_⟩
    · rw [← eHb, upd_ne (by rw [← eD]; exact Nat.ne_of_lt lt)]
      exact (fa b hm).1
    · rw [hb, Heap.size_push]
      exact Nat.lt_succ_of_lt lt
  have stb : at_ 0 sb.heap := T.keep _ _ _ sta fun b _ o e => by
    rw [hb]
    exact Heap.get?_push_of_some _ e
  rw [eHb] at Ib w0
  have Ic := block_start Ib ok nd fb
  obtain ⟨C, eC⟩ : ∃ C, sb.heap.objs.size = C := ⟨_, rfl⟩
  have pg := hg sb Hb C (cellsFrom (C + 1) scope.names (cloFrom X.env.cells scope.names [])) fp
  have pt := ht sb Hb C (cellsFrom (C + 1) scope.names (cloFrom X.env.cells scope.names [])) fp
  have pk := hk sb Hb C (cellsFrom (C + 1) scope.names (cloFrom X.env.cells scope.names [])) fp
  have pe := he sb Hb C (cellsFrom (C + 1) scope.names (cloFrom X.env.cells scope.names [])) fp
  rw [eC] at Ic
  rw [esb, eC]
  show codeAny _ _ (.compStart (.DictComp kx vx [⟨tg, iter, ifs, 0⟩] scope pos) 0 (.ref it) (.ref D) (compEnvC scope (cellsFrom (C + 1) scope.names (cloFrom X.env.cells scope.names [])) C X.env))
    (compPost (model X.prog X.w) X.A X.xe use Qf (.ref D) C) { sb with heap := pushCells (sb.heap.push { cls := .type "dict", data := .dict #[] }) scope.names }
  obtain ⟨ce, ece⟩ : ∃ ce, compEnvC scope (cellsFrom (C + 1) scope.names (cloFrom X.env.cells scope.names [])) C X.env = ce := ⟨_, rfl⟩
  rw [ece] at Ic pg pt pk pe ⊢
  have eL : ce.locals = C := by rw [← ece]; rfl
  obtain ⟨sc, esc⟩ : ∃ sc : Shared, ({ sb with heap := pushCells (sb.heap.push { cls := .type "dict", data := .dict #[] }) scope.names } : Shared) = sc := ⟨_, rfl⟩
  rw [esc] at Ic ⊢
  have stc : at_ 0 sc.heap := T.keep _ _ _ stb fun b _ o e => by
    rw [← esc]
    exact pushCells_keeps _ _ _ _ (Heap.get?_push_of_some _ e)
  have stat : ∀ {τ : L2.St} {G : Hp} {r : Shared}, Inv (X.blk sb Hb scope ce fp) [] τ G r → (∀ b ∈ fp, G b = none) → ∀ b ∈ fp, FpOk (X.blk sb Hb scope ce fp) [] G b :=
    fun {τ G r} J hn b hm => ⟨hn b hm, (J.ok.exf b hm).1, J.ok.exfs b hm, .inl hm, fun x c e => (J.ok.exf b hm).2 x c e, fun p hp => nomatch (show p ∈ ([] : List (Addr × Obj)) ++ [] from hp)⟩
  have loop : codeAny (model X.prog X.w) X.A (.compLoop (.DictComp kx vx [⟨tg, iter, ifs, 0⟩] scope pos) 0 (.ref it) (.ref D) ce) (compPost (model X.prog X.w) X.A X.xe use Qf (.ref D) C) sc := by
    refine compLoop_anyD (fun n r => ∃ i G, Inv (X.blk sb Hb scope ce fp) [] (wipe σ (own.map (·.2))) G r ∧ at_ i r.heap ∧ (∀ b ∈ fp, G b = none) ∧ W i n G) ?_ m0
      ⟨0, Hb, Ic, stc, fun b hm => (fb b hm).1.1, w0⟩
    rintro n s5 ⟨i, H5, I5, st5, n5, w5⟩
    rcases turn i n H5 w5 with ⟨stop, fin⟩ | ⟨go, R, hR, step⟩
    · refine thnF (T.done (X.blk sb Hb scope ce fp) rfl rfl rfl calm i [] s5 _ H5 (fun _ _ => False) I5 (stat I5 n5) st5 stop) fun r s6 hr6 => ?_
      obtain ⟨rfl, I6⟩ := hr6
      have I7 : Inv X pins σ H5 s6 := Ib.call' (ch := fp) I6.os I6.base I6.hok I6.bare fun b hm =>
        ⟨(fb b hm).1.2.2.2.1, (fb b hm).1.2.1, (fb b hm).1.2.2.2.2.1, (fb b hm).1.2.2.2.2.2⟩
      have nC : H5 C = none := by
        rw [← eL]
        exact I6.free
      obtain ⟨m, hn, _⟩ := I6.loc
      have hn : s6.heap.Ns ce.locals m := hn
      rw [eL] at hn
      exact back D C s6 m H5 I7 fin hn (Ib.fpOk (Nat.le_of_eq eC) nC)
    · refine thnF (T.item (X.blk sb Hb scope ce fp) rfl rfl rfl calm i [] s5 _ H5 (fun _ _ => False) I5 (stat I5 n5) st5 go) fun r s6 hr6 => ?_
      obtain ⟨u, rfl, h6⟩ := hr6
      refine thnF h6 fun _ s7 h7 => ?_
      obtain ⟨x, H7, I7, r7, y7, st7, n7⟩ := h7
      have P7 := I7.pinned (stat I7 n7) (T.obj _ _ st7)
      refine thnF (pg.run _ s7 _ H7 x u _ P7 r7 (step x H7 y7)) fun _ s8 h8 => ?_
      obtain ⟨σ8, H8, I8, same8, q8⟩ := h8
      have turnEnd : ∀ {r : Shared} {G : Hp}, Inv (X.blk sb Hb scope ce fp) ([] ++ pinsAt fp s7.heap) σ8 G r → R G →
          ∃ m, m < n ∧ ∃ i G, Inv (X.blk sb Hb scope ce fp) [] (wipe σ (own.map (·.2))) G r ∧ at_ i r.heap ∧ (∀ b ∈ fp, G b = none) ∧ W i m G := fun {r G} J rG => by
        obtain ⟨m', lt, w'⟩ := hR G rG
        have pin : ∀ b ∈ fp, ∀ o, s7.heap.get? b = some o → r.heap.get? b = some o ∧ G b = none := fun b hm o e => by
          have z := J.pin (b, o) (List.mem_append_right _ (List.mem_append_right _ (mem_pinsAt hm e)))
          exact ⟨z.1, z.2.1⟩
        have len : (wipe σ (own.map (·.2))).length = σ8.length := by
          rw [← same8]
          exact wipe_length _ _
        refine ⟨m', lt, i + 1, G, (J.unpinned (pins := [])).weak len (fun j v e => ?_), T.keep _ _ _ st7 fun b hm o e => (pin b hm o e).1, fun b hm => ?_, w'⟩
        · rw [← same8] at e
          exact (wipe_some e).1
        · obtain ⟨o, e, _⟩ := T.obj _ _ st7 b hm
          exact (pin b hm o e).2
      refine thnF (pt.run _ s8 σ8 H8 _ I8 q8) fun b s9 h9 => ?_
      obtain ⟨H9, I9, q9⟩ := h9
      cases b with
      | false =>
        rw [if_neg Bool.false_ne_true] at q9
        simp only [Bool.false_eq_true, if_false]
        exact turnEnd I9 q9
      | true =>
        rw [if_pos rfl] at q9
        simp only [if_true]
        refine thnF (pk.run _ s9 σ8 H9 _ I9 q9) fun z s10 h10 => ?_
        obtain ⟨yk, H10, I10, r10, q10⟩ := h10
        refine thnF (pe.run _ s10 σ8 H10 _ I10 q10) fun z2 s11 h11 => ?_
        obtain ⟨yv, H11, I11, r11, q11⟩ := h11
        exact nd_dictSet (X := X.blk sb Hb scope ce fp) un I11 r10 r11 q11 fun s12 H12 I12 q12 => turnEnd I12 q12
  exact codeAny_compStart_dict loop (T.self X.A 0 _ _ _ stc loop)
/-- as a value -/
theorem pe_dcN {kx vx tg iter : Expr} {ifs : List Expr} {scope : Scope} {own : List (PySem.Str × Nat)} {pos : Pos} {wi : TI} {g : TG} {tt : TT} {tk tv : TE} (un : X.A.units + 64 < cLine) (calm : X.calm = true) (nd : X.N.Nodup) (hi : PI X tg iter wi) (ok : BlkOk X.N X.env.scope scope own)
    (hg : ∀ (s : Shared) (H : Hp) (C : Addr) (cl : List (PySem.Str × Addr)) (fp : List Addr), PG (X.blk s H scope (compEnvC scope cl C X.env) fp) tg g)
    (ht : ∀ (s : Shared) (H : Hp) (C : Addr) (cl : List (PySem.Str × Addr)) (fp : List Addr), PTs (X.blk s H scope (compEnvC scope cl C X.env) fp) ifs tt)
    (hk : ∀ (s : Shared) (H : Hp) (C : Addr) (cl : List (PySem.Str × Addr)) (fp : List Addr), PE (X.blk s H scope (compEnvC scope cl C X.env) fp) kx tk)
    (he : ∀ (s : Shared) (H : Hp) (C : Addr) (cl : List (PySem.Str × Addr)) (fp : List Addr), PE (X.blk s H scope (compEnvC scope cl C X.env) fp) vx tv)
    (plain : ∀ x, foldedSetIterable iter X.env x = pure x := by intro _; rfl) :
    PE X (.DictComp kx vx [⟨tg, iter, ifs, 0⟩] scope pos) (tDcN X.K X.prog X.w wi g tt tk tv (own.map (·.2))) := by
  refine ⟨fun pins s σ H Q I h => ?_⟩
  rw [arm_eval_DictComp]
  refine dcN_core un calm nd I hi ok hg ht hk he plain h fun D C s' m H' J q hn f => ⟨m, hn, fun h'' sbut => ?_⟩
  obtain ⟨f0, f1, _, f3, f4, f5⟩ := f
  exact ⟨.ref D, H', J.turned (t' := s'.toks) (fun b o hb e => (sbut.2 b hb).trans e) f0 f1 f3 f4 f5, rfl, q⟩
end
end G
set_option Elab.async false
set_option linter.all false
set_option maxRecDepth 100000
set_option maxHeartbeats 4000000
namespace G
theorem nodup_le_len {α : Type} [BEq α] [LawfulBEq α] : ∀ {a b : List α}, a.Nodup → (∀ x ∈ a, x ∈ b) → a.length ≤ b.length
  | [], _, _, _ => Nat.zero_le _
  | x :: a, b, nd, h => by
    have hx := h x List.mem_cons_self
    obtain ⟨n1, n2⟩ := List.nodup_cons.mp nd
    have ih := nodup_le_len (b := b.erase x) n2 fun y hy => (List.mem_erase_of_ne (fun e => n1 (by rw [← e]; exact hy))).mpr (h y (List.mem_cons_of_mem _ hy))
    rw [List.length_erase_of_mem hx] at ih
    have : 0 < b.length := List.length_pos_of_mem hx
    rw [List.length_cons]
    omega
/-! ### what words lead to, found in their order -/
abbrev Stp := List Nat → Nat → Option (List Nat)
/-- one letter more of the word of x -/
def ext1 (stp : Stp) (m : Wm) (x : List Nat × List Nat) (c : Nat) : Wm := match stp x.1 c with
  | none => m
  | some r => if r ∈ m.map (·.1) then m else m ++ [(r, x.2 ++ [97 + c])]
def extT (stp : Stp) (x : List Nat × List Nat) (m : Wm) (j : Nat) : Wm := (List.range j).foldl (fun m c => ext1 stp m x c) m
theorem extT_zero (stp : Stp) (x : List Nat × List Nat) (m : Wm) : extT stp x m 0 = m := rfl
theorem extT_succ (stp : Stp) (x : List Nat × List Nat) (m : Wm) (j : Nat) : extT stp x m (j + 1) = ext1 stp (extT stp x m j) x j := by
  unfold extT
  rw [List.range_succ, List.foldl_append]
  rfl
def bfs (stp : Stp) (k : Nat) (o : List Nat) : Nat → Wm
  | 0 => [(o, [])]
  | i + 1 => match (bfs stp k o i)[i]? with
    | none => bfs stp k o i
    | some x => extT stp x (bfs stp k o i) k
section
variable {stp : Stp} {k : Nat} {o : List Nat}
theorem ext1_pre (m : Wm) (x : List Nat × List Nat) (c : Nat) : ∃ z, ext1 stp m x c = m ++ z := by
  unfold ext1
  split
  · exact ⟨[], (List.append_nil _).symm⟩
  · split
    · exact ⟨[], (List.append_nil _).symm⟩
    · exact ⟨_, rfl⟩
theorem extT_pre (x : List Nat × List Nat) (m : Wm) : ∀ j, ∃ z, extT stp x m j = m ++ z
  | 0 => ⟨[], (List.append_nil _).symm⟩
  | j + 1 => by
    obtain ⟨z, h⟩ := extT_pre x m j
    obtain ⟨y, h2⟩ := ext1_pre (stp := stp) (extT stp x m j) x j
    exact ⟨z ++ y, by rw [extT_succ, h2, h, List.append_assoc]⟩
theorem bfs_succ {i : Nat} {x : List Nat × List Nat} (h : (bfs stp k o i)[i]? = some x) : bfs stp k o (i + 1) = extT stp x (bfs stp k o i) k := by
  show (match (bfs stp k o i)[i]? with | none => bfs stp k o i | some x => extT stp x (bfs stp k o i) k) = _
  rw [h]
theorem bfs_stop {i : Nat} (h : (bfs stp k o i).length ≤ i) : bfs stp k o (i + 1) = bfs stp k o i := by
  show (match (bfs stp k o i)[i]? with | none => bfs stp k o i | some x => extT stp x (bfs stp k o i) k) = _
  rw [List.getElem?_eq_none h]
theorem bfs_pre1 (i : Nat) : ∃ z, bfs stp k o (i + 1) = bfs stp k o i ++ z := by
  cases h : (bfs stp k o i)[i]? with
  | none => exact ⟨[], by rw [bfs_stop (List.getElem?_eq_none_iff.mp h), List.append_nil]⟩
  | some x =>
    rw [bfs_succ h]
    exact extT_pre x _ k
theorem bfs_pre (i : Nat) : ∀ d, ∃ z, bfs stp k o (i + d) = bfs stp k o i ++ z
  | 0 => ⟨[], (List.append_nil _).symm⟩
  | d + 1 => by
    obtain ⟨z, h⟩ := bfs_pre i d
    obtain ⟨y, h2⟩ := bfs_pre1 (stp := stp) (k := k) (o := o) (i + d)
    exact ⟨z ++ y, by rw [← Nat.add_assoc, h2, h, List.append_assoc]⟩
theorem bfs_at {i j l : Nat} {p : List Nat × List Nat} (h : (bfs stp k o i)[l]? = some p) (hij : i ≤ j) : (bfs stp k o j)[l]? = some p := by
  obtain ⟨z, e⟩ := bfs_pre (stp := stp) (k := k) (o := o) i (j - i)
  rw [show i + (j - i) = j by omega] at e
  rw [e, List.getElem?_append_left (List.getElem?_eq_some_iff.mp h).1]
  exact h
theorem bfs_stops {i : Nat} (h : (bfs stp k o i).length ≤ i) : ∀ d, bfs stp k o (i + d) = bfs stp k o i
  | 0 => rfl
  | d + 1 => by
    have e := bfs_stops h d
    rw [← Nat.add_assoc, bfs_stop (by rw [e]; omega), e]
/-- two searches that have ended found the same -/
theorem bfs_same {i j : Nat} (h1 : (bfs stp k o i).length ≤ i) (h2 : (bfs stp k o j).length ≤ j) : bfs stp k o i = bfs stp k o j := by
  rcases Nat.le_total i j with h | h
  · have := bfs_stops h1 (j - i)
    rw [show i + (j - i) = j by omega] at this
    exact this.symm
  · have := bfs_stops h2 (i - j)
    rw [show j + (i - j) = i by omega] at this
    exact this
/-! what holds of all entries -/
theorem ext1_all {P : List Nat × List Nat → Prop} {m : Wm} {x : List Nat × List Nat} {c : Nat} (hm : ∀ p ∈ m, P p) (hs : ∀ r, stp x.1 c = some r → P (r, x.2 ++ [97 + c])) : ∀ p ∈ ext1 stp m x c, P p := by
  unfold ext1
  split
  · exact hm
  · rename_i r e
    split
    · exact hm
    · intro p hp
      rcases List.mem_append.mp hp with h | h
      · exact hm p h
      · rw [List.mem_singleton.mp h]
        exact hs r e
theorem ext1_nd {m : Wm} {x : List Nat × List Nat} {c : Nat} (h : (m.map (·.1)).Nodup) : ((ext1 stp m x c).map (·.1)).Nodup := by
  unfold ext1
  split
  · exact h
  · split
    · exact h
    · rename_i r _ hn
      rw [List.map_append]
      refine List.nodup_append.mpr ⟨h, by simp, fun a ha b hb e => ?_⟩
      have hb' : b = r := by simpa using hb
      subst e hb'
      exact hn ha
theorem extT_nd {m : Wm} {x : List Nat × List Nat} (h : (m.map (·.1)).Nodup) : ∀ j, ((extT stp x m j).map (·.1)).Nodup
  | 0 => h
  | j + 1 => by
    rw [extT_succ]
    exact ext1_nd (extT_nd h j)
theorem bfs_nd : ∀ i, ((bfs stp k o i).map (·.1)).Nodup
  | 0 => by simp [bfs]
  | i + 1 => by
    cases h : (bfs stp k o i)[i]? with
    | none =>
      rw [bfs_stop (List.getElem?_eq_none_iff.mp h)]
      exact bfs_nd i
    | some x =>
      rw [bfs_succ h]
      exact extT_nd (bfs_nd i) k
theorem extT_all {P : List Nat × List Nat → Prop} {m : Wm} {x : List Nat × List Nat} (hm : ∀ p ∈ m, P p) (n : Nat) (hs : ∀ c r, c < n → stp x.1 c = some r → P (r, x.2 ++ [97 + c])) : ∀ j, j ≤ n → ∀ p ∈ extT stp x m j, P p
  | 0, _ => hm
  | j + 1, hj => by
    rw [extT_succ]
    exact ext1_all (extT_all hm n hs j (by omega)) fun r e => hs j r (by omega) e
theorem bfs_all {P : List Nat × List Nat → Prop} (h0 : P (o, [])) (hs : ∀ x c r, P x → c < k → stp x.1 c = some r → P (r, x.2 ++ [97 + c])) : ∀ i, ∀ p ∈ bfs stp k o i, P p
  | 0 => fun p hp => by rw [List.mem_singleton.mp hp]; exact h0
  | i + 1 => by
    cases h : (bfs stp k o i)[i]? with
    | none =>
      rw [bfs_stop (List.getElem?_eq_none_iff.mp h)]
      exact bfs_all h0 hs i
    | some x =>
      rw [bfs_succ h]
      have hx := bfs_all h0 hs i x (List.mem_of_getElem? h)
      exact extT_all (bfs_all h0 hs i) k (fun c r hc e => hs x c r hx hc e) k (Nat.le_refl _)
/-- all that is found lies in L: the search is as long at most -/
theorem bfs_len {L : List (List Nat)} (h0 : o ∈ L) (hs : ∀ r ∈ L, ∀ c r', c < k → stp r c = some r' → r' ∈ L) (i : Nat) : (bfs stp k o i).length ≤ L.length := by
  have hall := bfs_all (stp := stp) (k := k) (o := o) (P := fun p => p.1 ∈ L) h0 (fun x c r hx hc e => hs x.1 hx c r hc e) i
  have := nodup_le_len (bfs_nd (stp := stp) (k := k) (o := o) i) (fun a ha => by
    obtain ⟨p, hp, rfl⟩ := List.mem_map.mp ha
    exact hall p hp)
  rw [List.length_map] at this
  exact this
theorem extT_len {L : List (List Nat)} {m : Wm} {x : List Nat × List Nat} (hm : ∀ p ∈ m, p.1 ∈ L) (nd : (m.map (·.1)).Nodup) (hs : ∀ c r', c < k → stp x.1 c = some r' → r' ∈ L) {j : Nat} (hj : j ≤ k) : (extT stp x m j).length ≤ L.length := by
  have hall := extT_all (stp := stp) (P := fun p => p.1 ∈ L) hm k (fun c r hc e => hs c r hc e) j hj
  have := nodup_le_len (extT_nd (stp := stp) (x := x) nd j) (fun a ha => by
    obtain ⟨p, hp, rfl⟩ := List.mem_map.mp ha
    exact hall p hp)
  rw [List.length_map] at this
  exact this
/-- where a word leads -/
def walkO (stp : Stp) (o : List Nat) (w : List Nat) : Option (List Nat) := w.foldl (fun r c => r.bind fun r => stp r (c - 97)) (some o)
theorem walkO_snoc (w : List Nat) (c : Nat) : walkO stp o (w ++ [c]) = (walkO stp o w).bind fun r => stp r (c - 97) := by
  unfold walkO
  rw [List.foldl_append]
  rfl
theorem bfs_word (i : Nat) : ∀ p ∈ bfs stp k o i, walkO stp o p.2 = some p.1 ∧ ∀ c ∈ p.2, 97 ≤ c ∧ c < 97 + k :=
  bfs_all (P := fun p => walkO stp o p.2 = some p.1 ∧ ∀ c ∈ p.2, 97 ≤ c ∧ c < 97 + k) ⟨rfl, fun c hc => nomatch hc⟩ (fun x c r hx hc e => ⟨by
    show walkO stp o (x.2 ++ [97 + c]) = some r
    rw [walkO_snoc, hx.1]
    show stp x.1 (97 + c - 97) = some r
    rw [Nat.add_sub_cancel_left]
    exact e, fun d hd => by
    rcases List.mem_append.mp hd with h | h
    · exact hx.2 d h
    · rw [List.mem_singleton.mp h]
      omega⟩) i
/-- the lengths of the words -/
theorem bfs_wlen (i : Nat) : ∀ (j : Nat) (p : List Nat × List Nat), (bfs stp k o i)[j]? = some p → p.2.length ≤ j := by
  have ext : ∀ (x : List Nat × List Nat) (m : Wm), (∀ (j : Nat) (p : List Nat × List Nat), m[j]? = some p → p.2.length ≤ j) → x.2.length < m.length → ∀ n, ∀ (j : Nat) (p : List Nat × List Nat), (extT stp x m n)[j]? = some p → p.2.length ≤ j := by
    intro x m hm hx n
    induction n with
    | zero => exact hm
    | succ n ih =>
      intro j p hp
      rw [extT_succ] at hp
      obtain ⟨z0, e0⟩ := extT_pre (stp := stp) x m n
      unfold ext1 at hp
      split at hp
      · exact ih j p hp
      · split at hp
        · exact ih j p hp
        · by_cases hj : j < (extT stp x m n).length
          · rw [List.getElem?_append_left hj] at hp
            exact ih j p hp
          · rw [List.getElem?_append_right (by omega)] at hp
            have hj0 : j - (extT stp x m n).length = 0 := by
              have := (List.getElem?_eq_some_iff.mp hp).1
              have h1 : [(‹List Nat›, x.2 ++ [97 + n])].length = 1 := rfl
              simp at this
              omega
            rw [hj0] at hp
            rw [← Option.some.inj hp]
            show (x.2 ++ [97 + n]).length ≤ j
            rw [List.length_append]
            have : (extT stp x m n).length ≥ m.length := by rw [e0, List.length_append]; omega
            show x.2.length + 1 ≤ j
            omega
  induction i with
  | zero =>
    intro j p hp
    match j, hp with
    | 0, hp => rw [← Option.some.inj hp]; exact Nat.le_refl 0
    | j + 1, hp => simp [bfs] at hp
  | succ i ih =>
    cases h : (bfs stp k o i)[i]? with
    | none =>
      rw [bfs_stop (List.getElem?_eq_none_iff.mp h)]
      exact ih
    | some x =>
      rw [bfs_succ h]
      exact ext x _ ih (Nat.lt_of_le_of_lt (ih i x h) (List.getElem?_eq_some_iff.mp h).1) k
end
/-! all lots of n states -/
def subsN : Nat → List (List Nat)
  | 0 => [[]]
  | n + 1 => subsN n ++ (subsN n).map fun l => l ++ [n]
theorem subsN_len : ∀ n, (subsN n).length = 2 ^ n
  | 0 => rfl
  | n + 1 => by
    unfold subsN
    rw [List.length_append, List.length_map, subsN_len n, Nat.pow_succ]
    omega
theorem nodup_at {α : Type} {l : List α} {x : α} {i j : Nat} (nd : l.Nodup) (h1 : l[i]? = some x) (h2 : l[j]? = some x) : i = j := by
  obtain ⟨a1, b1⟩ := List.getElem?_eq_some_iff.mp h1
  obtain ⟨a2, b2⟩ := List.getElem?_eq_some_iff.mp h2
  rcases Nat.lt_trichotomy i j with h | h | h
  · exact absurd (b1.trans b2.symm) (List.pairwise_iff_getElem.mp nd i j a1 a2 h)
  · exact h
  · exact absurd (b2.trans b1.symm) (List.pairwise_iff_getElem.mp nd j i a2 a1 h)
/-- a key has one word -/
theorem key_word {m : Wm} {i j : Nat} {p q : List Nat × List Nat} (nd : (m.map (·.1)).Nodup) (h1 : m[i]? = some p) (h2 : m[j]? = some q) (e : p.1 = q.1) : p = q := by
  have z1 : (m.map (·.1))[i]? = some p.1 := by rw [List.getElem?_map, h1]; rfl
  have z2 : (m.map (·.1))[j]? = some p.1 := by rw [List.getElem?_map, h2, e]; rfl
  have := nodup_at nd z1 z2
  subst this
  rw [h1] at h2
  exact Option.some.inj h2
theorem key_mem {m : Wm} {i : Nat} {p : List Nat × List Nat} (h : m[i]? = some p) : p.1 ∈ m.map (·.1) := List.mem_map_of_mem (List.mem_of_getElem? h)
end G
set_option Elab.async false
set_option linter.all false
set_option maxRecDepth 100000
set_option maxHeartbeats 4000000
namespace G
open PySem PySem.Spec PyProof.Rows L2
/-! a tuple that is known to be plain: methods may be asked of it -/
def PlT (H : Hp) (p : Addr) (xs : List V) : Prop := ∃ ob : Obj, H p = some (.frz ob (.tup xs)) ∧ ob.cls = .type "tuple" ∧ ob.dict = none
theorem PlT.k {H H' : Hp} {p : Addr} {xs : List V} (h : PlT H p xs) (e : Same H H') : PlT H' p xs := by
  obtain ⟨ob, h1, h2⟩ := h
  exact ⟨ob, e _ _ h1, h2⟩
theorem PlT.sq {K : PySem.W.Frag} {H : Hp} {p : Addr} {xs : List V} (h : PlT H p xs) : SqT K H p xs := by
  obtain ⟨ob, h1, _⟩ := h
  exact .inl (.inr ⟨ob, h1⟩)
def rTupZ (K : PySem.W.Frag) : List V → Hp → VK → Prop := fun xs H Q => ∃ p ys, xs = [.ref p] ∧ SqL K H p ys ∧ ∀ l G, Same H G → PlT G l ys → Q (.ref l) G
def tBMZ (r : V → List V → Hp → VK → Prop) (to : TE) (t : TA) : TE := fun σ H Q => to σ H fun x H1 => (∃ p xs, x = .ref p ∧ PlT H1 p xs) ∧ t σ H1 fun xs H2 => r x xs H2 Q
section
variable {X : Cx} {K : PySem.W.Frag}
theorem call_tupZ (hK : X.K = K) : CallR X (.type "tuple") (rTupZ K) := by
  subst hK
  rintro pins s σ H xs us Q I rs ⟨p, ys, rfl, hs, key⟩
  obtain ⟨u, rfl, rx⟩ := vals1 rs
  cases rx
  obtain ⟨its, rv, pl, hz⟩ := I.list hs
  have hsz : its.length = ys.length := rv.length.symm
  refine call_tuple_list pl.isList (fun g kp => ?_) (by rw [List.size_toArray, hsz]; omega)
  have I1 : Inv X pins σ H { s with heap := g } := I.kept (t' := s.toks) kp
  have hfree := I1.hok.fresh (Nat.le_refl g.objs.size)
  have gnew : (g.push { cls := .type "tuple", data := .seq its.toArray }).get? g.objs.size = some { cls := .type "tuple", data := .seq its.toArray } := Heap.get?_push_size _ rfl
  refine ⟨.ref g.objs.size, upd H g.objs.size (.frz { cls := .type "tuple", data := .seq its.toArray } (.tup ys)), ?_, rfl, key _ _ (same_new hfree) ⟨_, upd_same, rfl, rfl⟩⟩
  exact I1.laid (t' := s.toks) (fun b o e => Heap.get?_push_of_some _ e) (Nat.le_refl _) ⟨gnew, hz, its, rv, IsTup.new _ _⟩
variable {o e : Expr} {es : List Expr} {to : TE} {t : TA} {name : Str} {apos cpos : Pos} {id : String} {r : V → List V → Hp → VK → Prop}
theorem pe_bmZ (pa : PlainAttrs "tuple") (slot : Slot "tuple" name id) (hty : typeOf (.builtin id) = pure (.type "method_descriptor")) (hm : MtR X id r) (ho : PE X o to) (ha : PA X (e :: es) t)
    (h1 : attributeBase o name X.env (eval o X.env) = eval o X.env := by rfl)
    (h2 : ((backTo cpos (starEach (e :: es) X.env)).all (fun x => !x.1) && (backToKw cpos (keywordEach [] X.env)).all (fun x => x.1.isSome) && decide ((e :: es).length + ([] : List Keyword).length + (if ([] : List Keyword).isEmpty then 0 else 1) < 30)) = true := by rfl)
    (h3 : (apos.endLine == cpos.line) = true := by rfl) (h4 : starEach (e :: es) X.env = (false, eval e X.env) :: starEach es X.env := by rfl) (h5 : (backTo cpos (starEach es X.env)).any (·.1) = false := by rfl) :
    PE X (.Call (.Attribute o name apos) (e :: es) [] cpos) (tBMZ r to t) := by
  constructor
  intro pins s σ H Q I h
  refine wpAny_Call_method_late h1 h2 h3 rfl (thn (ho.run pins s σ H _ I h) fun v s1 ⟨x, H1, I1, r1, hx, q1⟩ => ?_)
  obtain ⟨p, ys, rfl, ob, hp, hc, hd⟩ := hx
  cases r1
  have hg : s1.heap.get? p = some ob := (I1.hok p _ hp).1
  have hA := ha.run cpos pins s1 σ H1 _ I1 q1
  refine ⟨"tuple", id, pa, slot, hty, ⟨ob, hg, hc⟩, fun a e => by cases e; exact ⟨ob, hg, hd⟩, ?_⟩
  rw [h4] at hA ⊢
  exact Calls.callWith_builtin (by show (false || (backTo cpos (starEach es X.env)).any (·.1)) = false; rw [h5] <;> rfl)
    (Calls.evalArgs_plain (thn hA fun us s2 ⟨vs, H2, I2, r2, q2⟩ => hm pins s2 σ H2 (.ref p) vs _ us Q I2 rfl r2 q2))
theorem r_tupZ {H : Hp} {Q : VK} {p : Addr} {ys : List V} (h : SqL K H p ys) (q : ∀ l G, Same H G → PlT G l ys → Q (.ref l) G) : rTupZ K [.ref p] H Q := ⟨p, ys, rfl, h, q⟩
theorem r_bmZ {σ : L2.St} {H : Hp} {Q : VK} {to : TE} {t : TA} {r : V → List V → Hp → VK → Prop} (h : to σ H fun x H1 => (∃ p xs, x = .ref p ∧ PlT H1 p xs) ∧ t σ H1 fun xs H2 => r x xs H2 Q) : tBMZ r to t σ H Q := h
end
end G
set_option Elab.async false
set_option linter.all false
set_option maxRecDepth 100000
set_option maxHeartbeats 4000000
namespace G
open PySem PySem.Spec PyProof.Rows L2
/-! ### rows as keys that stay known as plain tuples: dicts with nested keys -/
def rowK (r : List Nat) : NestedKey := .tup (r.map fun n : Nat => NestedKey.num (n : Int))
theorem rowK_inj {a b : List Nat} (h : rowK a = rowK b) : a = b := by
  have h1 : (a.map fun n : Nat => NestedKey.num (n : Int)) = b.map fun n : Nat => NestedKey.num (n : Int) := by
    injection h
  clear h
  induction a generalizing b with
  | nil => cases b with
    | nil => rfl
    | cons y b => exact nomatch h1
  | cons x a ih => cases b with
    | nil => exact nomatch h1
    | cons y b =>
      rw [List.map_cons, List.map_cons] at h1
      injection h1 with h2 h3
      injection h2 with h4
      rw [ih h3, Int.ofNat.inj h4]
theorem dn_row {K : PySem.W.Frag} {H : Hp} {b : Addr} {r : List Nat} (h : SqT K H b (r.map iV)) : Dn K H (.ref b) (rowK r) := by
  refine .tup h ?_
  clear h
  induction r with
  | nil => exact .nil
  | cons x r ih => exact .cons (.int _) ih
theorem rowK_depth (r : List Nat) : (rowK r).depth ≤ 8 := by
  have h : NestedKey.depthAll (r.map fun n : Nat => NestedKey.num (n : Int)) = 0 := by
    induction r with
    | nil => rfl
    | cons x r ih =>
      rw [List.map_cons]
      show max 0 (NestedKey.depthAll _) = 0
      rw [ih]
      rfl
  show NestedKey.depthAll _ + 1 ≤ 8
  rw [h]
  decide
def NLs (qs : List (Addr × List Nat)) : NL := qs.map fun q => (rowK q.2, q.1, V.bl true)
theorem NLs_len (qs : List (Addr × List Nat)) : (NLs qs).length = qs.length := List.length_map _
def PlR (H : Hp) (qs : List (Addr × List Nat)) : Prop := ∀ q ∈ qs, PlT H q.1 (q.2.map iV)
theorem PlR.k {H H' : Hp} {qs : List (Addr × List Nat)} (h : PlR H qs) (e : Same H H') : PlR H' qs := fun q hq => (h q hq).k e
theorem PlR.sq {K : PySem.W.Frag} {H : Hp} {qs : List (Addr × List Nat)} (h : PlR H qs) : ∀ q ∈ qs, SqT K H q.1 (q.2.map iV) := fun q hq => (h q hq).sq
theorem PlR.snoc {H : Hp} {qs : List (Addr × List Nat)} {t : Addr} {r : List Nat} (h : PlR H qs) (ht : PlT H t (r.map iV)) : PlR H (qs ++ [(t, r)]) := fun q hq => by
  rcases List.mem_append.mp hq with hq | hq
  · exact h q hq
  · rw [List.mem_singleton.mp hq]
    exact ht
/-- a plain tuple is none of the lists and dicts that change -/
theorem PlT.put {H : Hp} {p c : Addr} {xs : List V} {o : HO} {u : HO} (h : PlT H p xs) (hc : H c = some u) (hu : ∀ ob, u ≠ .frz ob (.tup xs)) : PlT (upd H c o) p xs := by
  obtain ⟨ob, h1, h2⟩ := h
  refine ⟨ob, ?_, h2⟩
  rw [upd_ne (fun e => by rw [e, hc] at h1; exact hu ob (Option.some.inj h1))]
  exact h1
theorem PlR.put {H : Hp} {c : Addr} {qs : List (Addr × List Nat)} {o : HO} {u : HO} (h : PlR H qs) (hc : H c = some u) (hu : ∀ ob xs, u ≠ .frz ob (.tup xs)) : PlR (upd H c o) qs := fun q hq => (h q hq).put hc fun ob => hu ob _
theorem keysR {K : PySem.W.Frag} {H : Hp} {qs : List (Addr × List Nat)} (h : ∀ q ∈ qs, SqT K H q.1 (q.2.map iV)) : KeysN K H (NLs qs) := fun p hp => by
  obtain ⟨q, hq, rfl⟩ := List.mem_map.mp hp
  exact ⟨dn_row (h q hq), rowK_depth _⟩
theorem val_in {qs : List (Addr × List Nat)} {r : List Nat} (h : r ∈ qs.map (·.2)) : (valN (NLs qs) (rowK r)).isSome = true := by
  unfold valN atN
  rw [Option.isSome_map, Option.isSome_map, List.find?_isSome]
  obtain ⟨q, hq, rfl⟩ := List.mem_map.mp h
  exact ⟨(rowK q.2, q.1, V.bl true), List.mem_map_of_mem hq, decide_eq_true rfl⟩
theorem at_out {qs : List (Addr × List Nat)} {r : List Nat} (h : r ∉ qs.map (·.2)) : atN (NLs qs) (rowK r) = none := by
  unfold atN
  rw [Option.map_eq_none_iff, List.find?_eq_none]
  intro x hx e
  obtain ⟨q, hq, rfl⟩ := List.mem_map.mp hx
  have e2 := rowK_inj (of_decide_eq_true e)
  rw [← e2] at h
  exact h (List.mem_map_of_mem hq)
theorem val_out {qs : List (Addr × List Nat)} {r : List Nat} (h : r ∉ qs.map (·.2)) : (valN (NLs qs) (rowK r)).isSome = false := by
  unfold valN
  rw [at_out h]
  rfl
theorem put_R {qs : List (Addr × List Nat)} {r : List Nat} {b : Addr} (h : r ∉ qs.map (·.2)) : putNd (NLs qs) (rowK r) b (.bl true) = NLs (qs ++ [(b, r)]) := by
  unfold putNd
  rw [at_out h]
  show NLs qs ++ [(rowK r, b, V.bl true)] = _
  unfold NLs
  rw [List.map_append]
  rfl
/-! the readings -/
section
variable {K : PySem.W.Frag} {P : Program} {w : World} {H : Hp} {Q : VK} {σ : L2.St} {D : Ends} {td ty tv : TE}
open Classical in
theorem r_ninR {d b : Addr} {qs : List (Addr × List Nat)} {r : List Nat} (h : H d = some (NDO P w d (NLs qs))) (hq : ∀ q ∈ qs, SqT K H q.1 (q.2.map iV)) (hb : SqT K H b (r.map iV)) (q : Q (.bl (decide (r ∉ qs.map (·.2)))) H) : NAt K P w (.ref d) (.ref b) H fun L k => Q (.bl (if true = true then !(valN L k).isSome else (valN L k).isSome)) H := by
  refine ⟨d, b, rowK r, NLs qs, rfl, rfl, .inl h, keysR hq, dn_row hb, rowK_depth _, ?_⟩
  show Q (.bl (!(valN (NLs qs) (rowK r)).isSome)) H
  by_cases e : r ∈ qs.map (·.2)
  · rw [val_in e]
    rw [decide_eq_false (fun z => z e)] at q
    exact q
  · rw [val_out e]
    rw [decide_eq_true e] at q
    exact q
open Classical in
theorem r_ninT {C : Bool → Prop} {d b : Addr} {qs : List (Addr × List Nat)} {r : List Nat} (h : H d = some (NDO P w d (NLs qs))) (hq : ∀ q ∈ qs, SqT K H q.1 (q.2.map iV)) (hb : SqT K H b (r.map iV)) (q : C (decide (r ∉ qs.map (·.2)))) : NAt K P w (.ref d) (.ref b) H fun L k => ∃ k1, V.bl (if true = true then !(valN L k).isSome else (valN L k).isSome) = V.bl k1 ∧ C k1 :=
  r_ninR (Q := fun v _ => ∃ k1, v = V.bl k1 ∧ C k1) h hq hb ⟨_, rfl, q⟩
theorem r_nputR {d b : Addr} {qs : List (Addr × List Nat)} {r : List Nat} (h : H d = some (NDO P w d (NLs qs))) (hq : ∀ q ∈ qs, SqT K H q.1 (q.2.map iV)) (hb : SqT K H b (r.map iV)) (hr : r ∉ qs.map (·.2)) (hl : qs.length < sizeLine) (q : D.nx σ (upd H d (NDO P w d (NLs (qs ++ [(b, r)]))))) :
    ∃ (d' b' : Addr) (k : NestedKey) (L : NL), V.ref d = .ref d' ∧ V.ref b = .ref b' ∧ H d' = some (NDO P w d' L) ∧ KeysN K H L ∧ Dn K H (.ref b') k ∧ k.depth ≤ 8 ∧ L.length < sizeLine ∧ D.nx σ (upd H d' (NDO P w d' (putNd L k b' (.bl true)))) := by
  refine ⟨d, b, rowK r, NLs qs, rfl, rfl, h, keysR hq, dn_row hb, rowK_depth _, by rw [NLs_len]; exact hl, ?_⟩
  rw [put_R hr]
  exact q
end
theorem r_nin {K : PySem.W.Frag} {P : Program} {w : World} {neg : Bool} {ty td : TE} {σ : L2.St} {H : Hp} {Q : VK} (h : ty σ H fun y H1 => td σ H1 fun x H2 => NAt K P w x y H2 fun L k => Q (.bl (if neg = true then !(valN L k).isSome else (valN L k).isSome)) H2) : tNIn K P w neg ty td σ H Q := h
theorem r_nput {K : PySem.W.Frag} {P : Program} {w : World} {td ty tv : TE} {D : Ends} {σ : L2.St} {H : Hp} (h : tv σ H fun v H1 => td σ H1 fun x H2 => ty σ H2 fun y H3 =>
  ∃ (d b : Addr) (k : NestedKey) (L : NL), x = .ref d ∧ y = .ref b ∧ H3 d = some (NDO P w d L) ∧ KeysN K H3 L ∧ Dn K H3 (.ref b) k ∧ k.depth ≤ 8 ∧ L.length < sizeLine ∧ D.nx σ (upd H3 d (NDO P w d (putNd L k b v)))) : sNPut K P w td ty tv D σ H := h
/-- {t: True}, t a row -/
def tDispZ (K : PySem.W.Frag) (P : Program) (w : World) (tk tv : TE) : TE := fun σ H Q => ∀ p, H p = none → tk σ (upd H p (NDO P w p [])) fun x H1 => tv σ H1 fun y H2 => ∃ b r, x = .ref b ∧ SqT K H2 b ((r : List Nat).map iV) ∧ H2 p = some (NDO P w p []) ∧ y = .bl true ∧ Q (.ref p) (upd H2 p (NDO P w p (NLs [(b, r)])))
theorem r_dispZ {K : PySem.W.Frag} {P : Program} {w : World} {tk tv : TE} {σ : L2.St} {H : Hp} {Q : VK} (h : ∀ p, H p = none → tk σ (upd H p (NDO P w p [])) fun x H1 => tv σ H1 fun y H2 => ∃ b r, x = .ref b ∧ SqT K H2 b ((r : List Nat).map iV) ∧ H2 p = some (NDO P w p []) ∧ y = .bl true ∧ Q (.ref p) (upd H2 p (NDO P w p (NLs [(b, r)])))) : tDispZ K P w tk tv σ H Q := h
/-- list(d) -/
def rListZ (P : Program) (w : World) : List V → Hp → VK → Prop := fun xs H Q => ∃ (d : Addr) (qs : List (Addr × List Nat)), xs = [V.ref d] ∧ H d = some (NDO P w d (NLs qs)) ∧ ∀ p, H p = none → Q (.ref p) (upd H p (.lst (refsV qs)))
theorem r_listZ {P : Program} {w : World} {H : Hp} {Q : VK} {d : Addr} {qs : List (Addr × List Nat)} (h : H d = some (NDO P w d (NLs qs))) (q : ∀ p, H p = none → Q (.ref p) (upd H p (.lst (refsV qs)))) : rListZ P w [.ref d] H Q := ⟨d, qs, rfl, h, q⟩
/-- tuple(range(n)), known as plain -/
def tTupRgZ (te : L2.St → Hp → (Int → Int → Hp → Prop) → Prop) : TE := fun σ H Q => te σ H fun a b H1 => RgOk a b ∧ ∀ q G, Same H1 G → PlT G q (rgV a b) → Q (.ref q) G
theorem r_tupRgZ {n : Nat} {te : TE} {σ : L2.St} {H : Hp} {Q : VK} (h1 : n ≤ 16777216) (q : ∀ p G, Same H G → PlT G p ((List.range n).map iV) → Q (.ref p) G) (h : ∀ R : VK, R (iV n) H → te σ H R) : tTupRgZ (tRg1 te) σ H Q := by
  refine h _ ⟨(n : Int), rfl, RgOk.of_le (Int.le_refl _) (by omega) (by decide) (by omega), fun p G s hp => ?_⟩
  rw [rg_nat] at hp
  exact q p G s hp
section
variable {X : Cx} {K : PySem.W.Frag} {P : Program} {w : World}
theorem pe_dispZ {k v : Expr} {tk tv : TE} {pos : Pos} (eK : X.K = K) (eP : X.prog = P) (ew : X.w = w) (hu : X.A.units + 64 < cLine) (hk : PE X k tk) (hv : PE X v tv) : PE X (.Dict [some k] [v] pos) (tDispZ K P w tk tv) := by
  subst eK eP ew
  constructor
  intro pins s σ H Q I q
  have hn := I.hok.fresh (Nat.le_refl s.heap.objs.size)
  have I1 := I.laid (a := s.heap.objs.size) (o := NDO X.prog X.w s.heap.objs.size []) (h' := s.heap.push { cls := .type "dict", data := .dict #[] }) (t' := s.toks) (fun _ _ e => Heap.get?_push_of_some _ e) (Nat.le_refl _) (nd_empty s.heap I.big)
  rw [arm_eval_Dict, zip_pairTrees [some k] [v] X.env pos rfl rfl, dictDisplay_pairs (pairTrees [some k] [v] X.env pos) (by simp [pairTrees]) (by simp [pairTrees])]
  refine wpAny_bind (wpAny_standAt (wpAny_bind ?_))
  refine wpAny_subDictH (knd := nestedKind X.prog X.w) (Q := fun d s' => wpAny (model X.prog X.w) X.A (pure (Value.ref d)) (EP X pins σ Q) X.xe s') (show X.A.units + 8 < cLine by omega) (by simp [pairTrees]) ?_
  refine pairTrees_cons_walk (thn (hk.run pins _ σ _ _ I1 (q _ hn)) fun u s1 ⟨x, H1, I2, rx, q1⟩ => thn (hv.run pins s1 σ H1 _ I2 q1) fun w2 s2 ⟨y, H2, I3, ry, b, r, ex, hb, hp, ey, q2⟩ => pairTrees_nil_walk ?_)
  subst ex ey
  cases rx
  obtain ⟨z, hd, xs, rel, dd⟩ := nd_dict I3 (.inl hp) fun p hp => (nomatch hp)
  cases rel
  refine ⟨[(rowK r, b, w2)], ⟨rfl, rfl, nd_key I3 (dn_row hb) (rowK_depth r), trivial⟩, dd, fun h' tk dd' hs => wpAny_pure ?_⟩
  obtain ⟨ob, es, ep, hq, h2, h3, h4, _, h5⟩ := dd'
  have I4 := d_write (t' := tk) (ob := NDO X.prog X.w s.heap.objs.size (NLs [(b, r)])) I3 (nd_mut hp) hs ⟨ob, hq⟩ (ndo_new ⟨by show 1 ≤ sizeLine; decide, hd, [(rowK r, b, w2)], .cons ⟨rfl, rfl, ry⟩ .nil, ob, es, ep, hq, h2, h3, h4, h5⟩)
  exact ⟨.ref _, _, I4, rfl, q2⟩
theorem pe_ninK {op : CmpOp} {i o : Expr} {ty td : TE} {neg : Bool} (eK : X.K = K) (eP : X.prog = P) (ew : X.w = w) (hop : op = if neg = true then .NotIn else .In) (hu : X.A.units + 64 < cLine) (hi : PE X i ty) (ho : PE X o td) : PC X op i o (tNIn K P w neg ty td) := by
  subst eK eP ew
  exact pe_nin hop hu hi ho
theorem ps_nputK {o i value : Expr} {pos pos' : Pos} {td ty tv : TE} (eK : X.K = K) (eP : X.prog = P) (ew : X.w = w) (hu : X.A.units + 64 < cLine) (ho : PE X o td) (hi : PE X i ty) (hv : PE X value tv) (hs : swapsWith value (some (.Subscript o i pos')) pos.line X.env = pure false) :
    PS X (.Assign [.Subscript o i pos'] value pos) (sNPut K P w td ty tv) := by
  subst eK eP ew
  exact ps_nput hu ho hi hv hs
theorem call_listZ (hc : X.calm = true) (eP : X.prog = P) (ew : X.w = w) : CallR X (.type "list") (rListZ P w) := by
  subst eP ew
  intro pins s σ H xs us Q I r h
  obtain ⟨d, qs, rfl, hd, q⟩ := h
  obtain ⟨u, rfl, rx⟩ := vals1 r
  cases rx
  obtain ⟨z, hs, ks, pr, o, es, ep, ho, hx, hdt, he, hn⟩ := nd_of I (.inl hd)
  have l1 : es.size = ks.length := size_of_entries he
  have l2 : (NLs qs).length = ks.length := Paired.length pr
  have l3 := NLs_len qs
  refine PySem.W.kdl_call (kdl_raw hs hx hdt) (I.ok.hd hc) ho (by omega) fun h' tk acc' c' kp e it => ?_
  have ea : acc'.toList = (qs.map (·.1)).map Value.ref := by
    have hl : acc'.toList.length = ks.length := by rw [Array.length_toList, it.1]; exact l1
    apply List.ext_getElem?
    intro j
    rw [List.getElem?_map, List.getElem?_map]
    cases hj : acc'.toList[j]? with
    | none =>
      have h1 := List.getElem?_eq_none_iff.mp hj
      rw [List.getElem?_eq_none (by omega)]
      rfl
    | some v =>
      obtain ⟨en, hen, hv⟩ := it.2 j v (by rw [← Array.getElem?_toList]; exact hj)
      have hjl := (List.getElem?_eq_some_iff.mp hj).1
      have hq : qs[j]? = some qs[j] := List.getElem?_eq_getElem (by omega)
      have hL : (NLs qs)[j]? = some (rowK qs[j].2, qs[j].1, V.bl true) := by
        unfold NLs
        rw [List.getElem?_map, hq]
        rfl
      obtain ⟨b, hb, e1, e2, _⟩ := paired_getN pr hL
      have qe := entry_at he j
      rw [hen, hb] at qe
      rw [hq, hv, Option.some.inj qe]
      show some (Value.ref b.2.1) = some (Value.ref qs[j].1)
      rw [← e2]
  have rv : Vals (refsV qs) acc'.toList := by
    rw [ea]
    have : refsV qs = (qs.map (·.1)).map V.ref := by unfold refsV; rw [List.map_map]; rfl
    rw [this]
    exact vals_refs _
  have hz : (refsV qs).length ≤ sizeLine := by
    show (qs.map _).length ≤ _
    rw [List.length_map]
    omega
  refine ⟨.ref s.heap.objs.size, _, I.laid (t' := tk) (o := .lst (refsV qs)) kp (Nat.le_refl _) ?_, rfl, q _ (I.hok.fresh (Nat.le_refl _))⟩
  exact ⟨hz, acc'.toList, c', rv, by rw [Array.toArray_toList]; exact e⟩
theorem pe_tupRgZ {e : Expr} {te : L2.St → Hp → (Int → Int → Hp → Prop) → Prop} {p pos : Pos} (hc : X.calm = true) (hg : Gl X "tuple") (hm : X.mg "tuple" = none) (he : PRg X e te) (na : starEach [e] X.env = (false, eval e X.env) :: starEach [] X.env := by rfl) : PE X (.Call (.Name "tuple" p) [e] [] pos) (tTupRgZ te) := by
  refine ⟨fun pins s σ H Q I h => ?_⟩
  refine Call_ (ld_blt I hg hm boot_tuple (PyProof.Rows.callWith_type1 (args_cons (thn (he pins s σ H _ I h) fun x s1 ⟨r, a, b, t, u, v, H1, ex, hr, I1, ok, q⟩ => args_nil ?_) na) na))
  subst ex
  obtain ⟨b1, b2, b3, b4, b5⟩ := ok
  refine call_tuple_range (n := (b - a).toNat) (I1.ok.hd hc) hr (small_one b1 b2 b3 b4) (rangeSize_nat a b) b5 fun h' tk acc hk hi => ?_
  have I2 : Inv X pins σ H1 { s1 with heap := h', toks := tk } := I1.kept hk
  have hfree := I2.hok.fresh (Nat.le_refl h'.objs.size)
  have gnew : (h'.push { cls := .type "tuple", data := .seq acc }).get? h'.objs.size = some { cls := .type "tuple", data := .seq acc } := Heap.get?_push_size _ rfl
  refine ⟨.ref h'.objs.size, upd H1 h'.objs.size (.frz { cls := .type "tuple", data := .seq acc } (.tup (rgV a b))), I2.laid (t' := tk) (fun c o e => Heap.get?_push_of_some _ e) (Nat.le_refl _) ⟨gnew, ?_, acc.toList, vals_rg hi, ?_⟩, rfl, q _ _ (same_new hfree) ⟨_, upd_same, rfl, rfl⟩⟩
  · rw [rgV_length, sizeLine_eq]; omega
  · rw [Array.toArray_toList]; exact IsTup.new _ _
end
end G
set_option Elab.async false
set_option linter.all false
set_option maxRecDepth 100000
set_option maxHeartbeats 4000000
namespace G
open PySem PySem.Spec PyProof.Rows L2
/-! ### places of three kinds, each told by a row of numbers: a number, a text, a row; dicts whose keys are such -/
inductive Kd where
  | i | s | r
def PlV (kd : Kd) (H : Hp) (v : V) (p : List Nat) : Prop := match kd with
  | .i => ∃ z, p = [z] ∧ v = iV z
  | .s => v = sV p
  | .r => ∃ b, v = .ref b ∧ H b = some (.tup (p.map iV))
theorem PlV.k {kd : Kd} {H H' : Hp} {v : V} {p : List Nat} (h : PlV kd H v p) (e : ∀ b xs, H b = some (.tup xs) → H' b = some (.tup xs)) : PlV kd H' v p := by
  cases kd with
  | i => exact h
  | s => exact h
  | r =>
    obtain ⟨b, e1, e2⟩ := h
    exact ⟨b, e1, e _ _ e2⟩
theorem PlV.same {kd : Kd} {H H' : Hp} {v : V} {p : List Nat} (h : PlV kd H v p) (s : Same H H') : PlV kd H' v p := h.k fun b _ e => s b _ e
theorem PlV.ne {kd : Kd} {H : Hp} {v : V} {p : List Nat} (h : PlV kd H v p) : v ≠ .non := by
  cases kd with
  | i =>
    obtain ⟨z, _, rfl⟩ := h
    exact fun e => nomatch e
  | s =>
    obtain rfl : v = sV p := h
    exact fun e => nomatch e
  | r =>
    obtain ⟨b, rfl, _⟩ := h
    exact fun e => nomatch e
def okP (kd : Kd) (p : List Nat) : Prop := kd = .i → ∃ z, p = [z]
theorem PlV.ok {kd : Kd} {H : Hp} {v : V} {p : List Nat} (h : PlV kd H v p) : okP kd p := fun e => by
  subst e
  obtain ⟨z, e, _⟩ := h
  exact ⟨z, e⟩
abbrev Pd := List (List Nat × V)
def kI (p : List Nat) : Key := .inl ((p.getD 0 0 : Nat) : Int)
def kS (p : List Nat) : Key := .inr ⟨p.toArray⟩
/-- such a dict -/
def dO (kd : Kd) (m : Pd) : HO := match kd with
  | .i => .dK (m.map fun p => (kI p.1, p.2))
  | .s => .dK (m.map fun p => (kS p.1, p.2))
  | .r => .dT (m.map fun p => (kN p.1, p.2))
theorem dO_nt {kd : Kd} {m : Pd} (xs : List V) : dO kd m ≠ .tup xs := by cases kd <;> exact fun z => nomatch z
theorem dO_nl {kd : Kd} {m : Pd} (xs : List V) : dO kd m ≠ .lst xs := by cases kd <;> exact fun z => nomatch z
theorem dO_nb {kd : Kd} {m : Pd} (ps : Array Value) : dO kd m ≠ .tbl ps := by cases kd <;> exact fun z => nomatch z
theorem dO_ne {kd : Kd} {m : Pd} (φ : Heap → Prop) : dO kd m ≠ .ext φ := by cases kd <;> exact fun z => nomatch z
def lkP (m : Pd) (p : List Nat) : Option V := (m.find? fun q => decide (q.1 = p)).map (·.2)
theorem lkP_out {m : Pd} {p : List Nat} (h : p ∉ m.map (·.1)) : lkP m p = none := by
  unfold lkP
  rw [List.find?_eq_none.mpr fun q hq => by rw [decide_eq_true_eq]; exact fun e => h (by rw [← e]; exact List.mem_map_of_mem hq)]
  rfl
theorem lkP_in : ∀ {m : Pd} {i : Nat} {q : List Nat × V}, (m.map (·.1)).Nodup → m[i]? = some q → lkP m q.1 = some q.2
  | [], _, _, _, h => nomatch h
  | x :: m, 0, q, _, h => by
    obtain rfl : x = q := Option.some.inj h
    show Option.map _ (List.find? _ (x :: m)) = _
    rw [List.find?_cons_of_pos (by exact decide_eq_true rfl)]
    rfl
  | x :: m, i + 1, q, nd, h => by
    have h : m[i]? = some q := h
    obtain ⟨n1, n2⟩ := List.nodup_cons.mp (show (x.1 :: m.map (·.1)).Nodup from nd)
    have ne : x.1 ≠ q.1 := fun e => n1 (by rw [e]; exact List.mem_map_of_mem (List.mem_of_getElem? h))
    have ih := lkP_in (i := i) n2 h
    unfold lkP at ih ⊢
    rw [List.find?_cons_of_neg (by rw [decide_eq_true_eq]; exact ne)]
    exact ih
theorem lkP_mem {m : Pd} {p : List Nat} (nd : (m.map (·.1)).Nodup) (h : p ∈ m.map (·.1)) : ∃ v, lkP m p = some v ∧ (p, v) ∈ m := by
  obtain ⟨q, hq, rfl⟩ := List.mem_map.mp h
  obtain ⟨i, hi⟩ := List.mem_iff_getElem?.mp hq
  exact ⟨q.2, lkP_in nd hi, hq⟩
section
variable {κ : Type} [DecidableEq κ] {f : List Nat → κ}
theorem valV_f {m : Pd} {p : List Nat} (inj : ∀ q ∈ m, f q.1 = f p → q.1 = p) : valV (m.map fun q => (f q.1, q.2)) (f p) = lkP m p := by
  induction m with
  | nil => rfl
  | cons x m ih =>
    have ih := ih fun q hq => inj q (List.mem_cons_of_mem _ hq)
    rw [List.map_cons]
    by_cases e : x.1 = p
    · rw [valV_pos (congrArg f e)]
      show some x.2 = Option.map _ (List.find? _ (x :: m))
      rw [List.find?_cons_of_pos (by exact decide_eq_true e)]
      rfl
    · rw [valV_neg fun z => e (inj x List.mem_cons_self z), ih]
      unfold lkP
      rw [List.find?_cons_of_neg (by rw [decide_eq_true_eq]; exact e)]
theorem putK_f {m : Pd} {p : List Nat} {v : V} (inj : ∀ q ∈ m, f q.1 = f p → q.1 = p) (h : p ∉ m.map (·.1)) : putK (m.map fun q => (f q.1, q.2)) (f p) v = (m ++ [(p, v)]).map fun q => (f q.1, q.2) := by
  have : ((m.map fun q => (f q.1, q.2)).any fun kv => decide (kv.1 = f p)) = false := by
    rw [valV_any, valV_f inj, lkP_out h]
    rfl
  unfold putK
  rw [if_neg (by rw [this]; exact Bool.false_ne_true), List.map_append]
  rfl
end
theorem kI_inj {p q : List Nat} (hp : ∃ z, p = [z]) (hq : ∃ z, q = [z]) (e : kI q = kI p) : q = p := by
  obtain ⟨z, rfl⟩ := hp
  obtain ⟨y, rfl⟩ := hq
  have e : ((y : Nat) : Int) = ((z : Nat) : Int) := Sum.inl.inj e
  rw [show y = z by omega]
theorem kS_inj {p q : List Nat} (e : kS q = kS p) : q = p := by
  have e := Sum.inr.inj e
  injection e with e
  have := congrArg Array.toList e
  simpa using this
section
variable {kd : Kd} {H : Hp} {d : Addr} {m : Pd} {v z : V} {p : List Nat}
theorem dget_kd (h : H d = some (dO kd m)) (hv : PlV kd H v p) (hk : ∀ q ∈ m, okP kd q.1) : DGet H d v (lkP m p) := by
  cases kd with
  | i =>
    obtain ⟨y, rfl, rfl⟩ := hv
    have := DGet.k (k := kI [y]) (show H d = some (.dK (m.map fun q => (kI q.1, q.2))) from h)
    rw [valV_f (f := kI) fun q hq e => kI_inj ⟨y, rfl⟩ (hk q hq rfl) e] at this
    exact this
  | s =>
    obtain rfl : v = sV p := hv
    have := DGet.k (k := kS p) (show H d = some (.dK (m.map fun q => (kS q.1, q.2))) from h)
    rw [valV_f (f := kS) fun q hq e => kS_inj e] at this
    exact this
  | r =>
    obtain ⟨b, rfl, hb⟩ := hv
    rw [← kN_row] at hb
    have := DGet.t (k := kN p) (show H d = some (.dT (m.map fun q => (kN q.1, q.2))) from h) hb
    rw [valV_f (f := kN) fun q hq e => kN_inj e] at this
    exact this
theorem dput_kd (h : H d = some (dO kd m)) (hv : PlV kd H v p) (hk : ∀ q ∈ m, okP kd q.1) (hp : p ∉ m.map (·.1)) (hl : m.length < sizeLine) : DPut H d v z (upd H d (dO kd (m ++ [(p, z)]))) := by
  cases kd with
  | i =>
    obtain ⟨y, rfl, rfl⟩ := hv
    have := DPut.k (k := kI [y]) (v := z) (show H d = some (.dK (m.map fun q => (kI q.1, q.2))) from h) (by rw [List.length_map]; exact hl)
    rw [putK_f (f := kI) (fun q hq e => kI_inj ⟨y, rfl⟩ (hk q hq rfl) e) hp] at this
    exact this
  | s =>
    obtain rfl : v = sV p := hv
    have := DPut.k (k := kS p) (v := z) (show H d = some (.dK (m.map fun q => (kS q.1, q.2))) from h) (by rw [List.length_map]; exact hl)
    rw [putK_f (f := kS) (fun q hq e => kS_inj e) hp] at this
    exact this
  | r =>
    obtain ⟨b, rfl, hb⟩ := hv
    rw [← kN_row] at hb
    have := DPut.t (k := kN p) (v := z) (show H d = some (.dT (m.map fun q => (kN q.1, q.2))) from h) hb (by rw [List.length_map]; exact hl)
    rw [putK_f (f := kN) (fun q hq e => kN_inj e) hp] at this
    exact this
end
def eScopeD : Expr → Scope | .DictComp _ _ _ sc _ => sc | _ => { kind := .function, names := [], isGenerator := false, isCoroutine := false }
/-! either of two readings -/
def tEither (t1 t2 : TE) : TE := fun σ H Q => t1 σ H Q ∨ t2 σ H Q
theorem pe_either {X : Cx} {e : Expr} {t1 t2 : TE} (h1 : PE X e t1) (h2 : PE X e t2) : PE X e (tEither t1 t2) := ⟨fun pins s σ H Q I h => h.elim (h1.run pins s σ H Q I) (h2.run pins s σ H Q I)⟩
theorem pe_dispE {X : Cx} {k v : Expr} {pos : Pos} {tk tv : TE} (hu : X.A.units + 1 < cLine) (hk : PE X k tk) (hv : PE X v tv) : PE X (.Dict [some k] [v] pos) (tEither (tDisp [(tk, tv)]) (tDispV tk tv)) :=
  pe_either (pe_disp (pps_cons hk hv pps_nil) rfl rfl (fun z => nomatch z) (by show 1 ≤ 15; decide)) (pe_dispV hu hk hv)
section
variable {kd : Kd} {H : Hp} {σ : L2.St} {Q : VK}
/-- {x: c} -/
theorem r_dispE {i : Nat} {v y : V} {p : List Nat} (hs : σ[i]? = some (some v)) (hv : PlV kd H v p) (q : ∀ d, H d = none → Q (.ref d) (upd H d (dO kd [(p, y)]))) : tEither (tDisp [(tVar i, tC y)]) (tDispV (tVar i) (tC y)) σ H Q := by
  cases kd with
  | i =>
    obtain ⟨z, rfl, rfl⟩ := hv
    refine .inl fun d hd => ⟨_, hs, upd_same, [(kI [z], y)], rfl, by show 1 ≤ 15; decide, ?_⟩
    rw [upd_upd]
    exact q d hd
  | s =>
    obtain rfl : v = sV p := hv
    refine .inl fun d hd => ⟨_, hs, upd_same, [(kS p, y)], rfl, by show 1 ≤ 15; decide, ?_⟩
    rw [upd_upd]
    exact q d hd
  | r =>
    obtain ⟨b, rfl, hb⟩ := hv
    refine .inr fun d hd => ⟨_, hs, b, p, rfl, (upd_ne (ne_of_none hb hd)).trans hb, upd_same, ?_⟩
    rw [upd_upd]
    exact q d hd
end
/-- list(d) -/
def rListE : List V → Hp → VK → Prop := fun xs H Q => rListD xs H Q ∨ ∃ d kvs, xs = [V.ref d] ∧ Rd H d (.dT kvs) ∧ ∀ p bs, H p = none → IsKeys H kvs bs → Q (.ref p) (upd H p (.lst (bs.map V.ref)))
theorem call_listE {X : Cx} (hc : X.calm = true) : CallR X (.type "list") rListE := fun pins s σ H xs us Q I r h => h.elim (fun h => call_list_dK hc pins s σ H xs us Q I r h) fun h => call_list_dT hc pins s σ H xs us Q I r h
def PlsR (kd : Kd) (H : Hp) (vs : List V) (ps : List (List Nat)) : Prop := vs.length = ps.length ∧ ∀ (i : Nat) (v : V) (p : List Nat), vs[i]? = some v → ps[i]? = some p → PlV kd H v p
theorem PlsR.k {kd : Kd} {H H' : Hp} {vs : List V} {ps : List (List Nat)} (h : PlsR kd H vs ps) (e : ∀ b xs, H b = some (.tup xs) → H' b = some (.tup xs)) : PlsR kd H' vs ps := ⟨h.1, fun i v p h1 h2 => (h.2 i v p h1 h2).k e⟩
theorem PlsR.same {kd : Kd} {H H' : Hp} {vs : List V} {ps : List (List Nat)} (h : PlsR kd H vs ps) (s : Same H H') : PlsR kd H' vs ps := h.k fun b _ e => s b _ e
theorem PlsR.snoc {kd : Kd} {H : Hp} {vs : List V} {ps : List (List Nat)} {v : V} {p : List Nat} (h : PlsR kd H vs ps) (hv : PlV kd H v p) : PlsR kd H (vs ++ [v]) (ps ++ [p]) := by
  refine ⟨by rw [List.length_append, List.length_append, h.1]; rfl, fun i w q h1 h2 => ?_⟩
  rcases Nat.lt_or_ge i vs.length with hi | hi
  · rw [List.getElem?_append_left hi] at h1
    rw [List.getElem?_append_left (by rw [← h.1]; exact hi)] at h2
    exact h.2 i w q h1 h2
  · rw [List.getElem?_append_right hi] at h1
    rw [List.getElem?_append_right (by rw [← h.1]; exact hi), ← h.1] at h2
    obtain ⟨j, ej⟩ : ∃ j, i - vs.length = j := ⟨_, rfl⟩
    rw [ej] at h1 h2
    cases j with
    | zero =>
      obtain rfl := Option.some.inj h1
      obtain rfl := Option.some.inj h2
      exact hv
    | succ j => exact nomatch h1
theorem keys_get : ∀ {H : Hp} {m : Pd} {bs : List Addr}, IsKeys H (m.map fun q => (kN q.1, q.2)) bs → PlsR .r H (bs.map V.ref) (m.map (·.1))
  | H, [], [], _ => ⟨rfl, fun i v p h1 _ => nomatch h1⟩
  | H, [], b :: bs, h => by cases h
  | H, q :: m, [], h => by cases h
  | H, q :: m, b :: bs, h => by
    cases h with
    | cons h1 h2 =>
      have ih := keys_get h2
      refine ⟨by rw [List.map_cons, List.map_cons, List.length_cons, List.length_cons, ih.1], fun i v p e1 e2 => ?_⟩
      cases i with
      | zero =>
        obtain rfl := Option.some.inj e1
        obtain rfl := Option.some.inj e2
        refine ⟨b, rfl, ?_⟩
        rw [← kN_row]
        exact h1
      | succ i => exact ih.2 i v p e1 e2
theorem r_listE {kd : Kd} {H : Hp} {d : Addr} {m : Pd} {Q : VK} (h : H d = some (dO kd m)) (hk : ∀ q ∈ m, okP kd q.1) (q : ∀ l vs, H l = none → PlsR kd H vs (m.map (·.1)) → Q (.ref l) (upd H l (.lst vs))) : rListE [.ref d] H Q := by
  cases kd with
  | i =>
    refine .inl ⟨d, _, rfl, h, fun l hl => q l _ hl ⟨by rw [List.length_map, List.length_map, List.length_map], fun i v p h1 h2 => ?_⟩⟩
    rw [List.map_map, List.getElem?_map] at h1
    rw [List.getElem?_map] at h2
    obtain ⟨x, hx, rfl⟩ := Option.map_eq_some_iff.mp h2
    rw [hx] at h1
    obtain rfl := Option.some.inj h1
    obtain ⟨z, ez⟩ := hk x (List.mem_of_getElem? hx) rfl
    exact ⟨z, ez, by show V.int ((x.1.getD 0 0 : Nat) : Int) = iV z; rw [ez]; rfl⟩
  | s =>
    refine .inl ⟨d, _, rfl, h, fun l hl => q l _ hl ⟨by rw [List.length_map, List.length_map, List.length_map], fun i v p h1 h2 => ?_⟩⟩
    rw [List.map_map, List.getElem?_map] at h1
    rw [List.getElem?_map] at h2
    obtain ⟨x, hx, rfl⟩ := Option.map_eq_some_iff.mp h2
    rw [hx] at h1
    exact (Option.some.inj h1).symm
  | r => exact .inr ⟨d, _, rfl, .inl h, fun l bs hl hb => q l _ hl (keys_get hb)⟩
section
variable {X : Cx} {K : PySem.W.Frag} {P : Program} {w : World}
theorem pe_ngetK {o i : Expr} {td ty : TE} {pos : Pos} (eK : X.K = K) (eP : X.prog = P) (ew : X.w = w) (hu : X.A.units + 64 < cLine) (ho : PE X o td) (hi : PE X i ty) (hs : NoSl i) : PE X (.Subscript o i pos) (tNGet K P w td ty) := by
  subst eK eP ew
  exact pe_nget hu ho hi hs
theorem pe_dcNK {kx vx tg iter : Expr} {ifs : List Expr} {scope : Scope} {own : List (PySem.Str × Nat)} {pos : Pos} {wi : TI} {g : TG} {tt : TT} {tk tv : TE} (eK : X.K = K) (eP : X.prog = P) (ew : X.w = w) (un : X.A.units + 64 < cLine) (calm : X.calm = true) (nd : X.N.Nodup) (hi : PI X tg iter wi) (ok : BlkOk X.N X.env.scope scope own)
    (hg : ∀ (s : Shared) (H : Hp) (C : Addr) (cl : List (PySem.Str × Addr)) (fp : List Addr), PG (X.blk s H scope (compEnvC scope cl C X.env) fp) tg g)
    (ht : ∀ (s : Shared) (H : Hp) (C : Addr) (cl : List (PySem.Str × Addr)) (fp : List Addr), PTs (X.blk s H scope (compEnvC scope cl C X.env) fp) ifs tt)
    (hk : ∀ (s : Shared) (H : Hp) (C : Addr) (cl : List (PySem.Str × Addr)) (fp : List Addr), PE (X.blk s H scope (compEnvC scope cl C X.env) fp) kx tk)
    (he : ∀ (s : Shared) (H : Hp) (C : Addr) (cl : List (PySem.Str × Addr)) (fp : List Addr), PE (X.blk s H scope (compEnvC scope cl C X.env) fp) vx tv)
    (plain : ∀ x, foldedSetIterable iter X.env x = pure x := by intro _; rfl) :
    PE X (.DictComp kx vx [⟨tg, iter, ifs, 0⟩] scope pos) (tDcN K P w wi g tt tk tv (own.map (·.2))) := by
  subst eK eP ew
  exact pe_dcN un calm nd hi ok hg ht hk he plain
theorem pe_dnewNK {pos : Pos} (eP : X.prog = P) (ew : X.w = w) : PE X (.Dict [] [] pos) (tDNewN P w) := by
  subst eP ew
  exact pe_dnewN
theorem call_lenNK (eK : X.K = K) (eP : X.prog = P) (ew : X.w = w) : CallR X (.builtin "len") (rLenN K P w) := by
  subst eK eP ew
  exact call_lenN
theorem pe_nsetdK {o e f : Expr} {td ty tx : TE} {apos cpos : Pos} (eK : X.K = K) (eP : X.prog = P) (ew : X.w = w) (hu : X.A.units + 64 < cLine) (ho : PE X o td) (he : PE X e ty) (hf : PE X f tx) (m : M2 X o "setdefault" apos e f cpos) : PE X (.Call (.Attribute o "setdefault" apos) [e, f] [] cpos) (tNSetd K P w td ty tx) := by
  subst eK eP ew
  exact pe_nsetd hu ho he hf m
theorem pe_callKK {K' : PySem.W.Frag} {P' : Program} {w' : World} {mg' : Str → Option Value} {base' : Heap} {k j i : Nat} {x : Str} {t : TA} {e : Expr} {es : List Expr} {p pos : Pos} (eP : X.prog = P') (ew : X.w = w') (eK : X.K = K') (em : X.mg = mg') (eb : X.base = base') (hr : Room j X.A) (hk : k ≤ j) (hN : X.N[i]? = some x) (hv : Vis X.env.scope x) (ha : PA X (e :: es) t)
    (hd : (x == ("__debug__" : Str)) = false := by decide) (hcd : (x == ("__classdict__" : Str)) = false := by decide)
    (he : starEach (e :: es) X.env = (false, eval e X.env) :: starEach es X.env := by rfl) (hpl : (backTo pos (starEach es X.env)).any (·.1) = false := by rfl) :
    PE X (.Call (.Name x p) (e :: es) [] pos) (tCallK P' w' K' mg' base' k i t) := by
  subst eP ew eK em eb
  exact pe_callK hr hk hN hv ha hd hcd he hpl
end
/-! numbers of places -/
def enumP (ps : List (List Nat)) : Pd := (List.range ps.length).map fun i => (ps.getD i [], iV i)
theorem enumP_len (ps : List (List Nat)) : (enumP ps).length = ps.length := by unfold enumP; rw [List.length_map, List.length_range]
theorem enumP_at {ps : List (List Nat)} {i : Nat} {p : List Nat} (h : ps[i]? = some p) : (enumP ps)[i]? = some (p, iV i) := by
  unfold enumP
  rw [List.getElem?_map, List.getElem?_range (List.getElem?_eq_some_iff.mp h).1]
  show some (ps.getD i [], iV i) = _
  rw [List.getD_eq_getElem?_getD, h]
  rfl
theorem enumP_keys (ps : List (List Nat)) : (enumP ps).map (·.1) = ps := by
  refine List.ext_getElem? fun i => ?_
  rw [List.getElem?_map]
  cases h : ps[i]? with
  | none => rw [List.getElem?_eq_none (by rw [enumP_len]; exact List.getElem?_eq_none_iff.mp h)]; rfl
  | some p => rw [enumP_at h]; rfl
theorem enumP_snoc (ps : List (List Nat)) (p : List Nat) : enumP (ps ++ [p]) = enumP ps ++ [(p, iV ps.length)] := by
  unfold enumP
  rw [List.length_append, List.length_singleton, List.range_succ, List.map_append]
  congr 1
  · refine List.map_congr_left fun i hi => ?_
    rw [List.getD_eq_getElem?_getD, List.getD_eq_getElem?_getD, List.getElem?_append_left (List.mem_range.mp hi)]
  · rw [List.map_singleton, List.getD_eq_getElem?_getD, List.getElem?_append_right (Nat.le_refl _), Nat.sub_self]
    rfl
def NumR (ps : List (List Nat)) (L : NL) : Prop := L.length = ps.length ∧ ∀ (i : Nat) (p : List Nat), ps[i]? = some p → ∃ a, L[i]? = some (rowK p, a, iV i)
/-- the dict at d numbers the places -/
def NumsO (K : PySem.W.Frag) (P : Program) (w : World) (kd : Kd) (H : Hp) (d : Addr) (ps : List (List Nat)) : Prop := match kd with
  | .r => ∃ L : NL, H d = some (NDO P w d L) ∧ KeysN K H L ∧ NumR ps L
  | kd => H d = some (dO kd (enumP ps))
theorem NumsO.k {K : PySem.W.Frag} {P : Program} {w : World} {kd : Kd} {H H' : Hp} {d : Addr} {ps : List (List Nat)} (h : NumsO K P w kd H d ps) (s : Same H H') : NumsO K P w kd H' d ps := by
  cases kd with
  | i => exact s _ _ h
  | s => exact s _ _ h
  | r =>
    obtain ⟨L, h1, h2, h3⟩ := h
    exact ⟨L, s _ _ h1, h2.k (sT_of s), h3⟩
theorem find_first {α : Type} {f : α → Bool} : ∀ {m : List α} {i : Nat} {p : α}, m[i]? = some p → f p = true → (∀ x ∈ m.take i, f x = false) → m.find? f = some p
  | [], _, _, h, _, _ => nomatch h
  | x :: m, 0, p, h, hp, _ => by
    obtain rfl : x = p := Option.some.inj h
    rw [List.find?_cons_of_pos hp]
  | x :: m, i + 1, p, h, hp, hb => by
    have hx : f x = false := hb x (by rw [List.take_succ_cons]; exact List.mem_cons_self)
    rw [List.find?_cons_of_neg (by rw [hx]; exact Bool.false_ne_true)]
    exact find_first (i := i) h hp fun y hy => hb y (by rw [List.take_succ_cons]; exact List.mem_cons_of_mem _ hy)
theorem numR_val {ps : List (List Nat)} {L : NL} (h : NumR ps L) (nd : ps.Nodup) {i : Nat} {p : List Nat} (hp : ps[i]? = some p) : valN L (rowK p) = some (iV i) := by
  obtain ⟨a, ha⟩ := h.2 i p hp
  have : L.find? (fun x => decide (x.1 = rowK p)) = some (rowK p, a, iV i) := find_first ha (decide_eq_true rfl) fun x hx => by
    obtain ⟨j, hj⟩ := List.mem_iff_getElem?.mp hx
    rw [List.getElem?_take] at hj
    split at hj
    · rename_i hlt
      obtain ⟨q, hq⟩ : ∃ q, ps[j]? = some q := ⟨_, List.getElem?_eq_getElem (by rw [← h.1]; exact (List.getElem?_eq_some_iff.mp hj).1)⟩
      obtain ⟨b, hb⟩ := h.2 j q hq
      rw [hj] at hb
      obtain rfl := Option.some.inj hb
      refine decide_eq_false fun e => ?_
      have e := rowK_inj e
      subst e
      have := nodup_at nd hp hq
      omega
    · exact nomatch hj
  unfold valN atN
  rw [this]
  rfl
/-- numbers[e] -/
theorem r_numE {K : PySem.W.Frag} {P : Program} {w : World} {kd : Kd} {σ : L2.St} {H : Hp} {Q : VK} {j : Nat} {d : Addr} {ps : List (List Nat)} {ty : TE} (hs : σ[j]? = some (some (.ref d))) (nd : ps.Nodup) (hk : ∀ p ∈ ps, okP kd p)
    (h : ∀ R : VK, (∀ (H' : Hp) (v : V) (p : List Nat) (i : Nat), ps[i]? = some p → PlV kd H' v p → NumsO K P w kd H' d ps → Q (iV i) H' → R v H') → ty σ H R) : tEither (tDGet (tVar j) ty) (tNGet K P w (tVar j) ty) σ H Q := by
  have flat : kd ≠ .r → tEither (tDGet (tVar j) ty) (tNGet K P w (tVar j) ty) σ H Q := fun hr => by
    refine .inl ⟨_, hs, h _ fun H' v p i hp hv hn q => ⟨d, iV i, rfl, ?_, q⟩⟩
    have hd : H' d = some (dO kd (enumP ps)) := by
      cases kd with
      | i => exact hn
      | s => exact hn
      | r => exact absurd rfl hr
    have g := dget_kd hd hv fun q hq => hk _ (by
      have := List.mem_map_of_mem (f := (·.1)) hq
      rw [enumP_keys] at this
      exact this)
    rw [lkP_in (i := i) (q := (p, iV i)) (by rw [enumP_keys]; exact nd) (enumP_at hp)] at g
    exact g
  cases kd with
  | i => exact flat fun z => nomatch z
  | s => exact flat fun z => nomatch z
  | r =>
    refine .inr ⟨_, hs, h _ fun H' v p i hp hv hn q => ?_⟩
    obtain ⟨L, h1, h2, h3⟩ := hn
    obtain ⟨b, rfl, hb⟩ := hv
    exact ⟨d, b, rowK p, L, rfl, rfl, .inl h1, h2, dn_row (SqT.of hb), rowK_depth p, _, numR_val h3 nd hp, q⟩
/-- walks over enumerate(list), of any turn -/
theorem it_enL {K : PySem.W.Frag} {a : Addr} {xs : List V} {H0 : Hp} {Qd : Hp → Prop} {TURN : V → Hp → (Hp → Prop) → Prop} (Pv : Nat → Hp → Prop) (h0 : Pv 0 H0) (hl : ∀ i H, i ≤ xs.length → Pv i H → SqL K H a xs)
    (hs : ∀ i x H T, xs[i]? = some x → Pv i H → H T = none → TURN (.ref T) (upd H T (.tup [.int (i : Nat), x])) (Pv (i + 1))) (hd : ∀ H, Pv xs.length H → Qd H) :
    ∃ W : Nat → Nat → Hp → Prop, (∃ m, W 0 m H0) ∧ ∀ i m H, W i m H → ((Ite K a).stop i H ∧ Qd H) ∨ ((Ite K a).go i H ∧ ∃ R : Hp → Prop, (∀ H', R H' → ∃ m', m' < m ∧ W (i + 1) m' H') ∧ ∀ x H', (Ite K a).yld i H x H' → TURN x H' R) := by
  refine ⟨fun i m H => m + i = xs.length ∧ Pv i H, ⟨xs.length, rfl, h0⟩, ?_⟩
  rintro i m H ⟨hm, p⟩
  have q := hl i H (by omega) p
  by_cases hlt : i < xs.length
  · refine .inr ⟨⟨xs, xs[i], q, List.getElem?_eq_getElem hlt⟩, Pv (i + 1), fun H' p' => ⟨m - 1, by omega, by omega, p'⟩, ?_⟩
    rintro v H' ⟨T, x, rfl, hT, rfl, hx⟩
    exact hs i x H T (hx xs q) p hT
  · have e : i = xs.length := by omega
    subst e
    exact .inl ⟨⟨xs, q, Nat.le_refl _⟩, hd H p⟩
theorem putE {kd : Kd} (hr : kd ≠ .r) {H : Hp} {D : Addr} {m : Pd} {y z : V} {p : List Nat} {R : Hp → Prop} (h : H D = some (dO kd m)) (hv : PlV kd H y p) (hk : ∀ q ∈ m, okP kd q.1) (hp : p ∉ m.map (·.1)) (hl : m.length < sizeLine) (q : R (upd H D (dO kd (m ++ [(p, z)])))) :
    ∃ kvs k, y = kV k ∧ H D = some (.dK kvs) ∧ kvs.length < sizeLine ∧ R (upd H D (.dK (putK kvs k z))) := by
  cases kd with
  | i =>
    obtain ⟨x, rfl, rfl⟩ := hv
    refine ⟨_, kI [x], rfl, h, by rw [List.length_map]; exact hl, ?_⟩
    rw [putK_f (f := kI) (fun q hq e => kI_inj ⟨x, rfl⟩ (hk q hq rfl) e) hp]
    exact q
  | s =>
    obtain rfl : y = sV p := hv
    refine ⟨_, kS p, rfl, h, by rw [List.length_map]; exact hl, ?_⟩
    rw [putK_f (f := kS) (fun q hq e => kS_inj e) hp]
    exact q
  | r => exact absurd rfl hr
theorem numR_snoc {ps : List (List Nat)} {L : NL} (h : NumR ps L) (p : List Nat) (b : Addr) : NumR (ps ++ [p]) (L ++ [(rowK p, b, iV ps.length)]) := by
  refine ⟨by rw [List.length_append, List.length_append, h.1]; rfl, fun i k' e => ?_⟩
  rcases Nat.lt_or_ge i ps.length with hi | hi
  · rw [List.getElem?_append_left hi] at e
    obtain ⟨a, ha⟩ := h.2 i k' e
    exact ⟨a, by rw [List.getElem?_append_left (by rw [h.1]; exact hi)]; exact ha⟩
  · rw [List.getElem?_append_right hi] at e
    have : i = ps.length := by
      have := (List.getElem?_eq_some_iff.mp e).1
      rw [List.length_singleton] at this
      omega
    subst this
    rw [Nat.sub_self] at e
    obtain rfl := Option.some.inj e
    exact ⟨b, by rw [List.getElem?_append_right (by rw [h.1]; exact Nat.le_refl _), h.1, Nat.sub_self]; rfl⟩
theorem numR_at {ps : List (List Nat)} {L : NL} (h : NumR ps L) {p : List Nat} (hp : p ∉ ps) : atN L (rowK p) = none := by
  have : L.find? (fun x => decide (x.1 = rowK p)) = none := List.find?_eq_none.mpr fun x hx => by
    obtain ⟨j, hj⟩ := List.mem_iff_getElem?.mp hx
    obtain ⟨q, hq⟩ : ∃ q, ps[j]? = some q := ⟨_, List.getElem?_eq_getElem (by rw [← h.1]; exact (List.getElem?_eq_some_iff.mp hj).1)⟩
    obtain ⟨b, hb⟩ := h.2 j q hq
    rw [hj] at hb
    obtain rfl := Option.some.inj hb
    rw [decide_eq_true_eq]
    intro e
    have e := rowK_inj e
    subst e
    exact hp (List.mem_of_getElem? hq)
  unfold atN
  rw [this]
  rfl
end G
set_option Elab.async false
set_option linter.all false
set_option maxRecDepth 100000
set_option maxHeartbeats 4000000
namespace G
open PySem PySem.Spec PyProof.Rows L2
/-! ### D.get(key, e), D a dict of the module with text keys -/
def tKGet2 (K : PySem.W.Frag) (d : Addr) (ty tx : TE) : TE := fun σ H Q => ty σ H fun y H1 => tx σ H1 fun z H2 => ∃ (x : Str) (r : Option Value), y = .str x ∧ PySem.W.nsIn K d x = some r ∧ (∀ u, r = some u → ∃ v, RelV v u ∧ Q v H2) ∧ (r = none → Q z H2)
section
variable {X : Cx} {x : Str} {d : Addr} {es : Array DictEntry} {n : Nat} {e f : Expr} {ty tx : TE} {p apos cpos : Pos}
theorem pe_kdget2 (D : KDict X.K X.w d es n) (hdb : (x == ("__debug__" : Str)) = false) (hg : Gl X x) (hm : X.mg x = some (.ref d)) (he : PE X e ty) (hf : PE X f tx) (m : M2 X (.Name x p) "get" apos e f cpos) : PE X (.Call (.Attribute (.Name x p) "get" apos) [e, f] [] cpos) (tKGet2 X.K d ty tx) := by
  refine ⟨fun pins s σ H Q I h => ?_⟩
  have nm := (pe_glob (pos := p) (v := V.ref d) hg hm rfl hdb).run pins s σ H (fun v H1 => v = .ref d ∧ H1 = H) I ⟨rfl, rfl⟩
  refine wpAny_Call_method m.base m.few m.line PySem.F.plainAttrs_dict PySem.F.slot_dict_get PySem.F.type_dict_get (thn nm fun u s1 ⟨v, H1, I1, rx, ev, eH⟩ => ?_)
  subst ev
  rw [eH] at I1
  obtain rfl : u = Value.ref d := rx
  refine ⟨kd_type D I1, fun b q => by cases q; exact ⟨_, I1.kIn _ _ D.at_, rfl⟩, ?_⟩
  rw [m.trees]
  refine wpAny_dict_get2 (knd := strKind X.prog X.w) D.low (thn (he.run pins s1 σ H _ I1 h) fun iv s2 ⟨y, H2, I2, ry, q2⟩ => thn (hf.run pins s2 σ H2 _ I2 q2) fun fv s3 ⟨z, H3, I3, rz, x', r, ey, hr, q3, q4⟩ => ?_)
  subst ey
  obtain ⟨t, rfl⟩ := ry
  refine ⟨x', _, PySem.strKind_is X.prog X.w x' t, PySem.W.mapOf_K (prog := X.prog) I3.kIn D.at_ D.lit, ?_⟩
  rw [PySem.W.find_K D.at_ hr]
  cases r with
  | none => exact ⟨z, H3, I3.tok _, rz, q4 rfl⟩
  | some u =>
    obtain ⟨v, rv, q⟩ := q3 u rfl
    exact ⟨v, H3, I3.tok _, rv, q⟩
theorem pe_kdget2K {K : PySem.W.Frag} {w : World} (hK : X.K = K) (hW : X.w = w) (D : KDict K w d es n) (hdb : (x == ("__debug__" : Str)) = false) (hg : Gl X x) (hm : X.mg x = some (.ref d)) (he : PE X e ty) (hf : PE X f tx) (m : M2 X (.Name x p) "get" apos e f cpos) : PE X (.Call (.Attribute (.Name x p) "get" apos) [e, f] [] cpos) (tKGet2 K d ty tx) := by
  subst hK hW
  exact pe_kdget2 D hdb hg hm he hf m
end
/-! ### tuple(text) -/
def rTupStr : List V → Hp → VK → Prop := fun vs H Q => ∃ cs : List Nat, vs = [sV cs] ∧ cs.length ≤ 1000 ∧ ∀ p, H p = none → Q (.ref p) (upd H p (.tup (cs.map sgV)))
theorem call_tupStr {X : Cx} (hc : X.calm = true) : CallR X (.type "tuple") rTupStr := by
  intro pins s σ H vs us Q I r h
  obtain ⟨cs, rfl, hl, q⟩ := h
  obtain ⟨u, rfl, t, rfl⟩ := vals1 r
  have zl : (sizeLine : Nat) = 16777216 := by decide
  refine PySem.call_tuple_str (I.ok.hd hc) _ t (fun h' tk acc hk hi => ?_) (by show cs.toArray.size ≤ sizeLine; rw [List.size_toArray]; omega)
  have hacc : Vals (cs.map sgV) acc.toList := by
    have hn : acc.toList.length = cs.length := by rw [Array.length_toList, hi.1]; show cs.toArray.size = _; rw [List.size_toArray]
    have go : ∀ (cs : List Nat) (vs : List Value), vs.length = cs.length → (∀ (i : Nat) (v : Value), vs[i]? = some v → ∃ c t, cs[i]? = some c ∧ v = Value.str ⟨#[c]⟩ t) → Vals (cs.map sgV) vs := by
      intro cs
      induction cs with
      | nil =>
        intro vs hl _
        rw [List.length_eq_zero_iff.mp hl]
        exact .nil
      | cons c cs ih =>
        intro vs hl h
        match vs, hl, h with
        | v :: vs, hl, h =>
          obtain ⟨c', t, e1, e2⟩ := h 0 v rfl
          have e1 : c = c' := Option.some.inj (show some c = some c' from e1)
          rw [← e1] at e2
          exact .cons ⟨t, e2⟩ (ih vs (Nat.succ.inj hl) fun i v hv => h (i + 1) v hv)
    refine go cs acc.toList hn fun i v hv => ?_
    obtain ⟨c, t', e1, e2⟩ := hi.2 i v (by rw [← Array.getElem?_toList]; exact hv)
    exact ⟨c, t', by rw [← List.getElem?_toArray]; exact e1, e2⟩
  have hs : Heap.get? (h'.push { cls := .type "tuple", data := .seq acc }) h'.objs.size = some { cls := .type "tuple", data := .seq acc } := Heap.get?_push_size _ rfl
  have I1 : Inv X pins σ H { s with heap := h', toks := tk } := I.kept hk
  refine ⟨.ref h'.objs.size, _, I1.laid (o := .tup (cs.map sgV)) (t' := tk) (fun b o e => Heap.get?_push_of_some _ e) (Nat.le_refl _) ⟨by rw [List.length_map]; omega, acc.toList, hacc, ⟨_, hs, rfl, 0, rfl⟩⟩, rfl, q _ (I1.hok.fresh (Nat.le_refl _))⟩
end G
namespace G
open PySem PySem.Spec PyProof.Rows L2
theorem kdAt {K : PySem.W.Frag} {w w' : World} {d : Addr} (h : w' = w) (e : ∃ es n, KDict K w' d es n) : KDict K w d e.choose e.choose_spec.choose := h ▸ e.choose_spec.choose_spec
def tabV (K : PySem.W.Frag) (d : Addr) (x : Str) (r : Option Int) : Bool := match PySem.W.nsIn K d x, r with
  | some (some (.int j _)), some i => decide (j = i)
  | some none, none => true
  | _, _ => false
/-- the table has the number there, or not the key -/
def TabAt (K : PySem.W.Frag) (d : Addr) (x : Str) : Option Int → Prop
  | some i => ∃ t, PySem.W.nsIn K d x = some (some (.int i t))
  | none => PySem.W.nsIn K d x = some none
theorem tabV_ok {K : PySem.W.Frag} {d : Addr} {x : Str} {r : Option Int} (h : tabV K d x r = true) : TabAt K d x r := by
  unfold tabV at h
  split at h
  · rename_i j t i e
    rw [← of_decide_eq_true h]
    exact ⟨t, e⟩
  · rename_i e
    exact e
  · exact absurd h Bool.false_ne_true
theorem r_kdget2 {K : PySem.W.Frag} {d : Addr} {ty tx : TE} {σ : L2.St} {H : Hp} {Q : VK} (h : ty σ H fun y H1 => tx σ H1 fun z H2 => ∃ (x : Str) (r : Option Value), y = .str x ∧ PySem.W.nsIn K d x = some r ∧ (∀ u, r = some u → ∃ v, RelV v u ∧ Q v H2) ∧ (r = none → Q z H2)) : tKGet2 K d ty tx σ H Q := h
theorem kd_has {K : PySem.W.Frag} {d : Addr} {x : Str} {C : V → Prop} {C0 : Prop} {r : Option Int} (h : TabAt K d x r) (q : ∀ i, r = some i → C (.int i)) (qn : r = none → C0) : ∃ (x' : Str) (r : Option Value), V.str x = .str x' ∧ PySem.W.nsIn K d x' = some r ∧ (∀ u, r = some u → ∃ v, RelV v u ∧ C v) ∧ (r = none → C0) := by
  cases r with
  | some i =>
    obtain ⟨t, e⟩ := h
    exact ⟨x, _, rfl, e, fun u hu => ⟨.int i, by cases hu; exact ⟨t, rfl⟩, q i rfl⟩, fun z => nomatch z⟩
  | none => exact ⟨x, none, rfl, h, (fun u hu => nomatch hu), fun _ => qn rfl⟩
end G
set_option Elab.async false
set_option linter.all false
set_option maxRecDepth 100000
set_option maxHeartbeats 4000000
namespace G
open PySem PySem.Spec PyProof.Rows L2
/-! ### lines of sentences: tuples of texts and whole numbers -/
abbrev Itm := Str ⊕ Int
def itV : Itm → V
  | .inl s => .str s
  | .inr i => .int i
def itD : Itm → PyData
  | .inl s => .str s
  | .inr i => .int i
def lineD (l : List Itm) : PyData := .tuple (l.map itD)
theorem line_dt {K : PySem.W.Frag} {H : Hp} {b : Addr} {l : List Itm} (h : SqT K H b (l.map itV)) : Dt K H (.ref b) (lineD l) := .tup h (DtAll.map (α := Itm) (f := itV) (g := itD) (fun x => by cases x with | inl s => exact .str s | inr i => exact .int i) l)
def refsG (zs : List (Addr × List Itm)) : List V := zs.map fun z => V.ref z.1
theorem refsG_len (zs : List (Addr × List Itm)) : (refsG zs).length = zs.length := List.length_map _
theorem refsG_app (a b : List (Addr × List Itm)) : refsG (a ++ b) = refsG a ++ refsG b := List.map_append
theorem refsG_get {zs : List (Addr × List Itm)} {i : Nat} {x : V} (h : (refsG zs)[i]? = some x) : ∃ b l, zs[i]? = some (b, l) ∧ x = .ref b := by
  unfold refsG at h
  rw [List.getElem?_map] at h
  obtain ⟨⟨b, l⟩, h1, rfl⟩ := Option.map_eq_some_iff.mp h
  exact ⟨b, l, h1, rfl⟩
theorem at_refsG {zs : List (Addr × List Itm)} {i : Nat} {z : Int} {p : Addr × List Itm} (e : z = (i : Int)) (h : zs[i]? = some p) : atI (refsG zs) z = some (.ref p.1) := by
  refine at_of e ?_
  unfold refsG
  rw [List.getElem?_map, h]
  rfl
/-- the lines stand -/
def TupG (H : Hp) (zs : List (Addr × List Itm)) : Prop := ∀ p ∈ zs, H p.1 = some (.tup (p.2.map itV))
theorem TupG.k {H H' : Hp} {zs : List (Addr × List Itm)} (h : TupG H zs) (e : Same H H') : TupG H' zs := fun p hp => e _ _ (h p hp)
theorem TupG.snoc {H : Hp} {zs : List (Addr × List Itm)} {b : Addr} {l : List Itm} (h : TupG H zs) (hb : H b = some (.tup (l.map itV))) : TupG H (zs ++ [(b, l)]) := fun p hp => by
  rcases List.mem_append.mp hp with hp | hp
  · exact h p hp
  · rw [List.mem_singleton.mp hp]
    exact hb
theorem TupG.mut {H : Hp} {zs : List (Addr × List Itm)} {p : Addr} {xs : List V} {o : HO} (h : TupG H zs) (hp : H p = some (.lst xs)) : TupG (upd H p o) zs := fun q hq => by
  rw [upd_ne (ne_of (h q hq) hp fun z => nomatch z)]
  exact h q hq
/-- the words that lines begin with, right or not -/
def wds : List Str := ["letter", "start", "true", "not", "and", "or", "before", "since", "Not", "", "implies", "letters", "until"]
def rwds : List Str := ["letter", "start", "true", "not", "before", "and", "or", "since"]
def lets : List Str := ["a", "b", "c", "d"]
/-- how many entries a line with the word has, 0 for other words -/
def ent (x : Str) : Nat := if x = "letter" then 2 else if x = "start" then 1 else if x = "true" then 1 else if x = "not" then 2 else if x = "and" then 3 else if x = "or" then 3 else if x = "before" then 2 else if x = "since" then 3 else 0
structure LineW (l : List Itm) : Prop where
  len : l.length ≤ 4
  head : ∀ x t, l = x :: t → ∃ z, x = .inl z ∧ z ∈ wds
  txt : ∀ s, .inl s ∈ l → PyData.strOk s = true
def numOk (n : Int) : Itm → Bool
  | .inr i => decide (0 ≤ i ∧ i < n)
  | .inl _ => false
def isLet : Itm → Bool
  | .inl s => decide (s ∈ lets)
  | .inr _ => false
/-- a line that may have the number n -/
def isLineB (l : List Itm) (n : Int) : Bool := match l with
  | [] => false
  | .inr _ :: _ => false
  | .inl x :: rest => decide (rest.length + 1 = ent x) && (if x = "letter" then isLet (rest.getD 0 (.inr 0)) else rest.all (numOk n))
theorem eq_str (a b : Str) : eqV (.str a) (.str b) = decide (a = b) := by
  show (a == b) = _
  by_cases h : a = b
  · rw [decide_eq_true h, h]
    exact beq_self_eq_true _
  · rw [decide_eq_false h]
    exact beq_eq_false_iff_ne.mpr h
theorem inV_str (x : Itm) (ss : List Str) : inV (itV x) (ss.map V.str) = (match x with | .inl s => decide (s ∈ ss) | .inr _ => false) := by
  unfold inV
  rw [List.any_map]
  cases x with
  | inl s =>
    by_cases h : s ∈ ss
    · show (ss.any fun y => eqV (.str y) (.str s)) = decide (s ∈ ss)
      rw [decide_eq_true h]
      exact List.any_eq_true.mpr ⟨s, h, by rw [eq_str, decide_eq_true rfl]⟩
    · show (ss.any fun y => eqV (.str y) (.str s)) = decide (s ∈ ss)
      rw [decide_eq_false h]
      refine List.any_eq_false.mpr fun y hy e => h ?_
      rw [eq_str] at e
      rw [← of_decide_eq_true e]
      exact hy
  | inr i =>
    refine List.any_eq_false.mpr fun y _ e => ?_
    exact absurd (show (false : Bool) = true from e) Bool.false_ne_true
theorem flat_strs (ss : List Str) : (ss.map V.str).all flatV = true := List.all_eq_true.mpr fun x hx => by
  obtain ⟨s, _, rfl⟩ := List.mem_map.mp hx
  rfl
theorem flat_it (x : Itm) : flatV (itV x) = true := by cases x <;> rfl
section
variable {K : PySem.W.Frag} {H : Hp} {Q : VK} {p : Addr}
theorem r_inStrs {x : Itm} {ss : List Str} (h : SqL K H p (ss.map V.str) ∨ SqT K H p (ss.map V.str)) (q : Q (.bl (match x with | .inl s => decide (s ∈ ss) | .inr _ => false)) H) : rIn K false (itV x) (.ref p) H Q :=
  ⟨p, _, rfl, h, flat_it x, flat_strs ss, by rw [← inV_str] at q; exact q⟩
theorem r_notInStrs {x : Itm} {ss : List Str} (h : SqL K H p (ss.map V.str) ∨ SqT K H p (ss.map V.str)) (q : Q (.bl (!(match x with | .inl s => decide (s ∈ ss) | .inr _ => false))) H) : rIn K true (itV x) (.ref p) H Q :=
  ⟨p, _, rfl, h, flat_it x, flat_strs ss, by rw [← inV_str] at q; exact q⟩
end
/-! data of lines -/
theorem lay_line : ∀ {l : List Itm}, (∀ s, .inl s ∈ l → PyData.strOk s = true) → PyData.canLayAll0 (l.map itD) = true
  | [], _ => rfl
  | .inl s :: l, h => Bool.and_eq_true_iff.mpr ⟨h s List.mem_cons_self, lay_line fun s hs => h s (List.mem_cons_of_mem _ hs)⟩
  | .inr i :: l, h => Bool.and_eq_true_iff.mpr ⟨rfl, lay_line fun s hs => h s (List.mem_cons_of_mem _ hs)⟩
theorem depth_line : ∀ l : List Itm, PyData.depthAll (l.map itD) = 0
  | [] => rfl
  | .inl s :: l => by
    show max 0 _ = 0
    rw [depth_line l]
    rfl
  | .inr i :: l => by
    show max 0 _ = 0
    rw [depth_line l]
    rfl
theorem shaped_line {l : List Itm} (h : ∀ s, .inl s ∈ l → PyData.strOk s = true) : SeqAt.shaped (lineD l) = true := by
  refine Bool.and_eq_true_iff.mpr ⟨lay_line h, decide_eq_true ?_⟩
  show PyData.depthAll (l.map itD) + 1 ≤ 64
  rw [depth_line]
  decide
theorem lay_lines : ∀ {ls : List (List Itm)}, (∀ l ∈ ls, ∀ s, .inl s ∈ l → PyData.strOk s = true) → PyData.canLayAll0 (ls.map lineD) = true
  | [], _ => rfl
  | l :: ls, h => Bool.and_eq_true_iff.mpr ⟨by
      show PyData.canLayAll0 (l.map itD) = true
      exact lay_line (h l List.mem_cons_self), lay_lines fun l hl => h l (List.mem_cons_of_mem _ hl)⟩
theorem depth_lines : ∀ ls : List (List Itm), PyData.depthAll (ls.map lineD) ≤ 2
  | [] => by decide
  | l :: ls => by
    show max (PyData.depthAll (l.map itD) + 1) (PyData.depthAll (ls.map lineD)) ≤ 2
    have h1 := depth_lines ls
    rw [depth_line]
    omega
theorem shaped_lines {ls : List (List Itm)} (h : ∀ l ∈ ls, ∀ s, .inl s ∈ l → PyData.strOk s = true) : SeqAt.shaped (.list (ls.map lineD)) = true := by
  refine Bool.and_eq_true_iff.mpr ⟨lay_lines h, decide_eq_true ?_⟩
  show PyData.depthAll (ls.map lineD) + 1 ≤ 64
  have := depth_lines ls
  omega
theorem dp_lines {K : PySem.W.Frag} {H : Hp} {p : Addr} {zs : List (Addr × List Itm)} (h : SqL K H p (refsG zs)) (hall : ∀ q ∈ zs, SqT K H q.1 (q.2.map itV)) : Dp K H (.ref p) (.list ((zs.map (·.2)).map lineD)) := by
  refine .lst h ?_
  clear h
  induction zs with
  | nil => exact .nil
  | cons q zs ih => exact .cons (line_dt (hall q List.mem_cons_self)).dp (ih fun q' hq => hall q' (List.mem_cons_of_mem _ hq))
theorem dp_linesT {K : PySem.W.Frag} {H : Hp} {p : Addr} {zs : List (Addr × List Itm)} (h : SqT K H p (refsG zs)) (hall : ∀ q ∈ zs, SqT K H q.1 (q.2.map itV)) : Dp K H (.ref p) (.tuple ((zs.map (·.2)).map lineD)) := by
  refine .tup h ?_
  clear h
  induction zs with
  | nil => exact .nil
  | cons q zs ih => exact .cons (line_dt (hall q List.mem_cons_self)).dp (ih fun q' hq => hall q' (List.mem_cons_of_mem _ hq))
theorem fits_linesT {ls : List (List Itm)} (h : ls.length ≤ 100000) (hl : ∀ l ∈ ls, l.length ≤ 1000) : fits 4 (.tuple (ls.map lineD)) := by
  have zl : (sizeLine : Nat) = 16777216 := by decide
  refine ⟨by rw [List.length_map]; omega, fun d hd => ?_⟩
  obtain ⟨l, hm, rfl⟩ := List.mem_map.mp hd
  refine ⟨by rw [List.length_map]; have := hl l hm; omega, fun d hd => ?_⟩
  obtain ⟨x, _, rfl⟩ := List.mem_map.mp hd
  cases x <;> exact True.intro
theorem eqv_nil_line (l : List Itm) : PyData.eqv (lineD l) (.tuple []) = decide (l = []) := by
  unfold lineD
  rw [PyData.eqv]
  cases l <;> rfl
theorem eqv_self' {d : PyData} (h : SeqAt.shaped d = true) : PyData.eqv d d = true := SeqAt.eqv_refl d (SeqAt.canLay_of_shaped h)
theorem it_get {l : List Itm} {i : Nat} {x : Itm} (h : l[i]? = some x) {z : Int} (e : z = (i : Int)) : atI (l.map itV) z = some (itV x) := by
  refine at_of e ?_
  rw [List.getElem?_map, h]
  rfl
theorem strOk_all : ∀ s ∈ wds ++ lets ++ (["e", "A", "ab"] : List Str), PyData.strOk s = true := by decide +kernel
end G
set_option Elab.async false
set_option linter.all false
set_option maxRecDepth 100000
set_option maxHeartbeats 4000000
namespace G
open PySem PySem.Spec PyProof.Rows L2
/-! ### lines as keys, numbered as they come -/
instance lawItm : LawfulBEq Itm where
  eq_of_beq {a b} h := by
    cases a with
    | inl x => cases b with
      | inl y => rw [eq_of_beq (show (x == y) = true from h)]
      | inr y => exact nomatch (show false = true from h)
    | inr x => cases b with
      | inl y => exact nomatch (show false = true from h)
      | inr y => rw [eq_of_beq (show (x == y) = true from h)]
  rfl {a} := by
    cases a with
    | inl x => exact (beq_self_eq_true x : (x == x) = true)
    | inr x => exact (beq_self_eq_true x : (x == x) = true)
theorem idx_ne {α : Type} [BEq α] [LawfulBEq α] {x y : α} {l : List α} (h : x ≠ y) : (x :: l).idxOf y = l.idxOf y + 1 := by
  rw [List.idxOf_cons, show (x == y) = false from by
    cases q : x == y with
    | false => rfl
    | true => exact absurd (eq_of_beq q) h]
  rfl
theorem idx_app {α : Type} [BEq α] [LawfulBEq α] {x : α} : ∀ {l : List α}, x ∉ l → (l ++ [x]).idxOf x = l.length
  | [], _ => List.idxOf_cons_self
  | y :: l, h => by
    have ne : y ≠ x := fun e => h (by rw [e]; exact List.mem_cons_self)
    rw [List.cons_append, idx_ne ne, idx_app (fun h2 => h (List.mem_cons_of_mem _ h2))]
    rfl
def itK : Itm → NestedKey
  | .inl s => .text s
  | .inr i => .num i
def lineK (l : List Itm) : NestedKey := .tup (l.map itK)
theorem itK_inj {x y : Itm} (h : itK x = itK y) : x = y := by
  cases x with
  | inl s => cases y with
    | inl t => injection h with h; rw [h]
    | inr j => exact nomatch h
  | inr i => cases y with
    | inl t => exact nomatch h
    | inr j => injection h with h; rw [h]
theorem itKs_inj : ∀ {a b : List Itm}, a.map itK = b.map itK → a = b
  | [], [], _ => rfl
  | [], _ :: _, h => nomatch h
  | _ :: _, [], h => nomatch h
  | x :: a, y :: b, h => by
    rw [List.map_cons, List.map_cons] at h
    injection h with h1 h2
    rw [itK_inj h1, itKs_inj h2]
theorem lineK_inj {a b : List Itm} (h : lineK a = lineK b) : a = b := by
  injection h with h
  exact itKs_inj h
theorem dn_line {K : PySem.W.Frag} {H : Hp} {b : Addr} {l : List Itm} (h : SqT K H b (l.map itV)) : Dn K H (.ref b) (lineK l) := by
  refine .tup h ?_
  clear h
  induction l with
  | nil => exact .nil
  | cons x l ih =>
    refine .cons ?_ ih
    cases x with
    | inl s => exact .str s
    | inr i => exact .int i
theorem lineK_depth (l : List Itm) : (lineK l).depth ≤ 8 := by
  have h : NestedKey.depthAll (l.map itK) = 0 := by
    induction l with
    | nil => rfl
    | cons x l ih =>
      rw [List.map_cons]
      cases x with
      | inl s =>
        show max 0 (NestedKey.depthAll _) = 0
        rw [ih]
        rfl
      | inr i =>
        show max 0 (NestedKey.depthAll _) = 0
        rw [ih]
        rfl
  show NestedKey.depthAll _ + 1 ≤ 8
  rw [h]
  decide
/-- the lines and their numbers, from k on -/
def numL : Nat → List (Addr × List Itm) → NL
  | _, [] => []
  | k, p :: zs => (lineK p.2, p.1, .int (k : Int)) :: numL (k + 1) zs
theorem numL_len : ∀ (zs : List (Addr × List Itm)) (k : Nat), (numL k zs).length = zs.length
  | [], _ => rfl
  | _ :: zs, k => congrArg (· + 1) (numL_len zs (k + 1))
theorem numL_snoc : ∀ (zs : List (Addr × List Itm)) (k : Nat) (p : Addr × List Itm), numL k (zs ++ [p]) = numL k zs ++ [(lineK p.2, p.1, .int ((k + zs.length : Nat) : Int))]
  | [], k, p => rfl
  | z :: zs, k, p => by
    show _ :: numL (k + 1) (zs ++ [p]) = _ :: (numL (k + 1) zs ++ _)
    rw [numL_snoc zs (k + 1) p, List.length_cons, show k + 1 + zs.length = k + (zs.length + 1) by omega]
theorem numL_val : ∀ (zs : List (Addr × List Itm)) (k : Nat) (l : List Itm), valN (numL k zs) (lineK l) = if l ∈ zs.map (·.2) then some (.int ((k + (zs.map (·.2)).idxOf l : Nat) : Int)) else none
  | [], k, l => by rw [if_neg (fun h => nomatch h)]; rfl
  | z :: zs, k, l => by
    have ih := numL_val zs (k + 1) l
    by_cases e : z.2 = l
    · rw [if_pos (by rw [List.map_cons, e]; exact List.mem_cons_self)]
      unfold valN atN
      show ((Option.map _ (List.find? _ ((lineK z.2, z.1, V.int (k : Int)) :: numL (k + 1) zs))).map _) = _
      rw [List.find?_cons_of_pos (by rw [e]; exact decide_eq_true rfl), List.map_cons, e, List.idxOf_cons_self]
      rfl
    · have e1 : valN (numL k (z :: zs)) (lineK l) = valN (numL (k + 1) zs) (lineK l) := by
        unfold valN atN
        show ((Option.map _ (List.find? _ ((lineK z.2, z.1, V.int (k : Int)) :: numL (k + 1) zs))).map _) = _
        rw [List.find?_cons_of_neg (by rw [decide_eq_true_eq]; exact fun h => e (lineK_inj h))]
      rw [e1, ih, List.map_cons, idx_ne e]
      by_cases hm : l ∈ zs.map (·.2)
      · rw [if_pos hm, if_pos (List.mem_cons_of_mem _ hm), show k + 1 + (zs.map (·.2)).idxOf l = k + ((zs.map (·.2)).idxOf l + 1) by omega]
      · rw [if_neg hm, if_neg (fun h => (List.mem_cons.mp h).elim (fun h => e h.symm) hm)]
theorem numL_keys {K : PySem.W.Frag} {H : Hp} : ∀ {zs : List (Addr × List Itm)} {k : Nat}, (∀ p ∈ zs, SqT K H p.1 (p.2.map itV)) → KeysN K H (numL k zs)
  | [], _, _ => fun _ h => nomatch h
  | z :: zs, k, h => fun p hp => by
    rcases List.mem_cons.mp hp with rfl | hp
    · exact ⟨dn_line (h z List.mem_cons_self), lineK_depth _⟩
    · exact numL_keys (zs := zs) (k := k + 1) (fun q hq => h q (List.mem_cons_of_mem _ hq)) p hp
/-- a line more, if it is new -/
def addZ (zs : List (Addr × List Itm)) (b : Addr) (l : List Itm) : List (Addr × List Itm) := if l ∈ zs.map (·.2) then zs else zs ++ [(b, l)]
def addL (L : List (List Itm)) (l : List Itm) : List (List Itm) := if l ∈ L then L else L ++ [l]
theorem addZ_map (zs : List (Addr × List Itm)) (b : Addr) (l : List Itm) : (addZ zs b l).map (·.2) = addL (zs.map (·.2)) l := by
  unfold addZ addL
  split
  · rfl
  · rw [List.map_append]; rfl
theorem addL_mem (L : List (List Itm)) (l : List Itm) : l ∈ addL L l := by
  unfold addL
  split
  · assumption
  · exact List.mem_append_right _ List.mem_cons_self
theorem addL_len (L : List (List Itm)) (l : List Itm) : (addL L l).length ≤ L.length + 1 := by
  unfold addL
  split
  · omega
  · rw [List.length_append]; exact Nat.le_refl _
theorem upd_id {H : Hp} {a : Addr} {o : HO} (h : H a = some o) : upd H a o = H := by
  funext b
  by_cases hb : b = a
  · rw [hb, upd_same, h]
  · rw [upd_ne hb]
/-- numbers.setdefault(line, len(numbers)) -/
theorem r_number {K : PySem.W.Frag} {P : Program} {w : World} {σ : L2.St} {H : Hp} {Q : VK} {td ty tx : TE} {d b : Addr} {zs : List (Addr × List Itm)} {l : List Itm}
    (hd : H d = some (NDO P w d (numL 0 zs))) (hz : ∀ p ∈ zs, SqT K H p.1 (p.2.map itV)) (hb : SqT K H b (l.map itV)) (hl : zs.length < 100000)
    (h1 : ∀ Q : VK, Q (.ref d) H → td σ H Q) (h2 : ∀ Q : VK, Q (.ref b) H → ty σ H Q) (h3 : ∀ Q : VK, Q (.int (zs.length : Int)) H → tx σ H Q)
    (q : Q (.int ((addL (zs.map (·.2)) l).idxOf l : Nat)) (upd H d (NDO P w d (numL 0 (addZ zs b l))))) : tNSetd K P w td ty tx σ H Q := by
  refine h1 _ ⟨d, _, rfl, .inl hd, h2 _ (h3 _ ⟨d, b, lineK l, numL 0 zs, rfl, rfl, hd, numL_keys hz, dn_line hb, lineK_depth l, ?_, fun v hv => ?_, fun hn => ?_⟩)⟩
  · have zl : (sizeLine : Nat) = 16777216 := by decide
    rw [numL_len]; omega
  · rw [numL_val] at hv
    by_cases hm : l ∈ zs.map (·.2)
    · rw [if_pos hm] at hv
      obtain rfl := Option.some.inj hv
      rw [addL, if_pos hm] at q
      rw [addZ, if_pos hm, upd_id hd] at q
      rw [Nat.zero_add]
      exact q
    · rw [if_neg hm] at hv
      exact nomatch hv
  · rw [numL_val] at hn
    by_cases hm : l ∈ zs.map (·.2)
    · rw [if_pos hm] at hn
      exact nomatch hn
    · rw [addL, if_neg hm] at q
      rw [addZ, if_neg hm, numL_snoc, Nat.zero_add] at q
      rw [idx_app hm, List.length_map] at q
      exact q
end G
set_option Elab.async false
set_option linter.all false
set_option maxRecDepth 100000
set_option maxHeartbeats 4000000
namespace G
open PySem PySem.Spec PyProof.Rows L2
/-! ### lines in lists of lines -/
theorem eqv_it (a b : Itm) : PyData.eqv (itD a) (itD b) = decide (a = b) := by
  cases a with
  | inl s => cases b with
    | inl t =>
      show (s == t) = _
      by_cases h : s = t
      · rw [h, decide_eq_true rfl]; exact beq_self_eq_true t
      · rw [decide_eq_false (fun e => h (Sum.inl.inj e))]
        exact beq_eq_false_iff_ne.mpr h
    | inr j =>
      rw [decide_eq_false (fun e => nomatch e)]
      rfl
  | inr i => cases b with
    | inl t =>
      rw [decide_eq_false (fun e => nomatch e)]
      rfl
    | inr j =>
      show (i == j) = _
      by_cases h : i = j
      · rw [h, decide_eq_true rfl]; exact beq_self_eq_true j
      · rw [decide_eq_false (fun e => h (Sum.inr.inj e))]
        exact beq_eq_false_iff_ne.mpr h
theorem eqv_its : ∀ a b : List Itm, PyData.eqvAll (a.map itD) (b.map itD) = decide (a = b)
  | [], [] => rfl
  | [], _ :: _ => rfl
  | _ :: _, [] => rfl
  | x :: a, y :: b => by
    show (PyData.eqv (itD x) (itD y) && PyData.eqvAll (a.map itD) (b.map itD)) = _
    rw [eqv_it, eqv_its a b]
    by_cases h : x = y
    · by_cases h2 : a = b
      · rw [h, h2, decide_eq_true rfl, decide_eq_true rfl, decide_eq_true rfl]; rfl
      · rw [decide_eq_false h2, decide_eq_false (fun e => h2 (List.cons.inj e).2), Bool.and_false]
    · rw [decide_eq_false h, decide_eq_false (fun e => h (List.cons.inj e).1), Bool.false_and]
theorem eqv_line (a b : List Itm) : PyData.eqv (lineD a) (lineD b) = decide (a = b) := by
  unfold lineD
  rw [PyData.eqv]
  exact eqv_its a b
theorem mt_indexDL {X : Cx} {K : PySem.W.Frag} (hK : X.K = K) (hu : X.A.units + 65 < cLine) : MtR X "list.index" (rIndexD K) := hK ▸ mt_indexD hu
def TxtOk (l : List Itm) : Prop := ∀ s, .inl s ∈ l → PyData.strOk s = true
theorem any_lines (rs : List (List Itm)) (l : List Itm) : ((rs.map lineD).any fun z => PyData.eqv z (lineD l)) = decide (l ∈ rs) := by
  rw [List.any_map]
  by_cases h : l ∈ rs
  · rw [decide_eq_true h]
    exact List.any_eq_true.mpr ⟨l, h, by show PyData.eqv (lineD l) (lineD l) = true; rw [eqv_line]; exact decide_eq_true rfl⟩
  · rw [decide_eq_false h]
    refine List.any_eq_false.mpr fun y hy e => h ?_
    have e2 : PyData.eqv (lineD y) (lineD l) = true := e
    rw [eqv_line] at e2
    rw [← of_decide_eq_true e2]
    exact hy
section
variable {X : Cx} {K : PySem.W.Frag} {H : Hp} {Q : VK}
theorem r_notInLine {b p : Addr} {l : List Itm} {zs : List (Addr × List Itm)} (h1 : SqT K H b (l.map itV)) (t1 : TxtOk l) (h2 : SqL K H p (refsG zs)) (hall : ∀ q ∈ zs, SqT K H q.1 (q.2.map itV)) (tall : ∀ q ∈ zs, TxtOk q.2) (q : Q (.bl (!decide (l ∈ zs.map (·.2)))) H) : rNotInD K (.ref b) (.ref p) H Q :=
  ⟨lineD l, (zs.map (·.2)).map lineD, (line_dt h1).dp, dp_lines h2 hall, shaped_line t1, shaped_lines (fun x hx => by obtain ⟨y, hy, rfl⟩ := List.mem_map.mp hx; exact tall y hy), by rw [any_lines]; exact q⟩
theorem r_indexLine {b p : Addr} {l : List Itm} {zs : List (Addr × List Itm)} (h1 : SqT K H b (l.map itV)) (t1 : TxtOk l) (h2 : SqL K H p (refsG zs)) (hall : ∀ q ∈ zs, SqT K H q.1 (q.2.map itV)) (tall : ∀ q ∈ zs, TxtOk q.2) (hm : l ∈ zs.map (·.2)) (q : Q (.int ((zs.map (·.2)).idxOf l : Nat)) H) : rIndexD K (.ref p) [.ref b] H Q := by
  have hd := dp_lines h2 hall
  have hsh : SeqAt.shaped (.list ((zs.map (·.2)).map lineD)) = true := shaped_lines (fun x hx => by obtain ⟨y, hy, rfl⟩ := List.mem_map.mp hx; exact tall y hy)
  generalize zs.map (·.2) = rs at *
  have hl := List.idxOf_lt_length_of_mem hm
  refine ⟨p, .ref b, lineD l, rs.map lineD, rs.idxOf l, lineD l, rfl, rfl, hd, (line_dt h1).dp, hsh, shaped_line t1, ?_, ?_, fun m z' hm' hz => ?_, q⟩
  · rw [List.getElem?_map, List.getElem?_eq_getElem hl, List.getElem_idxOf hl]
    rfl
  · rw [eqv_line]
    exact decide_eq_true rfl
  · rw [List.getElem?_map] at hz
    obtain ⟨y, hy, rfl⟩ := Option.map_eq_some_iff.mp hz
    rw [eqv_line]
    refine decide_eq_false fun e => ?_
    obtain ⟨hml, ey⟩ := List.getElem?_eq_some_iff.mp hy
    have := List.not_of_lt_findIdx (p := (· == l)) (xs := rs) (i := m) hm'
    rw [ey, e] at this
    simp at this
end
end G
set_option Elab.async false
set_option linter.all false
set_option maxRecDepth 100000
set_option maxHeartbeats 4000000
namespace G
open PySem PySem.Spec PyProof.Rows L2
/-! ### tuple(d) of a dict: its keys -/
section
variable {prog : Program} {w : World} {A : Around} {E : Value → Shared → Prop} {s : Shared} {T : String} {r d : Addr} {n : Nat} {Pv : Nat → Value → Prop} {OK : Heap → Prop}
theorem tuple_kdl {Q : Value → Shared → Prop} (S : PySem.W.KdlSrc prog w T r d n Pv OK) (calm : A.handled = none) (ok : OK s.heap) (small : n ≤ sizeLine)
    (key : ∀ (h1 : Heap) (tk : Nat) (acc : Array Value), (∀ b o, s.heap.get? b = some o → h1.get? b = some o) → ItemsOf Pv acc n → Q (.ref h1.objs.size) { s with heap := h1.push { cls := .type "tuple", data := .seq acc }, toks := tk }) :
    wpAny (model prog w) A (call (.type "tuple") [.ref r]) Q E s := by
  have fresh : codeAny (model prog w) A.in1 (.call (.builtin "tuple.__new__") ⟨[.type "tuple", .ref r], []⟩) (wants (fun obj s₁ => s₁.TypeIs obj "tuple" ∧ Q obj s₁) E) s := by
    refine codeAny_of_tree (show wpAny _ A.in1.in1 (do checkBuiltinCall "tuple.__new__" ⟨[.type "tuple", .ref r], []⟩; again (.builtin "tuple.__new__" ⟨[.type "tuple", .ref r], []⟩)) _ _ s from ?_)
    refine wpAny_bind (wpAny_of_eq (F.newCall_tuple_1 _) (wpAny_pure (And.intro (plainId_quiet F.plain_tuple_new _) (codeAny_builtin F.entry_tuple_new ?_))))
    rw [Around.under_plainId F.plain_tuple_new _]
    have a1 := sub_tuple_self
    have a2 := init_tuple_lookup
    have a3 := madeHere_tuple
    have ty : s.TypeIs (.ref r) T := S.type _ ok
    have calm2 : A.in1.in1.handled = none := calm
    have nl := S.notList
    have nt := S.notTuple
    wp_walk using wpAny_typeOf ty, PySem.W.kdu_collect (A := A.in1.in1) S calm2 ok small
    rintro h1 tk acc hk it
    show wpAny _ _ (Builtin.Tuple.tupleExact acc.toList.toArray >>= ret) _ _ _
    rw [Array.toArray_toList]
    unfold Builtin.Tuple.tupleExact
    refine wpAny_bind (wpAny_newObj_type (wpAny_pure ?_) (show acc.size ≤ sizeLine by rw [it.1]; exact small))
    exact ⟨⟨_, Heap.get?_push_size _ rfl, rfl⟩, key h1 tk acc hk it⟩
  refine callType_codes (Q₁ := fun obj s₁ => s₁.TypeIs obj "tuple" ∧ Q obj s₁) F.called_tuple (F.typeCall_tuple_1 _) F.entry_object_init fresh fun obj s₁ g => And.intro g.1 (And.intro (F.args_object_init_2 obj _) ?_)
  exact object_init_meets F.called_tuple.init.lookup F.called_tuple.made (by decide) prog w A.in1 _ s₁ ⟨g.1, rfl, g.2⟩
end
theorem numL_get : ∀ (zs : List (Addr × List Itm)) (k j : Nat) (p : Addr × List Itm), zs[j]? = some p → (numL k zs)[j]? = some (lineK p.2, p.1, .int ((k + j : Nat) : Int))
  | [], _, _, _, h => by simp at h
  | z :: zs, k, 0, p, h => by
    have e : z = p := Option.some.inj h
    rw [e]
    rfl
  | z :: zs, k, j + 1, p, h => by
    have ih := numL_get zs (k + 1) j p h
    rw [show k + 1 + j = k + (j + 1) by omega] at ih
    exact ih
theorem valsG : ∀ zs : List (Addr × List Itm), Vals (refsG zs) (zs.map fun p => Value.ref p.1)
  | [] => .nil
  | _ :: zs => .cons rfl (valsG zs)
/-- tuple(d), d the numbered lines -/
def rTupNum (P : Program) (w : World) : List V → Hp → VK → Prop := fun xs H Q => ∃ (d : Addr) (zs : List (Addr × List Itm)), xs = [.ref d] ∧ H d = some (NDO P w d (numL 0 zs)) ∧ ∀ t, H t = none → Q (.ref t) (upd H t (.tup (refsG zs)))
theorem call_tupNum {X : Cx} {P : Program} {w : World} (hc : X.calm = true) (eP : X.prog = P) (ew : X.w = w) : CallR X (.type "tuple") (rTupNum P w) := by
  subst eP ew
  intro pins s σ H xs us Q I rs h
  obtain ⟨d, zs, rfl, hd, q⟩ := h
  obtain ⟨u, rfl, rx⟩ := vals1 rs
  cases rx
  obtain ⟨z, hs, ks, pr, o, es, ep, ho, hx, hdt, he, hn⟩ := nd_of I (.inl hd)
  have l1 : es.size = ks.length := size_of_entries he
  have l2 : (numL 0 zs).length = ks.length := Paired.length pr
  have l3 := numL_len zs 0
  refine tuple_kdl (kdl_raw hs hx hdt) (I.ok.hd hc) ho (by omega) fun h1 tk acc kp it => ?_
  have rv : Vals (refsG zs) acc.toList := by
    have ea : acc.toList = zs.map fun p => Value.ref p.1 := by
      refine List.ext_getElem? fun j => ?_
      rw [List.getElem?_map]
      cases hj : acc.toList[j]? with
      | none =>
        have h2 := List.getElem?_eq_none_iff.mp hj
        rw [Array.length_toList, it.1] at h2
        rw [List.getElem?_eq_none (by omega)]
        rfl
      | some v =>
        have hjl := (List.getElem?_eq_some_iff.mp hj).1
        rw [Array.length_toList, it.1] at hjl
        obtain ⟨en, hen, hv⟩ := it.2 j v (by rw [← Array.getElem?_toList]; exact hj)
        have hq : zs[j]? = some (zs[j]'(by omega)) := List.getElem?_eq_getElem _
        obtain ⟨b, hb, _, e2, _⟩ := paired_getN pr (numL_get zs 0 j _ hq)
        have qe := entry_at he j
        rw [hen, hb] at qe
        rw [hq, hv, Option.some.inj qe]
        show some (Value.ref b.2.1) = some (Value.ref zs[j].1)
        rw [← e2]
    rw [ea]
    exact valsG zs
  have hz : (refsG zs).length ≤ sizeLine := by rw [refsG_len]; omega
  have I1 : Inv X pins σ H { s with heap := h1, toks := tk } := I.kept kp
  refine ⟨.ref h1.objs.size, _, I1.laid (t' := tk) (o := .tup (refsG zs)) (fun b o e => Heap.get?_push_of_some _ e) (Nat.le_refl _) ?_, rfl, q _ (I1.hok.fresh (Nat.le_refl _))⟩
  refine ⟨hz, acc.toList, rv, ?_⟩
  rw [Array.toArray_toList]
  exact IsTup.new _ _
end G
namespace L62
open PySem PySem.Spec PyProof.Rows L2 G
local macro_rules | `(tactic| walk_at "rd1") => `(tactic| first
  | (with_reducible refine r_seq ?_) | (with_reducible refine r_set ?_)
  | ((with_reducible refine' r_var ?rdh ?_); (case rdh => exact rfl))
  | (with_reducible refine r_c ?_) | (with_reducible refine r_op ?_) | (with_reducible refine r_un ?_) | (with_reducible refine r_cb ?_)
  | (with_reducible refine r_cons ?_) | (with_reducible refine r_nil ?_) | (with_reducible refine r_call ?_)
  | (with_reducible refine r_test ?_) | (with_reducible refine r_tb ?_) | (with_reducible refine r_bl ?_)
  | (with_reducible refine r_if ?_) | (with_reducible refine r_yes ?_) | (with_reducible refine r_ifx ?_) | (with_reducible refine r_and ?_) | (with_reducible refine r_or ?_) | (with_reducible refine r_not ?_)
  | (with_reducible refine r_andV ?_) | (with_reducible refine r_orV ?_) | (with_reducible refine r_notV ?_)
  | (with_reducible refine r_ret ?_) | (with_reducible refine r_retN ?_) | (with_reducible refine r_next ?_) | (with_reducible refine r_drop ?_) | (with_reducible refine r_asg ?_)
  | (with_reducible refine r_tup ?_) | (with_reducible refine r_lst ?_)
  | (with_reducible refine r_I0 ?_) | (with_reducible refine r_U ?_) | (with_reducible refine r_eqI ?_) | (with_reducible refine r_neI ?_) | (with_reducible refine r_eqS ?_) | (with_reducible refine r_neS ?_) | (with_reducible refine r_eqB ?_) | (with_reducible refine r_neB ?_)
  | (with_reducible refine r_int1 ?_) | (with_reducible refine r_isN ?_) | (with_reducible refine r_notN ?_)
  | (with_reducible refine iteT ?_) | (with_reducible refine iteF ?_)
  | (with_reducible refine r_sl ?_) | (with_reducible refine r_noPart ?_) | (with_reducible refine r_part ?_) | (with_reducible refine r_pint ?_)
  | ((with_reducible refine' r_isi (.ty _) ?rdt ?rdk ?_); (case rdt => first | exact .base (.int _) | exact .base (.str _) | exact .base (.bl _) | exact .base .non | exact tyx_sqL (by assumption) | exact tyx_sqT (by assumption)); (case rdk => first | exact kt_NoneType_list | exact kt_NoneType_tuple | exact kt_NoneType_bool | exact kt_NoneType_int | exact kt_NoneType_str | exact kt_bool_list | exact kt_bool_tuple | exact kt_bool_bool | exact kt_bool_int | exact kt_bool_str | exact kt_int_list | exact kt_int_tuple | exact kt_int_bool | exact kt_int_int | exact kt_int_str | exact kt_str_list | exact kt_str_tuple | exact kt_str_bool | exact kt_str_int | exact kt_str_str | exact kt_list_list | exact kt_list_tuple | exact kt_list_bool | exact kt_list_int | exact kt_list_str | exact kt_tuple_list | exact kt_tuple_tuple | exact kt_tuple_bool | exact kt_tuple_int | exact kt_tuple_str))
  | (with_reducible refine r_gn ?_) | (with_reducible refine r_gsub ?_) | (with_reducible refine r_chain ?_) | (with_reducible refine r_inSg ?_) | (with_reducible refine r_notInSg ?_) | (with_reducible refine r_bmS ?_) | ((with_reducible show tLc _ _ _ _ _ _ _ _); (first | show iStr _ _ _ _ | show iList _ _ _ _ _ | show iTup _ _ _ _ _ | show iRng1 _ _ _ _ | show iRng2 _ _ _ _)) | (with_reducible refine r_iStr ?_) | (with_reducible refine r_iList ?_) | (with_reducible refine r_iTup ?_) | (with_reducible refine r_str1 ?_) | (with_reducible refine r_ref1 ?_)
  | (with_reducible refine iteNT ?_) | (with_reducible refine iteNF ?_)
  | (with_reducible refine r_fdiv ⟨by decide, by decide⟩ ?_) | (with_reducible refine r_mod (by first | decide | assumption) ?_) | (with_reducible refine r_mul (.inr ⟨by decide, by decide⟩) ?_) | (with_reducible refine r_mul (.inl ⟨by decide, by decide⟩) ?_) | (with_reducible refine r_pow ⟨by decide, by decide, by decide⟩ ?_)
  | ((with_reducible show tFor _ _ _ _ _ _); (first | show iStr _ _ _ _ | show iList _ _ _ _ _ | show iTup _ _ _ _ _ | show iRng1 _ _ _ _ | show iRng2 _ _ _ _)) | (with_reducible refine r_rng1 ?_) | (with_reducible refine r_bmL ?_) | (with_reducible refine r_break ?_) | (with_reducible refine r_cont ?_))
local macro_rules | `(tactic| walk_at "rd") => `(tactic| repeat walk_at "rd1")
local macro_rules | `(tactic| walk_at "rdn") => `(tactic| repeat ((fail_if_success (with_reducible refine r_if ?_)); walk_at "rd1"))
section
def topS (i : Nat) : Stmt := PySem.Challenge.pw_turnsandthrows_k62_first_fault_of_a_form.main.body.getD i (.Pass ⟨0, 0, 0, 0⟩)
abbrev s_is_letter : Stmt := topS 6
abbrev N_is_letter : List Str := ["entry"]
theorem sc_is_letter : FnScope N_is_letter ["entry"] (defScope s_is_letter) := ⟨rfl, rfl, rfl, by decide +kernel, rfl, by decide +kernel, by decide +kernel⟩
abbrev s_number_of : Stmt := topS 7
abbrev N_number_of : List Str := ["numbers", "line"]
theorem sc_number_of : FnScope N_number_of ["numbers", "line"] (defScope s_number_of) := ⟨rfl, rfl, rfl, by decide +kernel, rfl, by decide +kernel, by decide +kernel⟩
abbrev s_read_formula : Stmt := topS 11
abbrev N_read_formula : List Str := ["text", "reader"]
theorem sc_read_formula : FnScope N_read_formula ["text"] (defScope s_read_formula) := ⟨rfl, rfl, rfl, by decide +kernel, rfl, by decide +kernel, by decide +kernel⟩
abbrev s_tokens_of : Stmt := topS 12
abbrev N_tokens_of : List Str := ["text", "at", "sign", "tokens", "goes_on"]
theorem sc_tokens_of : FnScope N_tokens_of ["text"] (defScope s_tokens_of) := ⟨rfl, rfl, rfl, by decide +kernel, rfl, by decide +kernel, by decide +kernel⟩
abbrev s_is_small : Stmt := topS 13
abbrev N_is_small : List Str := ["sign"]
theorem sc_is_small : FnScope N_is_small ["sign"] (defScope s_is_small) := ⟨rfl, rfl, rfl, by decide +kernel, rfl, by decide +kernel, by decide +kernel⟩
abbrev s_Reader_init : Stmt := inClass (topS 14) 0
abbrev N_Reader_init : List Str := ["self", "tokens"]
theorem sc_Reader_init : FnScope N_Reader_init ["self", "tokens"] (defScope s_Reader_init) := ⟨rfl, rfl, rfl, by decide +kernel, rfl, by decide +kernel, by decide +kernel⟩
abbrev s_Reader_token : Stmt := inClass (topS 14) 1
abbrev N_Reader_token : List Str := ["self"]
theorem sc_Reader_token : FnScope N_Reader_token ["self"] (defScope s_Reader_token) := ⟨rfl, rfl, rfl, by decide +kernel, rfl, by decide +kernel, by decide +kernel⟩
abbrev s_Reader_place : Stmt := inClass (topS 14) 2
abbrev N_Reader_place : List Str := ["self"]
theorem sc_Reader_place : FnScope N_Reader_place ["self"] (defScope s_Reader_place) := ⟨rfl, rfl, rfl, by decide +kernel, rfl, by decide +kernel, by decide +kernel⟩
abbrev s_Reader_take : Stmt := inClass (topS 14) 3
abbrev N_Reader_take : List Str := ["self", "token"]
theorem sc_Reader_take : FnScope N_Reader_take ["self", "token"] (defScope s_Reader_take) := ⟨rfl, rfl, rfl, by decide +kernel, rfl, by decide +kernel, by decide +kernel⟩
abbrev s_Reader_operation : Stmt := inClass (topS 14) 4
abbrev N_Reader_operation : List Str := ["self", "rank", "left", "right"]
theorem sc_Reader_operation : FnScope N_Reader_operation ["self", "rank"] (defScope s_Reader_operation) := ⟨rfl, rfl, rfl, by decide +kernel, rfl, by decide +kernel, by decide +kernel⟩
abbrev s_Reader_plain : Stmt := inClass (topS 14) 5
abbrev N_Reader_plain : List Str := ["self", "token", "line"]
theorem sc_Reader_plain : FnScope N_Reader_plain ["self"] (defScope s_Reader_plain) := ⟨rfl, rfl, rfl, by decide +kernel, rfl, by decide +kernel, by decide +kernel⟩
abbrev s_Reader_opened : Stmt := inClass (topS 14) 6
abbrev N_Reader_opened : List Str := ["self", "token", "number"]
theorem sc_Reader_opened : FnScope N_Reader_opened ["self", "token"] (defScope s_Reader_opened) := ⟨rfl, rfl, rfl, by decide +kernel, rfl, by decide +kernel, by decide +kernel⟩
abbrev s_l_cell : Stmt := topS 16
abbrev N_l_cell : List Str := ["script", "k"]
theorem sc_l_cell : FnScope N_l_cell ["script", "k"] (defScope s_l_cell) := ⟨rfl, rfl, rfl, by decide +kernel, rfl, by decide +kernel, by decide +kernel⟩
abbrev s_l_numbers : Stmt := topS 17
abbrev N_l_numbers : List Str := ["cell", "count", "numbers", "k", "mixed"]
theorem sc_l_numbers : FnScope N_l_numbers ["cell", "count"] (defScope s_l_numbers) := ⟨rfl, rfl, rfl, by decide +kernel, rfl, by decide +kernel, by decide +kernel⟩
abbrev s_l_formula : Stmt := topS 18
abbrev N_l_formula : List Str := ["script", "first", "size", "stack", "k", "numbers", "sort", "word", "right", "entry", "other"]
theorem sc_l_formula : FnScope N_l_formula ["script", "first", "size"] (defScope s_l_formula) := ⟨rfl, rfl, rfl, by decide +kernel, rfl, by decide +kernel, by decide +kernel⟩
abbrev s_l_wrapped : Stmt := topS 19
abbrev N_l_wrapped : List Str := ["entry", "rank", "needless"]
theorem sc_l_wrapped : FnScope N_l_wrapped ["entry", "rank", "needless"] (defScope s_l_wrapped) := ⟨rfl, rfl, rfl, by decide +kernel, rfl, by decide +kernel, by decide +kernel⟩
abbrev s_l_unary : Stmt := topS 20
abbrev N_l_unary : List Str := ["entry", "word", "number", "inner"]
theorem sc_l_unary : FnScope N_l_unary ["entry", "word", "number"] (defScope s_l_unary) := ⟨rfl, rfl, rfl, by decide +kernel, rfl, by decide +kernel, by decide +kernel⟩
abbrev s_l_binary : Stmt := topS 21
abbrev N_l_binary : List Str := ["left", "right", "which", "numbers", "word", "rank", "first", "second"]
theorem sc_l_binary : FnScope N_l_binary ["left", "right", "which", "numbers"] (defScope s_l_binary) := ⟨rfl, rfl, rfl, by decide +kernel, rfl, by decide +kernel, by decide +kernel⟩
abbrev s_l_printed : Stmt := topS 22
abbrev N_l_printed : List Str := ["tokens", "cell", "text", "columns", "numbers", "k", "gap"]
theorem sc_l_printed : FnScope N_l_printed ["tokens", "cell"] (defScope s_l_printed) := ⟨rfl, rfl, rfl, by decide +kernel, rfl, by decide +kernel, by decide +kernel⟩
abbrev s_l_spoilt : Stmt := topS 23
abbrev N_l_spoilt : List Str := ["tokens", "numbers", "at", "words", "word", "sort"]
theorem sc_l_spoilt : FnScope N_l_spoilt ["tokens", "numbers"] (defScope s_l_spoilt) := ⟨rfl, rfl, rfl, by decide +kernel, rfl, by decide +kernel, by decide +kernel⟩
abbrev s_l_fault : Stmt := topS 24
abbrev N_l_fault : List Str := ["tokens", "frames", "pending", "levels", "wants", "k", "token"]
theorem sc_l_fault : FnScope N_l_fault ["tokens"] (defScope s_l_fault) := ⟨rfl, rfl, rfl, by decide +kernel, rfl, by decide +kernel, by decide +kernel⟩
abbrev s_l_column : Stmt := topS 25
abbrev N_l_column : List Str := ["text", "e"]
theorem sc_l_column : FnScope N_l_column ["text"] (defScope s_l_column) := ⟨rfl, rfl, rfl, by decide +kernel, rfl, by decide +kernel, by decide +kernel⟩
abbrev s_law : Stmt := topS 26
abbrev N_law : List Str := ["script", "numbers", "tokens", "opened", "k", "text", "columns", "fault", "due", "at"]
theorem sc_law : FnScope N_law ["script"] (defScope s_law) := ⟨rfl, rfl, rfl, by decide +kernel, rfl, by decide +kernel, by decide +kernel⟩
structure Ad where
  f_is_letter : Addr
  d_is_letter : FuncData
  f_number_of : Addr
  d_number_of : FuncData
  f_read_formula : Addr
  d_read_formula : FuncData
  f_tokens_of : Addr
  d_tokens_of : FuncData
  f_is_small : Addr
  d_is_small : FuncData
  f_Reader_init : Addr
  d_Reader_init : FuncData
  f_Reader_token : Addr
  d_Reader_token : FuncData
  f_Reader_place : Addr
  d_Reader_place : FuncData
  f_Reader_take : Addr
  d_Reader_take : FuncData
  f_Reader_operation : Addr
  d_Reader_operation : FuncData
  f_Reader_plain : Addr
  d_Reader_plain : FuncData
  f_Reader_opened : Addr
  d_Reader_opened : FuncData
  f_l_cell : Addr
  d_l_cell : FuncData
  f_l_numbers : Addr
  d_l_numbers : FuncData
  f_l_formula : Addr
  d_l_formula : FuncData
  f_l_wrapped : Addr
  d_l_wrapped : FuncData
  f_l_unary : Addr
  d_l_unary : FuncData
  f_l_binary : Addr
  d_l_binary : FuncData
  f_l_printed : Addr
  d_l_printed : FuncData
  f_l_spoilt : Addr
  d_l_spoilt : FuncData
  f_l_fault : Addr
  d_l_fault : FuncData
  f_l_column : Addr
  d_l_column : FuncData
  f_law : Addr
  d_law : FuncData
  k_MachineError : Addr
  k_SyntaxFault : Addr
  k_InvalidLines : Addr
  k_Reader : Addr
  q_BETWEEN : Addr
  pg : Program
  i_SyntaxFault : Addr
  j_SyntaxFault : FuncData
structure Txt (K : PySem.W.Frag) (mg : Str → Option Value) (a : Ad) : Prop where
  F_is_letter : Fun K "is_letter" "is_letter" s_is_letter a.f_is_letter a.d_is_letter
  b_is_letter : Binds K a.d_is_letter ["entry"] []
  g_is_letter : mg "is_letter" = some (.ref a.f_is_letter)
  F_number_of : Fun K "number_of" "number_of" s_number_of a.f_number_of a.d_number_of
  b_number_of : Binds K a.d_number_of ["numbers", "line"] []
  g_number_of : mg "number_of" = some (.ref a.f_number_of)
  F_read_formula : Fun K "read_formula" "read_formula" s_read_formula a.f_read_formula a.d_read_formula
  b_read_formula : Binds K a.d_read_formula ["text"] []
  g_read_formula : mg "read_formula" = some (.ref a.f_read_formula)
  F_tokens_of : Fun K "tokens_of" "tokens_of" s_tokens_of a.f_tokens_of a.d_tokens_of
  b_tokens_of : Binds K a.d_tokens_of ["text"] []
  g_tokens_of : mg "tokens_of" = some (.ref a.f_tokens_of)
  F_is_small : Fun K "is_small" "is_small" s_is_small a.f_is_small a.d_is_small
  b_is_small : Binds K a.d_is_small ["sign"] []
  g_is_small : mg "is_small" = some (.ref a.f_is_small)
  F_Reader_init : Fun K "__init__" "Reader.__init__" s_Reader_init a.f_Reader_init a.d_Reader_init
  b_Reader_init : Binds K a.d_Reader_init ["self", "tokens"] []
  mk_Reader : Mk K a.k_Reader a.f_Reader_init
  F_Reader_token : Fun K "token" "Reader.token" s_Reader_token a.f_Reader_token a.d_Reader_token
  b_Reader_token : Binds K a.d_Reader_token ["self"] []
  mt_Reader_token : Meth K a.k_Reader "token" a.f_Reader_token
  F_Reader_place : Fun K "place" "Reader.place" s_Reader_place a.f_Reader_place a.d_Reader_place
  b_Reader_place : Binds K a.d_Reader_place ["self"] []
  mt_Reader_place : Meth K a.k_Reader "place" a.f_Reader_place
  F_Reader_take : Fun K "take" "Reader.take" s_Reader_take a.f_Reader_take a.d_Reader_take
  b_Reader_take : Binds K a.d_Reader_take ["self", "token"] []
  mt_Reader_take : Meth K a.k_Reader "take" a.f_Reader_take
  F_Reader_operation : Fun K "operation" "Reader.operation" s_Reader_operation a.f_Reader_operation a.d_Reader_operation
  b_Reader_operation : Binds K a.d_Reader_operation ["self", "rank"] []
  mt_Reader_operation : Meth K a.k_Reader "operation" a.f_Reader_operation
  F_Reader_plain : Fun K "plain" "Reader.plain" s_Reader_plain a.f_Reader_plain a.d_Reader_plain
  b_Reader_plain : Binds K a.d_Reader_plain ["self"] []
  mt_Reader_plain : Meth K a.k_Reader "plain" a.f_Reader_plain
  F_Reader_opened : Fun K "opened" "Reader.opened" s_Reader_opened a.f_Reader_opened a.d_Reader_opened
  b_Reader_opened : Binds K a.d_Reader_opened ["self", "token"] []
  mt_Reader_opened : Meth K a.k_Reader "opened" a.f_Reader_opened
  F_l_cell : Fun K "_law_cell" "_law_cell" s_l_cell a.f_l_cell a.d_l_cell
  b_l_cell : Binds K a.d_l_cell ["script", "k"] []
  g_l_cell : mg "_law_cell" = some (.ref a.f_l_cell)
  F_l_numbers : Fun K "_law_numbers" "_law_numbers" s_l_numbers a.f_l_numbers a.d_l_numbers
  b_l_numbers : Binds K a.d_l_numbers ["cell", "count"] []
  g_l_numbers : mg "_law_numbers" = some (.ref a.f_l_numbers)
  F_l_formula : Fun K "_law_formula" "_law_formula" s_l_formula a.f_l_formula a.d_l_formula
  b_l_formula : Binds K a.d_l_formula ["script", "first", "size"] []
  g_l_formula : mg "_law_formula" = some (.ref a.f_l_formula)
  F_l_wrapped : Fun K "_law_wrapped" "_law_wrapped" s_l_wrapped a.f_l_wrapped a.d_l_wrapped
  b_l_wrapped : Binds K a.d_l_wrapped ["entry", "rank", "needless"] []
  g_l_wrapped : mg "_law_wrapped" = some (.ref a.f_l_wrapped)
  F_l_unary : Fun K "_law_unary" "_law_unary" s_l_unary a.f_l_unary a.d_l_unary
  b_l_unary : Binds K a.d_l_unary ["entry", "word", "number"] []
  g_l_unary : mg "_law_unary" = some (.ref a.f_l_unary)
  F_l_binary : Fun K "_law_binary" "_law_binary" s_l_binary a.f_l_binary a.d_l_binary
  b_l_binary : Binds K a.d_l_binary ["left", "right", "which", "numbers"] []
  g_l_binary : mg "_law_binary" = some (.ref a.f_l_binary)
  F_l_printed : Fun K "_law_printed" "_law_printed" s_l_printed a.f_l_printed a.d_l_printed
  b_l_printed : Binds K a.d_l_printed ["tokens", "cell"] []
  g_l_printed : mg "_law_printed" = some (.ref a.f_l_printed)
  F_l_spoilt : Fun K "_law_spoilt" "_law_spoilt" s_l_spoilt a.f_l_spoilt a.d_l_spoilt
  b_l_spoilt : Binds K a.d_l_spoilt ["tokens", "numbers"] []
  g_l_spoilt : mg "_law_spoilt" = some (.ref a.f_l_spoilt)
  F_l_fault : Fun K "_law_fault" "_law_fault" s_l_fault a.f_l_fault a.d_l_fault
  b_l_fault : Binds K a.d_l_fault ["tokens"] []
  g_l_fault : mg "_law_fault" = some (.ref a.f_l_fault)
  F_l_column : Fun K "_law_column" "_law_column" s_l_column a.f_l_column a.d_l_column
  b_l_column : Binds K a.d_l_column ["text"] []
  g_l_column : mg "_law_column" = some (.ref a.f_l_column)
  F_law : Fun K "law" "law" s_law a.f_law a.d_law
  b_law : Binds K a.d_law ["script"] []
  g_law : mg "law" = some (.ref a.f_law)
  cl_Reader : Cls K a.k_Reader
  na_Reader_tokens : NoAttr K a.k_Reader "tokens"
  na_Reader_at : NoAttr K a.k_Reader "at"
  na_Reader_levels : NoAttr K a.k_Reader "levels"
  na_Reader_numbers : NoAttr K a.k_Reader "numbers"
  gq_BETWEEN : mg "BETWEEN" = some (.ref a.q_BETWEEN)
  kq_BETWEEN : ∀ H : Hp, SqT K H a.q_BETWEEN [V.str "or", V.str "and", V.str "since"]
  z_ValueError : mg "ValueError" = none
  z_enumerate : mg "enumerate" = none
  z_int : mg "int" = none
  z_isinstance : mg "isinstance" = none
  z_len : mg "len" = none
  z_max : mg "max" = none
  z_range : mg "range" = none
  z_tuple : mg "tuple" = none
  c_LETTERS : ∃ t, mg "LETTERS" = some (Value.str "abcd" t)
  c_MOST_LEVELS : ∃ t, mg "MOST_LEVELS" = some (Value.int 12 t)
  gk_MachineError : mg "MachineError" = some (.ref a.k_MachineError)
  gk_SyntaxFault : mg "SyntaxFault" = some (.ref a.k_SyntaxFault)
  gk_InvalidLines : mg "InvalidLines" = some (.ref a.k_InvalidLines)
  gk_Reader : mg "Reader" = some (.ref a.k_Reader)
  x_SyntaxFault : OwnI K a.pg mg "SyntaxFault" a.k_SyntaxFault a.i_SyntaxFault a.j_SyntaxFault "column" Gnum
  em_SyntaxFault_SyntaxFault : PySem.W.exmOne K (.ref a.k_SyntaxFault) (.ref a.k_SyntaxFault) = some true
  ki_SyntaxFault_InvalidLines : PySem.W.kitOne K (.ref a.k_SyntaxFault) (.ref a.k_InvalidLines) = some false
  ki_SyntaxFault_MachineError : PySem.W.kitOne K (.ref a.k_SyntaxFault) (.ref a.k_MachineError) = some true
  ki_SyntaxFault_ValueError : PySem.W.kitOne K (.ref a.k_SyntaxFault) (.type "ValueError") = some true
def tabsOf (a : Ad) : List (Addr × Str) := []
structure Tbl (mg : Str → Option Value) (base : Heap) (a : Ad) : Prop where
  nd : ((tabsOf a).map (·.1)).Nodup
end

/-! ### formulas, what writes them, and their lines -/
inductive Ex where
  | atom (w : Str)
  | un (u : Str) (e : Ex)
  | bin (o : Str) (l r : Ex)
def bw (r : Nat) : Str := ([("or" : Str), "and", "since"] : List Str).getD r ""
def ats : List Str := ["start", "true"]
/-- the words that write the formula at a rank, with at most so many levels open -/
inductive Spells : Nat → Ex → List Str → Nat → Prop
  | lt {w : Str} {d : Nat} (h : w ∈ lets) : Spells 3 (.atom w) [w] d
  | wd {w : Str} {d : Nat} (h : w ∈ ats) : Spells 3 (.atom w) [w] d
  | par {e : Ex} {ts : List Str} {d : Nat} : Spells 0 e ts d → Spells 3 e (("(" : Str) :: (ts ++ [(")" : Str)])) (d + 1)
  | un {u : Str} {e : Ex} {ts : List Str} {d : Nat} (h : u = "not" ∨ u = "before") : Spells 3 e ts d → Spells 3 (.un u e) (u :: ts) (d + 1)
  | up {r : Nat} {e : Ex} {ts : List Str} {d : Nat} (h : r < 3) : Spells (r + 1) e ts d → Spells r e ts d
  | bin {r : Nat} {l m : Ex} {ts us : List Str} {d : Nat} (h : r < 3) : Spells r l ts d → Spells (r + 1) m us d → Spells r (.bin (bw r) l m) (ts ++ bw r :: us) d
theorem Spells.weak {r : Nat} {e : Ex} {ts : List Str} {d : Nat} (h : Spells r e ts d) : ∀ {d' : Nat}, d ≤ d' → Spells r e ts d' := by
  induction h with
  | lt h => exact fun _ => .lt h
  | wd h => exact fun _ => .wd h
  | par _ ih =>
    intro d' hd
    obtain ⟨k, rfl⟩ : ∃ k, d' = k + 1 := ⟨d' - 1, by omega⟩
    exact .par (ih (by omega))
  | un h _ ih =>
    intro d' hd
    obtain ⟨k, rfl⟩ : ∃ k, d' = k + 1 := ⟨d' - 1, by omega⟩
    exact .un h (ih (by omega))
  | up h _ ih => exact fun hd => .up h (ih hd)
  | bin h _ _ i1 i2 => exact fun hd => .bin h (i1 hd) (i2 hd)
theorem Spells.rank {r : Nat} {e : Ex} {ts : List Str} {d : Nat} (h : Spells r e ts d) : r ≤ 3 := by
  cases h <;> omega
abbrev Opd := Ex × List Str
def opsW (r : Nat) (ms : List Opd) : List Str := (ms.map fun m => bw r :: m.2).flatten
def opsE (r : Nat) (e : Ex) (ms : List Opd) : Ex := ms.foldl (fun l m => .bin (bw r) l m.1) e
/-- operands with the rank's word between them -/
theorem Spells.chain {r : Nat} {e : Ex} {ts : List Str} {d : Nat} (h : Spells r e ts d) : r < 3 → ∃ (e0 : Ex) (t0 : List Str) (ms : List Opd), Spells (r + 1) e0 t0 d ∧ (∀ m ∈ ms, Spells (r + 1) m.1 m.2 d) ∧ ts = t0 ++ opsW r ms ∧ e = opsE r e0 ms := by
  induction h with
  | lt h => exact fun z => absurd z (by decide)
  | wd h => exact fun z => absurd z (by decide)
  | par _ _ => exact fun z => absurd z (by decide)
  | un _ _ _ => exact fun z => absurd z (by decide)
  | up h h1 _ => exact fun _ => ⟨_, _, [], h1, (fun _ z => nomatch z), (List.append_nil _).symm, rfl⟩
  | @bin r l m ts us d h _ h2 ih _ =>
    intro hr
    obtain ⟨e0, t0, ms, a1, a2, a3, a4⟩ := ih hr
    refine ⟨e0, t0, ms ++ [(m, us)], a1, fun q hq => ?_, ?_, ?_⟩
    · rcases List.mem_append.mp hq with hq | hq
      · exact a2 q hq
      · rw [List.mem_singleton.mp hq]
        exact h2
    · unfold opsW
      rw [List.map_append, List.flatten_append, ← List.append_assoc, a3]
      simp [opsW]
    · unfold opsE
      rw [List.foldl_append, a4]
      rfl
theorem Spells.ne {r : Nat} {e : Ex} {ts : List Str} {d : Nat} (h : Spells r e ts d) : ts ≠ [] := by
  induction h with
  | lt h => exact fun z => nomatch z
  | wd h => exact fun z => nomatch z
  | par _ _ => exact fun z => nomatch z
  | un _ _ _ => exact fun z => nomatch z
  | up _ _ ih => exact ih
  | bin _ _ _ _ _ => exact fun z => (List.append_ne_nil_of_right_ne_nil _ (by simp)) z
def lineOf (w : Str) : List Itm := if w ∈ lets then [.inl "letter", .inl w] else [.inl w]
/-- the lines that a formula writes behind those that are written, and its number -/
def wr : Ex → List (List Itm) → List (List Itm) × Nat
  | .atom w, L => (addL L (lineOf w), (addL L (lineOf w)).idxOf (lineOf w))
  | .un u e, L => let p := wr e L; let l : List Itm := [.inl u, .inr (p.2 : Int)]; (addL p.1 l, (addL p.1 l).idxOf l)
  | .bin o e f, L => let p := wr e L; let q := wr f p.1; let l : List Itm := [.inl o, .inr (p.2 : Int), .inr (q.2 : Int)]; (addL q.1 l, (addL q.1 l).idxOf l)
def sz : Ex → Nat
  | .atom _ => 1
  | .un _ e => sz e + 1
  | .bin _ e f => sz e + sz f + 1
theorem wr_len : ∀ (e : Ex) (L : List (List Itm)), (wr e L).1.length ≤ L.length + sz e
  | .atom w, L => addL_len L _
  | .un u e, L => by
    have h := wr_len e L
    have h2 := addL_len (wr e L).1 [.inl u, .inr ((wr e L).2 : Int)]
    show (addL (wr e L).1 _).length ≤ L.length + (sz e + 1)
    omega
  | .bin o e f, L => by
    have h := wr_len e L
    have h1 := wr_len f (wr e L).1
    have h2 := addL_len (wr f (wr e L).1).1 [.inl o, .inr ((wr e L).2 : Int), .inr ((wr f (wr e L).1).2 : Int)]
    show (addL (wr f (wr e L).1).1 _).length ≤ L.length + (sz e + sz f + 1)
    omega
theorem sz_pos : ∀ e : Ex, 1 ≤ sz e
  | .atom _ => Nat.le_refl _
  | .un _ e => Nat.le_add_left 1 _
  | .bin _ _ _ => Nat.le_add_left 1 _
/-! ### a reader -/
abbrev Tk := Addr × Str × Int
def refsK (ts : List Tk) : List V := ts.map fun t => V.ref t.1
def wsK (ts : List Tk) : List Str := ts.map fun t => t.2.1
def rdF (td at_ lv nd : Nat) : List (Str × V) := [("tokens", .ref td), ("at", .int (at_ : Int)), ("levels", .int (lv : Int)), ("numbers", .ref nd)]
theorem rdF_tokens (td at_ lv nd : Nat) : (rdF td at_ lv nd).lookup ("tokens" : Str) = some (.ref td) := by kernel_rfl
theorem rdF_at (td at_ lv nd : Nat) : (rdF td at_ lv nd).lookup ("at" : Str) = some (.int (at_ : Int)) := by kernel_rfl
theorem rdF_levels (td at_ lv nd : Nat) : (rdF td at_ lv nd).lookup ("levels" : Str) = some (.int (lv : Int)) := by kernel_rfl
theorem rdF_numbers (td at_ lv nd : Nat) : (rdF td at_ lv nd).lookup ("numbers" : Str) = some (.ref nd) := by kernel_rfl
theorem rdF_token (td at_ lv nd : Nat) : (rdF td at_ lv nd).lookup ("token" : Str) = none := by kernel_rfl
theorem rdF_place (td at_ lv nd : Nat) : (rdF td at_ lv nd).lookup ("place" : Str) = none := by kernel_rfl
theorem rdF_take (td at_ lv nd : Nat) : (rdF td at_ lv nd).lookup ("take" : Str) = none := by kernel_rfl
theorem rdF_operation (td at_ lv nd : Nat) : (rdF td at_ lv nd).lookup ("operation" : Str) = none := by kernel_rfl
theorem rdF_plain (td at_ lv nd : Nat) : (rdF td at_ lv nd).lookup ("plain" : Str) = none := by kernel_rfl
theorem rdF_opened (td at_ lv nd : Nat) : (rdF td at_ lv nd).lookup ("opened" : Str) = none := by kernel_rfl
theorem rdF_put_at (td at_ lv nd at2 : Nat) : putF "at" (.int (at2 : Int)) (rdF td at_ lv nd) = rdF td at2 lv nd := by kernel_rfl
theorem rdF_put_levels (td at_ lv nd lv2 : Nat) : putF "levels" (.int (lv2 : Int)) (rdF td at_ lv nd) = rdF td at_ lv2 nd := by kernel_rfl
theorem rdF_make (td nd : Nat) : putF "numbers" (.ref nd) (putF "levels" (.int 0) (putF "at" (.int 0) (putF "tokens" (.ref td) []))) = rdF td 0 0 nd := by kernel_rfl
structure RdA (K : PySem.W.Frag) (P : Program) (w : World) (C x dx td nd : Addr) (H : Hp) (toks : List Tk) (at_ lv : Nat) (zs : List (Addr × List Itm)) : Prop where
  ob : H x = some (.ins C dx (rdF td at_ lv nd))
  tl : H td = some (.lst (refsK toks))
  tt : ∀ t ∈ toks, SqT K H t.1 [.str t.2.1, .int t.2.2]
  nu : H nd = some (NDO P w nd (numL 0 zs))
  zl : ∀ p ∈ zs, SqT K H p.1 (p.2.map itV)
def Fr (x nd : Addr) (H H' : Hp) : Prop := ∀ b o, H b = some o → b ≠ x → b ≠ nd → H' b = some o
theorem Fr.trans {x nd : Addr} {H H1 H2 : Hp} (a : Fr x nd H H1) (b : Fr x nd H1 H2) : Fr x nd H H2 := fun c o e h1 h2 => b c o (a c o e h1 h2) h1 h2
theorem Fr.same {x nd : Addr} {H H' : Hp} (h : Same H H') : Fr x nd H H' := fun b o e _ _ => h b o e
theorem Fr.updX {x nd : Addr} {H : Hp} {o : HO} : Fr x nd H (upd H x o) := fun b u e h1 _ => by rw [upd_ne h1]; exact e
theorem Fr.updN {x nd : Addr} {H : Hp} {o : HO} : Fr x nd H (upd H nd o) := fun b u e _ h2 => by rw [upd_ne h2]; exact e
theorem nt_of {H : Hp} {p : Addr} {u o : HO} (h : H p = some u) (h1 : ∀ xs, u ≠ .tup xs) (h2 : ∀ ob xs, u ≠ .frz ob (.tup xs)) : SameT H (upd H p o) := fun b =>
  ⟨fun xs e => by
    have ne : b ≠ p := fun z => by
      rw [z, h] at e
      exact h1 xs (Option.some.inj e)
    rw [upd_ne ne]
    exact e, fun ob xs e => by
    have ne : b ≠ p := fun z => by
      rw [z, h] at e
      exact h2 ob xs (Option.some.inj e)
    rw [upd_ne ne]
    exact e⟩
section
variable {K : PySem.W.Frag} {P : Program} {w : World} {C x dx td nd : Addr} {H H' : Hp} {toks : List Tk} {at_ lv : Nat} {zs : List (Addr × List Itm)}
theorem RdA.xt (h : RdA K P w C x dx td nd H toks at_ lv zs) : x ≠ td := ne_of h.ob h.tl fun z => nomatch z
theorem ndo_ne_ins {P : Program} {w : World} {d C dx : Addr} {L : NL} {fs : List (Str × V)} : HO.ins C dx fs ≠ NDO P w d L := fun z => by
  have z' : HO.ins C dx fs = HO.ext _ := z
  cases z'
theorem ndo_ne_lst {P : Program} {w : World} {d : Addr} {L : NL} {xs : List V} : HO.lst xs ≠ NDO P w d L := fun z => by
  have z' : HO.lst xs = HO.ext _ := z
  cases z'
theorem ndo_ne_tup {P : Program} {w : World} {d : Addr} {L : NL} {xs : List V} : NDO P w d L ≠ HO.tup xs := fun z => by
  have z' : HO.ext _ = HO.tup xs := z
  cases z'
theorem ndo_ne_frz {P : Program} {w : World} {d : Addr} {L : NL} {o : Obj} {u : HO} : NDO P w d L ≠ HO.frz o u := fun z => by
  have z' : HO.ext _ = HO.frz o u := z
  cases z'
theorem RdA.xn (h : RdA K P w C x dx td nd H toks at_ lv zs) : x ≠ nd := fun e => by
  have h1 := h.ob
  rw [e, h.nu] at h1
  exact ndo_ne_ins (Option.some.inj h1).symm
theorem RdA.tn (h : RdA K P w C x dx td nd H toks at_ lv zs) : td ≠ nd := fun e => by
  have h1 := h.tl
  rw [e, h.nu] at h1
  exact ndo_ne_lst (Option.some.inj h1).symm
theorem RdA.k (h : RdA K P w C x dx td nd H toks at_ lv zs) (e : Same H H') : RdA K P w C x dx td nd H' toks at_ lv zs :=
  ⟨e _ _ h.ob, e _ _ h.tl, fun t ht => same_t e (h.tt t ht), e _ _ h.nu, fun p hp => same_t e (h.zl p hp)⟩
theorem RdA.put (h : RdA K P w C x dx td nd H toks at_ lv zs) (at2 lv2 : Nat) : RdA K P w C x dx td nd (upd H x (.ins C dx (rdF td at2 lv2 nd))) toks at2 lv2 zs := by
  have st : SameT H (upd H x (.ins C dx (rdF td at2 lv2 nd))) := nt_of h.ob (fun _ z => nomatch z) (fun _ _ z => nomatch z)
  exact ⟨upd_same, by rw [upd_ne h.xt.symm]; exact h.tl, fun t ht => st.sq (h.tt t ht), by rw [upd_ne h.xn.symm]; exact h.nu, fun p hp => st.sq (h.zl p hp)⟩
theorem RdA.num (h : RdA K P w C x dx td nd H toks at_ lv zs) {b : Addr} {l : List Itm} (hb : SqT K H b (l.map itV)) : RdA K P w C x dx td nd (upd H nd (NDO P w nd (numL 0 (addZ zs b l)))) toks at_ lv (addZ zs b l) := by
  have st : SameT H (upd H nd (NDO P w nd (numL 0 (addZ zs b l)))) := nt_of h.nu (fun _ => ndo_ne_tup) (fun _ _ => ndo_ne_frz)
  refine ⟨by rw [upd_ne h.xn]; exact h.ob, by rw [upd_ne h.tn]; exact h.tl, fun t ht => st.sq (h.tt t ht), upd_same, fun p hp => st.sq ?_⟩
  unfold addZ at hp
  split at hp
  · exact h.zl p hp
  · rcases List.mem_append.mp hp with hp | hp
    · exact h.zl p hp
    · rw [List.mem_singleton.mp hp]
      exact hb
theorem RdA.tok (h : RdA K P w C x dx td nd H toks at_ lv zs) {v : Str} {rest : List Str} (e : (wsK toks).drop at_ = v :: rest) : ∃ t, toks[at_]? = some t ∧ t.2.1 = v ∧ SqT K H t.1 [.str v, .int t.2.2] := by
  have e1 : (wsK toks)[at_]? = some v := by
    have := congrArg (fun l => l[0]?) e
    rw [List.getElem?_drop, Nat.add_zero] at this
    exact this
  unfold wsK at e1
  rw [List.getElem?_map] at e1
  obtain ⟨t, ht, rfl⟩ := Option.map_eq_some_iff.mp e1
  exact ⟨t, ht, rfl, h.tt t (List.mem_of_getElem? ht)⟩
end
theorem drop_next {α : Type} {l ts rest : List α} {n : Nat} (h : l.drop n = ts ++ rest) : l.drop (n + ts.length) = rest := by
  rw [← List.drop_drop, h, List.drop_left]


section
variable {P : Program} {w : World} {K : PySem.W.Frag} {mg : Str → Option Value} {base : Heap} {a : Ad}
/-! ### the law's walk to the first fault -/
def kdS (t : Str) : TK :=
  if t = "(" then .par else if t = "not" ∨ t = "before" then .un else if t ∈ (["a", "b", "c", "d", "start", "true"] : List Str) then .atom
  else if t = "or" then .bin 0 else if t = "and" then .bin 1 else if t = "since" then .bin 2 else if t = ")" then .close else if t = "" then .eof else .other
def opn3 : List Str := ["(", "not", "before"]
def ats6 : List Str := ["a", "b", "c", "d", "start", "true"]
def bws3 : List Str := ["and", "or", "since"]
theorem kdS_inv (t : Str) : (kdS t = .par ∧ t = "(") ∨ (kdS t = .un ∧ (t = "not" ∨ t = "before")) ∨ (kdS t = .atom ∧ t ∈ ats6) ∨ ((∃ r, kdS t = .bin r) ∧ t ∈ bws3) ∨ (kdS t = .close ∧ t = ")") ∨ (kdS t = .eof ∧ t = "") ∨ (kdS t = .other ∧ t ∉ opn3 ∧ t ∉ ats6 ∧ t ∉ bws3 ∧ t ≠ ")" ∧ t ≠ "") := by
  unfold kdS
  by_cases h1 : t = "("
  · rw [if_pos h1]; exact .inl ⟨rfl, h1⟩
  rw [if_neg h1]
  by_cases h2 : t = "not" ∨ t = "before"
  · rw [if_pos h2]; exact .inr (.inl ⟨rfl, h2⟩)
  rw [if_neg h2]
  by_cases h3 : t ∈ (["a", "b", "c", "d", "start", "true"] : List Str)
  · rw [if_pos h3]; exact .inr (.inr (.inl ⟨rfl, h3⟩))
  rw [if_neg h3]
  by_cases h4 : t = "or"
  · rw [if_pos h4]; exact .inr (.inr (.inr (.inl ⟨⟨_, rfl⟩, by rw [h4]; decide +kernel⟩)))
  rw [if_neg h4]
  by_cases h5 : t = "and"
  · rw [if_pos h5]; exact .inr (.inr (.inr (.inl ⟨⟨_, rfl⟩, by rw [h5]; decide +kernel⟩)))
  rw [if_neg h5]
  by_cases h6 : t = "since"
  · rw [if_pos h6]; exact .inr (.inr (.inr (.inl ⟨⟨_, rfl⟩, by rw [h6]; decide +kernel⟩)))
  rw [if_neg h6]
  by_cases h7 : t = ")"
  · rw [if_pos h7]; exact .inr (.inr (.inr (.inr (.inl ⟨rfl, h7⟩))))
  rw [if_neg h7]
  by_cases h8 : t = ""
  · rw [if_pos h8]; exact .inr (.inr (.inr (.inr (.inr (.inl ⟨rfl, h8⟩)))))
  rw [if_neg h8]
  refine .inr (.inr (.inr (.inr (.inr (.inr ⟨rfl, fun z => ?_, h3, fun z => ?_, h7, h8⟩)))))
  · rcases List.mem_cons.mp z with z | z
    · exact h1 z
    · rcases List.mem_cons.mp z with z | z
      · exact h2 (.inl z)
      · exact h2 (.inr (List.mem_singleton.mp z))
  · rcases List.mem_cons.mp z with z | z
    · exact h5 z
    · rcases List.mem_cons.mp z with z | z
      · exact h4 z
      · exact h6 (List.mem_singleton.mp z)
/-- what the law's tests say of a token of each kind -/
theorem opn_iff (t : Str) : t ∈ opn3 ↔ kdS t = .par ∨ kdS t = .un := by
  have a6 : ∀ t ∈ ats6, t ∉ opn3 := by decide +kernel
  have b3 : ∀ t ∈ bws3, t ∉ opn3 := by decide +kernel
  rcases kdS_inv t with ⟨h, e⟩ | ⟨h, e⟩ | ⟨h, e⟩ | ⟨⟨r, h⟩, e⟩ | ⟨h, e⟩ | ⟨h, e⟩ | ⟨h, e, _⟩
  · exact ⟨fun _ => .inl h, fun _ => by rw [e]; decide +kernel⟩
  · exact ⟨fun _ => .inr h, fun _ => by rcases e with e | e <;> (rw [e]; decide +kernel)⟩
  · exact ⟨fun z => absurd z (a6 t e), fun z => by rw [h] at z; rcases z with z | z <;> exact nomatch z⟩
  · exact ⟨fun z => absurd z (b3 t e), fun z => by rw [h] at z; rcases z with z | z <;> exact nomatch z⟩
  · exact ⟨fun z => by rw [e] at z; exact absurd z (by decide +kernel), fun z => by rw [h] at z; rcases z with z | z <;> exact nomatch z⟩
  · exact ⟨fun z => by rw [e] at z; exact absurd z (by decide +kernel), fun z => by rw [h] at z; rcases z with z | z <;> exact nomatch z⟩
  · exact ⟨fun z => absurd z e, fun z => by rw [h] at z; rcases z with z | z <;> exact nomatch z⟩
theorem ats_iff (t : Str) : t ∈ ats6 ↔ kdS t = .atom := by
  have b3 : ∀ t ∈ bws3, t ∉ ats6 := by decide +kernel
  rcases kdS_inv t with ⟨h, e⟩ | ⟨h, e⟩ | ⟨h, e⟩ | ⟨⟨r, h⟩, e⟩ | ⟨h, e⟩ | ⟨h, e⟩ | ⟨h, _, e, _⟩
  · exact ⟨fun z => by rw [e] at z; exact absurd z (by decide +kernel), fun z => by rw [h] at z; exact nomatch z⟩
  · exact ⟨fun z => by rcases e with e | e <;> (rw [e] at z; exact absurd z (by decide +kernel)), fun z => by rw [h] at z; exact nomatch z⟩
  · exact ⟨fun _ => h, fun _ => e⟩
  · exact ⟨fun z => absurd z (b3 t e), fun z => by rw [h] at z; exact nomatch z⟩
  · exact ⟨fun z => by rw [e] at z; exact absurd z (by decide +kernel), fun z => by rw [h] at z; exact nomatch z⟩
  · exact ⟨fun z => by rw [e] at z; exact absurd z (by decide +kernel), fun z => by rw [h] at z; exact nomatch z⟩
  · exact ⟨fun z => absurd z e, fun z => by rw [h] at z; exact nomatch z⟩
theorem bws_iff (t : Str) : t ∈ bws3 ↔ ∃ r, kdS t = .bin r := by
  have a6 : ∀ t ∈ ats6, t ∉ bws3 := by decide +kernel
  rcases kdS_inv t with ⟨h, e⟩ | ⟨h, e⟩ | ⟨h, e⟩ | ⟨⟨r, h⟩, e⟩ | ⟨h, e⟩ | ⟨h, e⟩ | ⟨h, _, _, e, _⟩
  · exact ⟨fun z => by rw [e] at z; exact absurd z (by decide +kernel), fun ⟨r, z⟩ => by rw [h] at z; exact nomatch z⟩
  · exact ⟨fun z => by rcases e with e | e <;> (rw [e] at z; exact absurd z (by decide +kernel)), fun ⟨r, z⟩ => by rw [h] at z; exact nomatch z⟩
  · exact ⟨fun z => absurd z (a6 t e), fun ⟨r, z⟩ => by rw [h] at z; exact nomatch z⟩
  · exact ⟨fun _ => ⟨r, h⟩, fun _ => e⟩
  · exact ⟨fun z => by rw [e] at z; exact absurd z (by decide +kernel), fun ⟨r, z⟩ => by rw [h] at z; exact nomatch z⟩
  · exact ⟨fun z => by rw [e] at z; exact absurd z (by decide +kernel), fun ⟨r, z⟩ => by rw [h] at z; exact nomatch z⟩
  · exact ⟨fun z => absurd z e, fun ⟨r, z⟩ => by rw [h] at z; exact nomatch z⟩
theorem kd_lit {t : Str} : (t = ")" ↔ kdS t = .close) ∧ (t = "" ↔ kdS t = .eof) ∧ (t = "(" ↔ kdS t = .par) := by
  have l1 : kdS ")" = .close ∧ kdS "" = .eof ∧ kdS "(" = .par := by decide +kernel
  refine ⟨⟨fun e => by rw [e]; exact l1.1, fun g => ?_⟩, ⟨fun e => by rw [e]; exact l1.2.1, fun g => ?_⟩, ⟨fun e => by rw [e]; exact l1.2.2, fun g => ?_⟩⟩
  all_goals
    rcases kdS_inv t with ⟨h, e⟩ | ⟨h, e⟩ | ⟨h, e⟩ | ⟨⟨r, h⟩, e⟩ | ⟨h, e⟩ | ⟨h, e⟩ | ⟨h, e⟩
    all_goals first | exact e | (rw [h] at g; exact nomatch g)

def spIsLet (K : PySem.W.Frag) : Sp := fun vs H Q _ => ∃ x : Itm, vs = [itV x] ∧ ∀ H', Same H H' → Q (.bl (isLet x)) H'
theorem ok_is_letter (T : Txt K mg a) : FnOk P w K mg base CX0 1 a.f_is_letter a.d_is_letter ["entry"] (spIsLet K) := by
  refine T.F_is_letter.ok sc_is_letter (fun vs H Q E h => ?_) (fun cdv A outer s H vs Q E hr h => ?_)
  · obtain ⟨x, rfl, _⟩ := h
    rfl
  · obtain ⟨x, rfl, q⟩ := h
    refine ⟨_, (pss_one (ps_ret (pe_cmpR (op_inK (K := K) rfl) (pv 0) (pe_callTy (call_tupStr rfl) (by rfl) T.z_tuple (by decide +kernel) (pa_cons (pe_glob (v := V.str "abcd") (by rfl) T.c_LETTERS.choose_spec ⟨_, rfl⟩) pa_nil)) (by rfl)))), ?_⟩
    walk_at "rd"
    refine ⟨[97, 98, 99, 100], rfl, by decide, fun p hp => ?_⟩
    refine r_inStrs (ss := lets) (.inr (SqT.of upd_same)) ?_
    cases x with
    | inl s => exact q _ (same_new hp)
    | inr i => exact q _ (same_new hp)

def spInit (C : Addr) (K : PySem.W.Frag) (P : Program) (w : World) : Sp := fun vs H Q _ => ∃ (x dx td : Addr) (toks : List Tk), vs = [.ref x, .ref td] ∧ H x = some (.ins C dx []) ∧ H td = some (.lst (refsK toks)) ∧ (∀ t ∈ toks, SqT K H t.1 [.str t.2.1, .int t.2.2]) ∧
  ∀ (H' : Hp) (nd : Addr), RdA K P w C x dx td nd H' toks 0 0 [] → (∀ b o, H b = some o → b ≠ x → H' b = some o) → H nd = none → Q .non H'
theorem ok_Reader_init (T : Txt K mg a) : FnOk P w K mg base CX0 1 a.f_Reader_init a.d_Reader_init ["self", "tokens"] (spInit a.k_Reader K P w) := by
  refine T.F_Reader_init.ok sc_Reader_init (fun vs H Q E h => ?_) (fun cdv A outer s H vs Q E hr h => ?_)
  · obtain ⟨x, dx, td, toks, rfl, _⟩ := h
    rfl
  · obtain ⟨x, dx, td, toks, rfl, hx, hT, hall, q⟩ := h
    refine ⟨_, (pss_cons (ps_fldK (K := K) rfl (pv 0) (pv 1) rfl)
      (pss_cons (ps_fldK (K := K) rfl (pv 0) pe_int rfl)
      (pss_cons (ps_fldK (K := K) rfl (pv 0) pe_int rfl)
      (pss_one (ps_fldK (K := K) rfl (pv 0) (pe_dnewNK (P := P) (w := w) rfl rfl) rfl))))), ?_⟩
    walk_at "rd"
    refine r_sfld ?_
    walk_at "rd"
    refine r_sfldv hx T.cl_Reader T.na_Reader_tokens (by show 0 < 1000; decide) rfl ?_
    walk_at "rd"
    refine r_sfld ?_
    walk_at "rd"
    refine r_sfldv upd_same T.cl_Reader T.na_Reader_at (by show 1 < 1000; decide) rfl ?_
    walk_at "rd"
    refine r_sfld ?_
    walk_at "rd"
    refine r_sfldv upd_same T.cl_Reader T.na_Reader_levels (by show 2 < 1000; decide) rfl ?_
    with_reducible refine r_sfld ?_
    intro nd hn
    walk_at "rd"
    have xnd : x ≠ nd := fun e => by
      rw [e, upd_same] at hn
      exact nomatch hn
    have hn0 : H nd = none := by
      rw [upd_ne xnd.symm, upd_ne xnd.symm, upd_ne xnd.symm] at hn
      exact hn
    have xt : x ≠ td := ne_of hx hT fun z => nomatch z
    refine r_sfldv (by rw [upd_ne xnd, upd_same]) T.cl_Reader T.na_Reader_numbers (by show 3 < 1000; decide) (rdF_make td nd) ?_
    walk_at "rd"
    have key : ∀ b o, H b = some o → b ≠ x → (upd (upd (upd (upd (upd H x (.ins a.k_Reader dx (putF "tokens" (.ref td) []))) x (.ins a.k_Reader dx (putF "at" (.int 0) (putF "tokens" (.ref td) [])))) x (.ins a.k_Reader dx (putF "levels" (.int 0) (putF "at" (.int 0) (putF "tokens" (.ref td) []))))) nd (NDO P w nd [])) x (.ins a.k_Reader dx (rdF td 0 0 nd))) b = some o := fun b o e h1 => by
      rw [upd_ne h1, upd_ne (ne_of_none e hn0), upd_ne h1, upd_ne h1, upd_ne h1]
      exact e
    have st : SameT H (upd (upd (upd (upd (upd H x (.ins a.k_Reader dx (putF "tokens" (.ref td) []))) x (.ins a.k_Reader dx (putF "at" (.int 0) (putF "tokens" (.ref td) [])))) x (.ins a.k_Reader dx (putF "levels" (.int 0) (putF "at" (.int 0) (putF "tokens" (.ref td) []))))) nd (NDO P w nd [])) x (.ins a.k_Reader dx (rdF td 0 0 nd))) := fun b =>
      ⟨fun xs e => key b _ e (ne_of e hx (fun z => nomatch z)), fun o xs e => key b _ e (ne_of e hx (fun z => nomatch z))⟩
    exact q _ nd ⟨upd_same, key td _ hT xt.symm, fun t ht => st.sq (hall t ht), by rw [upd_ne xnd.symm, upd_same]; rfl, fun _ h => nomatch h⟩ key hn0

/-- the word at a place -/
def kdK (toks : List Tk) (i : Nat) : TK := kdS ((wsK toks).getD i "")
theorem kdK_at {toks : List Tk} {i : Nat} {t : Tk} (h : toks[i]? = some t) : kdK toks i = kdS t.2.1 := by
  unfold kdK wsK
  rw [List.getD_eq_getElem?_getD, List.getElem?_map, h]
  rfl
structure TokC (toks : List Tk) : Prop where
  len : toks.length ≤ 90000
  col : ∀ t ∈ toks, t.2.2.natAbs < 1000000
  nx : ∀ (i : Nat) (t : Tk), toks[i]? = some t → t.2.1 ≠ "" → i + 1 < toks.length
/-- a fault at the token of that number -/
def SF (a : Ad) (E : XK) (toks : List Tk) (j : Nat) : Prop := ∀ (H' : Hp) (dx' : Addr) (t : Tk), toks[j]? = some t → H' dx' = some (.xd [("column", .int t.2.2)]) → E (.ref a.k_SyntaxFault) (some dx') H'
def spToken (C : Addr) (K : PySem.W.Frag) (P : Program) (w : World) : Sp := fun vs H Q _ => ∃ (x dx td nd : Addr) (toks : List Tk) (at_ lv : Nat) (zs : List (Addr × List Itm)) (t : Tk), vs = [.ref x] ∧ RdA K P w C x dx td nd H toks at_ lv zs ∧ toks[at_]? = some t ∧ Q (.str t.2.1) H
theorem ok_Reader_token (T : Txt K mg a) : FnOk P w K mg base CX0 1 a.f_Reader_token a.d_Reader_token ["self"] (spToken a.k_Reader K P w) := by
  refine T.F_Reader_token.ok sc_Reader_token (fun vs H Q E h => ?_) (fun cdv A outer s H vs Q E hr h => ?_)
  · obtain ⟨x, dx, td, nd, toks, at_, lv, zs, t, rfl, _⟩ := h
    rfl
  · obtain ⟨x, dx, td, nd, toks, at_, lv, zs, t, rfl, R, ht, q⟩ := h
    have hT := R.tt t (List.mem_of_getElem? ht)
    refine ⟨_, (pss_one (ps_ret (pe_ix (ix_tupK (K := K) rfl) (pe_ix (ix_listK (K := K) rfl) (pe_fldK (K := K) rfl (pv 0) rfl) (pe_fldK (K := K) rfl (pv 0) rfl) (fun _ _ => rfl)) pe_int (fun _ _ => rfl)))), ?_⟩
    walk_at "rd"
    refine r_fldS rfl R.ob T.cl_Reader T.na_Reader_tokens (rdF_tokens _ _ _ _) ?_
    refine r_fldS rfl R.ob T.cl_Reader T.na_Reader_at (rdF_at _ _ _ _) ?_
    refine r_ixL (SqL.of R.tl) (at_of (j := at_) rfl (by unfold refsK; rw [List.getElem?_map, ht]; rfl)) ?_
    walk_at "rd"
    refine r_ixT hT (at_of (j := 0) rfl rfl) ?_
    exact q
def spPlace (C : Addr) (K : PySem.W.Frag) (P : Program) (w : World) : Sp := fun vs H Q _ => ∃ (x dx td nd : Addr) (toks : List Tk) (at_ lv : Nat) (zs : List (Addr × List Itm)) (t : Tk), vs = [.ref x] ∧ RdA K P w C x dx td nd H toks at_ lv zs ∧ toks[at_]? = some t ∧ Q (.int t.2.2) H
theorem ok_Reader_place (T : Txt K mg a) : FnOk P w K mg base CX0 1 a.f_Reader_place a.d_Reader_place ["self"] (spPlace a.k_Reader K P w) := by
  refine T.F_Reader_place.ok sc_Reader_place (fun vs H Q E h => ?_) (fun cdv A outer s H vs Q E hr h => ?_)
  · obtain ⟨x, dx, td, nd, toks, at_, lv, zs, t, rfl, _⟩ := h
    rfl
  · obtain ⟨x, dx, td, nd, toks, at_, lv, zs, t, rfl, R, ht, q⟩ := h
    have hT := R.tt t (List.mem_of_getElem? ht)
    refine ⟨_, (pss_one (ps_ret (pe_ix (ix_tupK (K := K) rfl) (pe_ix (ix_listK (K := K) rfl) (pe_fldK (K := K) rfl (pv 0) rfl) (pe_fldK (K := K) rfl (pv 0) rfl) (fun _ _ => rfl)) pe_int (fun _ _ => rfl)))), ?_⟩
    walk_at "rd"
    refine r_fldS rfl R.ob T.cl_Reader T.na_Reader_tokens (rdF_tokens _ _ _ _) ?_
    refine r_fldS rfl R.ob T.cl_Reader T.na_Reader_at (rdF_at _ _ _ _) ?_
    refine r_ixL (SqL.of R.tl) (at_of (j := at_) rfl (by unfold refsK; rw [List.getElem?_map, ht]; rfl)) ?_
    walk_at "rd"
    refine r_ixT hT (at_of (j := 1) rfl rfl) ?_
    exact q
def spTake (a : Ad) (K : PySem.W.Frag) (P : Program) (w : World) : Sp := fun vs H Q E => ∃ (x dx td nd : Addr) (toks : List Tk) (at_ lv : Nat) (zs : List (Addr × List Itm)) (t : Tk) (v : Str), vs = [.ref x, .str v] ∧ RdA K P w a.k_Reader x dx td nd H toks at_ lv zs ∧ TokC toks ∧ toks[at_]? = some t ∧
  (t.2.1 = v → Q .non (upd H x (.ins a.k_Reader dx (rdF td (at_ + 1) lv nd)))) ∧ (t.2.1 ≠ v → SF a E toks at_)
theorem ok_Reader_take (T : Txt K mg a) (hp : P = a.pg) : FnOk P w K mg base (L2.CX P w) 3 a.f_Reader_take a.d_Reader_take ["self", "token"] (spTake a K P w) := by
  have G_Reader_token := ok_Reader_token (P := P) (w := w) (base := base) T
  have G_Reader_place := ok_Reader_place (P := P) (w := w) (base := base) T
  refine T.F_Reader_take.okX sc_Reader_take (fun vs H Q E h => ?_) (fun cdv A outer s H vs Q E hr h => ?_)
  · obtain ⟨x, dx, td, nd, toks, at_, lv, zs, t, v, rfl, _⟩ := h
    rfl
  · obtain ⟨x, dx, td, nd, toks, at_, lv, zs, t, v, rfl, R, hC, ht, q, qe⟩ := h
    refine ⟨_, (pss_cons (ps_if (pt_cmpR op_ne (pe_meth0 (pv 0) T.cl_Reader T.mt_Reader_token (G_Reader_token) (hr.mono (by first | decide | omega)) T.b_Reader_token .nil pass0 ) (pv 1) (nomark _)) (pss_one (ps_raiseI (k := 0) T.x_SyntaxFault hp rfl rfl rfl (takes_of rfl rfl rfl rfl) (hr.mono (by omega)) (by rfl) (pe_meth0 (pv 0) T.cl_Reader T.mt_Reader_place (G_Reader_place) (hr.mono (by first | decide | omega)) T.b_Reader_place .nil pass0 ))) pss_nil)
      (pss_one (ps_fldaugK (K := K) rfl (pv 0) pe_int in_add))), ?_⟩
    walk_at "rd"
    refine r_methS rfl R.ob (rdF_token _ _ _ _) ?_
    walk_at "rd"
    refine ⟨x, dx, td, nd, toks, at_, lv, zs, t, rfl, R, ht, ?_⟩
    walk_at "rd"
    refine r_iteN (fun e => ?_) (fun e => ?_)
    · refine r_raiseI ?_
      walk_at "rd"
      refine r_methS rfl R.ob (rdF_place _ _ _ _) ?_
      walk_at "rd"
      refine ⟨x, dx, td, nd, toks, at_, lv, zs, t, rfl, R, ht, ?_⟩
      exact raiseI_in ⟨_, rfl, hC.col t (List.mem_of_getElem? ht)⟩ fun dx' hdx => qe e _ dx' t ht upd_same
    walk_at "rd"
    with_reducible refine r_saug ?_
    walk_at "rd"
    refine ⟨_, _, _, _, _, rfl, R.ob, T.cl_Reader, T.na_Reader_at, rdF_at _ _ _ _, ?_⟩
    walk_at "rd"
    refine ⟨_, _, rfl, rfl, _, _, R.ob, by show 4 < 1000; decide, ?_⟩
    rw [show (at_ : Int) + 1 = ((at_ + 1 : Nat) : Int) by omega, rdF_put_at]
    exact q e
def spNumOf (K : PySem.W.Frag) (P : Program) (w : World) : Sp := fun vs H Q _ => ∃ (d b : Addr) (zs : List (Addr × List Itm)) (l : List Itm), vs = [.ref d, .ref b] ∧ H d = some (NDO P w d (numL 0 zs)) ∧ (∀ p ∈ zs, SqT K H p.1 (p.2.map itV)) ∧ SqT K H b (l.map itV) ∧ zs.length < 100000 ∧
  Q (.int ((addL (zs.map (·.2)) l).idxOf l : Nat)) (upd H d (NDO P w d (numL 0 (addZ zs b l))))
theorem ok_number_of (T : Txt K mg a) : FnOk P w K mg base CX0 1 a.f_number_of a.d_number_of ["numbers", "line"] (spNumOf K P w) := by
  refine T.F_number_of.ok sc_number_of (fun vs H Q E h => ?_) (fun cdv A outer s H vs Q E hr h => ?_)
  · obtain ⟨d, b, zs, l, rfl, _⟩ := h
    rfl
  · obtain ⟨d, b, zs, l, rfl, hd, hz, hb, hl, q⟩ := h
    refine ⟨_, (pss_one (ps_ret (pe_nsetdK (K := K) (P := P) (w := w) rfl rfl rfl (hu64 hr) (pv 0) (pv 1) (pe_callB (call_lenNK (K := K) (P := P) (w := w) rfl rfl rfl) (by rfl) T.z_len (by decide +kernel) (pa_cons (pv 0) pa_nil)) ⟨by rfl, by rfl, by rfl, by rfl⟩))), ?_⟩
    walk_at "rd"
    refine r_number hd hz hb hl (fun _ q => r_var rfl q) (fun _ q => r_var rfl q) (fun Q' q' => ?_) q
    walk_at "rd"
    refine ⟨d, _, rfl, .inl hd, numL_keys hz, ?_⟩
    rw [numL_len]
    exact q'

end

section
variable {P : Program} {w : World} {K : PySem.W.Frag} {mg : Str → Option Value} {base : Heap} {a : Ad}
/-! ### tokens of a text -/
def sml (c : Nat) : Bool := decide (97 ≤ c) && decide (c ≤ 122)
def okc (c : Nat) : Bool := sml c || decide (c ∈ ([40, 41, 32] : List Nat))
abbrev LT := List (List Nat × Nat)
def lexStep (i : Nat) (st : LT × Bool) (c : Nat) : LT × Bool :=
  (if (st.2 && sml c) = true then st.1.dropLast ++ [((st.1.getLastD ([], 0)).1 ++ [c], (st.1.getLastD ([], 0)).2)] else if c = 32 then st.1 else st.1 ++ [([c], i + 1)], sml c)
def lexF : Nat → LT × Bool → List Nat → LT × Bool
  | _, st, [] => st
  | i, st, c :: cs => lexF (i + 1) (lexStep i st c) cs
theorem lexF_app : ∀ (a b : List Nat) (i : Nat) (st : LT × Bool), lexF i st (a ++ b) = lexF (i + a.length) (lexF i st a) b
  | [], _, _, _ => rfl
  | c :: a, b, i, st => by
    show lexF (i + 1) (lexStep i st c) (a ++ b) = _
    rw [lexF_app a b, List.length_cons, show i + 1 + a.length = i + (a.length + 1) by omega]
    rfl
theorem lex_ne : ∀ (cs : List Nat) (i : Nat) (st : LT × Bool), (st.2 = true → st.1 ≠ []) → (lexF i st cs).2 = true → (lexF i st cs).1 ≠ []
  | [], _, _, h => h
  | c :: cs, i, st, h => lex_ne cs (i + 1) (lexStep i st c) (fun e => by
      have ec : sml c = true := e
      unfold lexStep
      dsimp only
      split
      · exact fun z => by simp at z
      · split
        · rename_i h32
          rw [h32] at ec
          exact absurd ec (by decide)
        · exact fun z => by simp at z)
theorem lexF_take {cs : List Nat} {i c : Nat} (h : cs[i]? = some c) (st : LT × Bool) : lexF 0 st (cs.take (i + 1)) = lexStep i (lexF 0 st (cs.take i)) c := by
  obtain ⟨hi, e⟩ := List.getElem?_eq_some_iff.mp h
  rw [List.take_succ, h]
  show lexF 0 st (cs.take i ++ [c]) = _
  rw [lexF_app, List.length_take, Nat.min_eq_left (Nat.le_of_lt hi), Nat.zero_add]
  rfl
def tkC (t : List Nat × Nat) : Str × Int := (⟨t.1.toArray⟩, (t.2 : Int))
theorem lex_len : ∀ (cs : List Nat) (i : Nat) (st : LT × Bool), (∀ t ∈ st.1, t.1.length ≤ i) → st.1.length ≤ i → (∀ t ∈ (lexF i st cs).1, t.1.length ≤ i + cs.length) ∧ (lexF i st cs).1.length ≤ i + cs.length
  | [], _, _, h, h2 => ⟨h, h2⟩
  | c :: cs, i, st, h, h2 => by
    have ih := lex_len cs (i + 1) (lexStep i st c) (fun t ht => ?_) ?_
    · rw [List.length_cons, show i + (cs.length + 1) = i + 1 + cs.length by omega]
      exact ih
    · unfold lexStep at ht
      dsimp only at ht
      split at ht
      · rcases List.mem_append.mp ht with ht | ht
        · exact Nat.le_succ_of_le (h t (List.dropLast_subset _ ht))
        · rw [List.mem_singleton.mp ht]
          show ((st.1.getLastD ([], 0)).1 ++ [c]).length ≤ i + 1
          rw [List.length_append, List.length_singleton]
          refine Nat.succ_le_succ ?_
          cases hs : st.1 with
          | nil => exact Nat.zero_le _
          | cons x l =>
            have hm : (x :: l).getLastD ([], 0) ∈ x :: l := by
              rw [List.getLastD_cons, List.getLastD_eq_getLast?]
              cases hl : l.getLast? with
              | none => exact List.mem_cons_self
              | some y => exact List.mem_cons_of_mem _ (List.mem_of_getLast? hl)
            exact h _ (by rw [hs]; exact hm)
      · split at ht
        · exact Nat.le_succ_of_le (h t ht)
        · rcases List.mem_append.mp ht with ht | ht
          · exact Nat.le_succ_of_le (h t ht)
          · rw [List.mem_singleton.mp ht]
            show 1 ≤ i + 1
            omega
    · unfold lexStep
      dsimp only
      split
      · rename_i hc
        rw [List.length_append, List.length_dropLast, List.length_singleton]
        omega
      · split
        · omega
        · rw [List.length_append, List.length_singleton]
          omega
theorem ixN_last (n : Nat) : ixN (n + 1) (-1) = some n := by
  unfold ixN
  rw [if_neg (by decide), if_pos (by omega)]
  exact congrArg some (by omega)
theorem at_lastS {xs : List V} {x : V} : atI (xs ++ [x]) (-1) = some x := by
  unfold atI
  rw [List.length_append, List.length_singleton, ixN_last]
  show (xs ++ [x])[xs.length]? = some x
  rw [List.getElem?_append_right (Nat.le_refl _), Nat.sub_self]
  rfl
theorem refsK_app (a b : List Tk) : refsK (a ++ b) = refsK a ++ refsK b := List.map_append
theorem refsK_len (a : List Tk) : (refsK a).length = a.length := List.length_map _
def TupK (H : Hp) (ts : List Tk) : Prop := ∀ t ∈ ts, H t.1 = some (.tup [.str t.2.1, .int t.2.2])
theorem TupK.k {H H' : Hp} {ts : List Tk} (h : TupK H ts) (e : Same H H') : TupK H' ts := fun t ht => e _ _ (h t ht)
theorem TupK.mut {H : Hp} {ts : List Tk} {p : Addr} {xs : List V} {o : HO} (h : TupK H ts) (hp : H p = some (.lst xs)) : TupK (upd H p o) ts := fun t ht => by
  rw [upd_ne (ne_of (h t ht) hp fun z => nomatch z)]
  exact h t ht
theorem TupK.snoc {H : Hp} {ts : List Tk} {t : Tk} (h : TupK H ts) (ht : H t.1 = some (.tup [.str t.2.1, .int t.2.2])) : TupK H (ts ++ [t]) := fun q hq => by
  rcases List.mem_append.mp hq with hq | hq
  · exact h q hq
  · rw [List.mem_singleton.mp hq]
    exact ht
def spSmall : Sp := fun vs H Q _ => ∃ c : Nat, vs = [.str ⟨#[c]⟩] ∧ Q (.bl (sml c)) H
theorem ok_is_small (T : Txt K mg a) : FnOk P w K mg base CX0 1 a.f_is_small a.d_is_small ["sign"] spSmall := by
  refine T.F_is_small.ok sc_is_small (fun vs H Q E h => ?_) (fun cdv A outer s H vs Q E hr h => ?_)
  · obtain ⟨c, rfl, _⟩ := h
    rfl
  · obtain ⟨c, rfl, q⟩ := h
    refine ⟨_, (pss_one (ps_ret (pe_chain op_leS op_leS pe_str (pv 0) pe_str))), ?_⟩
    walk_at "rd"
    refine le_sg (a := 97) (b := c) ?_
    refine ⟨_, rfl, ?_⟩
    unfold sml at q
    refine r_iteD (fun h => ?_) (fun h => ?_)
    · rw [decide_eq_true h, Bool.true_and] at q
      walk_at "rd"
      exact le_sg (a := c) (b := 122) q
    · rw [decide_eq_false h, Bool.false_and] at q
      exact q
def spTokens (a : Ad) : Sp := fun vs H Q E => ∃ cs : List Nat, vs = [sV cs] ∧ cs.length ≤ 100000 ∧
  ((∀ c ∈ cs, okc c = true) → ∀ (H' : Hp) (td : Addr) (toks : List Tk), Same H H' → H td = none → H' td = some (.lst (refsK toks)) → TupK H' toks → toks.map (·.2) = (lexF 0 ([], false) cs).1.map tkC ++ [((("" : Str), ((cs.length : Int) + 1)) : Str × Int)] → Q (.ref td) H') ∧
  (∀ (i c : Nat), cs[i]? = some c → okc c = false → (∀ c' ∈ cs.take i, okc c' = true) → ∀ (H' : Hp) (dx : Addr), H' dx = some (.xd [("column", .int ((i : Int) + 1))]) → E (.ref a.k_SyntaxFault) (some dx) H')
theorem okc_not {c : Nat} (h : okc c = true) (hs : sml c = false) : c ∈ ([40, 41, 32] : List Nat) := by
  unfold okc at h
  rw [hs, Bool.false_or] at h
  exact of_decide_eq_true h
theorem ok_tokens_of (T : Txt K mg a) (hp : P = a.pg) : FnOk P w K mg base (L2.CX P w) 3 a.f_tokens_of a.d_tokens_of ["text"] (spTokens a) := by
  have G_is_small := ok_is_small (P := P) (w := w) (base := base) T
  refine T.F_tokens_of.okX sc_tokens_of (fun vs H Q E h => ?_) (fun cdv A outer s H vs Q E hr h => ?_)
  · obtain ⟨cs, rfl, _⟩ := h
    rfl
  · obtain ⟨cs, rfl, hlen, q, qe⟩ := h
    have zl : (sizeLine : Nat) = 16777216 := by decide
    refine ⟨_, (pss_cons (ps_for (passes_of rfl) rfl (pi_enumS (by rfl) T.z_enumerate (pa_cons (pv 0) pa_nil)) (pg_tupK (K := K) rfl rfl (pgs_cons (pg_name (i := 1) sc_tokens_of.nd rfl (Or.inl rfl)) (pgs_cons (pg_name (i := 2) sc_tokens_of.nd rfl (Or.inl rfl)) pgs_nil))) (pss_one (ps_if (PW.pt (pw_and (pt_not (pt_val (pe_call (G_is_small) (hr.mono (by first | decide | omega)) (by rfl) T.g_is_small T.F_is_small.kp T.b_is_small .nil pass0 (pa_cons (pv 2) pa_nil)))) (pw_and1 (pt_cmpR op_notInSg (pv 2) pe_str (by rfl))))) (pss_one (ps_raiseI (k := 0) T.x_SyntaxFault hp rfl rfl rfl (takes_of rfl rfl rfl rfl) (hr.mono (by omega)) (by rfl) (pe_op op_add (pv 1) pe_int))) pss_nil)))
      (pss_cons (ps_set (i := 3) sc_tokens_of.nd rfl (Or.inl rfl) (pe_lst pa_nil))
      (pss_cons (ps_set (i := 4) sc_tokens_of.nd rfl (Or.inl rfl) pe_bl)
      (pss_cons (ps_for (passes_of rfl) rfl (pi_enumS (by rfl) T.z_enumerate (pa_cons (pv 0) pa_nil)) (pg_tupK (K := K) rfl rfl (pgs_cons (pg_name (i := 1) sc_tokens_of.nd rfl (Or.inl rfl)) (pgs_cons (pg_name (i := 2) sc_tokens_of.nd rfl (Or.inl rfl)) pgs_nil))) (pss_cons (ps_if (PW.pt (pw_and (pt_val (pv 4)) (pw_and1 (pt_val (pe_call (G_is_small) (hr.mono (by first | decide | omega)) (by rfl) T.g_is_small T.F_is_small.kp T.b_is_small .nil pass0 (pa_cons (pv 2) pa_nil)))))) (pss_one (ps_asg (pe_tup (pa_cons (pe_op op_addS (pe_ix (ix_tupK (K := K) rfl) (pe_ix (ix_listK (K := K) rfl) (pv 3) (pe_un un_neg pe_int) (fun _ _ => rfl)) pe_int (fun _ _ => rfl)) (pv 2)) (pa_cons (pe_ix (ix_tupK (K := K) rfl) (pe_ix (ix_listK (K := K) rfl) (pv 3) (pe_un un_neg pe_int) (fun _ _ => rfl)) pe_int (fun _ _ => rfl)) pa_nil))) (pg_sub (pv 3) (pe_un un_neg pe_int) set_list))) (pss_one (ps_if (pt_cmpR op_ne (pv 2) pe_str (nomark _)) (pss_one (ps_expr (bmK (K := K) rfl (pe_bm PySem.F.plainAttrs_list PySem.F.slot_list_append PySem.F.type_list_append mt_append (pv 3) (pa_cons (pe_tup (pa_cons (pv 2) (pa_cons (pe_op op_add (pv 1) pe_int) pa_nil))) pa_nil))))) pss_nil)))
      (pss_one (ps_set (i := 4) sc_tokens_of.nd rfl (Or.inl rfl) (pe_call (G_is_small) (hr.mono (by first | decide | omega)) (by rfl) T.g_is_small T.F_is_small.kp T.b_is_small .nil pass0 (pa_cons (pv 2) pa_nil))))))
      (pss_cons (ps_expr (bmK (K := K) rfl (pe_bm PySem.F.plainAttrs_list PySem.F.slot_list_append PySem.F.type_list_append mt_append (pv 3) (pa_cons (pe_tup (pa_cons pe_str (pa_cons (pe_op op_add (pe_callB call_lenS1 (by rfl) T.z_len (by decide +kernel) (pa_cons (pv 0) pa_nil)) pe_int) pa_nil))) pa_nil))))
      (pss_one (ps_ret (pv 3)))))))), ?_⟩
    walk_at "rd"
    refine r_iEnumS ?_
    walk_at "rd"
    refine ⟨_, rfl, for_enS (L := cs) (fun i σ G => ∃ y1 y2, σ = [some (sV cs), y1, y2, none, none] ∧ Same H G ∧ ∀ c ∈ cs.take i, okc c = true) ⟨none, none, rfl, (fun _ _ z => z), fun _ z => nomatch z⟩ ?_ ?_⟩
    · rintro i c σ G t hi ⟨y1, y2, rfl, sG, hall⟩ ht
      have hT : (upd G t (.tup [.int (i : Nat), .str ⟨#[c]⟩])) t = some (.tup [.int (i : Nat), .str ⟨#[c]⟩]) := upd_same
      have sG2 := sG.trans (same_new (o := .tup [.int (i : Nat), .str ⟨#[c]⟩]) ht)
      generalize upd G t (.tup [.int (i : Nat), .str ⟨#[c]⟩]) = G2 at *
      refine ⟨t, _, rfl, SqT.of hT, rfl, _, _, rfl, _, _, rfl, rfl, ?_⟩
      have hi2 : i < cs.length := (List.getElem?_eq_some_iff.mp hi).1
      have next : okc c = true → ∀ c' ∈ cs.take (i + 1), okc c' = true := fun hc c' h => by
        rw [List.take_succ, hi] at h
        rcases List.mem_append.mp h with h | h
        · exact hall c' h
        · rw [List.mem_singleton.mp h]
          exact hc
      walk_at "rd"
      refine ⟨c, rfl, ?_⟩
      walk_at "rd"
      cases hs : sml c with
      | true =>
        walk_at "rd"
        exact ⟨_, _, rfl, sG2, next (by unfold okc; rw [hs]; rfl)⟩
      | false =>
        walk_at "rd"
        refine r_iteN (fun z => ?_) (fun z => ?_)
        · have hc : okc c = false := by
            unfold okc
            rw [hs, Bool.false_or]
            exact decide_eq_false (by rw [show (Str.ofString "() ").1.toList = [40, 41, 32] by decide +kernel] at z; exact z)
          refine r_raiseI ?_
          walk_at "rd"
          exact raiseI_in (Gd := Gnum) ⟨_, rfl, by omega⟩ fun dx hdx => qe i c hi hc hall _ dx upd_same
        · have hm : c ∈ ([40, 41, 32] : List Nat) := by
            rw [show (Str.ofString "() ").1.toList = [40, 41, 32] by decide +kernel] at z
            exact z
          walk_at "rd"
          exact ⟨_, _, rfl, sG2, next (by unfold okc; rw [hs, Bool.false_or]; exact decide_eq_true hm)⟩
    · rintro σ G ⟨y1, y2, rfl, sG, hall⟩
      rw [List.take_length] at hall
      have hok := hall
      replace q := q hok
      clear qe hall
      walk_at "rd"
      refine ⟨Nat.zero_le _, fun td htd => ?_⟩
      have htdH := sG.free htd
      have hL0 : (upd G td (.lst [])) td = some (.lst (refsK [])) := upd_same
      have sG0 := sG.trans (same_new (o := .lst []) htd)
      generalize upd G td (.lst []) = G0 at *
      clear htd sG
      walk_at "rd"
      refine r_iEnumS ?_
      walk_at "rd"
      refine ⟨_, rfl, for_enS (L := cs) (fun i σ G => ∃ toks y1 y2, σ = [some (sV cs), y1, y2, some (.ref td), some (.bl (lexF 0 ([], false) (cs.take i)).2)] ∧ Same H G ∧ G td = some (.lst (refsK toks)) ∧ TupK G toks ∧ toks.map (·.2) = (lexF 0 ([], false) (cs.take i)).1.map tkC)
        ⟨[], y1, y2, rfl, sG0, hL0, (fun _ h => nomatch h), rfl⟩ ?_ ?_⟩
      · rintro i c σ G t hi ⟨toks, y1, y2, rfl, sG, hL, hTk, hM⟩ ht
        have hT : (upd G t (.tup [.int (i : Nat), .str ⟨#[c]⟩])) t = some (.tup [.int (i : Nat), .str ⟨#[c]⟩]) := upd_same
        have s1 := same_new (o := .tup [.int (i : Nat), .str ⟨#[c]⟩]) ht
        have sG2 := sG.trans s1
        have hL2 := s1 _ _ hL
        have hTk2 := hTk.k s1
        generalize upd G t (.tup [.int (i : Nat), .str ⟨#[c]⟩]) = G2 at *
        clear hTk hL sG s1 ht
        refine ⟨t, _, rfl, SqT.of hT, rfl, _, _, rfl, _, _, rfl, rfl, ?_⟩
        have hc := hok c (List.mem_of_getElem? hi)
        have hi2 : i < cs.length := (List.getElem?_eq_some_iff.mp hi).1
        have hstep := lexF_take hi ([], false)
        have hne := lex_ne (cs.take i) 0 ([], false) (fun z => nomatch z)
        have hll := lex_len (cs.take i) 0 ([], false) (fun _ z => nomatch z) (Nat.le_refl _)
        rw [hstep]
        generalize lexF 0 ([], false) (cs.take i) = st at *
        obtain ⟨T0, g⟩ := st
        have htl : toks.length = T0.length := by
          have := congrArg List.length hM
          rw [List.length_map, List.length_map] at this
          exact this
        dsimp only at hll hM hne
        have hlt : (cs.take i).length ≤ 100000 := by rw [List.length_take]; omega
        with_reducible refine r_cutJ (fun σ G => ∃ toks', σ = [some (sV cs), some (.int (i : Nat)), some (.str ⟨#[c]⟩), some (.ref td), some (.bl g)] ∧ Same H G ∧ G td = some (.lst (refsK toks')) ∧ TupK G toks' ∧ toks'.map (·.2) = (lexStep i (T0, g) c).1.map tkC) ?_ (fun key => ?_)
        · rintro σ G ⟨toks', rfl, sG, hL, hTk, hM⟩
          walk_at "rd"
          refine ⟨c, rfl, ?_⟩
          exact ⟨toks', _, _, rfl, sG, hL, hTk, hM⟩
        have push : sml c = true → g = true → lexStep i (T0, g) c = (T0.dropLast ++ [((T0.getLastD ([], 0)).1 ++ [c], (T0.getLastD ([], 0)).2)], sml c) := fun h1 h2 => by
          unfold lexStep
          rw [if_pos (by show (g && sml c) = true; rw [h1, h2]; rfl)]
        have fresh : (g && sml c) = false → c ≠ 32 → lexStep i (T0, g) c = (T0 ++ [([c], i + 1)], sml c) := fun h1 h2 => by
          unfold lexStep
          rw [if_neg (by show ¬ ((g && sml c) = true); rw [h1]; decide), if_neg h2]
        have space : c = 32 → lexStep i (T0, g) c = (T0, sml c) := fun h => by
          unfold lexStep
          rw [if_neg (by show ¬ ((g && sml c) = true); rw [h, show sml 32 = false from by decide, Bool.and_false]; decide), if_pos h]
        have rest : (g && sml c) = false → ∀ D : Ends, (∀ σ G, (∃ toks', σ = [some (sV cs), some (.int (i : Nat)), some (.str ⟨#[c]⟩), some (.ref td), some (.bl g)] ∧ Same H G ∧ G td = some (.lst (refsK toks')) ∧ TupK G toks' ∧ toks'.map (·.2) = (lexStep i (T0, g) c).1.map tkC) → D.nx σ G) →
            if (!decide ((⟨#[c]⟩ : Str) = Str.ofString " ")) = true then tDrop (tBM K "list" rAppend (tVar 3) (tCons (tTup (tCons (tVar 2) (tCons (tOp (rI0 fun i j => V.int (i + j)) (tVar 1) (tC (V.int 1))) tNil))) tNil)) D [some (sV cs), some (.int (i : Nat)), some (.str ⟨#[c]⟩), some (.ref td), some (.bl g)] G2
            else tNext D [some (sV cs), some (.int (i : Nat)), some (.str ⟨#[c]⟩), some (.ref td), some (.bl g)] G2 := fun hgc D key => by
          refine r_iteN (fun hne => ?_) (fun he => ?_)
          · have h32 : c ≠ 32 := fun z => hne (by rw [z]; rfl)
            walk_at "rd"
            refine ⟨ty_l (SqL.of hL2), ?_⟩
            walk_at "rd"
            refine ⟨by show 2 ≤ sizeLine; decide, fun b hb => ?_⟩
            have s1 := same_new (o := .tup [.str ⟨#[c]⟩, .int ((i : Nat) + 1)]) hb
            have hB : (upd G2 b (.tup [.str ⟨#[c]⟩, .int ((i : Nat) + 1)])) b = some (.tup [.str ⟨#[c]⟩, .int ((i : Nat) + 1)]) := upd_same
            have hL3 := s1 _ _ hL2
            have hTk3 := hTk2.k s1
            have sG3 := sG2.trans s1
            generalize upd G2 b (.tup [.str ⟨#[c]⟩, .int ((i : Nat) + 1)]) = G3 at *
            walk_at "rd"
            refine r_append hL3 (by rw [refsK_len]; omega) ?_
            refine key _ _ ⟨toks ++ [((b, (⟨#[c]⟩ : Str), ((i : Nat) + 1 : Int)) : Tk)], rfl, same_mut sG3 htdH, by rw [upd_same, refsK_app]; rfl, (hTk3.mut hL3).snoc (by rw [upd_ne (ne_of hB hL3 fun z => nomatch z)]; exact hB), ?_⟩
            rw [fresh hgc h32, List.map_append, hM, List.map_append]
            rfl
          · have h32 : c = 32 := by
              have e1 : (⟨#[c]⟩ : Str) = (⟨#[32]⟩ : Str) := he
              have e2 := congrArg (fun x : Str => x.cps.toList) e1
              exact (List.cons.inj e2).1
            walk_at "rd"
            exact key _ _ ⟨toks, rfl, sG2, hL2, hTk2, by rw [space h32]; exact hM⟩
        walk_at "rd"
        cases g with
        | false =>
          walk_at "rd"
          exact rest rfl _ key
        | true =>
          walk_at "rd"
          refine ⟨c, rfl, ?_⟩
          cases hs : sml c with
          | false =>
            refine ⟨_, rfl, iteF ?_⟩
            walk_at "rd"
            exact rest (by rw [hs]; rfl) _ key
          | true =>
            refine ⟨_, rfl, iteT ?_⟩
            have hT0 : T0 ≠ [] := hne rfl
            obtain ⟨T1, ⟨lw, lc⟩, rfl⟩ : ∃ T1 x, T0 = T1 ++ [x] := ⟨T0.dropLast, T0.getLast hT0, (List.dropLast_concat_getLast hT0).symm⟩
            have htn : toks ≠ [] := fun z => by
              rw [z, List.length_append] at htl
              exact absurd htl (by simp)
            obtain ⟨tk1, ⟨tb, tw, tc⟩, rfl⟩ : ∃ T1 x, toks = T1 ++ [x] := ⟨toks.dropLast, toks.getLast htn, (List.dropLast_concat_getLast htn).symm⟩
            have hM1 : tk1.map (·.2) = T1.map tkC ∧ ((tw, tc) : Str × Int) = tkC (lw, lc) := by
              rw [List.map_append, List.map_append] at hM
              obtain ⟨e1, e2⟩ := List.append_inj' hM rfl
              exact ⟨e1, List.singleton_inj.mp e2⟩
            have ew : tw = ⟨lw.toArray⟩ := congrArg Prod.fst hM1.2
            have ec : tc = (lc : Int) := congrArg Prod.snd hM1.2
            subst ew ec
            have hlw : lw.length ≤ 100000 := Nat.le_trans (hll.1 (lw, lc) (List.mem_append_right _ List.mem_cons_self)) (by omega)
            have hTl := hTk2 _ (List.mem_append_right _ List.mem_cons_self)
            have hix : atI (refsK (tk1 ++ [(tb, (⟨lw.toArray⟩ : Str), (lc : Int))])) (-1) = some (.ref tb) := by
              rw [refsK_app]
              exact at_lastS
            walk_at "rd"
            refine r_ixL (SqL.of hL2) hix ?_
            walk_at "rd"
            refine r_ixT (SqT.of hTl) (at_of (j := 0) rfl rfl) ?_
            walk_at "rd"
            refine r_addS (by rw [show (⟨lw.toArray⟩ : Str).length = lw.length from List.size_toArray]; show lw.length + 1 ≤ sizeLine; omega) ?_
            walk_at "rd"
            refine r_ixL (SqL.of hL2) hix ?_
            walk_at "rd"
            refine r_ixT (SqT.of hTl) (at_of (j := 1) rfl rfl) ?_
            walk_at "rd"
            refine ⟨by show 2 ≤ sizeLine; decide, fun b hb => ?_⟩
            have ecat : (⟨lw.toArray⟩ : Str) ++ (⟨#[c]⟩ : Str) = (⟨(lw ++ [c]).toArray⟩ : Str) := by
              show (⟨lw.toArray ++ #[c]⟩ : Str) = _
              congr 1
              apply Array.ext'
              simp
            rw [ecat]
            have s1 := same_new (o := .tup [.str ⟨(lw ++ [c]).toArray⟩, .int (lc : Int)]) hb
            have hB : (upd G2 b (.tup [.str ⟨(lw ++ [c]).toArray⟩, .int (lc : Int)])) b = some (.tup [.str ⟨(lw ++ [c]).toArray⟩, .int (lc : Int)]) := upd_same
            have hL3 := s1 _ _ hL2
            have hTk3 := hTk2.k s1
            have sG3 := sG2.trans s1
            generalize upd G2 b (.tup [.str ⟨(lw ++ [c]).toArray⟩, .int (lc : Int)]) = G3 at *
            walk_at "rd"
            refine ⟨td, _, -1, tk1.length, rfl, rfl, hL3, by rw [refsK_app, List.length_append, refsK_len]; exact ixN_last _, ?_⟩
            refine key _ _ ⟨tk1 ++ [((b, (⟨(lw ++ [c]).toArray⟩ : Str), (lc : Int)) : Tk)], rfl, same_mut sG3 htdH, ?_, ?_, ?_⟩
            · rw [upd_same, refsK_app, refsK_app, List.set_append_right _ _ (by rw [refsK_len]; exact Nat.le_refl _), refsK_len, Nat.sub_self]
              rfl
            · refine TupK.snoc (fun t ht => (hTk3.mut hL3) t (List.mem_append_left _ ht)) ?_
              rw [upd_ne (ne_of hB hL3 fun z => nomatch z)]
              exact hB
            · rw [push hs rfl, List.map_append, hM1.1, List.dropLast_concat, List.map_append]
              congr 1
              rw [List.getLastD_concat]
              rfl
      · rintro σ G ⟨toks, y1, y2, rfl, sG, hL, hTk, hM⟩
        rw [List.take_length] at hM
        walk_at "rd"
        refine ⟨ty_l (SqL.of hL), ?_⟩
        walk_at "rd"
        refine r_lenS (by rw [show ((⟨cs.toArray⟩ : Str).length) = cs.length from List.size_toArray]; omega) ?_
        rw [show ((⟨cs.toArray⟩ : Str).length) = cs.length from List.size_toArray]
        walk_at "rd"
        refine ⟨by show 2 ≤ sizeLine; decide, fun b hb => ?_⟩
        have s1 := same_new (o := .tup [.str "", .int ((cs.length : Int) + 1)]) hb
        have hB : (upd G b (.tup [.str "", .int ((cs.length : Int) + 1)])) b = some (.tup [.str "", .int ((cs.length : Int) + 1)]) := upd_same
        have hL2 := s1 _ _ hL
        have hTk2 := hTk.k s1
        have sG2 := sG.trans s1
        generalize upd G b (.tup [.str "", .int ((cs.length : Int) + 1)]) = G2 at *
        walk_at "rd"
        have hll := lex_len cs 0 ([], false) (fun _ z => nomatch z) (Nat.le_refl _)
        have htl : toks.length = (lexF 0 ([], false) cs).1.length := by
          have := congrArg List.length hM
          rw [List.length_map, List.length_map] at this
          exact this
        refine r_append hL2 (by rw [refsK_len]; omega) ?_
        walk_at "rd"
        refine q _ td (toks ++ [((b, ("" : Str), (cs.length : Int) + 1) : Tk)]) (same_mut sG2 htdH) htdH (by rw [upd_same, refsK_app]; rfl) ((hTk2.mut hL2).snoc (by rw [upd_ne (ne_of hB hL2 fun z => nomatch z)]; exact hB)) ?_
        rw [List.map_append, hM]
        rfl

end

section
variable {P : Program} {w : World} {K : PySem.W.Frag} {mg : Str → Option Value} {base : Heap} {a : Ad}
def opn : List Str := ["not", "before", "("]
theorem opn_perm (u : Str) : u ∈ opn ↔ u ∈ opn3 := by
  unfold opn opn3
  simp only [List.mem_cons, List.not_mem_nil, or_false]
  constructor
  · rintro (h | h | h)
    · exact .inr (.inl h)
    · exact .inr (.inr h)
    · exact .inl h
  · rintro (h | h | h)
    · exact .inr (.inr h)
    · exact .inl h
    · exact .inr (.inl h)
theorem opn_kd (u : Str) : u ∈ opn ↔ kdS u = .par ∨ kdS u = .un := (opn_perm u).trans (opn_iff u)
theorem ats_kd (u : Str) : (u ∈ lets ∨ u ∈ ats) ↔ kdS u = .atom := by
  rw [← ats_iff]
  unfold lets ats ats6
  simp only [List.mem_cons, List.not_mem_nil, or_false, or_assoc]
theorem ne_of_kd {u : Str} (h : kdS u ≠ .eof) : u ≠ "" := fun e => h (kd_lit.2.1.mp e)
/-- how the parts of the reader end -/
abbrev Rd1 (a : Ad) (K : PySem.W.Frag) (P : Program) (w : World) (x : Addr) (H : Hp) (c : Nat → Nat → RCmd) (d : Nat) (pre : Option Tk → Prop) (Q : VK) (E : XK) : Prop := ∃ (dx td nd : Addr) (toks : List Tk) (at_ lv : Nat) (zs : List (Addr × List Itm)) (y : Except Nat Nat),
  RdA K P w a.k_Reader x dx td nd H toks at_ lv zs ∧ TokC toks ∧ at_ < toks.length ∧ pre toks[at_]? ∧ lv + d = 12 ∧ zs.length ≤ at_ ∧ RdR (kdK toks) (c at_ lv) y ∧
  (∀ (k n : Nat) (H' : Hp) (zs' : List (Addr × List Itm)), y = .ok k → RdA K P w a.k_Reader x dx td nd H' toks k lv zs' → k < toks.length → zs'.length + at_ ≤ zs.length + k → Q (.int (n : Int)) H') ∧ (∀ j, y = .error j → SF a E toks j)
def spOp (a : Ad) (K : PySem.W.Frag) (P : Program) (w : World) (d r : Nat) : Sp := fun vs H Q E => ∃ x : Addr, vs = [.ref x, .int (r : Int)] ∧ Rd1 a K P w x H (fun i v => .op r i v) d (fun _ => True) Q E
def spPlain (a : Ad) (K : PySem.W.Frag) (P : Program) (w : World) (d : Nat) : Sp := fun vs H Q E => ∃ x : Addr, vs = [.ref x] ∧ Rd1 a K P w x H (fun i v => .plain i v) d (fun _ => True) Q E
def spOpened (a : Ad) (K : PySem.W.Frag) (P : Program) (w : World) (d : Nat) : Sp := fun vs H Q E => ∃ (x : Addr) (u : Str), vs = [.ref x, .str u] ∧ (kdS u = .par ∨ kdS u = .un) ∧ Rd1 a K P w x H (fun i v => .plain i v) d (fun t => ∃ t', t = some t' ∧ t'.2.1 = u) Q E
theorem addZ_len (zs : List (Addr × List Itm)) (b : Addr) (l : List Itm) : (addZ zs b l).length ≤ zs.length + 1 := by
  unfold addZ
  split
  · omega
  · rw [List.length_append, List.length_singleton]
    omega
theorem ok_op3 (T : Txt K mg a) (hp : P = a.pg) {d lvl : Nat} (G_Reader_plain : FnOk P w K mg base (L2.CX P w) (lvl + 3) a.f_Reader_plain a.d_Reader_plain ["self"] (spPlain a K P w d)) : FnOk P w K mg base (L2.CX P w) (lvl + 4) a.f_Reader_operation a.d_Reader_operation ["self", "rank"] (spOp a K P w d 3) := by
  have G_Reader_token := ok_Reader_token (P := P) (w := w) (base := base) T
  have G_Reader_take := ok_Reader_take (P := P) (w := w) (base := base) T hp
  have G_number_of := ok_number_of (P := P) (w := w) (base := base) T
  have G_Reader_operation : FnOk P w K mg base (L2.CX P w) 1 a.f_Reader_operation a.d_Reader_operation ["self", "rank"] (fun _ _ _ _ => False) :=
    T.F_Reader_operation.okX sc_Reader_operation (fun vs H Q E h => h.elim) (fun cdv A outer s H vs Q E hr h => h.elim)
  refine T.F_Reader_operation.okX sc_Reader_operation (fun vs H Q E h => ?_) (fun cdv A outer s H vs Q E hr h => ?_)
  · obtain ⟨x, rfl, _⟩ := h
    rfl
  · obtain ⟨x, rfl, dx, td, nd, toks, at_, lv, zs, y, R, hC, hat, _, hlv, hz, hy, q, qe⟩ := h
    have hy' : RdR (kdK toks) (.plain at_ lv) y := by
      cases hy with
      | op3 h => exact h
      | opE h => exact absurd h (by decide)
      | opL h => exact absurd h (by decide)
    refine ⟨_, (pss_cons (ps_if (pt_cmpR op_eq (pv 1) (pe_callB (call_lenQK (K := K) rfl) (by rfl) T.z_len (by decide +kernel) (pa_cons (pe_glob (v := V.ref a.q_BETWEEN) (by rfl) T.gq_BETWEEN rfl) pa_nil)) (nomark _)) (pss_one (ps_ret (pe_meth0 (pv 0) T.cl_Reader T.mt_Reader_plain (G_Reader_plain) (hr.mono (by first | decide | omega)) T.b_Reader_plain .nil (passX (takes_of rfl rfl rfl rfl)) ))) pss_nil)
      (pss_cons (ps_set (i := 2) sc_Reader_operation.nd rfl (Or.inl rfl) (pe_meth (pv 0) T.cl_Reader T.mt_Reader_operation (G_Reader_operation) (hr.mono (by first | decide | omega)) T.b_Reader_operation .nil (passX (takes_of rfl rfl rfl rfl)) (pa_cons (pe_op op_add (pv 1) pe_int) pa_nil)))
      (pss_cons (ps_while (passes_of rfl) (pt_cmpR op_eq (pe_meth0 (pv 0) T.cl_Reader T.mt_Reader_token (G_Reader_token) (hr.mono (by first | decide | omega)) T.b_Reader_token .nil pass0 ) (pe_ix (ix_tupK (K := K) rfl) (pe_glob (v := V.ref a.q_BETWEEN) (by rfl) T.gq_BETWEEN rfl) (pv 1) (fun _ _ => rfl)) (nomark _)) (pss_cons (ps_expr (pe_meth (pv 0) T.cl_Reader T.mt_Reader_take (G_Reader_take) (hr.mono (by first | decide | omega)) T.b_Reader_take .nil (passX (takes_of rfl rfl rfl rfl)) (pa_cons (pe_ix (ix_tupK (K := K) rfl) (pe_glob (v := V.ref a.q_BETWEEN) (by rfl) T.gq_BETWEEN rfl) (pv 1) (fun _ _ => rfl)) pa_nil)))
      (pss_cons (ps_set (i := 3) sc_Reader_operation.nd rfl (Or.inl rfl) (pe_meth (pv 0) T.cl_Reader T.mt_Reader_operation (G_Reader_operation) (hr.mono (by first | decide | omega)) T.b_Reader_operation .nil (passX (takes_of rfl rfl rfl rfl)) (pa_cons (pe_op op_add (pv 1) pe_int) pa_nil)))
      (pss_one (ps_set (i := 2) sc_Reader_operation.nd rfl (Or.inl rfl) (pe_call (G_number_of) (hr.mono (by first | decide | omega)) (by rfl) T.g_number_of T.F_number_of.kp T.b_number_of .nil pass0 (pa_cons (pe_fldK (K := K) rfl (pv 0) rfl) (pa_cons (pe_tup (pa_cons (pe_ix (ix_tupK (K := K) rfl) (pe_glob (v := V.ref a.q_BETWEEN) (by rfl) T.gq_BETWEEN rfl) (pv 1) (fun _ _ => rfl)) (pa_cons (pv 2) (pa_cons (pv 3) pa_nil)))) pa_nil))))))))
      (pss_one (ps_ret (pv 2)))))), ?_⟩
    walk_at "rd"
    refine r_lenT (T.kq_BETWEEN _) ?_
    refine r_eqI ?_
    walk_at "rd"
    refine r_iteD (fun _ => ?_) (fun z => absurd rfl z)
    walk_at "rd"
    refine r_methS rfl R.ob (rdF_plain _ _ _ _) ?_
    walk_at "rd"
    exact ⟨x, rfl, dx, td, nd, toks, at_, lv, zs, y, R, hC, hat, trivial, hlv, hz, hy', q, qe⟩
theorem ok_opened0 (T : Txt K mg a) (hp : P = a.pg) {lvl : Nat} : FnOk P w K mg base (L2.CX P w) (lvl + 4) a.f_Reader_opened a.d_Reader_opened ["self", "token"] (spOpened a K P w 0) := by
  have G_Reader_take := ok_Reader_take (P := P) (w := w) (base := base) T hp
  have G_Reader_place := ok_Reader_place (P := P) (w := w) (base := base) T
  have G_number_of := ok_number_of (P := P) (w := w) (base := base) T
  have G_Reader_operation : FnOk P w K mg base (L2.CX P w) 1 a.f_Reader_operation a.d_Reader_operation ["self", "rank"] (fun _ _ _ _ => False) :=
    T.F_Reader_operation.okX sc_Reader_operation (fun vs H Q E h => h.elim) (fun cdv A outer s H vs Q E hr h => h.elim)
  have G_Reader_plain : FnOk P w K mg base (L2.CX P w) 1 a.f_Reader_plain a.d_Reader_plain ["self"] (fun _ _ _ _ => False) :=
    T.F_Reader_plain.okX sc_Reader_plain (fun vs H Q E h => h.elim) (fun cdv A outer s H vs Q E hr h => h.elim)
  refine T.F_Reader_opened.okX sc_Reader_opened (fun vs H Q E h => ?_) (fun cdv A outer s H vs Q E hr h => ?_)
  · obtain ⟨x, u, rfl, _⟩ := h
    rfl
  · obtain ⟨x, u, rfl, hu, dx, td, nd, toks, at_, lv, zs, y, R, hC, hat, ⟨t, ht, rfl⟩, hlv, hz, hy, q, qe⟩ := h
    have hk := kdK_at ht
    have ey : y = .error at_ := by
      cases hy with
      | atom h => rw [hk] at h; rcases hu with hu | hu <;> (rw [hu] at h; exact nomatch h)
      | full h hv => rfl
      | un h hv => omega
      | parE h hv => omega
      | parC h hv => omega
      | parX h hv => omega
      | bad h1 h2 h3 => rfl
    refine ⟨_, (pss_cons (ps_if (pt_cmpR op_eq (pe_fldK (K := K) rfl (pv 0) rfl) (pe_glob (v := V.int 12) (by rfl) T.c_MOST_LEVELS.choose_spec ⟨_, rfl⟩) (nomark _)) (pss_one (ps_raiseI (k := 0) T.x_SyntaxFault hp rfl rfl rfl (takes_of rfl rfl rfl rfl) (hr.mono (by omega)) (by rfl) (pe_meth0 (pv 0) T.cl_Reader T.mt_Reader_place (G_Reader_place) (hr.mono (by first | decide | omega)) T.b_Reader_place .nil pass0 ))) pss_nil)
      (pss_cons (ps_fldaugK (K := K) rfl (pv 0) pe_int in_add)
      (pss_cons (ps_expr (pe_meth (pv 0) T.cl_Reader T.mt_Reader_take (G_Reader_take) (hr.mono (by first | decide | omega)) T.b_Reader_take .nil (passX (takes_of rfl rfl rfl rfl)) (pa_cons (pv 1) pa_nil)))
      (pss_cons (ps_if (pt_cmpR op_eq (pv 1) pe_str (nomark _)) (pss_cons (ps_set (i := 2) sc_Reader_opened.nd rfl (Or.inl rfl) (pe_meth (pv 0) T.cl_Reader T.mt_Reader_operation (G_Reader_operation) (hr.mono (by first | decide | omega)) T.b_Reader_operation .nil (passX (takes_of rfl rfl rfl rfl)) (pa_cons pe_int pa_nil)))
      (pss_one (ps_expr (pe_meth (pv 0) T.cl_Reader T.mt_Reader_take (G_Reader_take) (hr.mono (by first | decide | omega)) T.b_Reader_take .nil (passX (takes_of rfl rfl rfl rfl)) (pa_cons pe_str pa_nil))))) (pss_one (ps_set (i := 2) sc_Reader_opened.nd rfl (Or.inl rfl) (pe_call (G_number_of) (hr.mono (by first | decide | omega)) (by rfl) T.g_number_of T.F_number_of.kp T.b_number_of .nil pass0 (pa_cons (pe_fldK (K := K) rfl (pv 0) rfl) (pa_cons (pe_tup (pa_cons (pv 1) (pa_cons (pe_meth0 (pv 0) T.cl_Reader T.mt_Reader_plain (G_Reader_plain) (hr.mono (by first | decide | omega)) T.b_Reader_plain .nil (passX (takes_of rfl rfl rfl rfl)) ) pa_nil))) pa_nil))))))
      (pss_cons (ps_fldaugK (K := K) rfl (pv 0) pe_int in_sub)
      (pss_one (ps_ret (pv 2)))))))), ?_⟩
    walk_at "rd"
    refine r_fldS rfl R.ob T.cl_Reader T.na_Reader_levels (rdF_levels _ _ _ _) ?_
    walk_at "rd"
    refine r_iteD (fun _ => ?_) (fun z => absurd (by omega) z)
    refine r_raiseI ?_
    walk_at "rd"
    refine r_methS rfl R.ob (rdF_place _ _ _ _) ?_
    walk_at "rd"
    refine ⟨x, dx, td, nd, toks, at_, lv, zs, t, rfl, R, ht, ?_⟩
    exact raiseI_in ⟨_, rfl, hC.col t (List.mem_of_getElem? ht)⟩ fun dx' hdx => qe at_ ey _ dx' t ht upd_same
theorem ok_opened (T : Txt K mg a) (hp : P = a.pg) {d lvl : Nat} (G_Reader_operation : FnOk P w K mg base (L2.CX P w) (lvl + 7) a.f_Reader_operation a.d_Reader_operation ["self", "rank"] (spOp a K P w d 0))
    (G_Reader_plain : FnOk P w K mg base (L2.CX P w) (lvl + 3) a.f_Reader_plain a.d_Reader_plain ["self"] (spPlain a K P w d)) : FnOk P w K mg base (L2.CX P w) (lvl + 8) a.f_Reader_opened a.d_Reader_opened ["self", "token"] (spOpened a K P w (d + 1)) := by
  have G_Reader_take := ok_Reader_take (P := P) (w := w) (base := base) T hp
  have G_Reader_place := ok_Reader_place (P := P) (w := w) (base := base) T
  have G_number_of := ok_number_of (P := P) (w := w) (base := base) T
  refine T.F_Reader_opened.okX sc_Reader_opened (fun vs H Q E h => ?_) (fun cdv A outer s H vs Q E hr h => ?_)
  · obtain ⟨x, u, rfl, _⟩ := h
    rfl
  · obtain ⟨x, u, rfl, hu, dx, td, nd, toks, at_, lv, zs, y, R, hC, hat, ⟨t, ht, rfl⟩, hlv, hz, hy, q, qe⟩ := h
    have hk := kdK_at ht
    have nx := hC.nx at_ t ht (ne_of_kd (by rcases hu with hu | hu <;> (rw [hu]; exact fun z => nomatch z)))
    refine ⟨_, (pss_cons (ps_if (pt_cmpR op_eq (pe_fldK (K := K) rfl (pv 0) rfl) (pe_glob (v := V.int 12) (by rfl) T.c_MOST_LEVELS.choose_spec ⟨_, rfl⟩) (nomark _)) (pss_one (ps_raiseI (k := 0) T.x_SyntaxFault hp rfl rfl rfl (takes_of rfl rfl rfl rfl) (hr.mono (by omega)) (by rfl) (pe_meth0 (pv 0) T.cl_Reader T.mt_Reader_place (G_Reader_place) (hr.mono (by first | decide | omega)) T.b_Reader_place .nil pass0 ))) pss_nil)
      (pss_cons (ps_fldaugK (K := K) rfl (pv 0) pe_int in_add)
      (pss_cons (ps_expr (pe_meth (pv 0) T.cl_Reader T.mt_Reader_take (G_Reader_take) (hr.mono (by first | decide | omega)) T.b_Reader_take .nil (passX (takes_of rfl rfl rfl rfl)) (pa_cons (pv 1) pa_nil)))
      (pss_cons (ps_if (pt_cmpR op_eq (pv 1) pe_str (nomark _)) (pss_cons (ps_set (i := 2) sc_Reader_opened.nd rfl (Or.inl rfl) (pe_meth (pv 0) T.cl_Reader T.mt_Reader_operation (G_Reader_operation) (hr.mono (by first | decide | omega)) T.b_Reader_operation .nil (passX (takes_of rfl rfl rfl rfl)) (pa_cons pe_int pa_nil)))
      (pss_one (ps_expr (pe_meth (pv 0) T.cl_Reader T.mt_Reader_take (G_Reader_take) (hr.mono (by first | decide | omega)) T.b_Reader_take .nil (passX (takes_of rfl rfl rfl rfl)) (pa_cons pe_str pa_nil))))) (pss_one (ps_set (i := 2) sc_Reader_opened.nd rfl (Or.inl rfl) (pe_call (G_number_of) (hr.mono (by first | decide | omega)) (by rfl) T.g_number_of T.F_number_of.kp T.b_number_of .nil pass0 (pa_cons (pe_fldK (K := K) rfl (pv 0) rfl) (pa_cons (pe_tup (pa_cons (pv 1) (pa_cons (pe_meth0 (pv 0) T.cl_Reader T.mt_Reader_plain (G_Reader_plain) (hr.mono (by first | decide | omega)) T.b_Reader_plain .nil (passX (takes_of rfl rfl rfl rfl)) ) pa_nil))) pa_nil))))))
      (pss_cons (ps_fldaugK (K := K) rfl (pv 0) pe_int in_sub)
      (pss_one (ps_ret (pv 2)))))))), ?_⟩
    walk_at "rd"
    refine r_fldS rfl R.ob T.cl_Reader T.na_Reader_levels (rdF_levels _ _ _ _) ?_
    walk_at "rd"
    refine r_iteD (fun z => absurd z (by omega)) (fun _ => ?_)
    walk_at "rd"
    with_reducible refine r_saug ?_
    walk_at "rd"
    refine ⟨_, _, _, _, _, rfl, R.ob, T.cl_Reader, T.na_Reader_levels, rdF_levels _ _ _ _, ?_⟩
    walk_at "rd"
    refine ⟨_, _, rfl, rfl, _, _, R.ob, by show 4 < 1000; decide, ?_⟩
    rw [show (lv : Int) + 1 = ((lv + 1 : Nat) : Int) by omega, rdF_put_levels]
    have R1 := R.put at_ (lv + 1)
    generalize upd H x (.ins a.k_Reader dx (rdF td at_ (lv + 1) nd)) = H1 at *
    walk_at "rd"
    refine r_methS rfl R1.ob (rdF_take _ _ _ _) ?_
    walk_at "rd"
    refine ⟨x, dx, td, nd, toks, at_, lv + 1, zs, t, t.2.1, rfl, R1, hC, ht, fun _ => ?_, fun z => absurd rfl z⟩
    have R2 := R1.put (at_ + 1) (lv + 1)
    generalize upd H1 x (.ins a.k_Reader dx (rdF td (at_ + 1) (lv + 1) nd)) = H2 at *
    clear R1
    walk_at "rd"
    by_cases hpar : kdS t.2.1 = .par
    · refine r_iteD (fun _ => ?_) (fun z => absurd (kd_lit.2.2.mpr hpar) z)
      obtain ⟨y0, hy0, hE, hO⟩ : ∃ y0, RdR (kdK toks) (.op 0 (at_ + 1) (lv + 1)) y0 ∧ (∀ j, y0 = .error j → y = .error j) ∧ (∀ k, y0 = .ok k → (kdK toks k = .close → y = .ok (k + 1)) ∧ (kdK toks k ≠ .close → y = .error k)) := by
        cases hy with
        | atom h => rw [hk, hpar] at h; exact nomatch h
        | full h hv => omega
        | un h hv => rw [hk, hpar] at h; exact nomatch h
        | parE h hv g => exact ⟨_, g, fun j e => by cases e; rfl, fun k e => nomatch e⟩
        | parC h hv hc g => exact ⟨_, g, (fun j e => nomatch e), fun k e => by cases e; exact ⟨fun _ => rfl, fun z => absurd hc z⟩⟩
        | parX h hv hc g => exact ⟨_, g, (fun j e => nomatch e), fun k e => by cases e; exact ⟨fun z => absurd z hc, fun _ => rfl⟩⟩
        | bad h1 h2 h3 => exact absurd (hk.trans hpar) h3
      walk_at "rd"
      refine r_methS rfl R2.ob (rdF_operation _ _ _ _) ?_
      walk_at "rd"
      refine ⟨x, rfl, dx, td, nd, toks, at_ + 1, lv + 1, zs, y0, R2, hC, nx, trivial, by omega, by omega, hy0, fun k n H3 zs3 e3 R3 hk3 hz3 => ?_, fun j e => qe j (hE j e)⟩
      walk_at "rd"
      refine r_methS rfl R3.ob (rdF_take _ _ _ _) ?_
      walk_at "rd"
      have ht3 : toks[k]? = some toks[k] := List.getElem?_eq_getElem hk3
      refine ⟨x, dx, td, nd, toks, k, lv + 1, zs3, toks[k], (")" : Str), rfl, R3, hC, ht3, fun e => ?_, fun e => qe k ((hO k e3).2 fun z => e (kd_lit.1.mpr (by rw [← kdK_at ht3]; exact z)))⟩
      have hcl : kdK toks k = .close := (kdK_at ht3).trans (kd_lit.1.mp e)
      have nx3 := hC.nx k _ ht3 (by rw [e]; decide +kernel)
      have R4 := R3.put (k + 1) (lv + 1)
      generalize upd H3 x (.ins a.k_Reader dx (rdF td (k + 1) (lv + 1) nd)) = H4 at *
      walk_at "rd"
      with_reducible refine r_saug ?_
      walk_at "rd"
      refine ⟨_, _, _, _, _, rfl, R4.ob, T.cl_Reader, T.na_Reader_levels, rdF_levels _ _ _ _, ?_⟩
      walk_at "rd"
      refine ⟨_, _, rfl, rfl, _, _, R4.ob, by show 4 < 1000; decide, ?_⟩
      rw [show ((lv + 1 : Nat) : Int) - 1 = ((lv : Nat) : Int) by omega, rdF_put_levels]
      walk_at "rd"
      exact q (k + 1) n _ zs3 ((hO k e3).1 hcl) (R4.put (k + 1) lv) nx3 (by omega)
    · have hun : kdS t.2.1 = .un := hu.resolve_left hpar
      refine r_iteD (fun z => absurd (kd_lit.2.2.mp z) hpar) (fun _ => ?_)
      have hy0 : RdR (kdK toks) (.plain (at_ + 1) (lv + 1)) y := by
        cases hy with
        | atom h => rw [hk, hun] at h; exact nomatch h
        | full h hv => omega
        | un h hv g => exact g
        | parE h hv g => rw [hk, hun] at h; exact nomatch h
        | parC h hv hc g => rw [hk, hun] at h; exact nomatch h
        | parX h hv hc g => rw [hk, hun] at h; exact nomatch h
        | bad h1 h2 h3 => exact absurd (hk.trans hun) h2
      walk_at "rd"
      refine r_fldS rfl R2.ob T.cl_Reader T.na_Reader_numbers (rdF_numbers _ _ _ _) ?_
      walk_at "rd"
      refine r_methS rfl R2.ob (rdF_plain _ _ _ _) ?_
      walk_at "rd"
      refine ⟨x, rfl, dx, td, nd, toks, at_ + 1, lv + 1, zs, y, R2, hC, nx, trivial, by omega, by omega, hy0, fun k n H3 zs3 e3 R3 hk3 hz3 => ?_, qe⟩
      walk_at "rd"
      refine ⟨by show 2 ≤ sizeLine; decide, fun b hb => ?_⟩
      have R4 := R3.k (same_new (o := .tup [.str t.2.1, .int (n : Int)]) hb)
      have hB : SqT K (upd H3 b (.tup [.str t.2.1, .int (n : Int)])) b (([.inl t.2.1, .inr (n : Int)] : List Itm).map itV) := SqT.of upd_same
      generalize upd H3 b (.tup [.str t.2.1, .int (n : Int)]) = H4 at *
      walk_at "rd"
      have hC2 := hC.len
      refine ⟨nd, b, zs3, [.inl t.2.1, .inr (n : Int)], rfl, R4.nu, R4.zl, hB, by omega, ?_⟩
      have R5 := R4.num hB
      have l5 := addZ_len zs3 b [.inl t.2.1, .inr (n : Int)]
      generalize addL (zs3.map (·.2)) [.inl t.2.1, .inr (n : Int)] = L5 at *
      generalize upd H4 nd (NDO P w nd (numL 0 (addZ zs3 b [.inl t.2.1, .inr (n : Int)]))) = H5 at *
      generalize addZ zs3 b [.inl t.2.1, .inr (n : Int)] = zs5 at *
      walk_at "rd"
      with_reducible refine r_saug ?_
      walk_at "rd"
      refine ⟨_, _, _, _, _, rfl, R5.ob, T.cl_Reader, T.na_Reader_levels, rdF_levels _ _ _ _, ?_⟩
      walk_at "rd"
      refine ⟨_, _, rfl, rfl, _, _, R5.ob, by show 4 < 1000; decide, ?_⟩
      rw [show ((lv + 1 : Nat) : Int) - 1 = ((lv : Nat) : Int) by omega, rdF_put_levels]
      walk_at "rd"
      exact q k _ _ zs5 e3 (R5.put k lv) hk3 (by omega)

end

section
variable {P : Program} {w : World} {K : PySem.W.Frag} {mg : Str → Option Value} {base : Heap} {a : Ad}
theorem let_kd : ∀ u ∈ lets, kdS u = .atom := fun u h => (ats_kd u).mp (.inl h)
theorem ok_plain (T : Txt K mg a) (hp : P = a.pg) {d lvl : Nat} (G_Reader_opened : FnOk P w K mg base (L2.CX P w) (lvl + 4) a.f_Reader_opened a.d_Reader_opened ["self", "token"] (spOpened a K P w d)) : FnOk P w K mg base (L2.CX P w) (lvl + 5) a.f_Reader_plain a.d_Reader_plain ["self"] (spPlain a K P w d) := by
  have G_Reader_token := ok_Reader_token (P := P) (w := w) (base := base) T
  have G_Reader_place := ok_Reader_place (P := P) (w := w) (base := base) T
  have G_Reader_take := ok_Reader_take (P := P) (w := w) (base := base) T hp
  have G_number_of := ok_number_of (P := P) (w := w) (base := base) T
  have G_is_letter := ok_is_letter (P := P) (w := w) (base := base) T
  refine T.F_Reader_plain.okX sc_Reader_plain (fun vs H Q E h => ?_) (fun cdv A outer s H vs Q E hr h => ?_)
  · obtain ⟨x, rfl, _⟩ := h
    rfl
  · obtain ⟨x, rfl, dx, td, nd, toks, at_, lv, zs, y, R, hC, hat, _, hlv, hz, hy, q, qe⟩ := h
    have ht : toks[at_]? = some toks[at_] := List.getElem?_eq_getElem hat
    generalize toks[at_] = t at ht
    have hk := kdK_at ht
    have htm := List.mem_of_getElem? ht
    refine ⟨_, (pss_cons (ps_set (i := 1) sc_Reader_plain.nd rfl (Or.inl rfl) (pe_meth0 (pv 0) T.cl_Reader T.mt_Reader_token (G_Reader_token) (hr.mono (by first | decide | omega)) T.b_Reader_token .nil pass0 ))
      (pss_cons (ps_if (pt_cmpR (op_inK (K := K) rfl) (pv 1) (pe_tup (pa_cons pe_str (pa_cons pe_str (pa_cons pe_str pa_nil)))) (by rfl)) (pss_one (ps_ret (pe_meth (pv 0) T.cl_Reader T.mt_Reader_opened (G_Reader_opened) (hr.mono (by first | decide | omega)) T.b_Reader_opened .nil (passX (takes_of rfl rfl rfl rfl)) (pa_cons (pv 1) pa_nil)))) pss_nil)
      (pss_cons (ps_if (pt_val (pe_call (G_is_letter) (hr.mono (by first | decide | omega)) (by rfl) T.g_is_letter T.F_is_letter.kp T.b_is_letter .nil pass0 (pa_cons (pv 1) pa_nil))) (pss_one (ps_set (i := 2) sc_Reader_plain.nd rfl (Or.inl rfl) (pe_tup (pa_cons pe_str (pa_cons (pv 1) pa_nil))))) (pss_one (ps_if (pt_cmpR (op_inK (K := K) rfl) (pv 1) (pe_tup (pa_cons pe_str (pa_cons pe_str pa_nil))) (by rfl)) (pss_one (ps_set (i := 2) sc_Reader_plain.nd rfl (Or.inl rfl) (pe_tup (pa_cons (pv 1) pa_nil)))) (pss_one (ps_raiseI (k := 0) T.x_SyntaxFault hp rfl rfl rfl (takes_of rfl rfl rfl rfl) (hr.mono (by omega)) (by rfl) (pe_meth0 (pv 0) T.cl_Reader T.mt_Reader_place (G_Reader_place) (hr.mono (by first | decide | omega)) T.b_Reader_place .nil pass0 ))))))
      (pss_cons (ps_expr (pe_meth (pv 0) T.cl_Reader T.mt_Reader_take (G_Reader_take) (hr.mono (by first | decide | omega)) T.b_Reader_take .nil (passX (takes_of rfl rfl rfl rfl)) (pa_cons (pv 1) pa_nil)))
      (pss_one (ps_ret (pe_call (G_number_of) (hr.mono (by first | decide | omega)) (by rfl) T.g_number_of T.F_number_of.kp T.b_number_of .nil pass0 (pa_cons (pe_fldK (K := K) rfl (pv 0) rfl) (pa_cons (pv 2) pa_nil))))))))), ?_⟩
    walk_at "rd"
    refine r_methS rfl R.ob (rdF_token _ _ _ _) ?_
    walk_at "rd"
    refine ⟨x, dx, td, nd, toks, at_, lv, zs, t, rfl, R, ht, ?_⟩
    walk_at "rd"
    refine ⟨by show 3 ≤ sizeLine; decide, fun p1 hp1 => ?_⟩
    refine r_inStrs (x := .inl t.2.1) (ss := opn) (.inr (SqT.of upd_same)) ?_
    have R1 := R.k (same_new (o := .tup [.str "not", .str "before", .str "("]) hp1)
    generalize upd H p1 (.tup [.str "not", .str "before", .str "("]) = H1 at *
    clear hp1 R
    walk_at "rd"
    refine r_iteD (fun hu => ?_) (fun hu => ?_)
    · walk_at "rd"
      refine r_methS rfl R1.ob (rdF_opened _ _ _ _) ?_
      walk_at "rd"
      exact ⟨x, t.2.1, rfl, (opn_kd _).mp hu, dx, td, nd, toks, at_, lv, zs, y, R1, hC, hat, ⟨t, ht, rfl⟩, hlv, hz, hy, q, qe⟩
    have npar : kdS t.2.1 ≠ .par := fun z => hu ((opn_kd _).mpr (.inl z))
    have nun : kdS t.2.1 ≠ .un := fun z => hu ((opn_kd _).mpr (.inr z))
    have okA : kdS t.2.1 = .atom → y = .ok (at_ + 1) := fun e => by
      cases hy with
      | atom h => rfl
      | full h hv => rcases h with h | h <;> (rw [hk, e] at h; exact nomatch h)
      | un h hv => rw [hk, e] at h; exact nomatch h
      | parE h hv => rw [hk, e] at h; exact nomatch h
      | parC h hv => rw [hk, e] at h; exact nomatch h
      | parX h hv => rw [hk, e] at h; exact nomatch h
      | bad h1 h2 h3 => exact absurd (hk.trans e) h1
    have erA : kdS t.2.1 ≠ .atom → y = .error at_ := fun e => by
      cases hy with
      | atom h => exact absurd (hk.symm.trans h) e
      | full h hv => rfl
      | un h hv => exact absurd (hk.symm.trans h) nun
      | parE h hv => exact absurd (hk.symm.trans h) npar
      | parC h hv => exact absurd (hk.symm.trans h) npar
      | parX h hv => exact absurd (hk.symm.trans h) npar
      | bad h1 h2 h3 => rfl
    walk_at "rd1"
    with_reducible refine r_cutJ (fun σ G => ∃ (b : Addr) (l : List Itm), σ = [some (.ref x), some (.str t.2.1), some (.ref b)] ∧ RdA K P w a.k_Reader x dx td nd G toks at_ lv zs ∧ SqT K G b (l.map itV) ∧ kdS t.2.1 = .atom) ?_ (fun key => ?_)
    · rintro σ G ⟨b, l, rfl, R3, hB, hatom⟩
      walk_at "rd"
      refine r_methS rfl R3.ob (rdF_take _ _ _ _) ?_
      walk_at "rd"
      have nx := hC.nx at_ t ht (ne_of_kd (by rw [hatom]; exact fun z => nomatch z))
      refine ⟨x, dx, td, nd, toks, at_, lv, zs, t, t.2.1, rfl, R3, hC, ht, fun _ => ?_, fun z => absurd rfl z⟩
      have R4 := R3.put (at_ + 1) lv
      have hB4 : SqT K (upd G x (.ins a.k_Reader dx (rdF td (at_ + 1) lv nd))) b (l.map itV) := (nt_of R3.ob (fun _ z => nomatch z) (fun _ _ z => nomatch z)).sq hB
      generalize upd G x (.ins a.k_Reader dx (rdF td (at_ + 1) lv nd)) = G4 at *
      walk_at "rd"
      refine r_fldS rfl R4.ob T.cl_Reader T.na_Reader_numbers (rdF_numbers _ _ _ _) ?_
      walk_at "rd"
      have hC2 := hC.len
      refine ⟨nd, b, zs, l, rfl, R4.nu, R4.zl, hB4, by omega, ?_⟩
      have l5 := addZ_len zs b l
      exact q (at_ + 1) _ _ _ (okA hatom) (R4.num hB4) nx (by omega)
    · walk_at "rd"
      refine ⟨.inl t.2.1, rfl, fun H2 s2 => ?_⟩
      have R2 := R1.k s2
      clear R1 s2
      refine ⟨_, rfl, ?_⟩
      by_cases hl : t.2.1 ∈ lets
      · rw [show isLet (.inl t.2.1) = true from decide_eq_true hl]
        refine iteT ?_
        walk_at "rd"
        refine ⟨by show 2 ≤ sizeLine; decide, fun b hb => ?_⟩
        walk_at "rd"
        exact key _ _ ⟨b, [.inl "letter", .inl t.2.1], rfl, R2.k (same_new hb), SqT.of upd_same, let_kd _ hl⟩
      · rw [show isLet (.inl t.2.1) = false from decide_eq_false hl]
        refine iteF ?_
        walk_at "rd"
        refine ⟨by show 2 ≤ sizeLine; decide, fun p hp => ?_⟩
        refine r_inStrs (x := .inl t.2.1) (ss := ats) (.inr (SqT.of upd_same)) ?_
        have R3 := R2.k (same_new (o := .tup [.str "start", .str "true"]) hp)
        generalize upd H2 p (.tup [.str "start", .str "true"]) = H3 at *
        refine ⟨_, rfl, r_iteD (fun hw => ?_) (fun hw => ?_)⟩
        · walk_at "rd"
          refine ⟨by show 1 ≤ sizeLine; decide, fun b hb => ?_⟩
          walk_at "rd"
          exact key _ _ ⟨b, [.inl t.2.1], rfl, R3.k (same_new hb), SqT.of upd_same, (ats_kd _).mp (.inr hw)⟩
        · refine r_raiseI ?_
          walk_at "rd"
          refine r_methS rfl R3.ob (rdF_place _ _ _ _) ?_
          walk_at "rd"
          refine ⟨x, dx, td, nd, toks, at_, lv, zs, t, rfl, R3, ht, ?_⟩
          exact raiseI_in ⟨_, rfl, hC.col t htm⟩ fun dx' hdx => qe at_ (erA fun z => ((ats_kd _).mpr z).elim hl hw) _ dx' t ht upd_same

end

section
variable {P : Program} {w : World} {K : PySem.W.Frag} {mg : Str → Option Value} {base : Heap} {a : Ad}
theorem between_at {r : Nat} (hr : r < 3) : atI [V.str "or", V.str "and", V.str "since"] (r : Int) = some (.str (bw r)) := by
  refine at_of (j := r) rfl ?_
  have h : r = 0 ∨ r = 1 ∨ r = 2 := by omega
  rcases h with rfl | rfl | rfl <;> rfl
theorem bw_kd {r : Nat} (hr : r < 3) (t : Str) : t = bw r ↔ kdS t = .bin r := by
  have h0 : ∀ r, r < 3 → kdS (bw r) = .bin r := by decide +kernel
  refine ⟨fun e => by rw [e]; exact h0 r hr, fun h => ?_⟩
  unfold kdS at h
  split at h
  · exact nomatch h
  · split at h
    · exact nomatch h
    · split at h
      · exact nomatch h
      · split at h
        · rename_i e
          obtain rfl : 0 = r := TK.bin.inj h
          rw [e]; rfl
        · split at h
          · rename_i e
            obtain rfl : 1 = r := TK.bin.inj h
            rw [e]; rfl
          · split at h
            · rename_i e
              obtain rfl : 2 = r := TK.bin.inj h
              rw [e]; rfl
            · split at h
              · exact nomatch h
              · split at h
                · exact nomatch h
                · exact nomatch h
theorem ok_opS (T : Txt K mg a) (hp : P = a.pg) {d r lvl : Nat} (hr3 : r < 3) (hlvl : 4 ≤ lvl) (G_Reader_operation : FnOk P w K mg base (L2.CX P w) lvl a.f_Reader_operation a.d_Reader_operation ["self", "rank"] (spOp a K P w d (r + 1))) : FnOk P w K mg base (L2.CX P w) (lvl + 1) a.f_Reader_operation a.d_Reader_operation ["self", "rank"] (spOp a K P w d r) := by
  have G_Reader_token := ok_Reader_token (P := P) (w := w) (base := base) T
  have G_Reader_take := ok_Reader_take (P := P) (w := w) (base := base) T hp
  have G_number_of := ok_number_of (P := P) (w := w) (base := base) T
  have G_Reader_plain : FnOk P w K mg base (L2.CX P w) 1 a.f_Reader_plain a.d_Reader_plain ["self"] (fun _ _ _ _ => False) :=
    T.F_Reader_plain.okX sc_Reader_plain (fun vs H Q E h => h.elim) (fun cdv A outer s H vs Q E hr h => h.elim)
  refine T.F_Reader_operation.okX sc_Reader_operation (fun vs H Q E h => ?_) (fun cdv A outer s H vs Q E hr h => ?_)
  · obtain ⟨x, rfl, _⟩ := h
    rfl
  · obtain ⟨x, rfl, dx, td, nd, toks, at_, lv, zs, y, R, hC, hat, _, hlv, hz, hy, q, qe⟩ := h
    obtain ⟨y0, hy0, hE, hO⟩ : ∃ y0, RdR (kdK toks) (.op (r + 1) at_ lv) y0 ∧ (∀ j, y0 = .error j → y = .error j) ∧ (∀ k, y0 = .ok k → RdR (kdK toks) (.loop r k lv) y) := by
      cases hy with
      | op3 h => exact absurd hr3 (by decide)
      | opE h g => exact ⟨_, g, fun j e => by cases e; rfl, fun k e => nomatch e⟩
      | opL h g g2 => exact ⟨_, g, (fun j e => nomatch e), fun k e => by cases e; exact g2⟩
    refine ⟨_, (pss_cons (ps_if (pt_cmpR op_eq (pv 1) (pe_callB (call_lenQK (K := K) rfl) (by rfl) T.z_len (by decide +kernel) (pa_cons (pe_glob (v := V.ref a.q_BETWEEN) (by rfl) T.gq_BETWEEN rfl) pa_nil)) (nomark _)) (pss_one (ps_ret (pe_meth0 (pv 0) T.cl_Reader T.mt_Reader_plain (G_Reader_plain) (hr.mono (by first | decide | omega)) T.b_Reader_plain .nil (passX (takes_of rfl rfl rfl rfl)) ))) pss_nil)
      (pss_cons (ps_set (i := 2) sc_Reader_operation.nd rfl (Or.inl rfl) (pe_meth (pv 0) T.cl_Reader T.mt_Reader_operation (G_Reader_operation) (hr.mono (by first | decide | omega)) T.b_Reader_operation .nil (passX (takes_of rfl rfl rfl rfl)) (pa_cons (pe_op op_add (pv 1) pe_int) pa_nil)))
      (pss_cons (ps_while (passes_of rfl) (pt_cmpR op_eq (pe_meth0 (pv 0) T.cl_Reader T.mt_Reader_token (G_Reader_token) (hr.mono (by first | decide | omega)) T.b_Reader_token .nil pass0 ) (pe_ix (ix_tupK (K := K) rfl) (pe_glob (v := V.ref a.q_BETWEEN) (by rfl) T.gq_BETWEEN rfl) (pv 1) (fun _ _ => rfl)) (nomark _)) (pss_cons (ps_expr (pe_meth (pv 0) T.cl_Reader T.mt_Reader_take (G_Reader_take) (hr.mono (by first | decide | omega)) T.b_Reader_take .nil (passX (takes_of rfl rfl rfl rfl)) (pa_cons (pe_ix (ix_tupK (K := K) rfl) (pe_glob (v := V.ref a.q_BETWEEN) (by rfl) T.gq_BETWEEN rfl) (pv 1) (fun _ _ => rfl)) pa_nil)))
      (pss_cons (ps_set (i := 3) sc_Reader_operation.nd rfl (Or.inl rfl) (pe_meth (pv 0) T.cl_Reader T.mt_Reader_operation (G_Reader_operation) (hr.mono (by first | decide | omega)) T.b_Reader_operation .nil (passX (takes_of rfl rfl rfl rfl)) (pa_cons (pe_op op_add (pv 1) pe_int) pa_nil)))
      (pss_one (ps_set (i := 2) sc_Reader_operation.nd rfl (Or.inl rfl) (pe_call (G_number_of) (hr.mono (by first | decide | omega)) (by rfl) T.g_number_of T.F_number_of.kp T.b_number_of .nil pass0 (pa_cons (pe_fldK (K := K) rfl (pv 0) rfl) (pa_cons (pe_tup (pa_cons (pe_ix (ix_tupK (K := K) rfl) (pe_glob (v := V.ref a.q_BETWEEN) (by rfl) T.gq_BETWEEN rfl) (pv 1) (fun _ _ => rfl)) (pa_cons (pv 2) (pa_cons (pv 3) pa_nil)))) pa_nil))))))))
      (pss_one (ps_ret (pv 2)))))), ?_⟩
    walk_at "rd"
    refine r_lenT (T.kq_BETWEEN _) ?_
    refine r_eqI ?_
    walk_at "rd"
    refine r_iteD (fun z => absurd z (by show ¬ ((r : Int) = (3 : Nat)); omega)) (fun _ => ?_)
    walk_at "rd"
    refine r_methS rfl R.ob (rdF_operation _ _ _ _) ?_
    walk_at "rd"
    refine ⟨x, by rw [show ((r : Nat) : Int) + 1 = ((r + 1 : Nat) : Int) by omega]; rfl, dx, td, nd, toks, at_, lv, zs, y0, R, hC, hat, trivial, hlv, hz, hy0, fun k1 n1 H1 zs1 e1 R1 hk1 hz1 => ?_, fun j e => qe j (hE j e)⟩
    have hl1 := hO k1 e1
    walk_at "rd"
    refine while_gn (fun m σ G => ∃ (k n : Nat) (zs' : List (Addr × List Itm)) (y3 : Option V), σ = [some (.ref x), some (.int (r : Int)), some (.int (n : Int)), y3] ∧ RdA K P w a.k_Reader x dx td nd G toks k lv zs' ∧ k < toks.length ∧ zs'.length + at_ ≤ zs.length + k ∧ RdR (kdK toks) (.loop r k lv) y ∧ m = toks.length - k) _
      ⟨k1, n1, zs1, none, rfl, R1, hk1, hz1, hl1, rfl⟩ (fun m σ G hW => ?_) (fun σ H R R' h1 h2 => ?_)
    rotate_left
    · obtain ⟨v, ev, a', dx', fs', g1, g2, g3, x1, dx1, td1, nd1, tk1, at1, lv1, zs2, t1, g4, g5, g6, v2, ev2, p2, xs2, i2, y2, g7, g8, g9, g10, g11, k2, g12, h⟩ := h2
      exact ⟨v, ev, a', dx', fs', g1, g2, g3, x1, dx1, td1, nd1, tk1, at1, lv1, zs2, t1, g4, g5, g6, v2, ev2, p2, xs2, i2, y2, g7, g8, g9, g10, g11, k2, g12, h1 _ _ h⟩
    obtain ⟨k, n, zs', y3, rfl, R2, hk, hz2, hl, rfl⟩ := hW
    have ht : toks[k]? = some toks[k] := List.getElem?_eq_getElem hk
    generalize toks[k] = t at ht
    have hkd := kdK_at ht
    walk_at "rd"
    refine r_methS rfl R2.ob (rdF_token _ _ _ _) ?_
    walk_at "rd"
    refine ⟨x, dx, td, nd, toks, k, lv, zs', t, rfl, R2, ht, ?_⟩
    walk_at "rd"
    refine r_ixT (T.kq_BETWEEN _) (between_at hr3) ?_
    walk_at "rd"
    refine r_iteD (fun hb => ?_) (fun hb => ?_)
    rotate_left
    · have ey : y = .ok k := by
        cases hl with
        | loopN h => rfl
        | loopE h => exact absurd ((bw_kd hr3 _).mpr (hkd.symm.trans h)) hb
        | loopL h => exact absurd ((bw_kd hr3 _).mpr (hkd.symm.trans h)) hb
      walk_at "rd"
      exact q k n _ zs' ey R2 hk hz2
    have hbin : kdS t.2.1 = .bin r := (bw_kd hr3 _).mp hb
    have nx := hC.nx k t ht (ne_of_kd (by rw [hbin]; exact fun z => nomatch z))
    obtain ⟨y1, hy1, hE1, hO1⟩ : ∃ y1, RdR (kdK toks) (.op (r + 1) (k + 1) lv) y1 ∧ (∀ j, y1 = .error j → y = .error j) ∧ (∀ k', y1 = .ok k' → RdR (kdK toks) (.loop r k' lv) y) := by
      cases hl with
      | loopN h => exact absurd (hkd.trans hbin) h
      | loopE h g => exact ⟨_, g, fun j e => by cases e; rfl, fun k e => nomatch e⟩
      | loopL h g g2 => exact ⟨_, g, (fun j e => nomatch e), fun k e => by cases e; exact g2⟩
    walk_at "rd"
    refine r_methS rfl R2.ob (rdF_take _ _ _ _) ?_
    walk_at "rd"
    refine r_ixT (T.kq_BETWEEN _) (between_at hr3) ?_
    walk_at "rd"
    refine ⟨x, dx, td, nd, toks, k, lv, zs', t, bw r, rfl, R2, hC, ht, fun _ => ?_, fun z => absurd hb z⟩
    have R3 := R2.put (k + 1) lv
    generalize upd G x (.ins a.k_Reader dx (rdF td (k + 1) lv nd)) = G3 at *
    walk_at "rd"
    refine r_methS rfl R3.ob (rdF_operation _ _ _ _) ?_
    walk_at "rd"
    refine ⟨x, by rw [show ((r : Nat) : Int) + 1 = ((r + 1 : Nat) : Int) by omega]; rfl, dx, td, nd, toks, k + 1, lv, zs', y1, R3, hC, nx, trivial, hlv, by omega, hy1, fun k4 n4 G4 zs4 e4 R4 hk4 hz4 => ?_, fun j e => qe j (hE1 j e)⟩
    have hmore : k + 1 < k4 := by
      rw [e4] at hy1
      exact hy1.more
    walk_at "rd"
    refine r_fldS rfl R4.ob T.cl_Reader T.na_Reader_numbers (rdF_numbers _ _ _ _) ?_
    walk_at "rd"
    refine r_ixT (T.kq_BETWEEN _) (between_at hr3) ?_
    walk_at "rd"
    refine ⟨by show 3 ≤ sizeLine; decide, fun b hb2 => ?_⟩
    generalize hll : ([.inl (bw r), .inr (n : Int), .inr (n4 : Int)] : List Itm) = l at *
    have R5 := R4.k (same_new (o := .tup (l.map itV)) hb2)
    have hB : SqT K (upd G4 b (.tup (l.map itV))) b (l.map itV) := SqT.of upd_same
    rw [show ([V.str (bw r), V.int (n : Int), V.int (n4 : Int)] : List V) = l.map itV by rw [← hll]; rfl]
    generalize upd G4 b (.tup (l.map itV)) = G5 at *
    walk_at "rd"
    have hC2 := hC.len
    refine ⟨nd, b, zs4, l, rfl, R5.nu, R5.zl, hB, by omega, ?_⟩
    walk_at "rd"
    have l5 := addZ_len zs4 b l
    exact ⟨toks.length - k4, by omega, k4, _, addZ zs4 b l, _, rfl, R5.num hB, hk4, by omega, hO1 k4 e4, rfl⟩
/-- all three, for so many levels -/
theorem ok_parse (T : Txt K mg a) (hp : P = a.pg) : ∀ d : Nat, FnOk P w K mg base (L2.CX P w) (4 + 6 * d) a.f_Reader_opened a.d_Reader_opened ["self", "token"] (spOpened a K P w d) ∧ FnOk P w K mg base (L2.CX P w) (5 + 6 * d) a.f_Reader_plain a.d_Reader_plain ["self"] (spPlain a K P w d) ∧
    FnOk P w K mg base (L2.CX P w) (9 + 6 * d) a.f_Reader_operation a.d_Reader_operation ["self", "rank"] (spOp a K P w d 0) := by
  have ops : ∀ d : Nat, FnOk P w K mg base (L2.CX P w) (5 + 6 * d) a.f_Reader_plain a.d_Reader_plain ["self"] (spPlain a K P w d) → FnOk P w K mg base (L2.CX P w) (9 + 6 * d) a.f_Reader_operation a.d_Reader_operation ["self", "rank"] (spOp a K P w d 0) := fun d h => by
    have h3 := ok_op3 T hp (lvl := 2 + 6 * d) (by rw [show 2 + 6 * d + 3 = 5 + 6 * d by omega]; exact h)
    have h2 := ok_opS T hp (r := 2) (by decide) (by omega) h3
    have h1 := ok_opS T hp (r := 1) (by decide) (by omega) h2
    have h0 := ok_opS T hp (r := 0) (by decide) (by omega) h1
    rw [show 9 + 6 * d = 2 + 6 * d + 4 + 1 + 1 + 1 by omega]
    exact h0
  intro d
  induction d with
  | zero =>
    have ho := ok_opened0 (P := P) (w := w) (base := base) T hp (lvl := 0)
    have hp' := ok_plain T hp ho
    exact ⟨ho, hp', ops 0 hp'⟩
  | succ d ih =>
    obtain ⟨_, hp1, h0⟩ := ih
    have ho := ok_opened T hp (d := d) (lvl := 2 + 6 * d) (by rw [show 2 + 6 * d + 7 = 9 + 6 * d by omega]; exact h0) (by rw [show 2 + 6 * d + 3 = 5 + 6 * d by omega]; exact hp1)
    rw [show 2 + 6 * d + 8 = 6 + 6 * d + 4 by omega] at ho
    have hp2 := ok_plain T hp ho
    rw [show 6 + 6 * d + 4 = 4 + 6 * (d + 1) by omega] at ho
    rw [show 6 + 6 * d + 5 = 5 + 6 * (d + 1) by omega] at hp2
    exact ⟨ho, hp2, ops (d + 1) hp2⟩

end

section
variable {P : Program} {w : World} {K : PySem.W.Frag} {mg : Str → Option Value} {base : Heap} {a : Ad}
def wsOf (cs : List Nat) : List Str := (lexF 0 ([], false) cs).1.map fun t => (⟨t.1.toArray⟩ : Str)
/-- where the tokens stand -/
def colsOf (cs : List Nat) : List Int := (lexF 0 ([], false) cs).1.map (fun t => (t.2 : Int)) ++ [(cs.length : Int) + 1]
def spReadF (a : Ad) (K : PySem.W.Frag) : Sp := fun vs H Q E => ∃ (cs : List Nat) (y : Except Nat Nat), vs = [sV cs] ∧ cs.length ≤ 80000 ∧
  (∀ (i c : Nat), cs[i]? = some c → okc c = false → (∀ c' ∈ cs.take i, okc c' = true) → ∀ (H' : Hp) (dx : Addr), H' dx = some (.xd [("column", .int ((i : Int) + 1))]) → E (.ref a.k_SyntaxFault) (some dx) H') ∧
  ((∀ c ∈ cs, okc c = true) → (∀ w ∈ wsOf cs, w ≠ "") ∧ (∀ t ∈ (lexF 0 ([], false) cs).1, t.2 ≤ cs.length) ∧ RdR (kdS ∘ fun i => (wsOf cs ++ [("" : Str)]).getD i "") (.op 0 0 0) y ∧
    (∀ k, y = .ok k → k = (wsOf cs).length → ∀ (H' : Hp) (p : Addr), Q (.ref p) H') ∧
    (∀ (j : Nat) (c : Int), (y = .error j ∨ y = .ok j ∧ j ≠ (wsOf cs).length) → (colsOf cs)[j]? = some c → ∀ (H' : Hp) (dx : Addr), H' dx = some (.xd [("column", .int c)]) → E (.ref a.k_SyntaxFault) (some dx) H'))
theorem ok_read_formula (T : Txt K mg a) (hp : P = a.pg) : FnOk P w K mg base (L2.CX P w) 82 a.f_read_formula a.d_read_formula ["text"] (spReadF a K) := by
  have G_tokens_of := ok_tokens_of (P := P) (w := w) (base := base) T hp
  have G_Reader_init := ok_Reader_init (P := P) (w := w) (base := base) T
  have G_Reader_take := ok_Reader_take (P := P) (w := w) (base := base) T hp
  have G_Reader_operation := (ok_parse (P := P) (w := w) (base := base) T hp 12).2.2
  refine T.F_read_formula.okX sc_read_formula (fun vs H Q E h => ?_) (fun cdv A outer s H vs Q E hr h => ?_)
  · obtain ⟨cs, y, rfl, _⟩ := h
    rfl
  · obtain ⟨cs, y, rfl, hlen, qb, qr⟩ := h
    refine ⟨_, (pss_cons (ps_set (i := 1) sc_read_formula.nd rfl (Or.inl rfl) (pe_make T.mk_Reader (G_Reader_init) (hr.mono (by first | decide | omega)) (by rfl) T.gk_Reader T.b_Reader_init .nil pass0 (pa_cons (pe_callS (G_tokens_of) (hr.mono (by first | decide | omega)) (by rfl) T.g_tokens_of T.F_tokens_of.kp T.b_tokens_of (fun σ => passAt (takes_of rfl rfl rfl rfl) σ) (pa_cons (pv 0) pa_nil)) pa_nil)))
      (pss_cons (ps_expr (pe_meth (pv 1) T.cl_Reader T.mt_Reader_operation (G_Reader_operation) (hr.mono (by first | decide | omega)) T.b_Reader_operation .nil (passX (takes_of rfl rfl rfl rfl)) (pa_cons pe_int pa_nil)))
      (pss_cons (ps_expr (pe_meth (pv 1) T.cl_Reader T.mt_Reader_take (G_Reader_take) (hr.mono (by first | decide | omega)) T.b_Reader_take .nil (passX (takes_of rfl rfl rfl rfl)) (pa_cons pe_str pa_nil)))
      (pss_one (ps_ret (pe_callTy (call_tupNum (P := P) (w := w) rfl rfl rfl) (by rfl) T.z_tuple (by decide +kernel) (pa_cons (pe_fldK (K := K) rfl (pv 1) rfl) pa_nil))))))), ?_⟩
    walk_at "rd"
    with_reducible refine r_make ?_
    walk_at "rd"
    refine r_callS ?_
    walk_at "rd"
    refine ⟨cs, rfl, by omega, fun hok H1 td toks s1 htd hL hTk hM => ?_, qb⟩
    obtain ⟨hne, hcl, hy, q, qe⟩ := qr hok
    walk_at "rd"
    intro x dx hx hdx hne2
    have x1 : ∀ b o, H1 b = some o → b ≠ x ∧ b ≠ dx := fun b o e => ⟨ne_of_none e hx, ne_of_none e hdx⟩
    have up : ∀ b o, H1 b = some o → upd (upd H1 dx (.own x)) x (.ins a.k_Reader dx []) b = some o := fun b o e => by
      rw [upd_ne (x1 b o e).1, upd_ne (x1 b o e).2]
      exact e
    have hws : wsK toks = wsOf cs ++ [("" : Str)] := by
      have := congrArg (fun l : List (Str × Int) => l.map (·.1)) hM
      rw [List.map_map, List.map_append, List.map_map] at this
      exact this
    have hcs : toks.map (fun t => t.2.2) = colsOf cs := by
      have := congrArg (fun l : List (Str × Int) => l.map (·.2)) hM
      rw [List.map_map, List.map_append, List.map_map] at this
      exact this
    have hll := (lex_len cs 0 ([], false) (fun _ z => nomatch z) (Nat.le_refl _)).2
    have hwl : (wsOf cs).length = (lexF 0 ([], false) cs).1.length := List.length_map _
    have htl : toks.length = (wsOf cs).length + 1 := by
      have := congrArg List.length hws
      unfold wsK at this
      rw [List.length_map, List.length_append] at this
      exact this
    have hC : TokC toks := by
      refine ⟨by omega, fun t ht => ?_, fun i t ht h0 => ?_⟩
      · have hm : t.2.2 ∈ colsOf cs := by rw [← hcs]; exact List.mem_map_of_mem ht
        unfold colsOf at hm
        rcases List.mem_append.mp hm with hm | hm
        · obtain ⟨t', ht', e⟩ := List.mem_map.mp hm
          have := hcl t' ht'
          omega
        · have := List.mem_singleton.mp hm
          omega
      · have hi := (List.getElem?_eq_some_iff.mp ht).1
        have e1 : (wsK toks)[i]? = some t.2.1 := by unfold wsK; rw [List.getElem?_map, ht]; rfl
        by_cases hlt : i < (wsOf cs).length
        · omega
        · have ei : i = (wsOf cs).length := by omega
          rw [hws, ei, List.getElem?_append_right (Nat.le_refl _), Nat.sub_self] at e1
          exact absurd (Option.some.inj e1).symm h0
    have ekd : kdK toks = kdS ∘ fun i => (wsOf cs ++ [("" : Str)]).getD i "" := by
      funext i
      unfold kdK
      rw [hws]
      rfl
    refine ⟨x, dx, td, toks, rfl, upd_same, up _ _ hL, fun t ht => SqT.of (up _ _ (hTk t ht)), fun H2 nd R2 f2 hnd => ⟨rfl, ?_⟩⟩
    have sf : ∀ j, (y = .error j ∨ y = .ok j ∧ j ≠ (wsOf cs).length) → SF a E toks j := fun j hj H' dx' t ht hd => by
      refine qe j t.2.2 hj ?_ H' dx' hd
      rw [← hcs, List.getElem?_map, ht]
      rfl
    walk_at "rd"
    refine r_meth ?_
    walk_at "rd"
    refine ⟨x, dx, _, rfl, R2.ob, rdF_operation _ _ _ _, ?_⟩
    walk_at "rd"
    refine ⟨x, rfl, dx, td, nd, toks, 0, 0, [], y, R2, hC, by omega, trivial, rfl, Nat.le_refl _, by rw [ekd]; exact hy, fun k n H3 zs e3 R3 hk3 hz3 => ?_, fun j e => sf j (.inl e)⟩
    walk_at "rd"
    refine r_meth ?_
    walk_at "rd"
    refine ⟨x, dx, _, rfl, R3.ob, rdF_take _ _ _ _, ?_⟩
    walk_at "rd"
    obtain ⟨t4, ht3⟩ : ∃ t, toks[k]? = some t := ⟨_, List.getElem?_eq_getElem hk3⟩
    have e4 : (wsK toks)[k]? = some t4.2.1 := by unfold wsK; rw [List.getElem?_map, ht3]; rfl
    refine ⟨x, dx, td, nd, toks, k, 0, zs, t4, "", rfl, R3, hC, ht3, fun he => ?_, fun he => sf k (.inr ⟨e3, fun z => he ?_⟩)⟩
    rotate_left
    · rw [hws, z, List.getElem?_append_right (Nat.le_refl _), Nat.sub_self] at e4
      exact (Option.some.inj e4).symm
    have R4 := R3.put (k + 1) 0
    generalize upd H3 x (.ins a.k_Reader dx (rdF td (k + 1) 0 nd)) = H4 at *
    walk_at "rd"
    refine r_fldS rfl R4.ob T.cl_Reader T.na_Reader_numbers (rdF_numbers _ _ _ _) ?_
    walk_at "rd"
    refine ⟨nd, zs, rfl, R4.nu, fun t ht => ?_⟩
    refine q k e3 ?_ _ t
    by_cases hlt : k < (wsOf cs).length
    · have e5 : (wsOf cs)[k]? = some (wsOf cs)[k] := List.getElem?_eq_getElem hlt
      rw [hws, List.getElem?_append_left hlt, e5] at e4
      exact absurd ((Option.some.inj e4).trans he) (hne _ (List.getElem_mem hlt))
    · omega

end

section
variable {P : Program} {w : World} {K : PySem.W.Frag} {mg : Str → Option Value} {base : Heap} {a : Ad}
theorem ok_l_cell (T : Txt K mg a) : FnOk P w K mg base CX0 1 a.f_l_cell a.d_l_cell ["script", "k"] (spCellG K) := by
  refine T.F_l_cell.ok sc_l_cell (fun vs H Q E h => ?_) (fun cdv A outer s H vs Q E hr h => ?_)
  · obtain ⟨l, ns, k, rfl, _⟩ := h
    rfl
  · obtain ⟨l, ns, k, rfl, hS, h0, q⟩ := h
    refine ⟨_, (pss_cons (ps_if (pt_cmpR op_lt (pv 1) (pe_callB (call_lenQK (K := K) rfl) (by rfl) T.z_len (by decide +kernel) (pa_cons (pv 0) pa_nil)) (nomark _)) (pss_one (ps_ret (pe_ix (ix_listK (K := K) rfl) (pv 0) (pv 1) (fun _ _ => rfl)))) pss_nil)
      (pss_one (ps_ret pe_int))), ?_⟩
    walk_at "rd"
    refine r_lenL hS ?_
    walk_at "rd"
    rw [List.length_map]
    refine r_iteD (fun hk => ?_) (fun hk => ?_)
    · walk_at "rd"
      have hk' : k.toNat < ns.length := by omega
      refine r_ixL hS (at_of (j := k.toNat) (by omega) (by rw [List.getElem?_map, List.getElem?_eq_getElem hk']; rfl)) ?_
      have e : cellV ns k = ns[k.toNat] := by unfold cellV; rw [List.getD_eq_getElem?_getD, List.getElem?_eq_getElem hk']; rfl
      rw [e] at q
      exact q
    · walk_at "rd"
      have e : cellV ns k = 0 := by unfold cellV; rw [List.getD_eq_getElem?_getD, List.getElem?_eq_none (by omega)]; rfl
      rw [e] at q
      exact q

theorem ok_l_numbers (T : Txt K mg a) : FnOk P w K mg base CX0 1 a.f_l_numbers a.d_l_numbers ["cell", "count"] (spNums K) := by
  refine T.F_l_numbers.ok sc_l_numbers (fun vs H Q E h => ?_) (fun cdv A outer s H vs Q E hr h => ?_)
  · obtain ⟨c, n, rfl, _⟩ := h
    rfl
  · obtain ⟨c, n, rfl, hn, q⟩ := h
    refine ⟨_, (pss_cons (ps_set (i := 2) sc_l_numbers.nd rfl (Or.inl rfl) (pe_lst pa_nil))
      (pss_cons (ps_if (pt_cmpR op_ge (pv 0) (pe_op op_pow pe_int pe_int) (nomark _)) (pss_cons (ps_for PassesOwn.never rfl (pi_range1 (by rfl) T.z_range (pa_cons (pv 1) pa_nil)) (pg_name (i := 3) sc_l_numbers.nd rfl (Or.inl rfl)) (pss_cons (ps_expr (bmK (K := K) rfl (pe_bm PySem.F.plainAttrs_list PySem.F.slot_list_append PySem.F.type_list_append mt_append (pv 2) (pa_cons (pe_op op_mod (pe_callTy call_int1' (by rfl) T.z_int (by decide +kernel) (pa_cons (pv 0) pa_nil)) pe_int) pa_nil))))
      (pss_one (ps_set (i := 0) sc_l_numbers.nd rfl (Or.inl rfl) (pe_op op_fdiv (pv 0) pe_int)))))
      (pss_one (ps_ret (pv 2)))) pss_nil)
      (pss_cons (ps_set (i := 4) sc_l_numbers.nd rfl (Or.inl rfl) (pe_op op_mod (pe_callTy call_int1' (by rfl) T.z_int (by decide +kernel) (pa_cons (pv 0) pa_nil)) pe_int))
      (pss_cons (ps_for PassesOwn.never rfl (pi_range1 (by rfl) T.z_range (pa_cons (pv 1) pa_nil)) (pg_name (i := 3) sc_l_numbers.nd rfl (Or.inl rfl)) (pss_cons (ps_set (i := 4) sc_l_numbers.nd rfl (Or.inl rfl) (pe_op op_mod (pe_callTy call_int1' (by rfl) T.z_int (by decide +kernel) (pa_cons (pe_op op_add (pe_op op_mul (pv 4) pe_int) (pe_op op_mul pe_int (pe_op op_add (pv 3) pe_int))) pa_nil)) pe_int))
      (pss_one (ps_expr (bmK (K := K) rfl (pe_bm PySem.F.plainAttrs_list PySem.F.slot_list_append PySem.F.type_list_append mt_append (pv 2) (pa_cons (pe_op op_mod (pe_op op_fdiv (pv 4) pe_int) pe_int) pa_nil)))))))
      (pss_one (ps_ret (pv 2))))))), ?_⟩
    have zl : (sizeLine : Nat) = 16777216 := by decide
    walk_at "rd"
    refine ⟨by decide, fun p hp => ?_⟩
    walk_at "rd"
    refine r_iteD (fun _ => ?_) (fun _ => ?_)
    · walk_at "rd"
      refine r_rng1' (by omega) (by omega) ?_
      rw [Int.toNat_natCast]
      refine for_range (lo := 0) (n := n) (fun i σ H' => ∃ c' ns y3, σ = [some (.int c'), some (.int (n : Int)), some (.ref p), y3, none] ∧ Same H H' ∧ H' p = some (.lst (ns.map V.int)) ∧ ns.length = i ∧ ∀ z ∈ ns, 0 ≤ z ∧ z < 1000)
        ⟨c, [], none, rfl, same_new hp, upd_same, rfl, fun z hz => nomatch hz⟩ (fun i σ H' hi hP => ?_) (fun σ H' hP => ?_)
      · obtain ⟨c', ns, y3, rfl, sm, hN, hl, hz⟩ := hP
        walk_at "rd"
        refine ⟨ty_l (SqL.of hN), ?_⟩
        walk_at "rd"
        refine r_append hN (by rw [List.length_map]; omega) ?_
        walk_at "rd"
        refine ⟨_, ns ++ [c' % 1000], _, rfl, same_mut sm hp, by rw [upd_same, List.map_append]; rfl, by rw [List.length_append, hl]; rfl, fun z h => ?_⟩
        rcases List.mem_append.mp h with h | h
        · exact hz z h
        · rw [List.mem_singleton.mp h]; exact emod_rng _ (by decide)
      · obtain ⟨c', ns, y3, rfl, sm, hN, hl, hz⟩ := hP
        walk_at "rd"
        exact q H' p ns sm hp hN hl hz
    · walk_at "rd"
      refine r_rng1' (by omega) (by omega) ?_
      rw [Int.toNat_natCast]
      refine for_range (lo := 0) (n := n) (fun i σ H' => ∃ m ns y3, σ = [some (.int c), some (.int (n : Int)), some (.ref p), y3, some (.int m)] ∧ Same H H' ∧ H' p = some (.lst (ns.map V.int)) ∧ ns.length = i ∧ ∀ z ∈ ns, 0 ≤ z ∧ z < 1000)
        ⟨_, [], none, rfl, same_new hp, upd_same, rfl, fun z hz => nomatch hz⟩ (fun i σ H' hi hP => ?_) (fun σ H' hP => ?_)
      · obtain ⟨m, ns, y3, rfl, sm, hN, hl, hz⟩ := hP
        walk_at "rd"
        refine ⟨ty_l (SqL.of hN), ?_⟩
        walk_at "rd"
        refine r_append hN (by rw [List.length_map]; omega) ?_
        refine ⟨_, ns ++ [_ / 7 % 1000], _, rfl, same_mut sm hp, by rw [upd_same, List.map_append]; rfl, by rw [List.length_append, hl]; rfl, fun z h => ?_⟩
        rcases List.mem_append.mp h with h | h
        · exact hz z h
        · rw [List.mem_singleton.mp h]; exact emod_rng _ (by decide)
      · obtain ⟨m, ns, y3, rfl, sm, hN, hl, hz⟩ := hP
        walk_at "rd"
        exact q H' p ns sm hp hN hl hz

end

section
variable {P : Program} {w : World} {K : PySem.W.Frag} {mg : Str → Option Value} {base : Heap} {a : Ad}
/-! ### drawn formulas: (tree, tokens, rank, levels) -/
def TreeA (H : Hp) : Addr → Ex → Prop
  | b, .atom v => H b = some (.tup [.str v])
  | b, .un u e => ∃ c, H b = some (.tup [.str u, .ref c]) ∧ TreeA H c e
  | b, .bin o l r => ∃ c d, H b = some (.tup [.str o, .ref c, .ref d]) ∧ TreeA H c l ∧ TreeA H d r
theorem TreeA.k {H H' : Hp} (s : Same H H') : ∀ (e : Ex) {b : Addr}, TreeA H b e → TreeA H' b e
  | .atom _, _, h => s _ _ h
  | .un _ e, _, ⟨c, h1, h2⟩ => ⟨c, s _ _ h1, TreeA.k s e h2⟩
  | .bin _ l r, _, ⟨c, d, h1, h2, h3⟩ => ⟨c, d, s _ _ h1, TreeA.k s l h2, TreeA.k s r h3⟩
structure Ent where
  e : Ex
  ts : List Str
  r : Nat
  d : Nat
def EntA (H : Hp) (b : Addr) (E : Ent) : Prop := ∃ t l, H b = some (.tup [.ref t, .ref l, .int (E.r : Int), .int (E.d : Int)]) ∧ TreeA H t E.e ∧ H l = some (.lst (E.ts.map V.str))
theorem EntA.k {H H' : Hp} {b : Addr} {E : Ent} (h : EntA H b E) (s : Same H H') : EntA H' b E := by
  obtain ⟨t, l, h1, h2, h3⟩ := h
  exact ⟨t, l, s _ _ h1, h2.k s _, s _ _ h3⟩
def ht : Ex → Nat
  | .atom _ => 0
  | .un _ e => ht e + 1
  | .bin _ l r => max (ht l) (ht r) + 1
def EntOk (E : Ent) : Prop := Spells E.r E.e E.ts E.d ∧ sz E.e ≤ E.ts.length
theorem strs_app (a b : List Str) : (a ++ b).map V.str = a.map V.str ++ b.map V.str := List.map_append
def spWrap : Sp := fun vs H Q _ => ∃ (b : Addr) (E : Ent) (rk : Nat) (nd : Bool), vs = [.ref b, .int (rk : Int), .bl nd] ∧ EntA H b E ∧ EntOk E ∧ E.ts.length ≤ 10000 ∧ rk ≤ 3 ∧
  ∀ (H' : Hp) (b' : Addr) (E' : Ent), Same H H' → EntA H' b' E' → EntOk E' → E'.e = E.e → rk ≤ E'.r → E'.d ≤ E.d + 1 → (nd = false → rk ≤ E.r → E'.d = E.d) → E'.ts.length ≤ E.ts.length + 2 → Q (.ref b') H'
theorem ok_l_wrapped (T : Txt K mg a) : FnOk P w K mg base CX0 1 a.f_l_wrapped a.d_l_wrapped ["entry", "rank", "needless"] spWrap := by
  refine T.F_l_wrapped.ok sc_l_wrapped (fun vs H Q E h => ?_) (fun cdv A outer s H vs Q E hr h => ?_)
  · obtain ⟨b, En, rk, nd, rfl, _⟩ := h
    rfl
  · obtain ⟨b, En, rk, nd, rfl, ⟨t, l, hb, hT, hL⟩, hE, hlen, hrk, q⟩ := h
    have zl : (sizeLine : Nat) = 16777216 := by decide
    refine ⟨_, (pss_cons (ps_if (PW.pt (pw_or (pt_cmpR op_lt (pe_ix (ix_tupK (K := K) rfl) (pv 0) pe_int (fun _ _ => rfl)) (pv 1) (nomark _)) (pw_or1 (pt_val (pv 2))))) (pss_one (ps_ret (pe_tup (pa_cons (pe_ix (ix_tupK (K := K) rfl) (pv 0) pe_int (fun _ _ => rfl)) (pa_cons (pe_op op_cat (pe_op op_cat (pe_lst (pa_cons pe_str pa_nil)) (pe_ix (ix_tupK (K := K) rfl) (pv 0) pe_int (fun _ _ => rfl))) (pe_lst (pa_cons pe_str pa_nil))) (pa_cons pe_int (pa_cons (pe_op op_add (pe_ix (ix_tupK (K := K) rfl) (pv 0) pe_int (fun _ _ => rfl)) pe_int) pa_nil))))))) pss_nil)
      (pss_one (ps_ret (pv 0)))), ?_⟩
    have q0 : (nd = false) → rk ≤ En.r → Q (.ref b) H := fun h1 h2 => q H b En (fun _ _ z => z) ⟨t, l, hb, hT, hL⟩ hE rfl h2 (Nat.le_succ _) (fun _ _ => rfl) (by omega)
    have q1 : ∀ (H' : Hp) (b' l' : Addr), Same H H' → H' b' = some (.tup [.ref t, .ref l', .int 3, .int ((En.d : Int) + 1)]) → H' l' = some (.lst ((("(" : Str) :: (En.ts ++ [(")" : Str)])).map V.str)) → ¬ (nd = false ∧ rk ≤ En.r) → Q (.ref b') H' := fun H' b' l' s h1 h2 h3 => by
      have hsp : Spells 0 En.e En.ts En.d := by
        have := hE.1.rank
        have go : ∀ r, r ≤ 3 → Spells r En.e En.ts En.d → Spells 0 En.e En.ts En.d := by
          intro r
          induction r with
          | zero => exact fun _ h => h
          | succ r ih => exact fun hr h => ih (by omega) (.up (by omega) h)
        exact go _ this hE.1
      refine q H' b' ⟨En.e, ("(" : Str) :: (En.ts ++ [(")" : Str)]), 3, En.d + 1⟩ s ⟨t, l', ?_, hT.k s _, h2⟩ ⟨.par hsp, ?_⟩ rfl hrk (Nat.le_refl _) (fun g1 g2 => absurd ⟨g1, g2⟩ h3) ?_
      · rw [h1]
        rfl
      · have := hE.2
        show sz En.e ≤ (("(" : Str) :: (En.ts ++ [(")" : Str)])).length
        rw [List.length_cons, List.length_append]
        omega
      · show (("(" : Str) :: (En.ts ++ [(")" : Str)])).length ≤ En.ts.length + 2
        rw [List.length_cons, List.length_append, List.length_singleton]
        omega
    have body : ¬ (nd = false ∧ rk ≤ En.r) → tRet (tTup (tCons (tOp (rIxT K) (tVar 0) (tC (V.int 0))) (tCons (tOp rCat (tOp rCat (tLst (tCons (tC (V.str (Str.ofString "("))) tNil)) (tOp (rIxT K) (tVar 0) (tC (V.int 1)))) (tLst (tCons (tC (V.str (Str.ofString ")"))) tNil))) (tCons (tC (V.int 3)) (tCons (tOp (rI0 fun i j => V.int (i + j)) (tOp (rIxT K) (tVar 0) (tC (V.int 3))) (tC (V.int 1))) tNil)))))
        { nx := fun x H' => Q V.non H', rt := Q } [some (V.ref b), some (V.int (rk : Int)), some (V.bl nd)] H := fun hn => by
      walk_at "rd"
      refine r_ixT (SqT.of hb) (at_of (j := 0) rfl rfl) ?_
      walk_at "rd"
      refine ⟨by show 1 ≤ sizeLine; decide, fun p1 hp1 => ?_⟩
      have s1 := same_new (o := .lst [.str "("]) hp1
      have h1 : (upd H p1 (.lst [.str "("])) p1 = some (.lst [.str "("]) := upd_same
      generalize upd H p1 (.lst [.str "("]) = H1 at *
      walk_at "rd"
      refine r_ixT (SqT.of (s1 _ _ hb)) (at_of (j := 1) rfl rfl) ?_
      walk_at "rd"
      refine r_cat h1 (s1 _ _ hL) (by rw [List.length_map]; show 1 + En.ts.length ≤ sizeLine; omega) (fun p2 hp2 => ?_)
      have s2 := s1.trans (same_new (o := .lst ([.str "("] ++ En.ts.map V.str)) hp2)
      have h2 : (upd H1 p2 (.lst ([.str "("] ++ En.ts.map V.str))) p2 = some (.lst ([.str "("] ++ En.ts.map V.str)) := upd_same
      generalize upd H1 p2 (.lst ([.str "("] ++ En.ts.map V.str)) = H2 at *
      walk_at "rd"
      refine ⟨by show 1 ≤ sizeLine; decide, fun p3 hp3 => ?_⟩
      have s3 := same_new (o := .lst [.str ")"]) hp3
      have h3 : (upd H2 p3 (.lst [.str ")"])) p3 = some (.lst [.str ")"]) := upd_same
      generalize upd H2 p3 (.lst [.str ")"]) = H3 at *
      walk_at "rd"
      refine r_cat (s3 _ _ h2) h3 (by rw [List.length_append, List.length_map]; show 1 + En.ts.length + 1 ≤ sizeLine; omega) (fun p4 hp4 => ?_)
      have s4 := (s2.trans s3).trans (same_new (o := .lst (([.str "("] ++ En.ts.map V.str) ++ [.str ")"])) hp4)
      have h4 : (upd H3 p4 (.lst (([.str "("] ++ En.ts.map V.str) ++ [.str ")"]))) p4 = some (.lst ((("(" : Str) :: (En.ts ++ [(")" : Str)])).map V.str)) := by
        rw [upd_same, List.map_cons, List.map_append]
        rfl
      generalize upd H3 p4 (.lst (([.str "("] ++ En.ts.map V.str) ++ [.str ")"])) = H4 at *
      walk_at "rd"
      refine r_ixT (SqT.of (s4 _ _ hb)) (at_of (j := 3) rfl rfl) ?_
      walk_at "rd"
      refine ⟨by show 4 ≤ sizeLine; decide, fun p5 hp5 => ?_⟩
      exact q1 _ p5 p4 (s4.trans (same_new hp5)) upd_same (same_new hp5 _ _ h4) hn
    walk_at "rd"
    refine r_ixT (SqT.of hb) (at_of (j := 2) rfl rfl) ?_
    walk_at "rd"
    refine r_iteD (fun h => ?_) (fun h => ?_)
    · walk_at "rd1"
      exact body (fun z => by omega)
    · cases nd with
      | true =>
        refine ⟨_, rfl, _, rfl, ?_⟩
        refine iteT ?_
        exact body (fun z => nomatch z.1)
      | false =>
        refine ⟨_, rfl, _, rfl, ?_⟩
        refine iteF ?_
        walk_at "rd"
        exact q0 rfl (by omega)

end

section
variable {P : Program} {w : World} {K : PySem.W.Frag} {mg : Str → Option Value} {base : Heap} {a : Ad}
def spUn : Sp := fun vs H Q _ => ∃ (b : Addr) (E : Ent) (u : Str) (n : Int), vs = [.ref b, .str u, .int n] ∧ EntA H b E ∧ EntOk E ∧ E.ts.length ≤ 9000 ∧ (u = "not" ∨ u = "before") ∧
  ∀ (H' : Hp) (b' : Addr) (E' : Ent), Same H H' → EntA H' b' E' → EntOk E' → E'.e = .un u E.e → E'.d ≤ E.d + 2 → E'.ts.length ≤ E.ts.length + 3 → Q (.ref b') H'
theorem ok_l_unary (T : Txt K mg a) : FnOk P w K mg base CX0 2 a.f_l_unary a.d_l_unary ["entry", "word", "number"] spUn := by
  have G_l_wrapped := ok_l_wrapped (P := P) (w := w) (base := base) T
  refine T.F_l_unary.ok sc_l_unary (fun vs H Q E h => ?_) (fun cdv A outer s H vs Q E hr h => ?_)
  · obtain ⟨b, En, u, n, rfl, _⟩ := h
    rfl
  · obtain ⟨b, En, u, n, rfl, hA, hE, hlen, hu, q⟩ := h
    have zl : (sizeLine : Nat) = 16777216 := by decide
    refine ⟨_, (pss_cons (ps_set (i := 3) sc_l_unary.nd rfl (Or.inl rfl) (pe_call (G_l_wrapped) (hr.mono (by first | decide | omega)) (by rfl) T.g_l_wrapped T.F_l_wrapped.kp T.b_l_wrapped .nil pass0 (pa_cons (pv 0) (pa_cons pe_int (pa_cons (pe_cmpR op_eq (pe_op op_mod (pv 2) pe_int) pe_int (nomark _)) pa_nil)))))
      (pss_one (ps_ret (pe_tup (pa_cons (pe_tup (pa_cons (pv 1) (pa_cons (pe_ix (ix_tupK (K := K) rfl) (pv 3) pe_int (fun _ _ => rfl)) pa_nil))) (pa_cons (pe_op op_cat (pe_lst (pa_cons (pv 1) pa_nil)) (pe_ix (ix_tupK (K := K) rfl) (pv 3) pe_int (fun _ _ => rfl))) (pa_cons pe_int (pa_cons (pe_op op_add (pe_ix (ix_tupK (K := K) rfl) (pv 3) pe_int (fun _ _ => rfl)) pe_int) pa_nil)))))))), ?_⟩
    walk_at "rd"
    refine ⟨b, En, 3, _, rfl, hA, hE, by omega, Nat.le_refl _, fun H1 b1 E1 s1 hA1 hE1 e1 r1 d1 _ l1 => ?_⟩
    obtain ⟨t1, l1', hb1, hT1, hL1⟩ := hA1
    walk_at "rd"
    refine r_ixT (SqT.of hb1) (at_of (j := 0) rfl rfl) ?_
    walk_at "rd"
    refine ⟨by show 2 ≤ sizeLine; decide, fun p1 hp1 => ?_⟩
    have s2 := s1.trans (same_new (o := .tup [.str u, .ref t1]) hp1)
    have hT2 : TreeA (upd H1 p1 (.tup [.str u, .ref t1])) p1 (.un u E1.e) := ⟨t1, upd_same, hT1.k (same_new hp1) _⟩
    have hb2 := same_new (o := .tup [.str u, .ref t1]) hp1 _ _ hb1
    have hL2 := same_new (o := .tup [.str u, .ref t1]) hp1 _ _ hL1
    generalize upd H1 p1 (.tup [.str u, .ref t1]) = H2 at *
    walk_at "rd"
    refine ⟨by show 1 ≤ sizeLine; decide, fun p2 hp2 => ?_⟩
    have s3 := same_new (o := .lst [.str u]) hp2
    have h3 : (upd H2 p2 (.lst [.str u])) p2 = some (.lst [.str u]) := upd_same
    generalize upd H2 p2 (.lst [.str u]) = H3 at *
    walk_at "rd"
    refine r_ixT (SqT.of (s3 _ _ hb2)) (at_of (j := 1) rfl rfl) ?_
    walk_at "rd"
    refine r_cat h3 (s3 _ _ hL2) (by rw [List.length_map]; show 1 + E1.ts.length ≤ sizeLine; omega) (fun p4 hp4 => ?_)
    have s4 := s3.trans (same_new (o := .lst ([.str u] ++ E1.ts.map V.str)) hp4)
    have h4 : (upd H3 p4 (.lst ([.str u] ++ E1.ts.map V.str))) p4 = some (.lst ((u :: E1.ts).map V.str)) := upd_same
    generalize upd H3 p4 (.lst ([.str u] ++ E1.ts.map V.str)) = H4 at *
    walk_at "rd"
    refine r_ixT (SqT.of (s4 _ _ hb2)) (at_of (j := 3) rfl rfl) ?_
    walk_at "rd"
    refine ⟨by show 4 ≤ sizeLine; decide, fun p5 hp5 => ?_⟩
    have r3 : E1.r = 3 := by have := hE1.1.rank; omega
    have hsp := hE1.1
    rw [r3] at hsp
    refine q _ p5 ⟨.un u E1.e, u :: E1.ts, 3, E1.d + 1⟩ ((s2.trans s4).trans (same_new hp5)) ⟨p1, p4, ?_, (hT2.k s4 _).k (same_new hp5) _, same_new hp5 _ _ h4⟩ ⟨.un hu hsp, ?_⟩ (by rw [e1]) (by show E1.d + 1 ≤ En.d + 2; omega) (by rw [List.length_cons]; omega)
    · rw [upd_same]
      rfl
    · have := hE1.2
      show sz E1.e + 1 ≤ (u :: E1.ts).length
      rw [List.length_cons]
      omega
def spBin : Sp := fun vs H Q _ => ∃ (b1 b2 pn : Addr) (E1 E2 : Ent) (wh : Nat) (ns : List Int), vs = [.ref b1, .ref b2, .int (wh : Int), .ref pn] ∧ EntA H b1 E1 ∧ EntOk E1 ∧ EntA H b2 E2 ∧ EntOk E2 ∧ E1.ts.length + E2.ts.length ≤ 9000 ∧ wh < 3 ∧ H pn = some (.lst (ns.map V.int)) ∧ 2 ≤ ns.length ∧
  ∀ (H' : Hp) (b' : Addr) (E' : Ent), Same H H' → EntA H' b' E' → EntOk E' → E'.e = .bin (bw (2 - wh)) E1.e E2.e → E'.r = 2 - wh → E'.d ≤ max E1.d E2.d + 1 → (wh = 2 → ns.getD 0 0 % 6 ≠ 0 → E'.d ≤ max E1.d (E2.d + 1)) → E'.ts.length ≤ E1.ts.length + E2.ts.length + 5 → Q (.ref b') H'
theorem sw_at {wh : Nat} (h : wh < 3) : atI [V.str "since", V.str "and", V.str "or"] (wh : Int) = some (.str (bw (2 - wh))) ∧ atI [V.int 2, V.int 1, V.int 0] (wh : Int) = some (.int ((2 - wh : Nat) : Int)) := by
  have h : wh = 0 ∨ wh = 1 ∨ wh = 2 := by omega
  rcases h with rfl | rfl | rfl <;> exact ⟨rfl, rfl⟩
theorem ok_l_binary (T : Txt K mg a) : FnOk P w K mg base CX0 2 a.f_l_binary a.d_l_binary ["left", "right", "which", "numbers"] spBin := by
  have G_l_wrapped := ok_l_wrapped (P := P) (w := w) (base := base) T
  refine T.F_l_binary.ok sc_l_binary (fun vs H Q E h => ?_) (fun cdv A outer s H vs Q E hr h => ?_)
  · obtain ⟨b1, b2, pn, E1, E2, wh, ns, rfl, _⟩ := h
    rfl
  · obtain ⟨b1, b2, pn, E1, E2, wh, ns, rfl, hA1, hE1, hA2, hE2, hlen, hwh, hN, hn2, q⟩ := h
    have zl : (sizeLine : Nat) = 16777216 := by decide
    refine ⟨_, (pss_cons (ps_set (i := 4) sc_l_binary.nd rfl (Or.inl rfl) (pe_ix (ix_listK (K := K) rfl) (pe_lst (pa_cons pe_str (pa_cons pe_str (pa_cons pe_str pa_nil)))) (pv 2) (fun _ _ => rfl)))
      (pss_cons (ps_set (i := 5) sc_l_binary.nd rfl (Or.inl rfl) (pe_ix (ix_listK (K := K) rfl) (pe_lst (pa_cons pe_int (pa_cons pe_int (pa_cons pe_int pa_nil)))) (pv 2) (fun _ _ => rfl)))
      (pss_cons (ps_set (i := 6) sc_l_binary.nd rfl (Or.inl rfl) (pe_call (G_l_wrapped) (hr.mono (by first | decide | omega)) (by rfl) T.g_l_wrapped T.F_l_wrapped.kp T.b_l_wrapped .nil pass0 (pa_cons (pv 0) (pa_cons (pv 5) (pa_cons (pe_cmpR op_eq (pe_op op_mod (pe_ix (ix_listK (K := K) rfl) (pv 3) pe_int (fun _ _ => rfl)) pe_int) pe_int (nomark _)) pa_nil)))))
      (pss_cons (ps_set (i := 7) sc_l_binary.nd rfl (Or.inl rfl) (pe_call (G_l_wrapped) (hr.mono (by first | decide | omega)) (by rfl) T.g_l_wrapped T.F_l_wrapped.kp T.b_l_wrapped .nil pass0 (pa_cons (pv 1) (pa_cons (pe_op op_add (pv 5) pe_int) (pa_cons (pe_cmpR op_eq (pe_op op_mod (pe_ix (ix_listK (K := K) rfl) (pv 3) pe_int (fun _ _ => rfl)) pe_int) pe_int (nomark _)) pa_nil)))))
      (pss_one (ps_ret (pe_tup (pa_cons (pe_tup (pa_cons (pv 4) (pa_cons (pe_ix (ix_tupK (K := K) rfl) (pv 6) pe_int (fun _ _ => rfl)) (pa_cons (pe_ix (ix_tupK (K := K) rfl) (pv 7) pe_int (fun _ _ => rfl)) pa_nil)))) (pa_cons (pe_op op_cat (pe_op op_cat (pe_ix (ix_tupK (K := K) rfl) (pv 6) pe_int (fun _ _ => rfl)) (pe_lst (pa_cons (pv 4) pa_nil))) (pe_ix (ix_tupK (K := K) rfl) (pv 7) pe_int (fun _ _ => rfl))) (pa_cons (pv 5) (pa_cons (pe_callB (call_max2 rfl) (by rfl) T.z_max (by decide +kernel) (pa_cons (pe_ix (ix_tupK (K := K) rfl) (pv 6) pe_int (fun _ _ => rfl)) (pa_cons (pe_ix (ix_tupK (K := K) rfl) (pv 7) pe_int (fun _ _ => rfl)) pa_nil))) pa_nil))))))))))), ?_⟩
    walk_at "rd"
    refine ⟨by show 3 ≤ sizeLine; decide, fun p1 hp1 => ?_⟩
    walk_at "rd"
    refine r_ixL (SqL.of upd_same) (sw_at hwh).1 ?_
    have s1 := same_new (o := .lst [.str "since", .str "and", .str "or"]) hp1
    generalize upd H p1 (.lst [.str "since", .str "and", .str "or"]) = H1 at *
    walk_at "rd"
    refine ⟨by show 3 ≤ sizeLine; decide, fun p2 hp2 => ?_⟩
    walk_at "rd"
    refine r_ixL (SqL.of upd_same) (sw_at hwh).2 ?_
    have s2 := s1.trans (same_new (o := .lst [.int 2, .int 1, .int 0]) hp2)
    generalize upd H1 p2 (.lst [.int 2, .int 1, .int 0]) = H2 at *
    clear hp1 s1 hp2
    walk_at "rd"
    refine r_ixL (SqL.of (s2 _ _ hN)) (at_int (by decide) (by omega)) ?_
    walk_at "rd"
    refine ⟨b1, E1, 2 - wh, _, rfl, hA1.k s2, hE1, by omega, by omega, fun H3 c1 F1 s3 hB1 hF1 e1 r1 d1 k1 l1 => ?_⟩
    have s3' := s2.trans s3
    walk_at "rd"
    refine r_ixL (SqL.of (s3' _ _ hN)) (at_int (by decide) (by omega)) ?_
    walk_at "rd"
    refine ⟨b2, E2, 2 - wh + 1, _, by rw [show ((2 - wh : Nat) : Int) + 1 = ((2 - wh + 1 : Nat) : Int) by omega]; rfl, hA2.k s3', hE2, by omega, by omega, fun H4 c2 F2 s4 hB2 hF2 e2 r2 d2 _ l2 => ?_⟩
    obtain ⟨t1, m1, hb1, hT1, hL1⟩ := hB1.k s4
    obtain ⟨t2, m2, hb2, hT2, hL2⟩ := hB2
    have s4' := s3'.trans s4
    walk_at "rd"
    refine r_ixT (SqT.of hb1) (at_of (j := 0) rfl rfl) ?_
    walk_at "rd"
    refine r_ixT (SqT.of hb2) (at_of (j := 0) rfl rfl) ?_
    walk_at "rd"
    refine ⟨by show 3 ≤ sizeLine; decide, fun p3 hp3 => ?_⟩
    have s5 := same_new (o := .tup [.str (bw (2 - wh)), .ref t1, .ref t2]) hp3
    have hT5 : TreeA (upd H4 p3 (.tup [.str (bw (2 - wh)), .ref t1, .ref t2])) p3 (.bin (bw (2 - wh)) F1.e F2.e) := ⟨t1, t2, upd_same, hT1.k s5 _, hT2.k s5 _⟩
    generalize upd H4 p3 (.tup [.str (bw (2 - wh)), .ref t1, .ref t2]) = H5 at *
    walk_at "rd"
    refine r_ixT (SqT.of (s5 _ _ hb1)) (at_of (j := 1) rfl rfl) ?_
    walk_at "rd"
    refine ⟨by show 1 ≤ sizeLine; decide, fun p4 hp4 => ?_⟩
    have s6 := s5.trans (same_new (o := .lst [.str (bw (2 - wh))]) hp4)
    have hT6 := hT5.k (same_new (o := .lst [.str (bw (2 - wh))]) hp4) _
    have h6 : (upd H5 p4 (.lst [.str (bw (2 - wh))])) p4 = some (.lst [.str (bw (2 - wh))]) := upd_same
    generalize upd H5 p4 (.lst [.str (bw (2 - wh))]) = H6 at *
    clear hT5 hp4 hp3
    walk_at "rd"
    refine r_cat (s6 _ _ hL1) h6 (by rw [List.length_map]; show F1.ts.length + 1 ≤ sizeLine; omega) (fun p5 hp5 => ?_)
    have s7 := s6.trans (same_new (o := .lst (F1.ts.map V.str ++ [.str (bw (2 - wh))])) hp5)
    have hT7 := hT6.k (same_new (o := .lst (F1.ts.map V.str ++ [.str (bw (2 - wh))])) hp5) _
    have h7 : (upd H6 p5 (.lst (F1.ts.map V.str ++ [.str (bw (2 - wh))]))) p5 = some (.lst (F1.ts.map V.str ++ [.str (bw (2 - wh))])) := upd_same
    generalize upd H6 p5 (.lst (F1.ts.map V.str ++ [.str (bw (2 - wh))])) = H7 at *
    clear hT6 hp5 h6
    walk_at "rd"
    refine r_ixT (SqT.of (s7 _ _ hb2)) (at_of (j := 1) rfl rfl) ?_
    walk_at "rd"
    refine r_cat h7 (s7 _ _ hL2) (by rw [List.length_append, List.length_map, List.length_map]; show F1.ts.length + 1 + F2.ts.length ≤ sizeLine; omega) (fun p8 hp8 => ?_)
    have s8 := s7.trans (same_new (o := .lst (F1.ts.map V.str ++ [.str (bw (2 - wh))] ++ F2.ts.map V.str)) hp8)
    have hT8 := hT7.k (same_new (o := .lst (F1.ts.map V.str ++ [.str (bw (2 - wh))] ++ F2.ts.map V.str)) hp8) _
    have h8 : (upd H7 p8 (.lst (F1.ts.map V.str ++ [.str (bw (2 - wh))] ++ F2.ts.map V.str))) p8 = some (.lst ((F1.ts ++ bw (2 - wh) :: F2.ts).map V.str)) := by
      rw [upd_same, List.map_append, List.map_cons, List.append_assoc]
      rfl
    generalize upd H7 p8 (.lst (F1.ts.map V.str ++ [.str (bw (2 - wh))] ++ F2.ts.map V.str)) = H8 at *
    clear hT7 hp8 h7
    walk_at "rd"
    refine r_ixT (SqT.of (s8 _ _ hb1)) (at_of (j := 3) rfl rfl) ?_
    walk_at "rd"
    refine r_ixT (SqT.of (s8 _ _ hb2)) (at_of (j := 3) rfl rfl) ?_
    walk_at "rd"
    refine ⟨(F1.d : Int), (F2.d : Int), rfl, ?_⟩
    refine ⟨by show 4 ≤ sizeLine; decide, fun p9 hp9 => ?_⟩
    have sp1 : Spells (2 - wh) F1.e F1.ts (max F1.d F2.d) := by
      have go : ∀ r, r ≤ 3 → 2 - wh ≤ r → Spells r F1.e F1.ts F1.d → Spells (2 - wh) F1.e F1.ts F1.d := by
        intro r
        induction r with
        | zero => exact fun _ h1 h => by rw [show 2 - wh = 0 by omega]; exact h
        | succ r ih =>
          intro hr h1 h
          by_cases e : 2 - wh = r + 1
          · rw [e]; exact h
          · exact ih (by omega) (by omega) (.up (by omega) h)
      exact (go _ hF1.1.rank r1 hF1.1).weak (Nat.le_max_left _ _)
    have sp2 : Spells (2 - wh + 1) F2.e F2.ts (max F1.d F2.d) := by
      have go : ∀ r, r ≤ 3 → 2 - wh + 1 ≤ r → Spells r F2.e F2.ts F2.d → Spells (2 - wh + 1) F2.e F2.ts F2.d := by
        intro r
        induction r with
        | zero => exact fun _ h1 h => absurd h1 (by omega)
        | succ r ih =>
          intro hr h1 h
          by_cases e : 2 - wh + 1 = r + 1
          · rw [e]; exact h
          · exact ih (by omega) (by omega) (.up (by omega) h)
      exact (go _ hF2.1.rank r2 hF2.1).weak (Nat.le_max_right _ _)
    refine q _ p9 ⟨.bin (bw (2 - wh)) F1.e F2.e, F1.ts ++ bw (2 - wh) :: F2.ts, 2 - wh, max F1.d F2.d⟩ ((s4'.trans s8).trans (same_new hp9)) ⟨p3, p8, ?_, hT8.k (same_new hp9) _, same_new hp9 _ _ h8⟩ ⟨Spells.bin (show 2 - wh < 3 by omega) sp1 sp2, ?_⟩ (by rw [e1, e2]) rfl ?_ ?_ ?_
    · rw [upd_same]
      show some (HO.tup [V.ref p3, V.ref p8, V.int ((2 - wh : Nat) : Int), V.int (if (F2.d : Int) > (F1.d : Int) then (F2.d : Int) else (F1.d : Int))]) = some (HO.tup [V.ref p3, V.ref p8, V.int ((2 - wh : Nat) : Int), V.int ((max F1.d F2.d : Nat) : Int)])
      have em : ((max F1.d F2.d : Nat) : Int) = if (F2.d : Int) > (F1.d : Int) then (F2.d : Int) else (F1.d : Int) := by
        split <;> omega
      rw [em]
    · have h1 := hF1.2
      have h2 := hF2.2
      show sz F1.e + sz F2.e + 1 ≤ (F1.ts ++ bw (2 - wh) :: F2.ts).length
      rw [List.length_append, List.length_cons]
      omega
    · show max F1.d F2.d ≤ _
      omega
    · intro hw hne
      have k := k1 (decide_eq_false hne) (by omega)
      show max F1.d F2.d ≤ _
      omega
    · show (F1.ts ++ bw (2 - wh) :: F2.ts).length ≤ _
      rw [List.length_append, List.length_cons]
      omega

end

section
variable {P : Program} {w : World} {K : PySem.W.Frag} {mg : Str → Option Value} {base : Heap} {a : Ad}
abbrev Stk := List (Addr × Ent)
def refsE (sk : Stk) : List V := sk.map fun p => V.ref p.1
theorem refsE_app (a b : Stk) : refsE (a ++ b) = refsE a ++ refsE b := List.map_append
theorem refsE_len (a : Stk) : (refsE a).length = a.length := List.length_map _
def tot (sk : Stk) : Nat := (sk.map fun p => p.2.ts.length).sum
theorem tot_app (a b : Stk) : tot (a ++ b) = tot a + tot b := by
  unfold tot
  rw [List.map_append, List.sum_append]
theorem tot_one (p : Addr × Ent) : tot [p] = p.2.ts.length := by simp [tot]
structure StkOk (G : Hp) (sk : Stk) (i : Nat) : Prop where
  all : ∀ p ∈ sk, EntA G p.1 p.2 ∧ EntOk p.2 ∧ p.2.d ≤ 10 ∧ ht p.2.e ≤ i
  sum : tot sk ≤ 6 * i
  len : sk.length ≤ i
theorem StkOk.k {G G' : Hp} {sk : Stk} {i : Nat} (h : StkOk G sk i) (s : Same G G') : StkOk G' sk i := ⟨fun p hp => ⟨(h.all p hp).1.k s, (h.all p hp).2⟩, h.sum, h.len⟩
theorem EntA.mut {G : Hp} {b ps : Addr} {E : Ent} {sk : Stk} {o : HO} (h : EntA G b E) (hE : EntOk E) (hp : G ps = some (.lst (refsE sk))) : EntA (upd G ps o) b E := by
  obtain ⟨t, l, h1, h2, h3⟩ := h
  have nt : ∀ c xs, G c = some (.tup xs) → (upd G ps o) c = some (.tup xs) := fun c xs e => by
    rw [upd_ne (ne_of e hp fun z => nomatch z)]
    exact e
  have go : ∀ (e : Ex) {c : Addr}, TreeA G c e → TreeA (upd G ps o) c e := by
    intro e
    induction e with
    | atom v => exact fun h => nt _ _ h
    | un u e ih => exact fun ⟨c, g1, g2⟩ => ⟨c, nt _ _ g1, ih g2⟩
    | bin o l r i1 i2 => exact fun ⟨c, d, g1, g2, g3⟩ => ⟨c, d, nt _ _ g1, i1 g2, i2 g3⟩
  have ne : l ≠ ps := fun z => by
    rw [z, hp] at h3
    have e : refsE sk = E.ts.map V.str := by
      injection h3 with h3
      injection h3
    cases hts : E.ts with
    | nil => exact hE.1.ne hts
    | cons v ts =>
      rw [hts] at e
      cases sk with
      | nil => exact nomatch e
      | cons p sk => exact nomatch (List.cons.inj e).1
  exact ⟨t, l, nt _ _ h1, go _ h2, by rw [upd_ne ne]; exact h3⟩
theorem StkOk.mut {G : Hp} {ps : Addr} {sk sk2 : Stk} {i : Nat} {o : HO} (h : StkOk G sk i) (hp : G ps = some (.lst (refsE sk2))) : StkOk (upd G ps o) sk i := ⟨fun p hq => ⟨(h.all p hq).1.mut (h.all p hq).2.1 hp, (h.all p hq).2⟩, h.sum, h.len⟩
theorem strs_atF {ss : List Str} {i : Int} (h0 : 0 ≤ i) (h1 : i < ss.length) : ∃ s, s ∈ ss ∧ atI (ss.map V.str) i = some (.str s) := by
  have hi : i.toNat < ss.length := by omega
  refine ⟨ss[i.toNat], List.getElem_mem hi, at_of (j := i.toNat) (by omega) ?_⟩
  rw [List.getElem?_map, List.getElem?_eq_getElem hi]
  rfl
def atoms : List Str := ["a", "b", "c", "d", "start", "true"]
theorem atom_ok : ∀ s ∈ atoms, s ∈ lets ∨ s ∈ ats := by decide +kernel
theorem entOk_atom {s : Str} (h : s ∈ atoms) : EntOk ⟨.atom s, [s], 3, 0⟩ := ⟨(atom_ok s h).elim .lt .wd, Nat.le_refl _⟩
theorem entOk_len {E : Ent} (h : EntOk E) : 1 ≤ E.ts.length := by
  have := h.1.ne
  cases hs : E.ts with
  | nil => exact absurd hs this
  | cons _ _ => exact Nat.succ_le_succ (Nat.zero_le _)
/-- the entry of one word, as it is written -/
theorem atom_lay {G : Hp} {p1 p2 p3 : Addr} {s : Str} (h1 : G p1 = none) (h2 : upd G p1 (.tup [.str s]) p2 = none) (h3 : upd (upd G p1 (.tup [.str s])) p2 (.lst [.str s]) p3 = none) :
    Same G (upd (upd (upd G p1 (.tup [.str s])) p2 (.lst [.str s])) p3 (.tup [.ref p1, .ref p2, .int 3, .int 0])) ∧ EntA (upd (upd (upd G p1 (.tup [.str s])) p2 (.lst [.str s])) p3 (.tup [.ref p1, .ref p2, .int 3, .int 0])) p3 ⟨.atom s, [s], 3, 0⟩ := by
  have s1 := same_new (o := .tup [.str s]) h1
  have s2 := same_new (o := .lst [.str s]) h2
  have s3 := same_new (o := .tup [.ref p1, .ref p2, .int 3, .int 0]) h3
  exact ⟨(s1.trans s2).trans s3, p1, p2, upd_same, s3 _ _ (s2 _ _ upd_same), s3 _ _ upd_same⟩
def spFormula (K : PySem.W.Frag) : Sp := fun vs H Q _ => ∃ (l : Addr) (ns : List Int) (f n : Nat), vs = [.ref l, .int (f : Int), .int (n : Int)] ∧ SqL K H l (ns.map V.int) ∧ 1 ≤ n ∧ n ≤ 24 ∧
  ∀ (H' : Hp) (b : Addr) (E : Ent), Same H H' → EntA H' b E → EntOk E → E.d ≤ 11 → E.ts.length ≤ 400 → ht E.e ≤ 60 → Q (.ref b) H'
theorem ok_l_formula (T : Txt K mg a) : FnOk P w K mg base CX0 3 a.f_l_formula a.d_l_formula ["script", "first", "size"] (spFormula K) := by
  have G_l_binary := ok_l_binary (P := P) (w := w) (base := base) T
  have G_l_cell := ok_l_cell (P := P) (w := w) (base := base) T
  have G_l_numbers := ok_l_numbers (P := P) (w := w) (base := base) T
  have G_l_unary := ok_l_unary (P := P) (w := w) (base := base) T
  refine T.F_l_formula.ok sc_l_formula (fun vs H Q E h => ?_) (fun cdv A outer s H vs Q E hr h => ?_)
  · obtain ⟨l, ns, f, n, rfl, _⟩ := h
    rfl
  · obtain ⟨l, ns, f, n, rfl, hS, hn1, hn24, q⟩ := h
    have zl : (sizeLine : Nat) = 16777216 := by decide
    refine ⟨_, (pss_cons (ps_set (i := 3) sc_l_formula.nd rfl (Or.inl rfl) (pe_lst pa_nil))
      (pss_cons (ps_for PassesOwn.never rfl (pi_range1 (by rfl) T.z_range (pa_cons (pv 2) pa_nil)) (pg_name (i := 4) sc_l_formula.nd rfl (Or.inl rfl)) (pss_cons (ps_set (i := 5) sc_l_formula.nd rfl (Or.inl rfl) (pe_call (G_l_numbers) (hr.mono (by first | decide | omega)) (by rfl) T.g_l_numbers T.F_l_numbers.kp T.b_l_numbers .nil pass0 (pa_cons (pe_op op_add (pe_call (G_l_cell) (hr.mono (by first | decide | omega)) (by rfl) T.g_l_cell T.F_l_cell.kp T.b_l_cell .nil pass0 (pa_cons (pv 0) (pa_cons (pe_op op_add (pv 1) (pv 4)) pa_nil))) (pv 4)) (pa_cons pe_int pa_nil))))
      (pss_cons (ps_set (i := 6) sc_l_formula.nd rfl (Or.inl rfl) (pe_op op_mod (pe_ix (ix_listK (K := K) rfl) (pv 5) pe_int (fun _ _ => rfl)) pe_int))
      (pss_one (ps_if (PW.pt (pw_or (pt_cmpR op_lt (pv 6) pe_int (nomark _)) (pw_or1 (pt_cmpR (op_eqNil (K := K) rfl (hu64 hr)) (pv 3) (pe_lst pa_nil) (nomark _))))) (pss_cons (ps_set (i := 7) sc_l_formula.nd rfl (Or.inl rfl) (pe_ix (ix_listK (K := K) rfl) (pe_lst (pa_cons pe_str (pa_cons pe_str (pa_cons pe_str (pa_cons pe_str (pa_cons pe_str (pa_cons pe_str pa_nil))))))) (pe_op op_mod (pe_ix (ix_listK (K := K) rfl) (pv 5) pe_int (fun _ _ => rfl)) pe_int) (fun _ _ => rfl)))
      (pss_one (ps_expr (bmK (K := K) rfl (pe_bm PySem.F.plainAttrs_list PySem.F.slot_list_append PySem.F.type_list_append mt_append (pv 3) (pa_cons (pe_tup (pa_cons (pe_tup (pa_cons (pv 7) pa_nil)) (pa_cons (pe_lst (pa_cons (pv 7) pa_nil)) (pa_cons pe_int (pa_cons pe_int pa_nil))))) pa_nil)))))) (pss_one (ps_if (PW.pt (pw_and (pt_cmpR op_lt (pv 6) pe_int (nomark _)) (pw_and1 (pt_cmpR op_lt (pe_ix (ix_tupK (K := K) rfl) (pe_ix (ix_listK (K := K) rfl) (pv 3) (pe_un un_neg pe_int) (fun _ _ => rfl)) pe_int (fun _ _ => rfl)) pe_int (nomark _))))) (pss_one (ps_expr (bmK (K := K) rfl (pe_bm PySem.F.plainAttrs_list PySem.F.slot_list_append PySem.F.type_list_append mt_append (pv 3) (pa_cons (pe_call (G_l_unary) (hr.mono (by first | decide | omega)) (by rfl) T.g_l_unary T.F_l_unary.kp T.b_l_unary .nil pass0 (pa_cons (bm0K (K := K) rfl (pe_bm0 PySem.F.plainAttrs_list PySem.F.slot_list_pop PySem.F.type_list_pop mt_pop (pv 3))) (pa_cons (pe_ix (ix_listK (K := K) rfl) (pe_lst (pa_cons pe_str (pa_cons pe_str pa_nil))) (pe_op op_mod (pe_ix (ix_listK (K := K) rfl) (pv 5) pe_int (fun _ _ => rfl)) pe_int) (fun _ _ => rfl)) (pa_cons (pe_ix (ix_listK (K := K) rfl) (pv 5) pe_int (fun _ _ => rfl)) pa_nil)))) pa_nil))))) (pss_one (ps_if (PW.pt (pw_and (pt_cmpR op_gt (pe_callB (call_lenQK (K := K) rfl) (by rfl) T.z_len (by decide +kernel) (pa_cons (pv 3) pa_nil)) pe_int (nomark _)) (pw_and1 (pt_cmpR op_lt (pe_callB (call_max2 rfl) (by rfl) T.z_max (by decide +kernel) (pa_cons (pe_ix (ix_tupK (K := K) rfl) (pe_ix (ix_listK (K := K) rfl) (pv 3) (pe_un un_neg pe_int) (fun _ _ => rfl)) pe_int (fun _ _ => rfl)) (pa_cons (pe_ix (ix_tupK (K := K) rfl) (pe_ix (ix_listK (K := K) rfl) (pv 3) (pe_un un_neg pe_int) (fun _ _ => rfl)) pe_int (fun _ _ => rfl)) pa_nil))) pe_int (nomark _))))) (pss_cons (ps_set (i := 8) sc_l_formula.nd rfl (Or.inl rfl) (bm0K (K := K) rfl (pe_bm0 PySem.F.plainAttrs_list PySem.F.slot_list_pop PySem.F.type_list_pop mt_pop (pv 3))))
      (pss_one (ps_expr (bmK (K := K) rfl (pe_bm PySem.F.plainAttrs_list PySem.F.slot_list_append PySem.F.type_list_append mt_append (pv 3) (pa_cons (pe_call (G_l_binary) (hr.mono (by first | decide | omega)) (by rfl) T.g_l_binary T.F_l_binary.kp T.b_l_binary .nil pass0 (pa_cons (bm0K (K := K) rfl (pe_bm0 PySem.F.plainAttrs_list PySem.F.slot_list_pop PySem.F.type_list_pop mt_pop (pv 3))) (pa_cons (pv 8) (pa_cons (pe_op op_mod (pe_ix (ix_listK (K := K) rfl) (pv 5) pe_int (fun _ _ => rfl)) pe_int) (pa_cons (pe_slice (sl_listK (K := K) rfl) (pv 5) (po_some pe_int) po_none) pa_nil))))) pa_nil)))))) (pss_one (ps_expr (bmK (K := K) rfl (pe_bm PySem.F.plainAttrs_list PySem.F.slot_list_append PySem.F.type_list_append mt_append (pv 3) (pa_cons (pe_tup (pa_cons (pe_tup (pa_cons pe_str pa_nil)) (pa_cons (pe_lst (pa_cons pe_str pa_nil)) (pa_cons pe_int (pa_cons pe_int pa_nil))))) pa_nil))))))))))))))
      (pss_cons (ps_set (i := 9) sc_l_formula.nd rfl (Or.inl rfl) (pe_ix (ix_listK (K := K) rfl) (pv 3) pe_int (fun _ _ => rfl)))
      (pss_cons (ps_for PassesOwn.never rfl (pi_listK (K := K) rfl (pe_slice (sl_listK (K := K) rfl) (pv 3) (po_some pe_int) po_none)) (pg_name (i := 10) sc_l_formula.nd rfl (Or.inl rfl)) (pss_one (ps_if (pt_cmpR op_lt (pe_callB (call_max2 rfl) (by rfl) T.z_max (by decide +kernel) (pa_cons (pe_ix (ix_tupK (K := K) rfl) (pv 9) pe_int (fun _ _ => rfl)) (pa_cons (pe_ix (ix_tupK (K := K) rfl) (pv 10) pe_int (fun _ _ => rfl)) pa_nil))) pe_int (nomark _)) (pss_one (ps_set (i := 9) sc_l_formula.nd rfl (Or.inl rfl) (pe_call (G_l_binary) (hr.mono (by first | decide | omega)) (by rfl) T.g_l_binary T.F_l_binary.kp T.b_l_binary .nil pass0 (pa_cons (pv 9) (pa_cons (pv 10) (pa_cons pe_int (pa_cons (pe_lst (pa_cons pe_int (pa_cons pe_int pa_nil))) pa_nil))))))) pss_nil)))
      (pss_one (ps_ret (pv 9))))))), ?_⟩
    walk_at "rd"
    refine ⟨Nat.zero_le _, fun ps hps => ?_⟩
    walk_at "rd"
    refine r_rng1' (by omega) (by omega) ?_
    rw [Int.toNat_natCast]
    refine for_range (lo := 0) (n := n) (fun i σ G => ∃ (sk : Stk) (y4 y5 y6 y7 y8 : Option V), σ = [some (.ref l), some (.int (f : Int)), some (.int (n : Int)), some (.ref ps), y4, y5, y6, y7, y8, none, none] ∧ Same H G ∧ G ps = some (.lst (refsE sk)) ∧ StkOk G sk i ∧ (0 < i → sk ≠ []))
      ⟨[], none, none, none, none, none, rfl, same_new hps, upd_same, ⟨(fun _ h => nomatch h), Nat.zero_le _, Nat.zero_le _⟩, fun h => absurd h (by decide)⟩ (fun i σ G hi hP => ?_) (fun σ G hP => ?_)
    · obtain ⟨sk, y4, y5, y6, y7, y8, rfl, sG, hp, ok, hne⟩ := hP
      walk_at "rd"
      refine ⟨l, ns, _, rfl, sG.seq hS, by omega, ?_⟩
      walk_at "rd"
      refine ⟨_, 4, rfl, by decide, fun G1 pn ms s1 hpn hN hl4 hms => ?_⟩
      have sG1 := sG.trans s1
      have hp1 := s1 _ _ hp
      have ok1 := ok.k s1
      clear ok hp sG
      walk_at "rd"
      refine r_ixL (SqL.of hN) (at_int (by decide) (by omega)) ?_
      walk_at "rdn"
      generalize hso : ms.getD (0 : Int).toNat 0 % 8 = sort at *
      have m1 := emod_rng (ms.getD (1 : Int).toNat 0) (b := 6) (by decide)
      have m2 := emod_rng (ms.getD (1 : Int).toNat 0) (b := 2) (by decide)
      have m3 := emod_rng (ms.getD (1 : Int).toNat 0) (b := 3) (by decide)
      have skl : sk.length ≤ 6 * i := by
        have h : sk.length ≤ tot sk := by
          have go : ∀ l : Stk, (∀ p ∈ l, 1 ≤ p.2.ts.length) → l.length ≤ tot l := by
            intro l
            induction l with
            | nil => exact fun _ => Nat.le_refl _
            | cons p l ih =>
              intro h
              have := ih fun q hq => h q (List.mem_cons_of_mem _ hq)
              have h1 := h p List.mem_cons_self
              have e : tot (p :: l) = p.2.ts.length + tot l := by simp [tot]
              rw [List.length_cons, e]
              omega
          exact go sk fun p hq => entOk_len (ok1.all p hq).2.1
        exact Nat.le_trans h ok1.sum
      -- what is pushed
      have push : ∀ {G2 : Hp} {b : Addr} {E' : Ent} {sk' : Stk} {y4 y5 y6 y7 y8 : Option V}, Same H G2 → G2 ps = some (.lst (refsE sk')) → StkOk G2 sk' i → EntA G2 b E' → EntOk E' → E'.d ≤ 10 → ht E'.e ≤ i + 1 → tot sk' + E'.ts.length ≤ 6 * (i + 1) →
          ∃ (sk : Stk) (y4' y5' y6' y7' y8' : Option V), [some (V.ref l), some (.int (f : Int)), some (.int (n : Int)), some (.ref ps), y4, y5, y6, y7, y8, none, none] = [some (V.ref l), some (.int (f : Int)), some (.int (n : Int)), some (.ref ps), y4', y5', y6', y7', y8', none, none] ∧ Same H (upd G2 ps (.lst (refsE sk' ++ [V.ref b]))) ∧ (upd G2 ps (.lst (refsE sk' ++ [V.ref b]))) ps = some (.lst (refsE sk)) ∧ StkOk (upd G2 ps (.lst (refsE sk' ++ [V.ref b]))) sk (i + 1) ∧ (0 < i + 1 → sk ≠ []) := by
        intro G2 b E' sk' y4 y5 y6 y7 y8 s2 hp2 ok2 hA hE hd hh ht'
        refine ⟨sk' ++ [(b, E')], _, _, _, _, _, rfl, same_mut s2 hps, by rw [upd_same, refsE_app]; rfl, ⟨fun p hq => ?_, by rw [tot_app, tot_one]; exact ht', by rw [List.length_append]; exact Nat.succ_le_succ ok2.len⟩, fun _ z => by simp at z⟩
        rcases List.mem_append.mp hq with hq | hq
        · have h := ok2.all p hq
          exact ⟨h.1.mut h.2.1 hp2, h.2.1, h.2.2.1, Nat.le_succ_of_le h.2.2.2⟩
        · rw [List.mem_singleton.mp hq]
          exact ⟨hA.mut hE hp2, hE, hd, hh⟩
      have rlen : (refsE sk).length < sizeLine := by rw [refsE_len]; omega
      have atomW : ∀ s ∈ atoms, ∀ (F : Hp), Same G1 F → ∀ (p1 p2 p3 : Addr), F p1 = none → upd F p1 (.tup [.str s]) p2 = none → upd (upd F p1 (.tup [.str s])) p2 (.lst [.str s]) p3 = none → ∀ (y4 y5 y6 y7 y8 : Option V), ∃ G2, upd (upd (upd F p1 (.tup [.str s])) p2 (.lst [.str s])) p3 (.tup [.ref p1, .ref p2, .int 3, .int 0]) = G2 ∧ G2 ps = some (.lst (refsE sk)) ∧
          ∃ (sk2 : Stk) (y4' y5' y6' y7' y8' : Option V), [some (V.ref l), some (.int (f : Int)), some (.int (n : Int)), some (.ref ps), y4, y5, y6, y7, y8, none, none] = [some (V.ref l), some (.int (f : Int)), some (.int (n : Int)), some (.ref ps), y4', y5', y6', y7', y8', none, none] ∧ Same H (upd G2 ps (.lst (refsE sk ++ [V.ref p3]))) ∧ (upd G2 ps (.lst (refsE sk ++ [V.ref p3]))) ps = some (.lst (refsE sk2)) ∧ StkOk (upd G2 ps (.lst (refsE sk ++ [V.ref p3]))) sk2 (i + 1) ∧ (0 < i + 1 → sk2 ≠ []) := by
        intro s hs F sF p1 p2 p3 h1 h2 h3 y4 y5 y6 y7 y8
        obtain ⟨sL, eL⟩ := atom_lay h1 h2 h3
        refine ⟨_, rfl, sL _ _ (sF _ _ hp1), push ((sG1.trans sF).trans sL) (sL _ _ (sF _ _ hp1)) (ok1.k (sF.trans sL)) eL (entOk_atom hs) (Nat.zero_le _) (Nat.zero_le _) ?_⟩
        have := ok1.sum
        show tot sk + 1 ≤ 6 * (i + 1)
        omega
      have atomGo : ∀ s ∈ atoms, ∀ (F : Hp), Same G1 F → ∀ (y4 y5 y6 y7 y8 : Option V) (D : Ends), (∀ σ G, (∃ (sk : Stk) (y4 y5 y6 y7 y8 : Option V), σ = [some (V.ref l), some (.int (f : Int)), some (.int (n : Int)), some (.ref ps), y4, y5, y6, y7, y8, none, none] ∧ Same H G ∧ G ps = some (.lst (refsE sk)) ∧ StkOk G sk (i + 1) ∧ (0 < i + 1 → sk ≠ [])) → D.nx σ G) → ∀ te : TE,
          (∀ (G2 : Hp) (Q : VK), Q (.str s) G2 → te [some (V.ref l), some (.int (f : Int)), some (.int (n : Int)), some (.ref ps), y4, y5, y6, y7, y8, none, none] G2 Q) →
          tDrop (tBM K "list" rAppend (tVar 3) (tCons (tTup (tCons (tTup (tCons te tNil)) (tCons (tLst (tCons te tNil)) (tCons (tC (V.int 3)) (tCons (tC (V.int 0)) tNil))))) tNil)) D [some (V.ref l), some (.int (f : Int)), some (.int (n : Int)), some (.ref ps), y4, y5, y6, y7, y8, none, none] F := by
        intro s hs F sF y4 y5 y6 y7 y8 D hD te hte
        walk_at "rd"
        refine ⟨ty_l (SqL.of (sF _ _ hp1)), ?_⟩
        walk_at "rd"
        refine hte _ _ ?_
        walk_at "rd"
        refine ⟨by show 1 ≤ sizeLine; decide, fun p1 h1 => ?_⟩
        walk_at "rd"
        refine hte _ _ ?_
        walk_at "rd"
        refine ⟨by show 1 ≤ sizeLine; decide, fun p2 h2 => ?_⟩
        walk_at "rd"
        refine ⟨by show 4 ≤ sizeLine; decide, fun p3 h3 => ?_⟩
        obtain ⟨G2, e2, hg, hW⟩ := atomW s hs F sF p1 p2 p3 h1 h2 h3 y4 y5 y6 y7 y8
        rw [e2]
        walk_at "rd"
        exact r_append hg rlen (hD _ _ hW)
      have word : ∀ (F : Hp) (y4 y6 : Option V) (D : Ends), Same G1 F → (∀ σ G, (∃ (sk : Stk) (y4 y5 y6 y7 y8 : Option V), σ = [some (V.ref l), some (.int (f : Int)), some (.int (n : Int)), some (.ref ps), y4, y5, y6, y7, y8, none, none] ∧ Same H G ∧ G ps = some (.lst (refsE sk)) ∧ StkOk G sk (i + 1) ∧ (0 < i + 1 → sk ≠ [])) → D.nx σ G) →
          tSeq (tAsg (tOp (rIxL K) (tLst (tCons (tC (V.str (Str.ofString "a"))) (tCons (tC (V.str (Str.ofString "b"))) (tCons (tC (V.str (Str.ofString "c"))) (tCons (tC (V.str (Str.ofString "d"))) (tCons (tC (V.str (Str.ofString "start"))) (tCons (tC (V.str (Str.ofString "true"))) tNil)))))))
              (tOp (rI (fun x j => 0 < j) fun i j => V.int (i % j)) (tOp (rIxL K) (tVar 5) (tC (V.int 1))) (tC (V.int 6)))) (gName 7))
            (tDrop (tBM K "list" rAppend (tVar 3) (tCons (tTup (tCons (tTup (tCons (tVar 7) tNil)) (tCons (tLst (tCons (tVar 7) tNil)) (tCons (tC (V.int 3)) (tCons (tC (V.int 0)) tNil))))) tNil))) D
            [some (V.ref l), some (.int (f : Int)), some (.int (n : Int)), some (.ref ps), y4, some (.ref pn), y6, y7, y8, none, none] F := by
        intro F y4 y6 D sF hD
        walk_at "rd"
        refine ⟨by show 6 ≤ sizeLine; decide, fun pl hpl => ?_⟩
        have sl := same_new (o := .lst [.str "a", .str "b", .str "c", .str "d", .str "start", .str "true"]) hpl
        obtain ⟨s, hs, hat⟩ := strs_atF (ss := atoms) m1.1 m1.2
        walk_at "rd"
        refine r_ixL (SqL.of (sl _ _ (sF _ _ hN))) (at_int (by decide) (by omega)) ?_
        walk_at "rd"
        refine r_ixL (SqL.of upd_same) hat ?_
        refine r_next (D := { D with nx := _ }) ?_
        exact atomGo s hs _ (sF.trans sl) _ _ _ _ _ D hD _ (fun G2 Q q => r_var rfl q)
      by_cases hA : sort < 3 ∨ sk = []
      · with_reducible refine r_ifT (fun F => Same G1 F) (fun QB hQ => ?_) (fun F sF => ?_)
        rotate_left
        · refine word F _ _ _ sF ?_
          exact fun _ _ h => h
        walk_at "rd"
        refine r_iteD (fun _ => hQ _ (fun _ _ z => z)) (fun h3 => ?_)
        walk_at "rd"
        refine ⟨Nat.zero_le _, fun p hp => ?_⟩
        have e : sk = [] := hA.resolve_left h3
        refine r_eqNil (SqL.of (same_new hp _ _ hp1)) (SqL.of upd_same) ?_
        rw [e]
        exact ⟨_, rfl, hQ _ (same_new hp)⟩
      have h3 : ¬ sort < 3 := fun h => hA (.inl h)
      obtain ⟨sk0, ⟨b1, E1⟩, rfl⟩ : ∃ sk0 x, sk = sk0 ++ [x] := by
        have hn : sk ≠ [] := fun h => hA (.inr h)
        exact ⟨sk.dropLast, sk.getLast hn, (List.dropLast_concat_getLast hn).symm⟩
      clear atomW
      have hmem : (b1, E1) ∈ sk0 ++ [(b1, E1)] := List.mem_append_right _ List.mem_cons_self
      have ts1 : tot sk0 + E1.ts.length ≤ 6 * i := by
        have := ok1.sum
        rw [tot_app, tot_one] at this
        exact this
      have hlast : atI (refsE (sk0 ++ [(b1, E1)])) (-1) = some (.ref b1) := by
        rw [refsE_app]
        exact at_lastS
      have hdl : (refsE (sk0 ++ [(b1, E1)])).dropLast = refsE sk0 := by
        rw [refsE_app]
        exact List.dropLast_concat
      have hge : (refsE (sk0 ++ [(b1, E1)]))[(refsE (sk0 ++ [(b1, E1)])).length - 1]? = some (.ref b1) := by
        rw [refsE_app, List.length_append, show (refsE [(b1, E1)]).length = 1 from rfl, Nat.add_sub_cancel, List.getElem?_append_right (Nat.le_refl _), Nat.sub_self]
        rfl
      with_reducible refine r_ifF (fun F => Same G1 F) (fun QB hQ => ?_) (fun F sF => ?_)
      · walk_at "rd"
        refine r_iteD (fun h => absurd h h3) (fun _ => ?_)
        walk_at "rd"
        refine ⟨Nat.zero_le _, fun p hp => ?_⟩
        refine r_eqNil (SqL.of (same_new hp _ _ hp1)) (SqL.of upd_same) ?_
        refine ⟨_, rfl, ?_⟩
        rw [decide_eq_false (by rw [refsE_len, List.length_append, List.length_singleton]; omega)]
        exact hQ _ (same_new hp)
      have sHF := sG1.trans sF
      have okF := ok1.k sF
      have hpF := sF _ _ hp1
      have hNF := sF _ _ hN
      obtain ⟨⟨te1, tl1, hb1, hT1, hL1⟩, hE1, hd1, hh1⟩ := okF.all _ hmem
      dsimp only at hb1 hT1 hL1 hE1 hd1 hh1
      by_cases hB : sort < 5 ∧ E1.d < 9
      · with_reducible refine r_ifT (fun F' => F' = F) (fun QB hQ => ?_) (fun F' eF => ?_)
        · walk_at "rd"
          refine r_iteD (fun _ => ?_) (fun h => absurd hB.1 h)
          walk_at "rd"
          refine r_ixL (SqL.of hpF) hlast ?_
          walk_at "rd"
          refine r_ixT (SqT.of hb1) (at_of (j := 3) rfl rfl) ?_
          walk_at "rd"
          rw [decide_eq_true (by have := hB.2; omega)]
          exact hQ _ rfl
        · subst eF
          walk_at "rd"
          refine ⟨ty_l (SqL.of hpF), ?_⟩
          walk_at "rd"
          refine ⟨.ref ps, rfl, ty_l (SqL.of hpF), ps, _, .ref b1, rfl, rfl, hpF, hge, ?_⟩
          rw [hdl]
          have sP := same_mut (o := .lst (refsE sk0)) sHF hps
          have ok0 : StkOk (upd F' ps (.lst (refsE sk0))) sk0 i := StkOk.mut ⟨fun p hq => okF.all p (List.mem_append_left _ hq), by omega, by have := okF.len; rw [List.length_append] at this; omega⟩ hpF
          have eA : EntA (upd F' ps (.lst (refsE sk0))) b1 E1 := (okF.all _ hmem).1.mut hE1 hpF
          have hp0 : (upd F' ps (.lst (refsE sk0))) ps = some (.lst (refsE sk0)) := upd_same
          have hN0 : (upd F' ps (.lst (refsE sk0))) pn = some (.lst (ms.map V.int)) := by
            rw [upd_ne (fun z => by
              rw [z, hpF] at hNF
              have e : refsE (sk0 ++ [(b1, E1)]) = ms.map V.int := by
                injection hNF with h
                injection h
              have hm4 : ms ≠ [] := fun z => by rw [z] at hl4; exact absurd hl4 (by decide)
              cases ms with
              | nil => exact hm4 rfl
              | cons m ms =>
                cases hsk : sk0 ++ [(b1, E1)] with
                | nil => simp at hsk
                | cons x xs =>
                  rw [hsk] at e
                  exact nomatch (List.cons.inj e).1)]
            exact hNF
          generalize upd F' ps (.lst (refsE sk0)) = F2 at *
          walk_at "rd"
          refine ⟨by show 2 ≤ sizeLine; decide, fun pl hpl => ?_⟩
          have sl := same_new (o := .lst [.str "not", .str "before"]) hpl
          walk_at "rd"
          refine r_ixL (SqL.of (sl _ _ hN0)) (at_int (by decide) (by omega)) ?_
          walk_at "rd"
          obtain ⟨u, hu, hat⟩ := strs_atF (ss := ["not", "before"]) m2.1 m2.2
          refine r_ixL (SqL.of upd_same) hat ?_
          have ok3 := ok0.k sl
          have hp3 := sl _ _ hp0
          have eA3 := eA.k sl
          have hN3 := sl _ _ hN0
          have s3 := sP.trans sl
          generalize upd F2 pl (.lst [.str "not", .str "before"]) = F3 at *
          walk_at "rd"
          refine r_ixL (SqL.of hN3) (at_int (by decide) (by omega)) ?_
          walk_at "rd"
          have hu' : u = "not" ∨ u = "before" := by
            rcases List.mem_cons.mp hu with e | e
            · exact .inl e
            · exact .inr (List.mem_singleton.mp e)
          refine ⟨b1, E1, u, _, rfl, eA3, hE1, by omega, hu', fun F4 b' E' s4 hA4 hE4 e4 d4 l4 => ?_⟩
          walk_at "rd"
          refine r_append (s4 _ _ hp3) (by rw [refsE_len]; rw [List.length_append] at skl; omega) ?_
          refine push (s3.trans s4) (s4 _ _ hp3) (ok3.k s4) hA4 hE4 (by have := hB.2; omega) ?_ (by omega)
          rw [e4]
          exact Nat.succ_le_succ hh1
      with_reducible refine r_ifF (fun F' => F' = F) (fun QB hQ => ?_) (fun F' eF => ?_)
      · walk_at "rd"
        refine r_iteD (fun h5 => ?_) (fun _ => hQ _ rfl)
        walk_at "rd"
        refine r_ixL (SqL.of hpF) hlast ?_
        walk_at "rd"
        refine r_ixT (SqT.of hb1) (at_of (j := 3) rfl rfl) ?_
        walk_at "rd"
        rw [decide_eq_false (fun h => hB ⟨h5, by omega⟩)]
        exact hQ _ rfl
      subst eF
      have hlen : (refsE (sk0 ++ [(b1, E1)])).length = sk0.length + 1 := by rw [refsE_len, List.length_append, List.length_singleton]
      by_cases hC : ∃ (sk1 : Stk) (b2 : Addr) (E2 : Ent), sk0 = sk1 ++ [(b2, E2)] ∧ E1.d < 9 ∧ E2.d < 9
      · obtain ⟨sk1, b2, E2, rfl, d1, d2⟩ := hC
        have hmem2 : (b2, E2) ∈ sk1 ++ [(b2, E2)] ++ [(b1, E1)] := List.mem_append_left _ (List.mem_append_right _ List.mem_cons_self)
        obtain ⟨⟨te2, tl2, hb2, hT2, hL2⟩, hE2, hd2, hh2⟩ := okF.all _ hmem2
        dsimp only at hb2 hT2 hL2 hE2 hd2 hh2
        have hlast2 : atI (refsE (sk1 ++ [(b2, E2)] ++ [(b1, E1)])) (-2) = some (.ref b2) := by
          unfold atI ixN
          rw [refsE_len, List.length_append, List.length_append, List.length_singleton, List.length_singleton, if_neg (by decide), if_pos (by omega)]
          show (refsE _)[((-2 : Int) + ((sk1.length + 1 + 1 : Nat) : Int)).toNat]? = _
          rw [show ((-2 : Int) + ((sk1.length + 1 + 1 : Nat) : Int)).toNat = sk1.length by omega]
          unfold refsE
          rw [List.getElem?_map, List.append_assoc, List.getElem?_append_right (Nat.le_refl _), Nat.sub_self]
          rfl
        have ts2 : tot sk1 + E2.ts.length + E1.ts.length ≤ 6 * i := by
          rw [tot_app, tot_one] at ts1
          exact ts1
        with_reducible refine r_ifT (fun F'' => F'' = F') (fun QB hQ => ?_) (fun F'' eF => ?_)
        · walk_at "rd"
          refine r_lenL (SqL.of hpF) ?_
          walk_at "rd"
          refine r_iteD (fun _ => ?_) (fun h => absurd (show (1 : Int) < ((refsE _).length : Int) by rw [hlen, List.length_append, List.length_singleton]; omega) h)
          walk_at "rd"
          refine r_ixL (SqL.of hpF) hlast ?_
          walk_at "rd"
          refine r_ixT (SqT.of hb1) (at_of (j := 3) rfl rfl) ?_
          walk_at "rd"
          refine r_ixL (SqL.of hpF) hlast2 ?_
          walk_at "rd"
          refine r_ixT (SqT.of hb2) (at_of (j := 3) rfl rfl) ?_
          walk_at "rd"
          refine ⟨(E1.d : Int), (E2.d : Int), rfl, ?_⟩
          walk_at "rd"
          rw [decide_eq_true (show (if (E2.d : Int) > (E1.d : Int) then (E2.d : Int) else (E1.d : Int)) < 9 by split <;> omega)]
          exact hQ _ rfl
        · subst eF
          walk_at "rd"
          refine ⟨.ref ps, rfl, ty_l (SqL.of hpF), ps, _, .ref b1, rfl, rfl, hpF, hge, ?_⟩
          rw [hdl]
          have ne_pn : pn ≠ ps := fun z => by
            rw [z, hpF] at hNF
            have e : refsE (sk1 ++ [(b2, E2)] ++ [(b1, E1)]) = ms.map V.int := by
              injection hNF with h
              injection h
            have hm4 : ms ≠ [] := fun z => by rw [z] at hl4; exact absurd hl4 (by decide)
            cases ms with
            | nil => exact hm4 rfl
            | cons m ms =>
              cases hsk : sk1 ++ [(b2, E2)] ++ [(b1, E1)] with
              | nil => simp at hsk
              | cons x xs =>
                rw [hsk] at e
                exact nomatch (List.cons.inj e).1
          have eA1 := (okF.all _ hmem).1.mut (o := .lst (refsE (sk1 ++ [(b2, E2)]))) hE1 hpF
          have sP := same_mut (o := .lst (refsE (sk1 ++ [(b2, E2)]))) sHF hps
          have ok0 : StkOk (upd F'' ps (.lst (refsE (sk1 ++ [(b2, E2)])))) (sk1 ++ [(b2, E2)]) i := StkOk.mut ⟨fun p hq => okF.all p (List.mem_append_left _ hq), by omega, by have := okF.len; rw [List.length_append] at this; omega⟩ hpF
          have hp0 : (upd F'' ps (.lst (refsE (sk1 ++ [(b2, E2)])))) ps = some (.lst (refsE (sk1 ++ [(b2, E2)]))) := upd_same
          have hN0 : (upd F'' ps (.lst (refsE (sk1 ++ [(b2, E2)])))) pn = some (.lst (ms.map V.int)) := by rw [upd_ne ne_pn]; exact hNF
          generalize upd F'' ps (.lst (refsE (sk1 ++ [(b2, E2)]))) = F2 at *
          walk_at "rd"
          refine ⟨ty_l (SqL.of hp0), ?_⟩
          walk_at "rd"
          have hge2 : (refsE (sk1 ++ [(b2, E2)]))[(refsE (sk1 ++ [(b2, E2)])).length - 1]? = some (.ref b2) := by
            rw [refsE_app, List.length_append, show (refsE [(b2, E2)]).length = 1 from rfl, Nat.add_sub_cancel, List.getElem?_append_right (Nat.le_refl _), Nat.sub_self]
            rfl
          refine ⟨.ref ps, rfl, ty_l (SqL.of hp0), ps, _, .ref b2, rfl, rfl, hp0, hge2, ?_⟩
          rw [show (refsE (sk1 ++ [(b2, E2)])).dropLast = refsE sk1 by rw [refsE_app]; exact List.dropLast_concat]
          have sP1 := same_mut (o := .lst (refsE sk1)) sP hps
          have ok1' : StkOk (upd F2 ps (.lst (refsE sk1))) sk1 i := StkOk.mut ⟨fun p hq => ok0.all p (List.mem_append_left _ hq), by omega, by have := ok0.len; rw [List.length_append] at this; omega⟩ hp0
          have eA2 := (ok0.all (b2, E2) (List.mem_append_right _ List.mem_cons_self)).1.mut (o := .lst (refsE sk1)) hE2 hp0
          have eA1' := eA1.mut (o := .lst (refsE sk1)) hE1 hp0
          have hp1' : (upd F2 ps (.lst (refsE sk1))) ps = some (.lst (refsE sk1)) := upd_same
          have hN1 : (upd F2 ps (.lst (refsE sk1))) pn = some (.lst (ms.map V.int)) := by rw [upd_ne ne_pn]; exact hN0
          generalize upd F2 ps (.lst (refsE sk1)) = F3 at *
          walk_at "rd"
          refine r_ixL (SqL.of hN1) (at_int (by decide) (by omega)) ?_
          walk_at "rd"
          refine r_slL (SqL.of hN1) (fun l8 hl8 => ?_)
          rw [show cutV (ms.map V.int) (some 2) none = (ms.map V.int).drop 2 from cut_drop (ms.map V.int) 2, ← List.map_drop]
          have s8 := same_new (o := .lst ((ms.drop 2).map V.int)) hl8
          have hN8 : (upd F3 l8 (.lst ((ms.drop 2).map V.int))) l8 = some (.lst ((ms.drop 2).map V.int)) := upd_same
          have ok8 := ok1'.k s8
          have eA28 := eA2.k s8
          have eA18 := eA1'.k s8
          have hp8 := s8 _ _ hp1'
          have sP8 := sP1.trans s8
          generalize upd F3 l8 (.lst ((ms.drop 2).map V.int)) = F8 at *
          walk_at "rd"
          obtain ⟨wh, ewh⟩ : ∃ wh : Nat, ms.getD (1 : Int).toNat 0 % 3 = (wh : Int) := ⟨(ms.getD (1 : Int).toNat 0 % 3).toNat, by omega⟩
          rw [ewh]
          refine ⟨b2, b1, l8, E2, E1, wh, ms.drop 2, rfl, eA28, hE2, eA18, hE1, by omega, by omega, hN8, by rw [List.length_drop]; omega, fun F4 b' E' s4 hA4 hE4 e4 _ d4 _ l4 => ?_⟩
          walk_at "rd"
          have lsk : sk1.length < 1000 := by
            rw [List.length_append, List.length_append] at skl
            omega
          refine r_append (s4 _ _ hp8) (by rw [refsE_len]; omega) ?_
          refine push (sP8.trans s4) (s4 _ _ hp8) (ok8.k s4) hA4 hE4 (by omega) ?_ (by omega)
          rw [e4]
          show max (ht E2.e) (ht E1.e) + 1 ≤ i + 1
          omega
      · with_reducible refine r_ifF (fun F'' => F'' = F') (fun QB hQ => ?_) (fun F'' eF => ?_)
        · walk_at "rd"
          refine r_lenL (SqL.of hpF) ?_
          walk_at "rd"
          refine r_iteD (fun h1 => ?_) (fun _ => hQ _ rfl)
          rw [hlen] at h1
          obtain ⟨sk1, ⟨b2, E2⟩, rfl⟩ : ∃ sk1 x, sk0 = sk1 ++ [x] := by
            have hn : sk0 ≠ [] := fun h => by rw [h] at h1; exact absurd h1 (by decide)
            exact ⟨sk0.dropLast, sk0.getLast hn, (List.dropLast_concat_getLast hn).symm⟩
          have hmem2 : (b2, E2) ∈ sk1 ++ [(b2, E2)] ++ [(b1, E1)] := List.mem_append_left _ (List.mem_append_right _ List.mem_cons_self)
          obtain ⟨⟨te2, tl2, hb2, hT2, hL2⟩, hE2, hd2, hh2⟩ := okF.all _ hmem2
          dsimp only at hb2 hT2 hL2 hE2 hd2 hh2
          have hlast2 : atI (refsE (sk1 ++ [(b2, E2)] ++ [(b1, E1)])) (-2) = some (.ref b2) := by
            unfold atI ixN
            rw [refsE_len, List.length_append, List.length_append, List.length_singleton, List.length_singleton, if_neg (by decide), if_pos (by omega)]
            show (refsE _)[((-2 : Int) + ((sk1.length + 1 + 1 : Nat) : Int)).toNat]? = _
            rw [show ((-2 : Int) + ((sk1.length + 1 + 1 : Nat) : Int)).toNat = sk1.length by omega]
            unfold refsE
            rw [List.getElem?_map, List.append_assoc, List.getElem?_append_right (Nat.le_refl _), Nat.sub_self]
            rfl
          walk_at "rd"
          refine r_ixL (SqL.of hpF) hlast ?_
          walk_at "rd"
          refine r_ixT (SqT.of hb1) (at_of (j := 3) rfl rfl) ?_
          walk_at "rd"
          refine r_ixL (SqL.of hpF) hlast2 ?_
          walk_at "rd"
          refine r_ixT (SqT.of hb2) (at_of (j := 3) rfl rfl) ?_
          walk_at "rd"
          refine ⟨(E1.d : Int), (E2.d : Int), rfl, ?_⟩
          walk_at "rd"
          rw [decide_eq_false (show ¬ (if (E2.d : Int) > (E1.d : Int) then (E2.d : Int) else (E1.d : Int)) < 9 from fun h => hC ⟨sk1, b2, E2, rfl, by split at h <;> omega, by split at h <;> omega⟩)]
          exact hQ _ rfl
        · subst eF
          refine atomGo "a" (by decide +kernel) _ sF _ _ _ _ _ _ ?_ _ (fun G2 Q q => r_c q)
          exact fun _ _ h => h
    · obtain ⟨sk, y4, y5, y6, y7, y8, rfl, sG, hp, ok, hne⟩ := hP
      obtain ⟨⟨b0, E0⟩, rest, rfl⟩ : ∃ x rest, sk = x :: rest := by
        cases sk with
        | nil => exact absurd rfl (hne (by omega))
        | cons x rest => exact ⟨x, rest, rfl⟩
      obtain ⟨hA0, hE0, hd0, hh0⟩ := ok.all _ List.mem_cons_self
      dsimp only at hA0 hE0 hd0 hh0
      have hrest : ∀ p ∈ rest, EntA G p.1 p.2 ∧ EntOk p.2 ∧ p.2.d ≤ 10 ∧ ht p.2.e ≤ n := fun p hp => ok.all p (List.mem_cons_of_mem _ hp)
      have hsum : E0.ts.length + tot rest ≤ 6 * n := by
        have := ok.sum
        rw [show ((b0, E0) :: rest) = [(b0, E0)] ++ rest from rfl, tot_app, tot_one] at this
        exact this
      have hlen : rest.length + 1 ≤ n := ok.len
      walk_at "rd"
      refine r_ixL (SqL.of hp) (at_of (j := 0) rfl rfl) ?_
      walk_at "rd"
      refine r_slL (SqL.of hp) (fun lr hlr => ?_)
      rw [show cutV (refsE ((b0, E0) :: rest)) (some 1) none = refsE rest from cut_1 _]
      have sl := same_new (o := .lst (refsE rest)) hlr
      have hR : (upd G lr (.lst (refsE rest))) lr = some (.lst (refsE rest)) := upd_same
      have sG1 := sG.trans sl
      have hA1 := hA0.k sl
      have hr1 : ∀ p ∈ rest, EntA (upd G lr (.lst (refsE rest))) p.1 p.2 := fun p hp => (hrest p hp).1.k sl
      generalize upd G lr (.lst (refsE rest)) = G1 at *
      refine ⟨_, rfl, ?_⟩
      refine ⟨⟨_, SqL.of hR⟩, for_list (K := K) (a := lr) (xs := refsE rest) (fun j σ F => ∃ (b : Addr) (E : Ent) (y10 : Option V), σ = [some (.ref l), some (.int (f : Int)), some (.int (n : Int)), some (.ref ps), y4, y5, y6, y7, y8, some (.ref b), y10] ∧ Same G1 F ∧ EntA F b E ∧ EntOk E ∧ E.d ≤ 11 ∧ E.ts.length ≤ E0.ts.length + tot (rest.take j) + 5 * j ∧ ht E.e ≤ n + j)
        ⟨b0, E0, none, rfl, (fun _ _ z => z), hA1, hE0, by omega, by simp, hh0⟩ (fun j σ F _ hW => hW.choose_spec.choose_spec.choose_spec.2.1.seq (SqL.of hR)) (fun j x σ F hx hW => ?_) (fun σ F hW => ?_)⟩
      · obtain ⟨b, E, y10, rfl, sF, hA, hE, hd, hl, hh⟩ := hW
        have hx2 : (rest.map fun p => V.ref p.1)[j]? = some x := hx
        rw [List.getElem?_map] at hx2
        obtain ⟨⟨c, E2⟩, hc, rfl⟩ := Option.map_eq_some_iff.mp hx2
        have hj : j < rest.length := (List.getElem?_eq_some_iff.mp hc).1
        obtain ⟨_, hE2, hd2, hh2⟩ := hrest _ (List.mem_of_getElem? hc)
        have hA2 := (hr1 _ (List.mem_of_getElem? hc)).k sF
        dsimp only at hA2 hE2 hd2 hh2
        have hA' := hA
        have hA2' := hA2
        obtain ⟨t1, l1, hb, _, _⟩ := hA'
        obtain ⟨t2, l2, hb2, _, _⟩ := hA2'
        have htk : tot (rest.take (j + 1)) = tot (rest.take j) + E2.ts.length := by
          rw [List.take_succ, hc, tot_app]
          exact congrArg _ (tot_one (c, E2))
        have htot : tot (rest.take j) + E2.ts.length ≤ tot rest := by
          rw [← htk]
          have e := congrArg tot (List.take_append_drop (j + 1) rest)
          rw [tot_app] at e
          omega
        walk_at "rd"
        refine r_ixT (SqT.of hb) (at_of (j := 3) rfl rfl) ?_
        walk_at "rd"
        refine r_ixT (SqT.of hb2) (at_of (j := 3) rfl rfl) ?_
        walk_at "rd"
        refine ⟨(E.d : Int), (E2.d : Int), rfl, ?_⟩
        walk_at "rd"
        refine r_iteD (fun hm => ?_) (fun _ => ?_)
        · have hd11 : E.d ≤ 10 := by split at hm <;> omega
          walk_at "rd"
          refine ⟨by show 2 ≤ sizeLine; decide, fun pl hpl => ?_⟩
          have sl := same_new (o := .lst [.int 1, .int 1]) hpl
          walk_at "rd"
          refine ⟨b, c, pl, E, E2, 2, [1, 1], rfl, hA.k sl, hE, hA2.k sl, hE2, by omega, by decide, upd_same, by decide, fun F4 b' E' s4 hA4 hE4 e4 _ _ d4 l4 => ?_⟩
          walk_at "rd"
          refine ⟨b', E', _, rfl, (sF.trans sl).trans s4, hA4, hE4, ?_, by rw [htk]; omega, ?_⟩
          · have := d4 rfl (by decide)
            omega
          · rw [e4]
            show max (ht E.e) (ht E2.e) + 1 ≤ n + (j + 1)
            omega
        · walk_at "rd"
          exact ⟨b, E, _, rfl, sF, hA, hE, hd, by rw [htk]; omega, by omega⟩
      · obtain ⟨b, E, y10, rfl, sF, hA, hE, hd, hl, hh⟩ := hW
        rw [refsE_len] at hl hh
        rw [List.take_length] at hl
        walk_at "rd"
        exact q F b E (sG1.trans sF) hA hE hd (by omega) (by omega)

end

section
variable {P : Program} {w : World} {K : PySem.W.Frag} {mg : Str → Option Value} {base : Heap} {a : Ad}
/-! ### tokens as texts -/
def par (v : Str) : Bool := decide (v ∈ (["(", ")"] : List Str))
def TokW (v : Str) : Prop := ∃ wc : List Nat, v = ⟨wc.toArray⟩ ∧ wc.length ≤ 8 ∧ ((par v = true ∧ (wc = [40] ∨ wc = [41])) ∨ (par v = false ∧ wc ≠ [] ∧ ∀ c ∈ wc, sml c = true))
theorem tokW_of {v : Str} (h : (decide (v.cps.toList.length ≤ 8) && ((par v && decide (v.cps.toList = [40] ∨ v.cps.toList = [41])) || (!par v && (decide (v.cps.toList ≠ []) && v.cps.toList.all sml)))) = true) : TokW v := by
  refine ⟨v.cps.toList, by rw [Array.toArray_toList], ?_, ?_⟩
  · exact of_decide_eq_true (Bool.and_eq_true_iff.mp h).1
  · rcases Bool.or_eq_true_iff.mp (Bool.and_eq_true_iff.mp h).2 with h | h
    · obtain ⟨h1, h2⟩ := Bool.and_eq_true_iff.mp h
      exact .inl ⟨h1, of_decide_eq_true h2⟩
    · obtain ⟨h1, h2⟩ := Bool.and_eq_true_iff.mp h
      obtain ⟨h3, h4⟩ := Bool.and_eq_true_iff.mp h2
      have h5 : par v = false := by
        cases hp : par v with
        | false => rfl
        | true =>
          rw [hp] at h1
          exact nomatch h1
      exact .inr ⟨h5, of_decide_eq_true h3, List.all_eq_true.mp h4⟩
theorem voc_ok : ∀ v ∈ (["a", "b", "c", "d", "start", "true", "not", "before", "(", ")", "or", "and", "since"] : List Str), (decide (v.cps.toList.length ≤ 8) && ((par v && decide (v.cps.toList = [40] ∨ v.cps.toList = [41])) || (!par v && (decide (v.cps.toList ≠ []) && v.cps.toList.all sml)))) = true := by decide +kernel
theorem Spells.voc {r : Nat} {e : Ex} {ts : List Str} {d : Nat} (h : Spells r e ts d) : ∀ v ∈ ts, v ∈ (["a", "b", "c", "d", "start", "true", "not", "before", "(", ")", "or", "and", "since"] : List Str) := by
  have l1 : ∀ v ∈ lets, v ∈ (["a", "b", "c", "d", "start", "true", "not", "before", "(", ")", "or", "and", "since"] : List Str) := by decide +kernel
  have l2 : ∀ v ∈ ats, v ∈ (["a", "b", "c", "d", "start", "true", "not", "before", "(", ")", "or", "and", "since"] : List Str) := by decide +kernel
  have l3 : ∀ r, r < 3 → bw r ∈ (["a", "b", "c", "d", "start", "true", "not", "before", "(", ")", "or", "and", "since"] : List Str) := by decide +kernel
  induction h with
  | lt h => exact fun v hv => by rw [List.mem_singleton.mp hv]; exact l1 _ h
  | wd h => exact fun v hv => by rw [List.mem_singleton.mp hv]; exact l2 _ h
  | par _ ih =>
    intro v hv
    rcases List.mem_cons.mp hv with rfl | hv
    · decide +kernel
    · rcases List.mem_append.mp hv with hv | hv
      · exact ih v hv
      · rw [List.mem_singleton.mp hv]
        decide +kernel
  | un h _ ih =>
    intro v hv
    rcases List.mem_cons.mp hv with rfl | hv
    · rcases h with rfl | rfl <;> decide +kernel
    · exact ih v hv
  | up _ _ ih => exact ih
  | bin h _ _ i1 i2 =>
    intro v hv
    rcases List.mem_append.mp hv with hv | hv
    · exact i1 v hv
    · rcases List.mem_cons.mp hv with rfl | hv
      · exact l3 _ h
      · exact i2 v hv
theorem lex_sp : ∀ (n i : Nat) (T : LT) (g : Bool), lexF i (T, g) (List.replicate n 32) = (T, if n = 0 then g else false)
  | 0, _, _, _ => rfl
  | n + 1, i, T, g => by
    show lexF (i + 1) (lexStep i (T, g) 32) (List.replicate n 32) = _
    have e : lexStep i (T, g) 32 = (T, false) := by
      unfold lexStep
      rw [if_neg (by show ¬ ((g && sml 32) = true); rw [show sml 32 = false from by decide, Bool.and_false]; decide), if_pos rfl]
      rfl
    rw [e, lex_sp n (i + 1) T false, if_neg (Nat.succ_ne_zero n)]
    congr 1
    split <;> rfl
theorem lex_go : ∀ (r u : List Nat) (k i : Nat) (T : LT), (∀ c ∈ r, sml c = true) → lexF i (T ++ [(u, k)], true) r = (T ++ [(u ++ r, k)], true)
  | [], u, k, i, T, _ => by rw [List.append_nil]; rfl
  | c :: r, u, k, i, T, h => by
    show lexF (i + 1) (lexStep i (T ++ [(u, k)], true) c) r = _
    have hc := h c List.mem_cons_self
    have e : lexStep i (T ++ [(u, k)], true) c = (T ++ [(u ++ [c], k)], true) := by
      unfold lexStep
      rw [if_pos (by show (true && sml c) = true; rw [hc]; rfl), hc]
      dsimp only
      rw [List.dropLast_concat, List.getLastD_concat]
    rw [e, lex_go r (u ++ [c]) k (i + 1) T (fun x hx => h x (List.mem_cons_of_mem _ hx)), List.append_assoc]
    rfl
/-- a token behind what stands: not a word right behind a word -/
theorem lex_tok {wc : List Nat} {v : Str} {i : Nat} {T : LT} {g : Bool} (h : (par v = true ∧ (wc = [40] ∨ wc = [41])) ∨ (par v = false ∧ wc ≠ [] ∧ ∀ c ∈ wc, sml c = true)) (hg : par v = true ∨ g = false) : lexF i (T, g) wc = (T ++ [(wc, i + 1)], !par v) := by
  rcases h with ⟨h1, h2⟩ | ⟨h1, h2, h3⟩
  · rw [h1]
    have go : ∀ c, (c = 40 ∨ c = 41) → lexF i (T, g) [c] = (T ++ [([c], i + 1)], false) := fun c hc => by
      have hs : sml c = false := by rcases hc with rfl | rfl <;> decide
      have h32 : c ≠ 32 := by rcases hc with rfl | rfl <;> decide
      show lexStep i (T, g) c = _
      unfold lexStep
      rw [if_neg (by show ¬ ((g && sml c) = true); rw [hs, Bool.and_false]; decide), if_neg h32, hs]
    rcases h2 with rfl | rfl
    · exact go 40 (.inl rfl)
    · exact go 41 (.inr rfl)
  · have hg' : g = false := hg.resolve_left (by rw [h1]; decide)
    subst hg'
    rw [h1]
    cases wc with
    | nil => exact absurd rfl h2
    | cons c r =>
      have hc := h3 c List.mem_cons_self
      have h32 : c ≠ 32 := fun z => by rw [z] at hc; exact absurd hc (by decide)
      show lexF (i + 1) (lexStep i (T, false) c) r = _
      have e : lexStep i (T, false) c = (T ++ [([c], i + 1)], true) := by
        unfold lexStep
        rw [if_neg (by show ¬ ((false && sml c) = true); rw [Bool.false_and]; decide), if_neg h32, hc]
      rw [e, lex_go r [c] (i + 1) (i + 1) T (fun x hx => h3 x (List.mem_cons_of_mem _ hx))]
      rfl
theorem okc_sp (n : Nat) : ∀ c ∈ List.replicate n 32, okc c = true := fun c hc => by
  rw [(List.mem_replicate.mp hc).2]
  decide
theorem okc_tok {v : Str} {wc : List Nat} (h : (par v = true ∧ (wc = [40] ∨ wc = [41])) ∨ (par v = false ∧ wc ≠ [] ∧ ∀ c ∈ wc, sml c = true)) : ∀ c ∈ wc, okc c = true := by
  intro c hc
  rcases h with ⟨_, rfl | rfl⟩ | ⟨_, _, h⟩
  · rw [List.mem_singleton.mp hc]; decide
  · rw [List.mem_singleton.mp hc]; decide
  · unfold okc
    rw [h c hc]
    rfl

def spPrinted (K : PySem.W.Frag) : Sp := fun vs H Q _ => ∃ (tl : Addr) (ts : List Str) (c : Int), vs = [.ref tl, .int c] ∧ H tl = some (.lst (ts.map V.str)) ∧ ts.length ≤ 1000 ∧ (∀ v ∈ ts, TokW v) ∧
  ∀ (H' : Hp) (p cl : Addr) (cs : List Nat) (cols : List Int), Same H H' → H' p = some (.tup [sV cs, .ref cl]) → H' cl = some (.lst (cols.map V.int)) → (∀ c ∈ cs, okc c = true) → cs.length ≤ 10 * ts.length + 1 → (lexF 0 ([], false) cs).1.map tkC = ts.zip cols → cols.length = ts.length → Q (.ref p) H'
theorem ok_l_printed (T : Txt K mg a) : FnOk P w K mg base CX0 2 a.f_l_printed a.d_l_printed ["tokens", "cell"] (spPrinted K) := by
  have G_l_numbers := ok_l_numbers (P := P) (w := w) (base := base) T
  refine T.F_l_printed.ok sc_l_printed (fun vs H Q E h => ?_) (fun cdv A outer s H vs Q E hr h => ?_)
  · obtain ⟨tl, ts, c, rfl, _⟩ := h
    rfl
  · obtain ⟨tl, ts, c, rfl, hL, hlen, hvoc, q⟩ := h
    have zl : (sizeLine : Nat) = 16777216 := by decide
    refine ⟨_, (pss_cons (ps_set (i := 2) sc_l_printed.nd rfl (Or.inl rfl) pe_str)
      (pss_cons (ps_set (i := 3) sc_l_printed.nd rfl (Or.inl rfl) (pe_lst pa_nil))
      (pss_cons (ps_set (i := 4) sc_l_printed.nd rfl (Or.inl rfl) (pe_call (G_l_numbers) (hr.mono (by first | decide | omega)) (by rfl) T.g_l_numbers T.F_l_numbers.kp T.b_l_numbers .nil pass0 (pa_cons (pv 1) (pa_cons (pe_op op_add (pe_callB (call_lenQK (K := K) rfl) (by rfl) T.z_len (by decide +kernel) (pa_cons (pv 0) pa_nil)) pe_int) pa_nil))))
      (pss_cons (ps_for PassesOwn.never rfl (pi_range1 (by rfl) T.z_range (pa_cons (pe_callB (call_lenQK (K := K) rfl) (by rfl) T.z_len (by decide +kernel) (pa_cons (pv 0) pa_nil)) pa_nil)) (pg_name (i := 5) sc_l_printed.nd rfl (Or.inl rfl)) (pss_cons (ps_set (i := 6) sc_l_printed.nd rfl (Or.inl rfl) (pe_ix (ix_listK (K := K) rfl) (pe_lst (pa_cons pe_int (pa_cons pe_int (pa_cons pe_int (pa_cons pe_int pa_nil))))) (pe_op op_mod (pe_ix (ix_listK (K := K) rfl) (pv 4) (pv 5) (fun _ _ => rfl)) pe_int) (fun _ _ => rfl)))
      (pss_cons (ps_if (PW.pt (pw_and (pt_cmpR op_gt (pv 5) pe_int (nomark _)) (pw_and (pt_cmpR op_eq (pv 6) pe_int (nomark _)) (pw_and (pt_cmpR (op_notInK (K := K) rfl) (pe_ix (ix_listK (K := K) rfl) (pv 0) (pe_op op_sub (pv 5) pe_int) (fun _ _ => rfl)) (pe_lst (pa_cons pe_str (pa_cons pe_str pa_nil))) (by rfl)) (pw_and1 (pt_cmpR (op_notInK (K := K) rfl) (pe_ix (ix_listK (K := K) rfl) (pv 0) (pv 5) (fun _ _ => rfl)) (pe_lst (pa_cons pe_str (pa_cons pe_str pa_nil))) (by rfl))))))) (pss_one (ps_set (i := 6) sc_l_printed.nd rfl (Or.inl rfl) pe_int)) pss_nil)
      (pss_cons (ps_set (i := 2) sc_l_printed.nd rfl (Or.inl rfl) (pe_op op_addS (pv 2) (pe_op op_repS pe_str (pv 6))))
      (pss_cons (ps_expr (bmK (K := K) rfl (pe_bm PySem.F.plainAttrs_list PySem.F.slot_list_append PySem.F.type_list_append mt_append (pv 3) (pa_cons (pe_op op_add (pe_callB call_lenS1 (by rfl) T.z_len (by decide +kernel) (pa_cons (pv 2) pa_nil)) pe_int) pa_nil))))
      (pss_one (ps_set (i := 2) sc_l_printed.nd rfl (Or.inl rfl) (pe_op op_addS (pv 2) (pe_ix (ix_listK (K := K) rfl) (pv 0) (pv 5) (fun _ _ => rfl))))))))))
      (pss_one (ps_ret (pe_tup (pa_cons (pe_op op_addS (pv 2) (pe_op op_repS pe_str (pe_op op_mod (pe_ix (ix_listK (K := K) rfl) (pv 4) (pe_callB (call_lenQK (K := K) rfl) (by rfl) T.z_len (by decide +kernel) (pa_cons (pv 0) pa_nil)) (fun _ _ => rfl)) pe_int))) (pa_cons (pv 3) pa_nil))))))))), ?_⟩
    walk_at "rd"
    refine ⟨Nat.zero_le _, fun pc hpc => ?_⟩
    have s0 := same_new (o := .lst []) hpc
    have hC0 : (upd H pc (.lst [])) pc = some (.lst (([] : List Int).map V.int)) := upd_same
    generalize upd H pc (.lst []) = H0 at *
    walk_at "rd"
    refine r_lenL (SqL.of (s0 _ _ hL)) ?_
    rw [List.length_map]
    walk_at "rd"
    refine ⟨c, ts.length + 1, by rw [show ((ts.length : Nat) : Int) + 1 = ((ts.length + 1 : Nat) : Int) by omega]; rfl, by omega, fun H1 pn ns s1 hpn hN hnl hnb => ?_⟩
    walk_at "rd"
    refine r_lenL (SqL.of (s1 _ _ (s0 _ _ hL))) ?_
    rw [List.length_map]
    walk_at "rd"
    refine r_rng1' (by omega) (by omega) ?_
    rw [Int.toNat_natCast]
    refine for_range (lo := 0) (n := ts.length) (fun i σ G => ∃ (cs : List Nat) (cols : List Int) (T : LT) (g : Bool) (y5 y6 : Option V), σ = [some (.ref tl), some (.int c), some (sV cs), some (.ref pc), some (.ref pn), y5, y6] ∧ Same H G ∧ G pc = some (.lst (cols.map V.int)) ∧ G pn = some (.lst (ns.map V.int)) ∧
        (∀ x ∈ cs, okc x = true) ∧ cs.length ≤ 10 * i ∧ lexF 0 ([], false) cs = (T, g) ∧ T.map tkC = (ts.take i).zip cols ∧ cols.length = i ∧ (g = true → ∃ v, 0 < i ∧ ts[i - 1]? = some v ∧ par v = false))
      ⟨[], [], [], false, none, none, rfl, s0.trans s1, s1 _ _ hC0, hN, (fun _ h => nomatch h), Nat.le_refl _, rfl, by simp, rfl, fun h => nomatch h⟩ (fun i σ G hi hP => ?_) (fun σ G hP => ?_)
    · obtain ⟨cs, cols, T0, g, y5, y6, rfl, sG, hC, hN2, hok, hcl, hlx, hM, hcc, hg⟩ := hP
      have hcur : ts[i]? = some ts[i] := List.getElem?_eq_getElem hi
      obtain ⟨wc, ewc, hw8, hwc⟩ := hvoc _ (List.getElem_mem hi)
      walk_at "rd"
      refine ⟨by show 4 ≤ sizeLine; decide, fun p1 hp1 => ?_⟩
      have t1 := same_new (o := .lst [.int 0, .int 1, .int 1, .int 2]) hp1
      walk_at "rd"
      refine r_ixL (SqL.of (t1 _ _ hN2)) (at_int (by omega) (by omega)) ?_
      walk_at "rd"
      have m4 := emod_rng (ns.getD (0 + (i : Int)).toNat 0) (b := 4) (by decide)
      obtain ⟨gp, hgp, hgat⟩ : ∃ gp : Nat, gp ≤ 2 ∧ atI [V.int 0, V.int 1, V.int 1, V.int 2] (ns.getD (0 + (i : Int)).toNat 0 % 4) = some (.int (gp : Int)) := by
        generalize ns.getD (0 + (i : Int)).toNat 0 % 4 = z at *
        obtain rfl | rfl | rfl | rfl : z = 0 ∨ z = 1 ∨ z = 2 ∨ z = 3 := by omega
        · exact ⟨0, by decide, rfl⟩
        · exact ⟨1, by decide, rfl⟩
        · exact ⟨1, by decide, rfl⟩
        · exact ⟨2, by decide, rfl⟩
      refine r_ixL (SqL.of upd_same) hgat ?_
      have sG1 := sG.trans t1
      have hC1 := t1 _ _ hC
      have hN1 := t1 _ _ hN2
      have hL1 := sG1 _ _ hL
      generalize upd G p1 (.lst [.int 0, .int 1, .int 1, .int 2]) = G1 at *
      with_reducible refine r_cutJ (fun σ F => ∃ gp' : Nat, gp' ≤ 2 ∧ (gp' = 0 → par ts[i] = true ∨ g = false) ∧ σ = [some (.ref tl), some (.int c), some (sV cs), some (.ref pc), some (.ref pn), some (.int (0 + (i : Int))), some (.int (gp' : Int))] ∧ Same G1 F) ?_ (fun key => ?_)
      · rintro σ F ⟨gp', hg2, hg0, rfl, sF⟩
        walk_at "rd"
        refine ⟨[32], gp', rfl, rfl, by show 1 * gp' ≤ sizeLine; omega, by omega, ?_⟩
        rw [show (List.replicate gp' [32]).flatten = List.replicate gp' 32 by
          clear hg2 hg0
          induction gp' with
          | zero => rfl
          | succ n ih => rw [List.replicate_succ, List.flatten_cons, ih]; rfl]
        refine r_addS (by rw [show (⟨cs.toArray⟩ : Str).length = cs.length from List.size_toArray, show (⟨(List.replicate gp' 32).toArray⟩ : Str).length = (List.replicate gp' 32).length from List.size_toArray, List.length_replicate]; omega) ?_
        rw [str_app]
        have hok2 : ∀ x ∈ cs ++ List.replicate gp' 32, okc x = true := fun x hx => (List.mem_append.mp hx).elim (hok x) (okc_sp gp' x)
        have hlx2 : lexF 0 ([], false) (cs ++ List.replicate gp' 32) = (T0, if gp' = 0 then g else false) := by
          rw [lexF_app, hlx, lex_sp]
        have hg3 : par ts[i] = true ∨ (if gp' = 0 then g else false) = false := by
          split
          · rename_i h
            exact hg0 h
          · exact .inr rfl
        have hcl2 : (cs ++ List.replicate gp' 32).length ≤ 10 * i + 2 := by
          rw [List.length_append, List.length_replicate]
          omega
        generalize (if gp' = 0 then g else false) = g2 at *
        generalize cs ++ List.replicate gp' 32 = cs2 at *
        walk_at "rd"
        refine ⟨ty_l (SqL.of (sF _ _ hC1)), ?_⟩
        walk_at "rd"
        refine r_lenS (by rw [show (⟨cs2.toArray⟩ : Str).length = cs2.length from List.size_toArray]; omega) ?_
        rw [show (⟨cs2.toArray⟩ : Str).length = cs2.length from List.size_toArray]
        walk_at "rd"
        refine r_append (sF _ _ hC1) (by rw [List.length_map]; omega) ?_
        have sF1 := same_mut (o := .lst (cols.map V.int ++ [V.int ((cs2.length : Int) + 1)])) (sG1.trans sF) hpc
        have hC2 : (upd F pc (.lst (cols.map V.int ++ [V.int ((cs2.length : Int) + 1)]))) pc = some (.lst ((cols ++ [(cs2.length : Int) + 1]).map V.int)) := by
          rw [upd_same, List.map_append]
          rfl
        have npc : pn ≠ pc := fun z => by
          rw [z, hC0] at hpn
          exact nomatch hpn
        have hN3 : (upd F pc (.lst (cols.map V.int ++ [V.int ((cs2.length : Int) + 1)]))) pn = some (.lst (ns.map V.int)) := by
          rw [upd_ne npc]
          exact sF _ _ hN1
        generalize upd F pc (.lst (cols.map V.int ++ [V.int ((cs2.length : Int) + 1)])) = F2 at *
        walk_at "rd"
        refine r_ixL (SqL.of (sF1 _ _ hL)) (at_of (j := i) (by omega) (by rw [List.getElem?_map, hcur]; rfl)) ?_
        walk_at "rd"
        rw [ewc] at hg3 hwc ⊢
        refine r_addS (by rw [show (⟨cs2.toArray⟩ : Str).length = cs2.length from List.size_toArray, show (⟨wc.toArray⟩ : Str).length = wc.length from List.size_toArray]; omega) ?_
        rw [str_app]
        refine ⟨cs2 ++ wc, cols ++ [(cs2.length : Int) + 1], T0 ++ [(wc, 0 + cs2.length + 1)], !par ⟨wc.toArray⟩, _, _, rfl, sF1, hC2, hN3, fun x hx => (List.mem_append.mp hx).elim (hok2 x) (okc_tok hwc x), by rw [List.length_append]; omega, ?_, ?_, by rw [List.length_append, hcc]; rfl, fun hp => ⟨ts[i], Nat.succ_pos _, hcur, ?_⟩⟩
        · rw [lexF_app, hlx2, lex_tok hwc hg3]
        · rw [List.map_append, hM, List.take_succ, hcur, List.zip_append (by rw [List.length_take, hcc]; omega)]
          congr 1
          rw [ewc]
          show [tkC (wc, 0 + cs2.length + 1)] = [((⟨wc.toArray⟩ : Str), (cs2.length : Int) + 1)]
          unfold tkC
          rw [Nat.zero_add]
          rfl
        · rw [ewc]
          cases hpp : par ⟨wc.toArray⟩ with
          | false => rfl
          | true => rw [hpp] at hp; exact nomatch hp
      · by_cases hD : 0 < i ∧ gp = 0 ∧ (∀ v, ts[i - 1]? = some v → par v = false) ∧ par ts[i] = false
        · obtain ⟨h0, hz, hpv, hcu⟩ := hD
          have hi1 : i - 1 < ts.length := by omega
          have hprev : ts[i - 1]? = some ts[i - 1] := List.getElem?_eq_getElem hi1
          with_reducible refine r_ifT (fun F => Same G1 F) (fun QB hQ => ?_) (fun F sF => ?_)
          · walk_at "rd"
            refine r_iteD (fun _ => ?_) (fun h => absurd (show (0 : Int) < 0 + (i : Int) by omega) h)
            walk_at "rd"
            refine r_iteD (fun _ => ?_) (fun h => absurd (by omega) h)
            walk_at "rd"
            refine r_ixL (SqL.of hL1) (at_of (j := i - 1) (by omega) (by rw [List.getElem?_map, hprev]; rfl)) ?_
            walk_at "rd"
            refine ⟨by show 2 ≤ sizeLine; decide, fun p2 hp2 => ?_⟩
            have t2 := same_new (o := .lst [.str "(", .str ")"]) hp2
            refine r_notInStrs (x := .inl ts[i - 1]) (ss := ["(", ")"]) (.inl (SqL.of upd_same)) ?_
            refine ⟨_, rfl, r_iteN (fun _ => ?_) (fun h => absurd (hpv _ hprev) (by rw [show par ts[i - 1] = true from decide_eq_true h]; decide))⟩
            generalize upd G1 p2 (.lst [.str "(", .str ")"]) = G2 at *
            walk_at "rd"
            refine r_ixL (SqL.of (t2 _ _ hL1)) (at_of (j := i) (by omega) (by rw [List.getElem?_map, hcur]; rfl)) ?_
            walk_at "rd"
            refine ⟨by show 2 ≤ sizeLine; decide, fun p3 hp3 => ?_⟩
            refine r_notInStrs (x := .inl ts[i]) (ss := ["(", ")"]) (.inl (SqL.of upd_same)) ?_
            refine ⟨_, rfl, ?_⟩
            show QB (!(par ts[i])) _
            rw [hcu]
            exact hQ _ (t2.trans (same_new hp3))
          · exact r_set (r_c (key _ _ ⟨1, by decide, (fun h => nomatch h), rfl, sF⟩))
        · with_reducible refine r_ifF (fun F => Same G1 F) (fun QB hQ => ?_) (fun F sF => ?_)
          · walk_at "rd"
            refine r_iteD (fun h0 => ?_) (fun _ => hQ _ (fun _ _ z => z))
            have hi1 : i - 1 < ts.length := by omega
            have hprev : ts[i - 1]? = some ts[i - 1] := List.getElem?_eq_getElem hi1
            walk_at "rd"
            refine r_iteD (fun hz => ?_) (fun _ => hQ _ (fun _ _ z => z))
            walk_at "rd"
            refine r_ixL (SqL.of hL1) (at_of (j := i - 1) (by omega) (by rw [List.getElem?_map, hprev]; rfl)) ?_
            walk_at "rd"
            refine ⟨by show 2 ≤ sizeLine; decide, fun p2 hp2 => ?_⟩
            have t2 := same_new (o := .lst [.str "(", .str ")"]) hp2
            refine r_notInStrs (x := .inl ts[i - 1]) (ss := ["(", ")"]) (.inl (SqL.of upd_same)) ?_
            refine ⟨_, rfl, r_iteN (fun hpv => ?_) (fun _ => hQ _ t2)⟩
            generalize upd G1 p2 (.lst [.str "(", .str ")"]) = G2 at *
            walk_at "rd"
            refine r_ixL (SqL.of (t2 _ _ hL1)) (at_of (j := i) (by omega) (by rw [List.getElem?_map, hcur]; rfl)) ?_
            walk_at "rd"
            refine ⟨by show 2 ≤ sizeLine; decide, fun p3 hp3 => ?_⟩
            refine r_notInStrs (x := .inl ts[i]) (ss := ["(", ")"]) (.inl (SqL.of upd_same)) ?_
            refine ⟨_, rfl, ?_⟩
            have hcu : par ts[i] = true := by
              cases hp : par ts[i] with
              | true => rfl
              | false => exact absurd ⟨by omega, by omega, fun v hv => by rw [hprev] at hv; rw [← Option.some.inj hv]; exact decide_eq_false hpv, hp⟩ hD
            show QB (!(par ts[i])) _
            rw [hcu]
            exact hQ _ (t2.trans (same_new hp3))
          · refine r_next (key _ _ ⟨gp, hgp, fun hz => ?_, rfl, sF⟩)
            cases hp : par ts[i] with
            | true => exact .inl rfl
            | false =>
              refine .inr ?_
              cases hgg : g with
              | false => rfl
              | true =>
                obtain ⟨v, h0, hv, hpv⟩ := hg hgg
                exact absurd ⟨h0, hz, fun v' hv' => by rw [hv] at hv'; rw [← Option.some.inj hv']; exact hpv, hp⟩ hD
    · obtain ⟨cs, cols, T0, g, y5, y6, rfl, sG, hC, hN2, hok, hcl, hlx, hM, hcc, hg⟩ := hP
      walk_at "rd"
      refine r_lenL (SqL.of (sG _ _ hL)) ?_
      rw [List.length_map]
      walk_at "rd"
      refine r_ixL (SqL.of hN2) (at_int (by omega) (by omega)) ?_
      walk_at "rd"
      have m2 := emod_rng (ns.getD ((ts.length : Nat) : Int).toNat 0) (b := 2) (by decide)
      obtain ⟨n2, en2, hn2⟩ : ∃ n2 : Nat, ns.getD ((ts.length : Nat) : Int).toNat 0 % 2 = (n2 : Int) ∧ n2 ≤ 1 := ⟨(ns.getD ((ts.length : Nat) : Int).toNat 0 % 2).toNat, by omega, by omega⟩
      rw [en2]
      refine ⟨[32], n2, rfl, rfl, by show 1 * n2 ≤ sizeLine; omega, by omega, ?_⟩
      rw [show (List.replicate n2 [32]).flatten = List.replicate n2 32 by
          clear hn2 en2
          induction n2 with
          | zero => rfl
          | succ n ih => rw [List.replicate_succ, List.flatten_cons, ih]; rfl]
      refine r_addS (by rw [show (⟨cs.toArray⟩ : Str).length = cs.length from List.size_toArray, show (⟨(List.replicate n2 32).toArray⟩ : Str).length = (List.replicate n2 32).length from List.size_toArray, List.length_replicate]; omega) ?_
      rw [str_app]
      walk_at "rd"
      refine ⟨by show 2 ≤ sizeLine; decide, fun p hp => ?_⟩
      rw [List.take_length] at hM
      refine q _ p pc (cs ++ List.replicate n2 32) cols (sG.trans (same_new hp)) upd_same (same_new hp _ _ hC) (fun x hx => (List.mem_append.mp hx).elim (hok x) (okc_sp n2 x)) (by rw [List.length_append, List.length_replicate]; omega) ?_ hcc
      rw [lexF_app, hlx, lex_sp]
      exact hM

end

section
variable {P : Program} {w : World} {K : PySem.W.Frag} {mg : Str → Option Value} {base : Heap} {a : Ad}
section
variable {kd : Nat → TK} {v p k : Nat} {F : List Nat} {x : Option Nat}
theorem _root_.G.AuR.par_inv (h : AuR kd true v p F k x) (hk : kd k = .par) (hv : v ≠ 12) : AuR kd true (v + 1) 0 (p :: F) (k + 1) x := by
  cases h with
  | wFull _ h2 => exact absurd h2 hv
  | wPar _ _ g => exact g
  | wUn h1 => rw [hk] at h1; exact nomatch h1
  | wAtom h1 => rw [hk] at h1; exact nomatch h1
  | wBad h1 h2 h3 => exact absurd hk h3
theorem _root_.G.AuR.un_inv (h : AuR kd true v p F k x) (hk : kd k = .un) (hv : v ≠ 12) : AuR kd true (v + 1) (p + 1) F (k + 1) x := by
  cases h with
  | wFull _ h2 => exact absurd h2 hv
  | wPar h1 => rw [hk] at h1; exact nomatch h1
  | wUn _ _ g => exact g
  | wAtom h1 => rw [hk] at h1; exact nomatch h1
  | wBad h1 h2 h3 => exact absurd hk h2
theorem _root_.G.AuR.atom_inv (h : AuR kd true v p F k x) (hk : kd k = .atom) : AuR kd false (v - p) 0 F (k + 1) x := by
  cases h with
  | wFull h1 => rcases h1 with h1 | h1 <;> (rw [hk] at h1; exact nomatch h1)
  | wPar h1 => rw [hk] at h1; exact nomatch h1
  | wUn h1 => rw [hk] at h1; exact nomatch h1
  | wAtom _ g => exact g
  | wBad h1 h2 h3 => exact absurd hk h1
theorem _root_.G.AuR.bin_inv {r : Nat} (h : AuR kd false v p F k x) (hk : kd k = .bin r) : AuR kd true v p F (k + 1) x := by
  cases h with
  | nBin _ g => exact g
  | nClose g => rw [hk] at g; exact nomatch g
  | nEnd g => rw [hk] at g; exact nomatch g
  | nBad g => exact absurd hk (g _)
theorem _root_.G.AuR.close_inv {f : Nat} (h : AuR kd false v p (f :: F) k x) (hk : kd k = .close) : AuR kd false (v - 1 - f) 0 F (k + 1) x := by
  cases h with
  | nBin g => rw [hk] at g; exact nomatch g
  | nClose _ g => exact g
  | nBad _ g => exact nomatch g hk
end
theorem r_ifU {c : TT} {t u : TS} {D : Ends} {σ : L2.St} {H : Hp} (J : Hp → Prop) (h1 : ∀ QB : Bool → Hp → Prop, (∀ b H', J H' → QB b H') → c σ H QB) (h2 : ∀ H', J H' → t D σ H') (h3 : ∀ H', J H' → u D σ H') : tIfS c t u D σ H := h1 _ fun b H' j => by
  cases b with
  | false => exact iteF (h3 H' j)
  | true => exact iteT (h2 H' j)
def kdT (ts : List Str) (k : Nat) : TK := kdS (ts.getD k "")
def fsum (F : List Nat) : Nat := (F.map (· + 1)).sum
def faultZ : Option Nat → Int
  | none => -1
  | some k => (k : Int)
def spFault (K : PySem.W.Frag) : Sp := fun vs H Q _ => ∃ (tl : Addr) (ts : List Str) (x : Option Nat), vs = [.ref tl] ∧ SqL K H tl (ts.map V.str) ∧ ts.length ≤ 1000 ∧ (∀ t ∈ ts, t ≠ "") ∧ AuR (kdT ts) true 0 0 [] 0 x ∧ ∀ H', Same H H' → Q (.int (faultZ x)) H'
theorem ok_l_fault (T : Txt K mg a) : FnOk P w K mg base CX0 1 a.f_l_fault a.d_l_fault ["tokens"] (spFault K) := by
  refine T.F_l_fault.ok sc_l_fault (fun vs H Q E h => ?_) (fun cdv A outer s H vs Q E hr h => ?_)
  · obtain ⟨tl, ts, x, rfl, _⟩ := h
    rfl
  · obtain ⟨tl, ts, x, rfl, hL, hlen, hne, hA, q⟩ := h
    have zl : (sizeLine : Nat) = 16777216 := by decide
    refine ⟨_, (pss_cons (ps_set (i := 1) sc_l_fault.nd rfl (Or.inl rfl) (pe_lst pa_nil))
      (pss_cons (ps_set (i := 2) sc_l_fault.nd rfl (Or.inl rfl) pe_int)
      (pss_cons (ps_set (i := 3) sc_l_fault.nd rfl (Or.inl rfl) pe_int)
      (pss_cons (ps_set (i := 4) sc_l_fault.nd rfl (Or.inl rfl) pe_bl)
      (pss_cons (ps_for PassesOwn.never rfl (pi_range1 (by rfl) T.z_range (pa_cons (pe_op op_add (pe_callB (call_lenQK (K := K) rfl) (by rfl) T.z_len (by decide +kernel) (pa_cons (pv 0) pa_nil)) pe_int) pa_nil)) (pg_name (i := 5) sc_l_fault.nd rfl (Or.inl rfl)) (pss_cons (ps_set (i := 6) sc_l_fault.nd rfl (Or.inl rfl) pe_str)
      (pss_cons (ps_if (pt_cmpR op_lt (pv 5) (pe_callB (call_lenQK (K := K) rfl) (by rfl) T.z_len (by decide +kernel) (pa_cons (pv 0) pa_nil)) (nomark _)) (pss_one (ps_set (i := 6) sc_l_fault.nd rfl (Or.inl rfl) (pe_ix (ix_listK (K := K) rfl) (pv 0) (pv 5) (fun _ _ => rfl)))) pss_nil)
      (pss_one (ps_if (PW.pt (pw_and (pt_val (pv 4)) (pw_and1 (pt_cmpR (op_inK (K := K) rfl) (pv 6) (pe_lst (pa_cons pe_str (pa_cons pe_str (pa_cons pe_str pa_nil)))) (by rfl))))) (pss_cons (ps_if (pt_cmpR op_eq (pv 3) pe_int (nomark _)) (pss_one (ps_ret (pv 5))) pss_nil)
      (pss_cons (ps_set (i := 3) sc_l_fault.nd rfl (Or.inl rfl) (pe_op op_add (pv 3) pe_int))
      (pss_one (ps_if (pt_cmpR op_eq (pv 6) pe_str (nomark _)) (pss_cons (ps_expr (bmK (K := K) rfl (pe_bm PySem.F.plainAttrs_list PySem.F.slot_list_append PySem.F.type_list_append mt_append (pv 1) (pa_cons (pv 2) pa_nil))))
      (pss_one (ps_set (i := 2) sc_l_fault.nd rfl (Or.inl rfl) pe_int))) (pss_one (ps_set (i := 2) sc_l_fault.nd rfl (Or.inl rfl) (pe_op op_add (pv 2) pe_int))))))) (pss_one (ps_if (pt_val (pv 4)) (pss_cons (ps_if (pt_cmpR (op_notInK (K := K) rfl) (pv 6) (pe_lst (pa_cons pe_str (pa_cons pe_str (pa_cons pe_str (pa_cons pe_str (pa_cons pe_str (pa_cons pe_str pa_nil))))))) (by rfl)) (pss_one (ps_ret (pv 5))) pss_nil)
      (pss_cons (ps_set (i := 3) sc_l_fault.nd rfl (Or.inl rfl) (pe_op op_sub (pv 3) (pv 2)))
      (pss_cons (ps_set (i := 2) sc_l_fault.nd rfl (Or.inl rfl) pe_int)
      (pss_one (ps_set (i := 4) sc_l_fault.nd rfl (Or.inl rfl) pe_bl))))) (pss_one (ps_if (pt_cmpR (op_inK (K := K) rfl) (pv 6) (pe_lst (pa_cons pe_str (pa_cons pe_str (pa_cons pe_str pa_nil)))) (by rfl)) (pss_one (ps_set (i := 4) sc_l_fault.nd rfl (Or.inl rfl) pe_bl)) (pss_one (ps_if (PW.pt (pw_and (pt_cmpR op_eq (pv 6) pe_str (nomark _)) (pw_and1 (pt_cmpR (op_neDK (K := K) rfl hr.units) (pv 1) (pe_lst pa_nil) (nomark _))))) (pss_cons (ps_set (i := 2) sc_l_fault.nd rfl (Or.inl rfl) (bm0K (K := K) rfl (pe_bm0 PySem.F.plainAttrs_list PySem.F.slot_list_pop PySem.F.type_list_pop mt_pop (pv 1))))
      (pss_cons (ps_set (i := 3) sc_l_fault.nd rfl (Or.inl rfl) (pe_op op_sub (pe_op op_sub (pv 3) pe_int) (pv 2)))
      (pss_one (ps_set (i := 2) sc_l_fault.nd rfl (Or.inl rfl) pe_int)))) (pss_one (ps_if (PW.pt (pw_and (pt_cmpR op_eq (pv 6) pe_str (nomark _)) (pw_and (pt_cmpR op_eq (pv 5) (pe_callB (call_lenQK (K := K) rfl) (by rfl) T.z_len (by decide +kernel) (pa_cons (pv 0) pa_nil)) (nomark _)) (pw_and1 (pt_cmpR (op_eqNil (K := K) rfl (hu64 hr)) (pv 1) (pe_lst pa_nil) (nomark _)))))) (pss_one (ps_ret (pe_un un_neg pe_int))) (pss_one (ps_ret (pv 5))))))))))))))))
      (pss_one (ps_ret (pe_callB (call_lenQK (K := K) rfl) (by rfl) T.z_len (by decide +kernel) (pa_cons (pv 0) pa_nil))))))))), ?_⟩
    walk_at "rd"
    refine ⟨Nat.zero_le _, fun fr hfr => ?_⟩
    walk_at "rd"
    refine r_lenL ((same_new hfr).seq hL) ?_
    rw [List.length_map]
    walk_at "rd"
    refine r_rng1' (by omega) (by omega) ?_
    rw [show (((ts.length : Nat) : Int) + 1).toNat = ts.length + 1 by omega]
    refine for_range (lo := 0) (n := ts.length + 1) (fun i σ G => i ≤ ts.length ∧ ∃ (w : Bool) (v p : Nat) (F : List Nat) (y5 y6 : Option V), σ = [some (.ref tl), some (.ref fr), some (.int (p : Int)), some (.int (v : Int)), some (.bl w), y5, y6] ∧ Same H G ∧ G fr = some (.lst ((F.reverse.map fun n : Nat => V.int (n : Int)))) ∧ AuR (kdT ts) w v p F i x ∧ v = p + fsum F ∧ (w = false → p = 0) ∧ F.length ≤ i)
      ⟨Nat.zero_le _, true, 0, 0, [], none, none, rfl, same_new hfr, upd_same, hA, rfl, (fun z => nomatch z), Nat.le_refl _⟩ (fun i σ G hi hP => ?_) (fun σ G hP => ?_)
    · obtain ⟨hil, w, v, p, F, y5, y6, rfl, sG, hF, hAu, hv, hw, hFl⟩ := hP
      obtain ⟨t, et⟩ : ∃ t, ts.getD i "" = t := ⟨_, rfl⟩
      have hkd : kdT ts i = kdS t := by unfold kdT; rw [et]
      refine r_gn (r_seq (r_set (r_c ?_)))
      with_reducible refine r_cutJ (fun σ G' => G' = G ∧ σ = [some (.ref tl), some (.ref fr), some (.int (p : Int)), some (.int (v : Int)), some (.bl w), some (.int (0 + (i : Int))), some (.str t)]) (fun σ G' hJ => ?_) (fun key => ?_)
      rotate_left
      · by_cases hlt : i < ts.length
        · refine r_ifT (fun F' => F' = G) (fun QB hQ => ?_) (fun F' eF => ?_)
          · walk_at "rdn"
            refine r_lenL (sG.seq hL) ?_
            rw [List.length_map]
            walk_at "rdn"
            rw [decide_eq_true (by omega)]
            exact hQ _ rfl
          · subst eF
            refine r_set ?_
            walk_at "rdn"
            refine r_ixL (sG.seq hL) (at_of (j := i) (by omega) (by rw [List.getElem?_map, List.getElem?_eq_getElem hlt]; rfl)) ?_
            have e2 : ts[i] = t := by rw [← et, List.getD_eq_getElem?_getD, List.getElem?_eq_getElem hlt]; rfl
            rw [e2]
            exact key _ _ ⟨rfl, rfl⟩
        · refine r_ifF (fun F' => F' = G) (fun QB hQ => ?_) (fun F' eF => ?_)
          · walk_at "rdn"
            refine r_lenL (sG.seq hL) ?_
            rw [List.length_map]
            walk_at "rdn"
            rw [decide_eq_false (by omega)]
            exact hQ _ rfl
          · subst eF
            refine r_next ?_
            have e2 : t = "" := by rw [← et, List.getD_eq_getElem?_getD, List.getElem?_eq_none (by omega)]; rfl
            rw [e2] at key
            exact key _ _ ⟨rfl, rfl⟩
      · obtain ⟨eG, rfl⟩ := hJ
        subst eG
        have ret : ∀ {F' : Hp}, x = some i → Same G' F' → Q (.int (0 + (i : Int))) F' := fun e s => by
          have := q _ (sG.trans s)
          rw [e] at this
          rw [Int.zero_add]
          exact this
        have hin : t ≠ "" → i < ts.length := fun h => by
          by_cases hlt : i < ts.length
          · exact hlt
          · exact absurd (by rw [← et, List.getD_eq_getElem?_getD, List.getElem?_eq_none (by omega)]; rfl) h
        have inT : ∀ {F' : Hp} {Q' : VK} {pl : Addr} {ss : List Str} (s : Bool), F' pl = some (.lst (ss.map V.str)) → decide (t ∈ ss) = s → Q' (.bl s) F' → rIn K false (.str t) (.ref pl) F' Q' := fun s h e q => r_inStrs (x := .inl t) (.inl (SqL.of h)) (by show _; rw [← e] at q; exact q)
        have nin : ∀ {F' : Hp} {Q' : VK} {pl : Addr} {ss : List Str} (s : Bool), F' pl = some (.lst (ss.map V.str)) → (!decide (t ∈ ss)) = s → Q' (.bl s) F' → rIn K true (.str t) (.ref pl) F' Q' := fun s h e q => r_notInStrs (x := .inl t) (.inl (SqL.of h)) (by show _; rw [← e] at q; exact q)
        cases w with
        | true =>
          by_cases ho : t ∈ opn3
          · refine r_ifT (fun F' => Same G' F') (fun QB hQ => ?_) (fun F' sF => ?_)
            · walk_at "rdn"
              refine ⟨by show 3 ≤ sizeLine; decide, fun pl hpl => ?_⟩
              refine inT true (ss := opn3) upd_same (decide_eq_true ho) ?_
              exact ⟨_, rfl, hQ _ (same_new hpl)⟩
            · have hF' := sF _ _ hF
              by_cases h12 : v = 12
              · refine r_seq ?_
                refine r_ifT (fun F'' => F'' = F') (fun QB hQ => ?_) (fun F'' eF => ?_)
                · walk_at "rdn"
                  rw [decide_eq_true (by omega)]
                  exact hQ _ rfl
                · subst eF
                  walk_at "rd"
                  exact ret (hAu.det (.wFull (by rw [hkd]; exact ((opn_iff t).mp ho).symm) h12)) sF
              · refine r_seq ?_
                refine r_ifF (fun F'' => F'' = F') (fun QB hQ => ?_) (fun F'' eF => ?_)
                · walk_at "rdn"
                  rw [decide_eq_false (by omega)]
                  exact hQ _ rfl
                · subst eF
                  have hi1 := hin (fun z => by rw [z] at ho; exact absurd ho (by decide +kernel))
                  refine r_next ?_
                  walk_at "rdn"
                  dsimp only
                  by_cases hp : t = "("
                  · refine r_ifT (fun F3 => F3 = F'') (fun QB hQ => ?_) (fun F3 eF => ?_)
                    · walk_at "rdn"
                      rw [decide_eq_true hp]
                      exact hQ _ rfl
                    · subst eF
                      walk_at "rd"
                      refine ⟨ty_l (SqL.of hF'), ?_⟩
                      walk_at "rd"
                      refine r_append hF' (by rw [List.length_map, List.length_reverse]; omega) ?_
                      refine r_set (r_c ?_)
                      refine ⟨hi1, true, v + 1, 0, p :: F, _, _, rfl, same_mut (sG.trans sF) hfr, by rw [upd_same, List.reverse_cons, List.map_append]; rfl, hAu.par_inv (hkd.trans (kd_lit.2.2.mp hp)) h12, ?_, (fun z => nomatch z), by rw [List.length_cons]; omega⟩
                      show v + 1 = 0 + ((p + 1) + fsum F)
                      omega
                  · refine r_ifF (fun F3 => F3 = F'') (fun QB hQ => ?_) (fun F3 eF => ?_)
                    · walk_at "rdn"
                      rw [decide_eq_false hp]
                      exact hQ _ rfl
                    · subst eF
                      have hun : kdS t = .un := ((opn_iff t).mp ho).resolve_left fun z => hp (kd_lit.2.2.mpr z)
                      walk_at "rd"
                      exact ⟨hi1, true, v + 1, p + 1, F, _, _, rfl, sG.trans sF, hF', hAu.un_inv (hkd.trans hun) h12, by omega, (fun z => nomatch z), by omega⟩
          · have hno : kdS t ≠ .un ∧ kdS t ≠ .par := ⟨fun z => ho ((opn_iff t).mpr (.inr z)), fun z => ho ((opn_iff t).mpr (.inl z))⟩
            refine r_ifF (fun F' => Same G' F') (fun QB hQ => ?_) (fun F' sF => ?_)
            · walk_at "rdn"
              refine ⟨by show 3 ≤ sizeLine; decide, fun pl hpl => ?_⟩
              refine inT false (ss := opn3) upd_same (decide_eq_false ho) ?_
              exact ⟨_, rfl, hQ _ (same_new hpl)⟩
            · refine r_ifT (fun F'' => F'' = F') (fun QB hQ => ?_) (fun F'' eF => ?_)
              · walk_at "rdn"
                exact hQ _ rfl
              · subst eF
                refine r_seq ?_
                by_cases ha : t ∈ ats6
                · refine r_ifF (fun F3 => Same F'' F3) (fun QB hQ => ?_) (fun F3 s3 => ?_)
                  · walk_at "rdn"
                    refine ⟨by show 6 ≤ sizeLine; decide, fun pl hpl => ?_⟩
                    refine nin false (ss := ats6) upd_same (by rw [decide_eq_true ha]; rfl) ?_
                    exact ⟨_, rfl, hQ _ (same_new hpl)⟩
                  · have hi1 := hin (fun z => by rw [z] at ha; exact absurd ha (by decide +kernel))
                    have hAu2 := hAu.atom_inv (hkd.trans ((ats_iff t).mp ha))
                    have e1 : v - p = fsum F := by omega
                    rw [e1] at hAu2
                    have e2 : (v : Int) - (p : Int) = ((fsum F : Nat) : Int) := by omega
                    have sA := sF.trans s3
                    refine r_next ?_
                    walk_at "rd"
                    rw [e2]
                    exact ⟨hi1, false, fsum F, 0, F, _, _, rfl, sG.trans sA, sA _ _ hF, hAu2, by omega, (fun _ => rfl), by omega⟩
                · refine r_ifT (fun F3 => Same F'' F3) (fun QB hQ => ?_) (fun F3 s3 => ?_)
                  · walk_at "rdn"
                    refine ⟨by show 6 ≤ sizeLine; decide, fun pl hpl => ?_⟩
                    refine nin true (ss := ats6) upd_same (by rw [decide_eq_false ha]; rfl) ?_
                    exact ⟨_, rfl, hQ _ (same_new hpl)⟩
                  · walk_at "rd"
                    exact ret (hAu.det (.wBad (by rw [hkd]; exact fun z => ha ((ats_iff t).mpr z)) (by rw [hkd]; exact hno.1) (by rw [hkd]; exact hno.2))) (sF.trans s3)
        | false =>
          have hp0 : p = 0 := hw rfl
          refine r_ifF (fun F' => F' = G') (fun QB hQ => ?_) (fun F' eF => ?_)
          · walk_at "rdn"
            exact hQ _ rfl
          subst eF
          refine r_ifF (fun F'' => F'' = F') (fun QB hQ => ?_) (fun F'' eF => ?_)
          · walk_at "rdn"
            exact hQ _ rfl
          subst eF
          by_cases hb : t ∈ bws3
          · refine r_ifT (fun F' => Same F'' F') (fun QB hQ => ?_) (fun F' sF => ?_)
            · walk_at "rdn"
              refine ⟨by show 3 ≤ sizeLine; decide, fun pl hpl => ?_⟩
              refine inT true (ss := bws3) upd_same (decide_eq_true hb) ?_
              exact ⟨_, rfl, hQ _ (same_new hpl)⟩
            · have hi1 := hin (fun z => by rw [z] at hb; exact absurd hb (by decide +kernel))
              obtain ⟨r, hr3⟩ := (bws_iff t).mp hb
              refine r_set (r_c ?_)
              exact ⟨hi1, true, v, p, F, _, _, rfl, sG.trans sF, sF _ _ hF, hAu.bin_inv (hkd.trans hr3), hv, (fun z => nomatch z), by omega⟩
          · have hnb : ∀ r, kdT ts i ≠ .bin r := fun r z => hb ((bws_iff t).mpr ⟨r, hkd.symm.trans z⟩)
            have frm : ∀ {F' : Hp}, Same F'' F' → SqL K F' fr ((F.reverse.map fun n : Nat => (n : Int)).map V.int) := fun s => SqL.of (by rw [s _ _ hF, List.map_map]; rfl)
            refine r_ifF (fun F' => Same F'' F') (fun QB hQ => ?_) (fun F' sF => ?_)
            · walk_at "rdn"
              refine ⟨by show 3 ≤ sizeLine; decide, fun pl hpl => ?_⟩
              refine inT false (ss := bws3) upd_same (decide_eq_false hb) ?_
              exact ⟨_, rfl, hQ _ (same_new hpl)⟩
            by_cases hc : t = ")" ∧ F ≠ []
            · obtain ⟨f, F2, rfl⟩ : ∃ f F2, F = f :: F2 := by
                cases F with
                | nil => exact absurd rfl hc.2
                | cons f F2 => exact ⟨f, F2, rfl⟩
              refine r_ifT (fun F3 => Same F'' F3) (fun QB hQ => ?_) (fun F3 s3 => ?_)
              · walk_at "rdn"
                refine r_iteD (fun _ => ?_) (fun z => absurd hc.1 z)
                walk_at "rdn"
                refine ⟨Nat.zero_le _, fun pl hpl => ?_⟩
                have sp := same_new (o := .lst []) hpl
                refine r_neD (dp_ints (frm (sF.trans sp))) (dp_ints (A := []) (SqL.of upd_same)) (shaped_ints _) (shaped_ints _) ?_
                rw [eqv_lists, decide_eq_false (by simp)]
                exact ⟨_, rfl, hQ _ (sF.trans sp)⟩
              · have hi1 := hin (fun z => by rw [hc.1] at z; exact absurd z (by decide +kernel))
                have hF3 := s3 _ _ hF
                have hge : ((f :: F2).reverse.map fun n : Nat => V.int (n : Int))[((f :: F2).reverse.map fun n : Nat => V.int (n : Int)).length - 1]? = some (.int (f : Int)) := by
                  rw [List.reverse_cons, List.map_append, List.length_append, List.map_singleton, List.length_singleton, Nat.add_sub_cancel, List.getElem?_append_right (Nat.le_refl _), Nat.sub_self]
                  rfl
                have hdl : ((f :: F2).reverse.map fun n : Nat => V.int (n : Int)).dropLast = F2.reverse.map fun n : Nat => V.int (n : Int) := by
                  rw [List.reverse_cons, List.map_append, List.map_singleton]
                  exact List.dropLast_concat
                have hvs : v = 0 + ((f + 1) + fsum F2) := by rw [hv, hp0]; rfl
                have hAu2 := hAu.close_inv (hkd.trans (kd_lit.1.mp hc.1))
                have e1 : v - 1 - f = fsum F2 := by omega
                rw [e1] at hAu2
                have e2 : (v : Int) - 1 - (f : Int) = ((fsum F2 : Nat) : Int) := by omega
                walk_at "rd"
                refine ⟨.ref fr, rfl, ty_l (SqL.of hF3), fr, _, .int (f : Int), rfl, rfl, hF3, hge, ?_⟩
                rw [hdl]
                walk_at "rd"
                rw [e2]
                exact ⟨hi1, false, fsum F2, 0, F2, _, _, rfl, same_mut (sG.trans s3) hfr, upd_same, hAu2, by omega, (fun _ => rfl), by rw [List.length_cons] at hFl; omega⟩
            · refine r_ifF (fun F3 => Same F'' F3) (fun QB hQ => ?_) (fun F3 s3 => ?_)
              · walk_at "rdn"
                refine r_iteD (fun h1 => ?_) (fun _ => hQ _ sF)
                have hFn : F = [] := by
                  by_cases z : F = []
                  · exact z
                  · exact absurd ⟨h1, z⟩ hc
                walk_at "rdn"
                refine ⟨Nat.zero_le _, fun pl hpl => ?_⟩
                have sp := same_new (o := .lst []) hpl
                refine r_neD (dp_ints (frm (sF.trans sp))) (dp_ints (A := []) (SqL.of upd_same)) (shaped_ints _) (shaped_ints _) ?_
                rw [eqv_lists, hFn]
                exact ⟨_, rfl, hQ _ (sF.trans sp)⟩
              · have frm3 : ∀ {F' : Hp}, Same F3 F' → SqL K F' fr (F.reverse.map fun n : Nat => V.int (n : Int)) := fun s => SqL.of (s _ _ (s3 _ _ hF))
                have hil2 : t = "" → i = ts.length := fun z => by
                  by_cases hlt : i < ts.length
                  · have e2 : ts[i] = t := by rw [← et, List.getD_eq_getElem?_getD, List.getElem?_eq_getElem hlt]; rfl
                    exact absurd (e2.trans z) (hne _ (List.getElem_mem hlt))
                  · omega
                have hcond : ∀ QB : Bool → Hp → Prop, (∀ F4, Same F3 F4 → QB (decide (t = "" ∧ F = [])) F4) → (tAnd (tTest (tOp rEq (tVar 6) (tC (.str "")))) (tAnd (tTest (tOp rEq (tVar 5) (tCB (rLenQ K) (tCons (tVar 0) tNil)))) (tTest (tOp (rEqNil K) (tVar 1) (tLst tNil))))) [some (.ref tl), some (.ref fr), some (.int (p : Int)), some (.int (v : Int)), some (.bl false), some (.int (0 + (i : Int))), some (.str t)] F3 QB := by
                  intro QB hQ
                  walk_at "rdn"
                  refine r_iteD (fun h1 => ?_) (fun h1 => ?_)
                  · have hi2 := hil2 h1
                    walk_at "rdn"
                    refine r_lenL ((sG.trans s3).seq hL) ?_
                    rw [List.length_map]
                    walk_at "rdn"
                    refine r_iteD (fun _ => ?_) (fun z => absurd (by omega) z)
                    walk_at "rdn"
                    refine ⟨Nat.zero_le _, fun pl hpl => ?_⟩
                    have sp := same_new (o := .lst []) hpl
                    refine r_eqNil (frm3 sp) (SqL.of upd_same) ?_
                    refine ⟨_, rfl, ?_⟩
                    have e3 : decide ((F.reverse.map fun n : Nat => V.int (n : Int)).length = 0) = decide (t = "" ∧ F = []) := by
                      rw [List.length_map, List.length_reverse]
                      cases F with
                      | nil => rw [decide_eq_true (show ([] : List Nat).length = 0 from rfl), decide_eq_true ⟨h1, rfl⟩]
                      | cons f F2 => rw [decide_eq_false (by simp), decide_eq_false (fun z => nomatch z.2)]
                    rw [e3]
                    exact hQ _ sp
                  · have := hQ _ (fun _ _ z => z)
                    rw [decide_eq_false (fun z => h1 z.1)] at this
                    exact this
                by_cases he : t = "" ∧ F = []
                · refine r_ifT (fun F4 => Same F3 F4) (fun QB hQ => hcond QB fun F4 s4 => by rw [decide_eq_true he]; exact hQ _ s4) (fun F4 s4 => ?_)
                  walk_at "rd"
                  have hx : x = none := hAu.det (by rw [he.2]; exact .nEnd (hkd.trans (kd_lit.2.1.mp he.1)))
                  have := q F4 ((sG.trans s3).trans s4)
                  rw [hx] at this
                  exact this
                · refine r_ifF (fun F4 => Same F3 F4) (fun QB hQ => hcond QB fun F4 s4 => by rw [decide_eq_false he]; exact hQ _ s4) (fun F4 s4 => ?_)
                  walk_at "rd"
                  refine ret (hAu.det (.nBad hnb (fun z => ?_) (fun z => ?_))) (s3.trans s4)
                  · by_cases zF : F = []
                    · exact zF
                    · exact absurd ⟨kd_lit.1.mpr (hkd.symm.trans z), zF⟩ hc
                  · exact fun zF => he ⟨kd_lit.2.1.mpr (hkd.symm.trans z), zF⟩
    · exact absurd hP.1 (by omega)

end

section
variable {P : Program} {w : World} {K : PySem.W.Frag} {mg : Str → Option Value} {base : Heap} {a : Ad}
/-! ### tokens spoilt -/
def vocW : List Str := ["a", "b", "not", "and", "or", "since", "before", "(", ")", "start", "true", "ab", "until", "nota", ")", "(", "c", "d"]
def wds16 : List Str := ["a", "b", "not", "and", "or", "since", "before", "(", ")", "start", "true", "ab", "until", "nota", ")", "("]
def Vt (vs : List V) : Prop := ∃ us : List Str, vs = us.map V.str ∧ ∀ u ∈ us, u ∈ vocW
theorem Vt.cut {vs : List V} (h : Vt vs) (lo hi : Option Int) : Vt (cutV vs lo hi) := by
  obtain ⟨us, rfl, hu⟩ := h
  refine ⟨(us.drop (HT.sIx (us.map V.str).length 0 lo)).take (HT.sIx (us.map V.str).length (us.map V.str).length hi - HT.sIx (us.map V.str).length 0 lo), ?_, fun u hm => hu u (List.mem_of_mem_drop (List.mem_of_mem_take hm))⟩
  unfold cutV
  rw [List.map_take, List.map_drop]
theorem Vt.app {a b : List V} (h : Vt a) (g : Vt b) : Vt (a ++ b) := by
  obtain ⟨us, rfl, hu⟩ := h
  obtain ⟨ws, rfl, hw⟩ := g
  exact ⟨us ++ ws, List.map_append.symm, fun u hm => (List.mem_append.mp hm).elim (hu u) (hw u)⟩
theorem Vt.one {s : Str} (h : s ∈ vocW) : Vt [.str s] := ⟨[s], rfl, fun u hm => by rw [List.mem_singleton.mp hm]; exact h⟩
theorem len_to (xs : List V) (k : Nat) : (cutV xs none (some (k : Int))).length = min k xs.length := by
  unfold cutV
  rw [HT.sIx_none, HT.sIx_nat, List.length_take, List.length_drop]
  omega
theorem len_from (xs : List V) (k : Nat) : (cutV xs (some (k : Int)) none).length = xs.length - k := by
  rw [cut_drop, List.length_drop]
theorem len_mid (xs : List V) (i j : Nat) : (cutV xs (some (i : Int)) (some (j : Int))).length = min j xs.length - min i xs.length := by
  unfold cutV
  rw [HT.sIx_nat, HT.sIx_nat, List.length_take, List.length_drop]
  omega
def spSpoiltK (K : PySem.W.Frag) : Sp := fun vs H Q _ => ∃ (tl pn : Addr) (xs : List V) (ns : List Int), vs = [.ref tl, .ref pn] ∧ SqL K H tl xs ∧ Vt xs ∧ xs.length ≤ 900 ∧ SqL K H pn (ns.map V.int) ∧ 3 ≤ ns.length ∧
  ∀ (H' : Hp) (p : Addr) (ys : List V), Same H H' → H' p = some (.lst ys) → Vt ys → ys.length ≤ xs.length + 1 → Q (.ref p) H'
/-- an expression that makes a fresh list of tokens of length k, whatever has been made before -/
def Pc (σ : L2.St) (H : Hp) (te : TE) (k : Nat) : Prop := ∀ (F : Hp), Same H F → ∀ Q : VK, (∀ (F' : Hp) (l : Addr) (ys : List V), Same F F' → F' l = some (.lst ys) → Vt ys → ys.length = k → Q (.ref l) F') → te σ F Q
theorem Pc.cat {σ : L2.St} {H : Hp} {ta tb : TE} {k1 k2 : Nat} (h1 : Pc σ H ta k1) (h2 : Pc σ H tb k2) (hk : k1 + k2 ≤ 100000) : Pc σ H (tOp rCat ta tb) (k1 + k2) := by
  have zl : (sizeLine : Nat) = 16777216 := by decide
  intro F sF Q q
  refine r_op ?_
  refine h1 F sF _ fun F1 l1 ys1 s1 g1 v1 e1 => ?_
  refine h2 F1 (sF.trans s1) _ fun F2 l2 ys2 s2 g2 v2 e2 => ?_
  refine r_cat (s2 _ _ g1) g2 (by omega) fun p hp => ?_
  exact q _ p _ ((s1.trans s2).trans (same_new hp)) upd_same (v1.app v2) (by rw [List.length_append, e1, e2])
section
variable {K : PySem.W.Frag} {σ : L2.St} {H : Hp} {te tl th : TE} {p : Addr} {xs : List V} {n m : Nat}
theorem Pc.to (hL : SqL K H p xs) (hV : Vt xs) (h0 : ∀ (F : Hp) (Q : VK), Q (.ref p) F → te σ F Q) (h1 : ∀ (F : Hp) (Q : VK), Q (.int (n : Int)) F → th σ F Q) : Pc σ H (tSl (rSlL K) te tNoPart (tPart th)) (min n xs.length) := fun F sF Q q =>
  r_sl (h0 F _ (r_noPart (r_part (h1 F _ (r_pint (r_slL (sF.seq hL) fun l hl => q _ l _ (same_new hl) upd_same (hV.cut _ _) (len_to xs n)))))))
theorem Pc.from (hL : SqL K H p xs) (hV : Vt xs) (h0 : ∀ (F : Hp) (Q : VK), Q (.ref p) F → te σ F Q) (h1 : ∀ (F : Hp) (Q : VK), Q (.int (n : Int)) F → tl σ F Q) : Pc σ H (tSl (rSlL K) te (tPart tl) tNoPart) (xs.length - n) := fun F sF Q q =>
  r_sl (h0 F _ (r_part (h1 F _ (r_pint (r_noPart (r_slL (sF.seq hL) fun l hl => q _ l _ (same_new hl) upd_same (hV.cut _ _) (len_from xs n)))))))
theorem Pc.mid (hL : SqL K H p xs) (hV : Vt xs) (h0 : ∀ (F : Hp) (Q : VK), Q (.ref p) F → te σ F Q) (h1 : ∀ (F : Hp) (Q : VK), Q (.int (n : Int)) F → tl σ F Q) (h2 : ∀ (F : Hp) (Q : VK), Q (.int (m : Int)) F → th σ F Q) : Pc σ H (tSl (rSlL K) te (tPart tl) (tPart th)) (min m xs.length - min n xs.length) := fun F sF Q q =>
  r_sl (h0 F _ (r_part (h1 F _ (r_pint (r_part (h2 F _ (r_pint (r_slL (sF.seq hL) fun l hl => q _ l _ (same_new hl) upd_same (hV.cut _ _) (len_mid xs n m)))))))))
theorem Pc.one {s : Str} (hs : s ∈ vocW) (h0 : ∀ (F : Hp) (Q : VK), Q (.str s) F → te σ F Q) : Pc σ H (tLst (tCons te tNil)) 1 := fun F sF Q q =>
  r_lst (r_cons (h0 F _ (r_nil ⟨by show 1 ≤ sizeLine; decide, fun l hl => q _ l _ (same_new hl) upd_same (Vt.one hs) rfl⟩)))
end
theorem strs_atW {ss : List Str} {i : Int} (h0 : 0 ≤ i) (h1 : i < ss.length) : ∃ s, s ∈ ss ∧ atI (ss.map V.str) i = some (.str s) := by
  have hi : i.toNat < ss.length := by omega
  refine ⟨ss[i.toNat], List.getElem_mem hi, at_of (j := i.toNat) (by omega) ?_⟩
  rw [List.getElem?_map, List.getElem?_eq_getElem hi]
  rfl
theorem ok_l_spoilt (T : Txt K mg a) : FnOk P w K mg base CX0 1 a.f_l_spoilt a.d_l_spoilt ["tokens", "numbers"] (spSpoiltK K) := by
  refine T.F_l_spoilt.ok sc_l_spoilt (fun vs H Q E h => ?_) (fun cdv A outer s H vs Q E hr h => ?_)
  · obtain ⟨tl, pn, xs, ns, rfl, _⟩ := h
    rfl
  · obtain ⟨tl, pn, xs, ns, rfl, hL, hV, hlen, hN, hn3, q⟩ := h
    have zl : (sizeLine : Nat) = 16777216 := by decide
    refine ⟨_, (pss_cons (ps_set (i := 2) sc_l_spoilt.nd rfl (Or.inl rfl) (pe_op op_mod (pe_ix (ix_listK (K := K) rfl) (pv 1) pe_int (fun _ _ => rfl)) (pe_op op_add (pe_callB (call_lenQK (K := K) rfl) (by rfl) T.z_len (by decide +kernel) (pa_cons (pv 0) pa_nil)) pe_int)))
      (pss_cons (ps_set (i := 3) sc_l_spoilt.nd rfl (Or.inl rfl) (pe_lst (pa_cons pe_str (pa_cons pe_str (pa_cons pe_str (pa_cons pe_str (pa_cons pe_str (pa_cons pe_str (pa_cons pe_str (pa_cons pe_str (pa_cons pe_str (pa_cons pe_str (pa_cons pe_str (pa_cons pe_str (pa_cons pe_str (pa_cons pe_str (pa_cons pe_str (pa_cons pe_str pa_nil))))))))))))))))))
      (pss_cons (ps_set (i := 4) sc_l_spoilt.nd rfl (Or.inl rfl) (pe_ix (ix_listK (K := K) rfl) (pv 3) (pe_op op_mod (pe_ix (ix_listK (K := K) rfl) (pv 1) pe_int (fun _ _ => rfl)) pe_int) (fun _ _ => rfl)))
      (pss_cons (ps_set (i := 5) sc_l_spoilt.nd rfl (Or.inl rfl) (pe_op op_mod (pe_ix (ix_listK (K := K) rfl) (pv 1) pe_int (fun _ _ => rfl)) pe_int))
      (pss_cons (ps_if (pt_cmpR op_eq (pv 5) pe_int (nomark _)) (pss_one (ps_ret (pe_op op_cat (pe_slice (sl_listK (K := K) rfl) (pv 0) po_none (po_some (pv 2))) (pe_slice (sl_listK (K := K) rfl) (pv 0) (po_some (pe_op op_add (pv 2) pe_int)) po_none)))) pss_nil)
      (pss_cons (ps_if (pt_cmpR op_eq (pv 5) pe_int (nomark _)) (pss_one (ps_ret (pe_op op_cat (pe_op op_cat (pe_slice (sl_listK (K := K) rfl) (pv 0) po_none (po_some (pv 2))) (pe_slice (sl_listK (K := K) rfl) (pv 0) (po_some (pv 2)) (po_some (pe_op op_add (pv 2) pe_int)))) (pe_slice (sl_listK (K := K) rfl) (pv 0) (po_some (pv 2)) po_none)))) pss_nil)
      (pss_cons (ps_if (pt_cmpR op_eq (pv 5) pe_int (nomark _)) (pss_one (ps_ret (pe_op op_cat (pe_op op_cat (pe_slice (sl_listK (K := K) rfl) (pv 0) po_none (po_some (pv 2))) (pe_lst (pa_cons (pv 4) pa_nil))) (pe_slice (sl_listK (K := K) rfl) (pv 0) (po_some (pe_op op_add (pv 2) pe_int)) po_none)))) pss_nil)
      (pss_cons (ps_if (pt_cmpR op_eq (pv 5) pe_int (nomark _)) (pss_one (ps_ret (pe_op op_cat (pe_op op_cat (pe_slice (sl_listK (K := K) rfl) (pv 0) po_none (po_some (pv 2))) (pe_lst (pa_cons (pv 4) pa_nil))) (pe_slice (sl_listK (K := K) rfl) (pv 0) (po_some (pv 2)) po_none)))) pss_nil)
      (pss_cons (ps_if (pt_cmpR op_eq (pv 5) pe_int (nomark _)) (pss_one (ps_ret (pe_slice (sl_listK (K := K) rfl) (pv 0) po_none (po_some (pv 2))))) pss_nil)
      (pss_one (ps_ret (pe_op op_cat (pe_op op_cat (pe_op op_cat (pe_slice (sl_listK (K := K) rfl) (pv 0) po_none (po_some (pv 2))) (pe_slice (sl_listK (K := K) rfl) (pv 0) (po_some (pe_op op_add (pv 2) pe_int)) (po_some (pe_op op_add (pv 2) pe_int)))) (pe_slice (sl_listK (K := K) rfl) (pv 0) (po_some (pv 2)) (po_some (pe_op op_add (pv 2) pe_int)))) (pe_slice (sl_listK (K := K) rfl) (pv 0) (po_some (pe_op op_add (pv 2) pe_int)) po_none))))))))))))), ?_⟩
    walk_at "rd"
    refine r_ixL hN (at_int (by decide) (by omega)) ?_
    walk_at "rd"
    refine r_lenL hL ?_
    walk_at "rd"
    refine r_mod (by omega) ?_
    obtain ⟨n, en, hnl⟩ : ∃ n : Nat, ns.getD (0 : Int).toNat 0 % ((xs.length : Nat) + 1 : Int) = (n : Int) ∧ n ≤ xs.length := by
      have g := emod_rng (ns.getD (0 : Int).toNat 0) (b := (xs.length : Int) + 1) (by omega)
      exact ⟨(ns.getD (0 : Int).toNat 0 % ((xs.length : Nat) + 1 : Int)).toNat, by omega, by omega⟩
    rw [en]
    walk_at "rd"
    refine ⟨by show 16 ≤ sizeLine; decide, fun pw hpw => ?_⟩
    have s1 := same_new (o := .lst (wds16.map V.str)) hpw
    walk_at "rd"
    refine r_ixL (s1.seq hN) (at_int (by decide) (by omega)) ?_
    walk_at "rd"
    have m16 := emod_rng (ns.getD (1 : Int).toNat 0) (b := 16) (by decide)
    obtain ⟨s, hs, hat⟩ := strs_atW (ss := wds16) m16.1 m16.2
    refine r_ixL (SqL.of upd_same) hat ?_
    have hsv : s ∈ vocW := by
      have k : ∀ s ∈ wds16, s ∈ vocW := by decide +kernel
      exact k s hs
    walk_at "rd"
    refine r_ixL (s1.seq hN) (at_int (by decide) (by omega)) ?_
    walk_at "rd"
    refine r_iteD (fun _ => ?_) (fun _ => ?_)
    · refine r_ret ?_
      exact (Pc.cat (Pc.to (n := n) hL hV (fun F Q q => r_var rfl q) (fun F Q q => r_var rfl q)) (Pc.from (n := n + 1) hL hV (fun F Q q => r_var rfl q) (fun F Q q => r_op (r_var rfl (r_c (r_I0 q))))) (by omega)) _ s1 _ (fun F' l ys s' hl hv hk => q F' l ys (s1.trans s') hl hv (by omega))
    refine r_next ?_
    walk_at "rdn"
    walk_at "rd"
    refine r_iteD (fun _ => ?_) (fun _ => ?_)
    · refine r_ret ?_
      exact (Pc.cat (Pc.cat (Pc.to (n := n) hL hV (fun F Q q => r_var rfl q) (fun F Q q => r_var rfl q)) (Pc.mid (n := n) (m := n + 1) hL hV (fun F Q q => r_var rfl q) (fun F Q q => r_var rfl q) (fun F Q q => r_op (r_var rfl (r_c (r_I0 q))))) (by omega)) (Pc.from (n := n) hL hV (fun F Q q => r_var rfl q) (fun F Q q => r_var rfl q)) (by omega)) _ s1 _ (fun F' l ys s' hl hv hk => q F' l ys (s1.trans s') hl hv (by omega))
    refine r_next ?_
    walk_at "rdn"
    walk_at "rd"
    refine r_iteD (fun _ => ?_) (fun _ => ?_)
    · refine r_ret ?_
      exact (Pc.cat (Pc.cat (Pc.to (n := n) hL hV (fun F Q q => r_var rfl q) (fun F Q q => r_var rfl q)) (Pc.one hsv (fun F Q q => r_var rfl q)) (by omega)) (Pc.from (n := n + 1) hL hV (fun F Q q => r_var rfl q) (fun F Q q => r_op (r_var rfl (r_c (r_I0 q))))) (by omega)) _ s1 _ (fun F' l ys s' hl hv hk => q F' l ys (s1.trans s') hl hv (by omega))
    refine r_next ?_
    walk_at "rdn"
    walk_at "rd"
    refine r_iteD (fun _ => ?_) (fun _ => ?_)
    · refine r_ret ?_
      exact (Pc.cat (Pc.cat (Pc.to (n := n) hL hV (fun F Q q => r_var rfl q) (fun F Q q => r_var rfl q)) (Pc.one hsv (fun F Q q => r_var rfl q)) (by omega)) (Pc.from (n := n) hL hV (fun F Q q => r_var rfl q) (fun F Q q => r_var rfl q)) (by omega)) _ s1 _ (fun F' l ys s' hl hv hk => q F' l ys (s1.trans s') hl hv (by omega))
    refine r_next ?_
    walk_at "rdn"
    walk_at "rd"
    refine r_iteD (fun _ => ?_) (fun _ => ?_)
    · refine r_ret ?_
      exact (Pc.to (n := n) hL hV (fun F Q q => r_var rfl q) (fun F Q q => r_var rfl q)) _ s1 _ (fun F' l ys s' hl hv hk => q F' l ys (s1.trans s') hl hv (by omega))
    refine r_next ?_
    dsimp only
    refine r_ret ?_
    exact (Pc.cat (Pc.cat (Pc.cat (Pc.to (n := n) hL hV (fun F Q q => r_var rfl q) (fun F Q q => r_var rfl q)) (Pc.mid (n := n + 1) (m := n + 2) hL hV (fun F Q q => r_var rfl q) (fun F Q q => r_op (r_var rfl (r_c (r_I0 q)))) (fun F Q q => r_op (r_var rfl (r_c (r_I0 q))))) (by omega)) (Pc.mid (n := n) (m := n + 1) hL hV (fun F Q q => r_var rfl q) (fun F Q q => r_var rfl q) (fun F Q q => r_op (r_var rfl (r_c (r_I0 q))))) (by omega)) (Pc.from (n := n + 2) hL hV (fun F Q q => r_var rfl q) (fun F Q q => r_op (r_var rfl (r_c (r_I0 q))))) (by omega)) _ s1 _ (fun F' l ys s' hl hv hk => q F' l ys (s1.trans s') hl hv (by omega))

end

section
variable {P : Program} {w : World} {K : PySem.W.Frag} {mg : Str → Option Value} {base : Heap} {a : Ad}
def spColumn (K : PySem.W.Frag) : Sp := fun vs H Q _ => ∃ (cs : List Nat) (y : Except Nat Nat) (col : Int), vs = [sV cs] ∧ cs.length ≤ 80000 ∧
  (∀ (i c : Nat), cs[i]? = some c → okc c = false → (∀ c' ∈ cs.take i, okc c' = true) → col = (i : Int) + 1) ∧
  ((∀ c ∈ cs, okc c = true) → (∀ w ∈ wsOf cs, w ≠ "") ∧ (∀ t ∈ (lexF 0 ([], false) cs).1, t.2 ≤ cs.length) ∧ RdR (kdS ∘ fun i => (wsOf cs ++ [("" : Str)]).getD i "") (.op 0 0 0) y ∧
    (∀ k, y = .ok k → k = (wsOf cs).length → col = 0) ∧
    (∀ (j : Nat) (c : Int), (y = .error j ∨ y = .ok j ∧ j ≠ (wsOf cs).length) → (colsOf cs)[j]? = some c → col = c)) ∧ ∀ H', Q (.int col) H'
theorem ok_l_column (T : Txt K mg a) (hp : P = a.pg) : FnOk P w K mg base CX0 83 a.f_l_column a.d_l_column ["text"] (spColumn K) := by
  have G_read_formula := ok_read_formula (P := P) (w := w) (base := base) T hp
  refine T.F_l_column.ok sc_l_column (fun vs H Q E h => ?_) (fun cdv A outer s H vs Q E hr h => ?_)
  · obtain ⟨cs, y, col, rfl, _⟩ := h
    rfl
  · obtain ⟨cs, y, col, rfl, hlen, hb, hg, q⟩ := h
    refine ⟨_, (pss_cons (ps_tryAs (i := 1) rfl rfl sc_l_column.nd rfl rfl ⟨by rfl, by decide, .inl T.gk_SyntaxFault⟩ takes0 (fun W pn xe tk _ => (pss_one (ps_expr (pe_callS (G_read_formula) (hr.mono (by first | decide | omega)) (by rfl) T.g_read_formula T.F_read_formula.kp T.b_read_formula (fun σ => passAt tk σ) (pa_cons (pv 0) pa_nil))))) (fun a' oe cls d pn hz hf => (pss_cons (ps_if (PW.pt (pw_or (pt_not (pt_val (pe_callB (call_isI hz hf) (by rfl) T.z_isinstance (by decide +kernel) (pa_cons (pv 1) (pa_cons (pe_glob (v := V.ref a.k_MachineError) (by rfl) T.gk_MachineError rfl) pa_nil))))) (pw_or (pt_not (pt_val (pe_callB (call_isI hz hf) (by rfl) T.z_isinstance (by decide +kernel) (pa_cons (pv 1) (pa_cons (pe_bltn (by rfl) T.z_ValueError (v := V.ty "ValueError") (u := Value.type "ValueError") (by decide +kernel) rfl) pa_nil))))) (pw_or1 (pt_val (pe_callB (call_isI hz hf) (by rfl) T.z_isinstance (by decide +kernel) (pa_cons (pv 1) (pa_cons (pe_glob (v := V.ref a.k_InvalidLines) (by rfl) T.gk_InvalidLines rfl) pa_nil)))))))) (pss_one (ps_ret (pe_un un_neg pe_int))) pss_nil)
      (pss_one (ps_ret (pe_xf T.x_SyntaxFault.xf T.x_SyntaxFault.no hz hf (pv 1)))))))
      (pss_one (ps_ret pe_int))), ?_⟩
    walk_at "rd"
    refine r_tryAs ?_
    walk_at "rd"
    refine r_callS ?_
    walk_at "rd"
    refine ⟨cs, y, rfl, hlen, fun i c hi hc hall H' dx hd => ?_, fun hok => ?_⟩
    · rw [← hb i c hi hc hall] at hd
      refine ⟨true, T.em_SyntaxFault_SyntaxFault, fun _ ae hae => ?_, fun z => nomatch z⟩
      walk_at "rd"
      refine r_isI T.x_SyntaxFault.e hd (fun u r => r) T.ki_SyntaxFault_MachineError ?_
      walk_at "rd"
      refine r_isI T.x_SyntaxFault.e hd (fun u r => r) T.ki_SyntaxFault_ValueError ?_
      walk_at "rd"
      refine r_isI T.x_SyntaxFault.e hd (fun u r => r) T.ki_SyntaxFault_InvalidLines ?_
      walk_at "rd"
      exact ⟨_, rfl, rfl, rfl, dx, _, _, rfl, hd, rfl, q _⟩
    obtain ⟨g1, g2, g3, g4, g5⟩ := hg hok
    refine ⟨g1, g2, g3, fun k hy hk H' p => ?_, fun j c hj hc H' dx hd => ?_⟩
    · walk_at "rd"
      rw [← g4 k hy hk]
      exact q _
    · rw [← g5 j c hj hc] at hd
      refine ⟨true, T.em_SyntaxFault_SyntaxFault, fun _ ae hae => ?_, fun z => nomatch z⟩
      walk_at "rd"
      refine r_isI T.x_SyntaxFault.e hd (fun u r => r) T.ki_SyntaxFault_MachineError ?_
      walk_at "rd"
      refine r_isI T.x_SyntaxFault.e hd (fun u r => r) T.ki_SyntaxFault_ValueError ?_
      walk_at "rd"
      refine r_isI T.x_SyntaxFault.e hd (fun u r => r) T.ki_SyntaxFault_InvalidLines ?_
      walk_at "rd"
      exact ⟨_, rfl, rfl, rfl, dx, _, _, rfl, hd, rfl, q _⟩

end

theorem vocW_ok : ∀ v ∈ vocW, (decide (v.cps.toList.length ≤ 8) && ((par v && decide (v.cps.toList = [40] ∨ v.cps.toList = [41])) || (!par v && (decide (v.cps.toList ≠ []) && v.cps.toList.all sml)))) = true := by decide +kernel
theorem vocW_ne : ∀ v ∈ vocW, v ≠ "" := by decide +kernel
theorem voc_in : ∀ v ∈ (["a", "b", "c", "d", "start", "true", "not", "before", "(", ")", "or", "and", "since"] : List Str), v ∈ vocW := by decide +kernel
theorem kdS_lt {t : Str} {r : Nat} (h : kdS t = .bin r) : r < 3 := by
  have hb : ∀ u ∈ bws3, kdS u = .bin 0 ∨ kdS u = .bin 1 ∨ kdS u = .bin 2 := by decide +kernel
  have hm : t ∈ bws3 := (bws_iff t).mpr ⟨r, h⟩
  rcases hb t hm with e | e | e
  all_goals
    rw [e] at h
    have := TK.bin.inj h
    omega
theorem wsOf_zip {cs : List Nat} {ts : List Str} {cols : List Int} (h : (lexF 0 ([], false) cs).1.map tkC = ts.zip cols) (hl : cols.length = ts.length) : wsOf cs = ts := by
  have e := congrArg (List.map Prod.fst) h
  rw [List.map_map, List.map_fst_zip (by omega)] at e
  exact e
theorem colsOf_zip {cs : List Nat} {ts : List Str} {cols : List Int} (h : (lexF 0 ([], false) cs).1.map tkC = ts.zip cols) (hl : cols.length = ts.length) : colsOf cs = cols ++ [(cs.length : Int) + 1] := by
  have e := congrArg (List.map Prod.snd) h
  rw [List.map_map, List.map_snd_zip (by omega)] at e
  exact congrArg (fun x : List Int => x ++ [(cs.length : Int) + 1]) e
theorem lex_pos : ∀ (cs : List Nat) (i : Nat) (st : LT × Bool), (∀ t ∈ st.1, t.2 ≤ i) → ∀ t ∈ (lexF i st cs).1, t.2 ≤ i + cs.length
  | [], _, _, h => h
  | c :: cs, i, st, h => by
    have ih := lex_pos cs (i + 1) (lexStep i st c) (fun t ht => ?_)
    · rw [List.length_cons, show i + (cs.length + 1) = i + 1 + cs.length by omega]
      exact ih
    · unfold lexStep at ht
      dsimp only at ht
      split at ht
      · rcases List.mem_append.mp ht with ht | ht
        · exact Nat.le_succ_of_le (h t (List.dropLast_subset _ ht))
        · rw [List.mem_singleton.mp ht]
          show (st.1.getLastD ([], 0)).2 ≤ i + 1
          cases hs : st.1 with
          | nil => exact Nat.zero_le _
          | cons x l =>
            have hm : (x :: l).getLastD ([], 0) ∈ x :: l := by
              rw [List.getLastD_cons, List.getLastD_eq_getLast?]
              cases hl : l.getLast? with
              | none => exact List.mem_cons_self
              | some y => exact List.mem_cons_of_mem _ (List.mem_of_getLast? hl)
            exact Nat.le_succ_of_le (h _ (by rw [hs]; exact hm))
      · split at ht
        · exact Nat.le_succ_of_le (h t ht)
        · rcases List.mem_append.mp ht with ht | ht
          · exact Nat.le_succ_of_le (h t ht)
          · rw [List.mem_singleton.mp ht]
            exact Nat.le_refl _
/-- what the law says of a text -/
def ColOk (cs : List Nat) (col : Int) : Prop := ∃ y : Except Nat Nat, (∀ (i c : Nat), cs[i]? = some c → okc c = false → (∀ c' ∈ cs.take i, okc c' = true) → col = (i : Int) + 1) ∧
  ((∀ c ∈ cs, okc c = true) → (∀ w ∈ wsOf cs, w ≠ "") ∧ (∀ t ∈ (lexF 0 ([], false) cs).1, t.2 ≤ cs.length) ∧ RdR (kdS ∘ fun i => (wsOf cs ++ [("" : Str)]).getD i "") (.op 0 0 0) y ∧
    (∀ k, y = .ok k → k = (wsOf cs).length → col = 0) ∧
    (∀ (j : Nat) (c : Int), (y = .error j ∨ y = .ok j ∧ j ≠ (wsOf cs).length) → (colsOf cs)[j]? = some c → col = c))
theorem colOk_bad {cs : List Nat} {n z : Nat} (h : ∀ c ∈ cs, okc c = true) (hz : okc z = false) (hn : n ≤ cs.length) : ColOk (cs.take n ++ z :: cs.drop n) ((n : Int) + 1) := by
  have hl : (cs.take n).length = n := by rw [List.length_take]; omega
  refine ⟨.ok 0, fun i c hi hc hall => ?_, fun hok => ?_⟩
  · rcases Nat.lt_trichotomy i n with g | g | g
    · rw [List.getElem?_append_left (by omega)] at hi
      have := h c (List.mem_of_mem_take (List.mem_of_getElem? hi))
      rw [hc] at this
      exact nomatch this
    · rw [g]
    · have hm : z ∈ (cs.take n ++ z :: cs.drop n).take i := by
        rw [List.take_append]
        refine List.mem_append_right _ ?_
        rw [hl, show i - n = (i - n - 1) + 1 by omega, List.take_succ_cons]
        exact List.mem_cons_self
      have := hall z hm
      rw [hz] at this
      exact nomatch this
  · have := hok z (List.mem_append_right _ List.mem_cons_self)
    rw [hz] at this
    exact nomatch this
theorem kdT_eq (ts : List Str) : (kdS ∘ fun i => (ts ++ [("" : Str)]).getD i "") = kdT ts := by
  funext i
  show kdS ((ts ++ [("" : Str)]).getD i "") = kdS (ts.getD i "")
  rw [List.getD_eq_getElem?_getD, List.getD_eq_getElem?_getD]
  rcases Nat.lt_trichotomy i ts.length with g | g | g
  · rw [List.getElem?_append_left g]
  · rw [g, List.getElem?_append_right (Nat.le_refl _), Nat.sub_self, List.getElem?_eq_none (Nat.le_refl _)]
    rfl
  · rw [List.getElem?_eq_none (by rw [List.length_append, List.length_singleton]; omega), List.getElem?_eq_none (by omega)]
theorem kdT_end (ts : List Str) (k : Nat) (h : ts.length ≤ k) : kdT ts k = .eof := by
  unfold kdT
  rw [List.getD_eq_getElem?_getD, List.getElem?_eq_none h]
  exact kd_lit.2.1.mp rfl
theorem kdT_in {ts : List Str} (hne : ∀ t ∈ ts, t ≠ "") {k : Nat} (h : k < ts.length) : kdT ts k ≠ .eof := fun e => by
  unfold kdT at e
  rw [List.getD_eq_getElem?_getD, List.getElem?_eq_getElem h] at e
  exact hne _ (List.getElem_mem h) (kd_lit.2.1.mpr e)
/-- the law's walk and the reader -/
theorem colOk_good {cs : List Nat} {ts : List Str} {cols : List Int} (hok : ∀ c ∈ cs, okc c = true) (hlex : (lexF 0 ([], false) cs).1.map tkC = ts.zip cols) (hl : cols.length = ts.length) (hne : ∀ t ∈ ts, t ≠ "") :
    ∃ x : Option Nat, AuR (kdT ts) true 0 0 [] 0 x ∧ (∀ k, x = some k → k ≤ ts.length) ∧ ColOk cs (match x with | none => 0 | some k => (cols ++ [(cs.length : Int) + 1]).getD k 0) := by
  obtain ⟨y, hy⟩ := (RdR.total (kd := kdT ts) (kdT_end ts) ts.length 0 0 (by omega) (by decide)).2.1 0 (by decide)
  have hin := hy.within (kdT_end ts) (Nat.zero_le _)
  have ews := wsOf_zip hlex hl
  have bad0 : ∀ col : Int, ∀ (i c : Nat), cs[i]? = some c → okc c = false → (∀ c' ∈ cs.take i, okc c' = true) → col = (i : Int) + 1 := fun col i c hi hc _ => by
    have := hok c (List.mem_of_getElem? hi)
    rw [hc] at this
    exact nomatch this
  have pos : ∀ t ∈ (lexF 0 ([], false) cs).1, t.2 ≤ cs.length := fun t ht => by
    have := lex_pos cs 0 ([], false) (fun _ z => nomatch z) t ht
    omega
  have hy' : RdR (kdS ∘ fun i => (wsOf cs ++ [("" : Str)]).getD i "") (.op 0 0 0) y := by rw [ews, kdT_eq]; exact hy
  have fin : ∀ (j : Nat) (c : Int), (colsOf cs)[j]? = some c → (cols ++ [(cs.length : Int) + 1]).getD j 0 = c := fun j c hc => by
    rw [colsOf_zip hlex hl] at hc
    rw [List.getD_eq_getElem?_getD, hc]
    rfl
  cases y with
  | error k =>
    have hw : AuR (kdT ts) true 0 0 [] 0 (some k) := hy.whole fun k r h => kdS_lt h
    refine ⟨some k, hw, fun k' e => by cases e; exact hin.2 _ rfl, .error k, bad0 _, fun _ => ⟨by rw [ews]; exact hne, pos, hy', (fun k' e => nomatch e), fun j c hj hc => ?_⟩⟩
    rcases hj with e | ⟨e, _⟩
    · cases e
      exact fin _ c hc
    · exact nomatch e
  | ok k =>
    have hw : AuR (kdT ts) true 0 0 [] 0 (if kdT ts k = .eof then none else some k) := hy.whole fun k r h => kdS_lt h
    have hk := hin.1 k rfl
    by_cases e : kdT ts k = .eof
    · rw [if_pos e] at hw
      have hkl : k = ts.length := by
        rcases Nat.lt_or_ge k ts.length with g | g
        · exact absurd e (kdT_in hne g)
        · omega
      refine ⟨none, hw, (fun k' e => nomatch e), .ok k, bad0 _, fun _ => ⟨by rw [ews]; exact hne, pos, hy', fun _ _ _ => rfl, fun j c hj hc => ?_⟩⟩
      rcases hj with e2 | ⟨e2, e3⟩
      · exact nomatch e2
      · cases e2
        rw [ews] at e3
        exact absurd hkl e3
    · rw [if_neg e] at hw
      refine ⟨some k, hw, fun k' e => by cases e; exact hk, .ok k, bad0 _, fun _ => ⟨by rw [ews]; exact hne, pos, hy', fun k' e2 e3 => ?_, fun j c hj hc => ?_⟩⟩
      · cases e2
        rw [ews] at e3
        exact absurd (kdT_end ts k (by omega)) e
      · rcases hj with e2 | ⟨e2, e3⟩
        · exact nomatch e2
        · cases e2
          exact fin _ c hc
theorem cutV_le (xs : List V) (lo hi : Option Int) : (cutV xs lo hi).length ≤ xs.length := by
  unfold cutV
  rw [List.length_take, List.length_drop]
  omega
theorem Vt.rep (n : Nat) {s : Str} (hs : s ∈ vocW) : Vt (List.replicate n [V.str s]).flatten := by
  induction n with
  | zero => exact ⟨[], rfl, fun _ z => nomatch z⟩
  | succ n ih =>
    rw [List.replicate_succ, List.flatten_cons]
    exact (Vt.one hs).app ih
theorem rep_len (n : Nat) (s : Str) : (List.replicate n [V.str s]).flatten.length = n := by
  induction n with
  | zero => rfl
  | succ n ih =>
    rw [List.replicate_succ, List.flatten_cons, List.length_append, ih]
    show 1 + n = n + 1
    omega
theorem cut_at (cs : List Nat) (n : Nat) (h : n ≤ cs.length) : cutS ⟨cs.toArray⟩ none (some (n : Int)) = ⟨(cs.take n).toArray⟩ ∧ cutS ⟨cs.toArray⟩ (some (n : Int)) none = ⟨(cs.drop n).toArray⟩ := by
  have e : (⟨cs.toArray⟩ : Str).length = cs.length := str_len cs
  constructor
  · unfold cutS
    rw [six_nat, HT.sIx_none, e, Nat.min_eq_left h, Nat.sub_zero, List.drop_zero]
  · unfold cutS
    rw [six_nat, HT.sIx_none, e, Nat.min_eq_left h, List.take_of_length_le (by rw [List.length_drop]; exact Nat.le_refl _)]


section
variable {P : Program} {w : World} {K : PySem.W.Frag} {mg : Str → Option Value} {base : Heap} {a : Ad}
theorem strs_nat {ss : List Str} {i : Int} (h0 : 0 ≤ i) (h1 : i < ss.length) : ∃ s, s ∈ ss ∧ atI (ss.map V.str) i = some (.str s) := strs_atW h0 h1
def bads : List Str := ["A", "1", "|", "=", "~", "&", "\t"]
theorem bads_ok : ∀ s ∈ bads, ∃ z, s = ⟨[z].toArray⟩ ∧ okc z = false := by
  have h : ∀ s ∈ bads, s = ⟨[s.cps.toList.headD 0].toArray⟩ ∧ okc (s.cps.toList.headD 0) = false := by decide +kernel
  exact fun s hs => ⟨_, h s hs⟩
def sp_law (K : PySem.W.Frag) (a : Ad) : Sp := fun vs H Q _ => ∃ (pa : Addr) (ns : List Int), vs = [.ref pa] ∧ SqL K H pa (ns.map V.int) ∧ ns.length ≤ 63 ∧ LamX.Tabs (tabsOf a) H ∧ ∀ H', Q (.bl true) H'
theorem ok_law (T : Txt K mg a) (hp : P = a.pg) : FnOk P w K mg base CX0 84 a.f_law a.d_law ["script"] (sp_law K a) := by
  have G_l_cell := ok_l_cell (P := P) (w := w) (base := base) T
  have G_l_column := ok_l_column (P := P) (w := w) (base := base) T hp
  have G_l_fault := ok_l_fault (P := P) (w := w) (base := base) T
  have G_l_formula := ok_l_formula (P := P) (w := w) (base := base) T
  have G_l_numbers := ok_l_numbers (P := P) (w := w) (base := base) T
  have G_l_printed := ok_l_printed (P := P) (w := w) (base := base) T
  have G_l_spoilt := ok_l_spoilt (P := P) (w := w) (base := base) T
  refine T.F_law.ok sc_law (fun vs H Q E h => ?_) (fun cdv A outer s H vs Q E hr h => ?_)
  · obtain ⟨l, ns, rfl, _⟩ := h
    rfl
  · obtain ⟨l, sc, rfl, hS, _, _, q⟩ := h
    have zl : (sizeLine : Nat) = 16777216 := by decide
    refine ⟨_, (pss_cons (ps_set (i := 1) sc_law.nd rfl (Or.inl rfl) (pe_call (G_l_numbers) (hr.mono (by first | decide | omega)) (by rfl) T.g_l_numbers T.F_l_numbers.kp T.b_l_numbers .nil pass0 (pa_cons (pe_call (G_l_cell) (hr.mono (by first | decide | omega)) (by rfl) T.g_l_cell T.F_l_cell.kp T.b_l_cell .nil pass0 (pa_cons (pv 0) (pa_cons pe_int pa_nil))) (pa_cons pe_int pa_nil))))
      (pss_cons (ps_set (i := 2) sc_law.nd rfl (Or.inl rfl) (pe_ix (ix_tupK (K := K) rfl) (pe_call (G_l_formula) (hr.mono (by first | decide | omega)) (by rfl) T.g_l_formula T.F_l_formula.kp T.b_l_formula .nil pass0 (pa_cons (pv 0) (pa_cons pe_int (pa_cons (pe_op op_add pe_int (pe_op op_mod (pe_ix (ix_listK (K := K) rfl) (pv 1) pe_int (fun _ _ => rfl)) pe_int)) pa_nil)))) pe_int (fun _ _ => rfl)))
      (pss_cons (ps_if (pt_cmpR op_eq (pe_op op_mod (pe_ix (ix_listK (K := K) rfl) (pv 1) pe_int (fun _ _ => rfl)) pe_int) pe_int (nomark _)) (pss_cons (ps_set (i := 3) sc_law.nd rfl (Or.inl rfl) (pe_lst pa_nil))
      (pss_cons (ps_for PassesOwn.never rfl (pi_range1 (by rfl) T.z_range (pa_cons (pe_op op_add pe_int (pe_op op_mod (pe_ix (ix_listK (K := K) rfl) (pv 1) pe_int (fun _ _ => rfl)) pe_int)) pa_nil)) (pg_name (i := 4) sc_law.nd rfl (Or.inl rfl)) (pss_one (ps_expr (bmK (K := K) rfl (pe_bm PySem.F.plainAttrs_list PySem.F.slot_list_append PySem.F.type_list_append mt_append (pv 3) (pa_cons (pe_ix (ix_listK (K := K) rfl) (pe_lst (pa_cons pe_str (pa_cons pe_str (pa_cons pe_str pa_nil)))) (pe_op op_mod (pe_op op_fdiv (pe_op op_mul (pe_ix (ix_listK (K := K) rfl) (pv 1) pe_int (fun _ _ => rfl)) (pe_op op_add (pv 4) pe_int)) pe_int) pe_int) (fun _ _ => rfl)) pa_nil))))))
      (pss_one (ps_set (i := 2) sc_law.nd rfl (Or.inl rfl) (pe_op op_cat (pe_op op_cat (pe_op op_cat (pe_slice (sl_listK (K := K) rfl) (pv 2) po_none (po_some (pe_un un_neg pe_int))) (pv 3)) (pe_slice (sl_listK (K := K) rfl) (pv 2) (po_some (pe_un un_neg pe_int)) po_none)) (pe_op op_rep (pe_lst (pa_cons pe_str pa_nil)) (pe_op op_sub (bmK (K := K) rfl (pe_bm PySem.F.plainAttrs_list PySem.F.slot_list_count PySem.F.type_list_count (mt_lcntS (K := K) rfl) (pv 3) (pa_cons pe_str pa_nil))) (pe_op op_fdiv (pe_op op_mod (pe_ix (ix_listK (K := K) rfl) (pv 1) pe_int (fun _ _ => rfl)) pe_int) pe_int)))))))) pss_nil)
      (pss_cons (ps_for PassesOwn.never rfl (pi_range1 (by rfl) T.z_range (pa_cons (pe_op op_mod (pe_ix (ix_listK (K := K) rfl) (pv 1) pe_int (fun _ _ => rfl)) pe_int) pa_nil)) (pg_name (i := 4) sc_law.nd rfl (Or.inl rfl)) (pss_one (ps_set (i := 2) sc_law.nd rfl (Or.inl rfl) (pe_call (G_l_spoilt) (hr.mono (by first | decide | omega)) (by rfl) T.g_l_spoilt T.F_l_spoilt.kp T.b_l_spoilt .nil pass0 (pa_cons (pv 2) (pa_cons (pe_slice (sl_listK (K := K) rfl) (pv 1) (po_some (pe_op op_add pe_int (pe_op op_mul pe_int (pv 4)))) po_none) pa_nil))))))
      (pss_cons (ps_asg (pe_call (G_l_printed) (hr.mono (by first | decide | omega)) (by rfl) T.g_l_printed T.F_l_printed.kp T.b_l_printed .nil pass0 (pa_cons (pv 2) (pa_cons (pe_call (G_l_cell) (hr.mono (by first | decide | omega)) (by rfl) T.g_l_cell T.F_l_cell.kp T.b_l_cell .nil pass0 (pa_cons (pv 0) (pa_cons pe_int pa_nil))) pa_nil))) (pg_tupK (K := K) rfl rfl (pgs_cons (pg_name (i := 5) sc_law.nd rfl (Or.inl rfl)) (pgs_cons (pg_name (i := 6) sc_law.nd rfl (Or.inl rfl)) pgs_nil))))
      (pss_cons (ps_set (i := 7) sc_law.nd rfl (Or.inl rfl) (pe_call (G_l_fault) (hr.mono (by first | decide | omega)) (by rfl) T.g_l_fault T.F_l_fault.kp T.b_l_fault .nil pass0 (pa_cons (pv 2) pa_nil)))
      (pss_cons (ps_set (i := 8) sc_law.nd rfl (Or.inl rfl) pe_int)
      (pss_cons (ps_if (pt_cmpR op_ge (pv 7) pe_int (nomark _)) (pss_one (ps_set (i := 8) sc_law.nd rfl (Or.inl rfl) (pe_ix (ix_listK (K := K) rfl) (pe_op op_cat (pv 6) (pe_lst (pa_cons (pe_op op_add (pe_callB call_lenS1 (by rfl) T.z_len (by decide +kernel) (pa_cons (pv 5) pa_nil)) pe_int) pa_nil))) (pv 7) (fun _ _ => rfl)))) pss_nil)
      (pss_cons (ps_if (pt_cmpR op_eq (pe_op op_mod (pe_ix (ix_listK (K := K) rfl) (pv 1) pe_int (fun _ _ => rfl)) pe_int) pe_int (nomark _)) (pss_cons (ps_set (i := 9) sc_law.nd rfl (Or.inl rfl) (pe_op op_mod (pe_ix (ix_listK (K := K) rfl) (pv 1) pe_int (fun _ _ => rfl)) (pe_op op_add (pe_callB call_lenS1 (by rfl) T.z_len (by decide +kernel) (pa_cons (pv 5) pa_nil)) pe_int)))
      (pss_cons (ps_set (i := 5) sc_law.nd rfl (Or.inl rfl) (pe_op op_addS (pe_op op_addS (pe_slice sl_str (pv 5) po_none (po_some (pv 9))) (pe_ix (ix_listK (K := K) rfl) (pe_lst (pa_cons pe_str (pa_cons pe_str (pa_cons pe_str (pa_cons pe_str (pa_cons pe_str (pa_cons pe_str (pa_cons pe_str pa_nil)))))))) (pe_op op_mod (pe_ix (ix_listK (K := K) rfl) (pv 1) pe_int (fun _ _ => rfl)) pe_int) (fun _ _ => rfl))) (pe_slice sl_str (pv 5) (po_some (pv 9)) po_none)))
      (pss_one (ps_set (i := 8) sc_law.nd rfl (Or.inl rfl) (pe_op op_add (pv 9) pe_int))))) pss_nil)
      (pss_one (ps_ret (pe_cmpR op_eq (pe_call (G_l_column) (hr.mono (by first | decide | omega)) (by rfl) T.g_l_column T.F_l_column.kp T.b_l_column .nil pass0 (pa_cons (pv 5) pa_nil)) (pv 8) (nomark _))))))))))))), ?_⟩
    walk_at "rd"
    refine ⟨l, sc, 0, rfl, hS, by decide, ?_⟩
    walk_at "rd"
    refine ⟨_, 16, rfl, by decide, fun H1 pn ms s1 hpn hN hlen hz => ?_⟩
    walk_at "rd"
    refine r_ixL (SqL.of hN) (at_int (by decide) (by omega)) ?_
    walk_at "rd"
    obtain ⟨n, en, n13⟩ : ∃ n : Nat, 1 + ms.getD (0 : Int).toNat 0 % 14 = (n : Int) ∧ 1 ≤ n ∧ n ≤ 14 := by
      have g := emod_rng (ms.getD (0 : Int).toNat 0) (b := 14) (by decide)
      exact ⟨(1 + ms.getD (0 : Int).toNat 0 % 14).toNat, by omega, by omega, by omega⟩
    rw [en]
    refine ⟨l, sc, 2, n, rfl, s1.seq hS, n13.1, by omega, fun H2 b F s2 hF hok hd hts hht => ?_⟩
    obtain ⟨t, tl, hb, hT, hL⟩ := hF
    refine r_ixT (SqT.of hb) (at_of (j := 1) rfl rfl) ?_
    have hV : Vt (F.ts.map V.str) := ⟨F.ts, rfl, fun u hu => voc_in u (hok.1.voc u hu)⟩
    have hlF : (F.ts.map V.str).length ≤ 400 := by rw [List.length_map]; exact hts
    have hN2 := s2 _ _ hN
    have hS2 := s2.seq (s1.seq hS)
    generalize F.ts.map V.str = xs0 at hV hlF hL
    clear hb hT hok hd hts hht hS hN s1 s2
    with_reducible refine r_cutJ (fun σ G => ∃ (tl : Addr) (xs : List V) (y3 y4 : Option V), σ = [some (.ref l), some (.ref pn), some (.ref tl), y3, y4, none, none, none, none, none] ∧ Same H2 G ∧ G tl = some (.lst xs) ∧ Vt xs ∧ xs.length ≤ 450) ?_ (fun key => ?_)
    rotate_left
    · walk_at "rd"
      refine r_ixL (SqL.of hN2) (at_int (by decide) (by omega)) ?_
      walk_at "rd"
      refine r_iteD (fun _ => ?_) (fun _ => ?_)
      rotate_left
      · exact r_next (key _ _ ⟨tl, xs0, none, none, rfl, (fun _ _ z => z), hL, hV, by omega⟩)
      walk_at "rd"
      refine ⟨Nat.zero_le _, fun po hpo => ?_⟩
      have s3 := same_new (o := .lst []) hpo
      have hO : (upd H2 po (.lst [])) po = some (.lst []) := upd_same
      generalize upd H2 po (.lst []) = H3 at *
      walk_at "rd"
      refine r_ixL (SqL.of (s3 _ _ hN2)) (at_int (by decide) (by omega)) ?_
      walk_at "rd"
      have m7 := emod_rng (ms.getD (2 : Int).toNat 0) (b := 7) (by decide)
      refine r_rng1' (by omega) (by omega) ?_
      generalize hm : (8 + ms.getD (2 : Int).toNat 0 % 7).toNat = m
      have hm14 : m ≤ 14 := by omega
      refine for_range (lo := 0) (n := m) (fun i σ G => ∃ (us : List Str) (y4 : Option V), σ = [some (.ref l), some (.ref pn), some (.ref tl), some (.ref po), y4, none, none, none, none, none] ∧ Same H2 G ∧ G po = some (.lst (us.map V.str)) ∧ (∀ u ∈ us, u ∈ vocW) ∧ us.length = i)
        ⟨[], none, rfl, s3, hO, (fun _ z => nomatch z), rfl⟩ (fun i σ G hi hP => ?_) (fun σ G hP => ?_)
      · obtain ⟨us, y4, rfl, sG, hG, hu, hul⟩ := hP
        walk_at "rd"
        refine ⟨ty_l (SqL.of hG), ?_⟩
        walk_at "rd"
        refine ⟨by show 3 ≤ sizeLine; decide, fun p1 hp1 => ?_⟩
        have t1 := same_new (o := .lst [.str "(", .str "not", .str "before"]) hp1
        have hP1 : (upd G p1 (.lst [.str "(", .str "not", .str "before"])) p1 = some (.lst ((["(", "not", "before"] : List Str).map V.str)) := upd_same
        have sG1 := sG.trans t1
        have hG1 := t1 _ _ hG
        generalize upd G p1 (.lst [.str "(", .str "not", .str "before"]) = G1 at *
        walk_at "rd"
        refine r_ixL (SqL.of (sG1 _ _ hN2)) (at_int (by decide) (by omega)) ?_
        walk_at "rd"
        have hk3 := hz _ (List.getElem_mem (show 3 < ms.length by omega))
        have e3 : ms.getD (3 : Int).toNat 0 = ms[3]'(by omega) := by
          rw [List.getD_eq_getElem?_getD, show (3 : Int).toNat = 3 from rfl, List.getElem?_eq_getElem (by omega)]
          rfl
        rw [e3]
        generalize ms[3]'(by omega) = z3 at hk3
        refine r_mul (.inr ⟨by omega, by omega⟩) ?_
        walk_at "rd"
        have mm3 := emod_rng (z3 * (0 + (i : Int) + 1) / 7) (b := 3) (by decide)
        obtain ⟨s, hs, hat⟩ := strs_nat (ss := ["(", "not", "before"]) mm3.1 mm3.2
        refine r_ixL (SqL.of hP1) hat ?_
        have hsv : s ∈ vocW := by
          have k : ∀ s ∈ (["(", "not", "before"] : List Str), s ∈ vocW := by decide +kernel
          exact k s hs
        walk_at "rd"
        refine r_append hG1 (by rw [List.length_map]; omega) ?_
        refine ⟨us ++ [s], _, rfl, same_mut sG1 hpo, by rw [upd_same, List.map_append]; rfl, fun u hu2 => ?_, by rw [List.length_append, hul]; rfl⟩
        rcases List.mem_append.mp hu2 with h | h
        · exact hu u h
        · rw [List.mem_singleton.mp h]
          exact hsv
      · obtain ⟨us, y4, rfl, sG, hG, hu, hul⟩ := hP
        have hL3 := sG _ _ hL
        have hN3 := sG _ _ hN2
        walk_at "rd"
        refine r_slL (SqL.of hL3) fun p1 hp1 => ?_
        have t1 := same_new (o := .lst (cutV xs0 none (some (-1)))) hp1
        have h1 : (upd G p1 (.lst (cutV xs0 none (some (-1))))) p1 = some (.lst (cutV xs0 none (some (-1)))) := upd_same
        have l1 := cutV_le xs0 none (some (-1))
        have v1 := hV.cut none (some (-1))
        generalize upd G p1 (.lst (cutV xs0 none (some (-1)))) = G1 at *
        generalize cutV xs0 none (some (-1)) = c1 at *
        have vo : Vt (us.map V.str) := ⟨us, rfl, hu⟩
        have lo : (us.map V.str).length = m := by rw [List.length_map]; exact hul
        walk_at "rd"
        refine r_cat h1 (t1 _ _ hG) (by omega) fun p2 hp2 => ?_
        have t2 := same_new (o := .lst (c1 ++ us.map V.str)) hp2
        have h2 : (upd G1 p2 (.lst (c1 ++ us.map V.str))) p2 = some (.lst (c1 ++ us.map V.str)) := upd_same
        have l2 : (c1 ++ us.map V.str).length ≤ 414 := by rw [List.length_append]; omega
        have v2 := v1.app vo
        have s2 := (sG.trans t1).trans t2
        generalize upd G1 p2 (.lst (c1 ++ us.map V.str)) = G2 at *
        generalize c1 ++ us.map V.str = c2 at *
        walk_at "rd"
        refine r_slL (SqL.of (s2 _ _ hL)) fun p3 hp3 => ?_
        have t3 := same_new (o := .lst (cutV xs0 (some (-1)) none)) hp3
        have h3 : (upd G2 p3 (.lst (cutV xs0 (some (-1)) none))) p3 = some (.lst (cutV xs0 (some (-1)) none)) := upd_same
        have l3 : (cutV xs0 (some (-1)) none).length ≤ 1 := by
          unfold cutV
          rw [HT.sIx_none, List.length_take, List.length_drop]
          unfold HT.sIx
          dsimp only
          rw [if_pos (show (-1 : Int) < 0 by decide)]
          omega
        have v3 := hV.cut (some (-1)) none
        have s3' := s2.trans t3
        have h23 := t3 _ _ h2
        generalize upd G2 p3 (.lst (cutV xs0 (some (-1)) none)) = G3 at *
        generalize cutV xs0 (some (-1)) none = c3 at *
        refine r_cat h23 h3 (by omega) fun p4 hp4 => ?_
        have t4 := same_new (o := .lst (c2 ++ c3)) hp4
        have h4 : (upd G3 p4 (.lst (c2 ++ c3))) p4 = some (.lst (c2 ++ c3)) := upd_same
        have l4 : (c2 ++ c3).length ≤ 415 := by rw [List.length_append]; omega
        have v4 := v2.app v3
        have s4 := s3'.trans t4
        generalize upd G3 p4 (.lst (c2 ++ c3)) = G4 at *
        generalize c2 ++ c3 = c4 at *
        walk_at "rd"
        refine ⟨by show 1 ≤ sizeLine; decide, fun p5 hp5 => ?_⟩
        have t5 := same_new (o := .lst [.str ")"]) hp5
        have h5 : (upd G4 p5 (.lst [.str ")"])) p5 = some (.lst [.str ")"]) := upd_same
        have s5 := s4.trans t5
        have h45 := t5 _ _ h4
        have hO5 := t5 _ _ (t4 _ _ (t3 _ _ (t2 _ _ (t1 _ _ hG))))
        generalize upd G4 p5 (.lst [.str ")"]) = G5 at *
        walk_at "rd"
        refine ⟨ty_l (SqL.of hO5), ?_⟩
        walk_at "rd"
        refine ⟨po, us, _, rfl, rfl, SqL.of hO5, fun cnt hcnt => ?_⟩
        walk_at "rd"
        refine r_ixL (SqL.of (s5 _ _ hN2)) (at_int (by decide) (by omega)) ?_
        walk_at "rd"
        have m3 := emod_rng (ms.getD (4 : Int).toNat 0) (b := 3) (by decide)
        obtain ⟨d, ed, hd1⟩ : ∃ d : Nat, ms.getD (4 : Int).toNat 0 % 3 / 2 = (d : Int) ∧ d ≤ 1 := ⟨(ms.getD (4 : Int).toNat 0 % 3 / 2).toNat, by omega, by omega⟩
        rw [ed]
        refine ⟨p5, _, _, rfl, rfl, h5, by omega, by omega, by show 1 * _ ≤ _; omega, fun p6 hp6 => ?_⟩
        have t6 := same_new (o := .lst (List.replicate ((cnt : Int) - (d : Int)).toNat [V.str ")"]).flatten) hp6
        have h6 : (upd G5 p6 (.lst (List.replicate ((cnt : Int) - (d : Int)).toNat [V.str ")"]).flatten)) p6 = some (.lst (List.replicate ((cnt : Int) - (d : Int)).toNat [V.str ")"]).flatten) := upd_same
        have l6 := rep_len ((cnt : Int) - (d : Int)).toNat (")" : Str)
        have v6 := Vt.rep ((cnt : Int) - (d : Int)).toNat (show (")" : Str) ∈ vocW by decide +kernel)
        have s6 := s5.trans t6
        have h46 := t6 _ _ h45
        generalize upd G5 p6 (.lst (List.replicate ((cnt : Int) - (d : Int)).toNat [V.str ")"]).flatten) = G6 at *
        generalize (List.replicate ((cnt : Int) - (d : Int)).toNat [V.str ")"]).flatten = c6 at *
        refine r_cat h46 h6 (by omega) fun p7 hp7 => ?_
        exact key _ _ ⟨p7, c4 ++ c6, _, _, rfl, s6.trans (same_new hp7), upd_same, v4.app v6, by rw [List.length_append]; omega⟩
    · rintro σ G ⟨tl, xs, y3, y4, rfl, sG, hG, hV, hlx⟩
      clear hL hlF
      walk_at "rd"
      refine r_ixL (SqL.of (sG _ _ hN2)) (at_int (by decide) (by omega)) ?_
      walk_at "rd"
      have m4 := emod_rng (ms.getD (5 : Int).toNat 0) (b := 4) (by decide)
      refine r_rng1' (by omega) (by omega) ?_
      generalize hm : (ms.getD (5 : Int).toNat 0 % 4).toNat = m
      have hm3 : m ≤ 3 := by omega
      refine for_range (lo := 0) (n := m) (fun i σ G => ∃ (tl : Addr) (xs : List V) (y4 : Option V), σ = [some (.ref l), some (.ref pn), some (.ref tl), y3, y4, none, none, none, none, none] ∧ Same H2 G ∧ G tl = some (.lst xs) ∧ Vt xs ∧ xs.length ≤ 450 + i)
        ⟨tl, xs, y4, rfl, sG, hG, hV, hlx⟩ (fun i σ G hi hP => ?_) (fun σ G hP => ?_)
      · obtain ⟨tl, xs, y4, rfl, sG, hG, hV, hlx⟩ := hP
        walk_at "rd"
        have e6 : (6 : Int) + 3 * (0 + (i : Int)) = ((6 + 3 * i : Nat) : Int) := by omega
        rw [e6]
        refine r_slL (SqL.of (sG _ _ hN2)) fun p1 hp1 => ?_
        rw [cut_drop, ← List.map_drop]
        have t1 := same_new (o := .lst ((ms.drop (6 + 3 * i)).map V.int)) hp1
        refine ⟨tl, p1, xs, ms.drop (6 + 3 * i), rfl, SqL.of (t1 _ _ hG), hV, by omega, SqL.of upd_same, by rw [List.length_drop]; omega, fun H' p ys s' hp' hV' hl' => ?_⟩
        exact ⟨p, ys, _, rfl, (sG.trans t1).trans s', hp', hV', by omega⟩
      · obtain ⟨tl, xs, y4, rfl, sG, hG, hV, hlx⟩ := hP
        obtain ⟨ts, rfl, hts⟩ := hV
        rw [List.length_map] at hlx
        walk_at "rd"
        refine ⟨l, sc, 1, rfl, sG.seq hS2, by decide, ?_⟩
        walk_at "rd"
        refine ⟨tl, ts, _, rfl, hG, by omega, fun v hv => tokW_of (vocW_ok v (hts v hv)), fun H3 p cl cs cols s3 hp3 hc3 hoc hcl hlex hcols => ?_⟩
        refine ⟨p, _, rfl, SqT.of hp3, rfl, _, _, rfl, _, _, rfl, rfl, ?_⟩
        have sG3 := sG.trans s3
        have hG3 := s3 _ _ hG
        walk_at "rd"
        obtain ⟨x, hA, hxk, hC⟩ := colOk_good hoc hlex hcols fun t ht => vocW_ne t (hts t ht)
        refine ⟨tl, ts, x, rfl, SqL.of hG3, by omega, fun t ht => vocW_ne t (hts t ht), hA, fun H4 s4 => ?_⟩
        have sG4 := sG3.trans s4
        have hc4 := s4 _ _ hc3
        walk_at "rd1"
        walk_at "rd1"
        walk_at "rd1"
        have lcs : (⟨cs.toArray⟩ : Str).length = cs.length := str_len cs
        with_reducible refine r_cutJ (fun σ G => ∃ (col : Int), σ = [some (.ref l), some (.ref pn), some (.ref tl), y3, y4, some (sV cs), some (.ref cl), some (.int (faultZ x)), some (.int col), none] ∧ Same H2 G ∧ ColOk cs col) ?_ (fun key => ?_)
        rotate_left
        · walk_at "rd"
          cases x with
          | none =>
            refine r_iteD (fun h => absurd h (by show ¬ (0 : Int) ≤ -1; decide)) (fun _ => ?_)
            exact r_next (key _ _ ⟨0, rfl, sG4, hC⟩)
          | some k =>
            refine r_iteD (fun _ => ?_) (fun h => absurd (show (0 : Int) ≤ (k : Int) by omega) h)
            have hk := hxk k rfl
            walk_at "rd"
            refine r_lenS (by rw [lcs]; omega) ?_
            rw [lcs]
            walk_at "rd"
            refine ⟨by show 1 ≤ sizeLine; decide, fun p5 hp5 => ?_⟩
            have t5 := same_new (o := .lst [.int ((cs.length : Int) + 1)]) hp5
            refine r_cat (t5 _ _ hc4) upd_same (by rw [List.length_map]; show _ + 1 ≤ _; omega) fun p6 hp6 => ?_
            have t6 := same_new (o := .lst (cols.map V.int ++ [.int ((cs.length : Int) + 1)])) hp6
            walk_at "rd1"
            show rIxL K (.ref p6) (.int (k : Int)) _ _
            refine r_ixL (SqL.of upd_same) (v := .int ((cols ++ [(cs.length : Int) + 1]).getD k 0)) (at_of (j := k) rfl ?_) ?_
            · have e : cols.map V.int ++ [.int ((cs.length : Int) + 1)] = (cols ++ [(cs.length : Int) + 1]).map V.int := by rw [List.map_append]; rfl
              have hlt : k < (cols ++ [(cs.length : Int) + 1]).length := by rw [List.length_append, hcols, List.length_singleton]; omega
              rw [e, List.getElem?_map, List.getD_eq_getElem?_getD, List.getElem?_eq_getElem hlt]
              rfl
            exact key _ _ ⟨_, rfl, (sG4.trans t5).trans t6, hC⟩
        rintro σ G ⟨col, rfl, sG5, hC5⟩
        with_reducible refine r_cutJ (fun σ G => ∃ (cs : List Nat) (col : Int) (y9 : Option V), σ = [some (.ref l), some (.ref pn), some (.ref tl), y3, y4, some (sV cs), some (.ref cl), some (.int (faultZ x)), some (.int col), y9] ∧ cs.length ≤ 80000 ∧ ColOk cs col) ?_ (fun key => ?_)
        · rintro σ G ⟨cs, col, y9, rfl, hl8, y, hC1, hC2⟩
          walk_at "rd"
          refine ⟨cs, y, col, rfl, hl8, hC1, hC2, fun H' => ?_⟩
          walk_at "rd"
          rw [decide_eq_true rfl]
          exact q _
        walk_at "rd"
        refine r_ixL (SqL.of (sG5 _ _ hN2)) (at_int (by decide) (by omega)) ?_
        walk_at "rd"
        refine r_iteD (fun _ => ?_) (fun _ => ?_)
        rotate_left
        · exact r_next (key _ _ ⟨cs, col, none, rfl, by omega, hC5⟩)
        walk_at "rd"
        refine r_ixL (SqL.of (sG5 _ _ hN2)) (at_int (by decide) (by omega)) ?_
        walk_at "rd"
        refine r_lenS (by rw [lcs]; omega) ?_
        rw [lcs]
        walk_at "rd"
        refine r_mod (by omega) ?_
        obtain ⟨at', ea, hal⟩ : ∃ n : Nat, ms.getD (14 : Int).toNat 0 % ((cs.length : Nat) + 1 : Int) = (n : Int) ∧ n ≤ cs.length := by
          have g := emod_rng (ms.getD (14 : Int).toNat 0) (b := (cs.length : Int) + 1) (by omega)
          exact ⟨(ms.getD (14 : Int).toNat 0 % ((cs.length : Nat) + 1 : Int)).toNat, by omega, by omega⟩
        rw [ea]
        obtain ⟨ct1, ct2⟩ := cut_at cs at' hal
        walk_at "rd"
        refine r_slS (by rw [lcs]; omega) ?_
        rw [ct1]
        walk_at "rd"
        refine ⟨by show 7 ≤ sizeLine; decide, fun p5 hp5 => ?_⟩
        have t5 := same_new (o := .lst (bads.map V.str)) hp5
        walk_at "rd"
        refine r_ixL (SqL.of ((sG5.trans t5) _ _ hN2)) (at_int (by decide) (by omega)) ?_
        walk_at "rd"
        have m7 := emod_rng (ms.getD (13 : Int).toNat 0) (b := 7) (by decide)
        obtain ⟨s, hs, hat⟩ := strs_nat (ss := bads) m7.1 m7.2
        refine r_ixL (SqL.of upd_same) hat ?_
        obtain ⟨z, rfl, hzb⟩ := bads_ok s hs
        have lt1 : (⟨(cs.take at').toArray⟩ : Str).length = (cs.take at').length := str_len _
        have lz : (⟨[z].toArray⟩ : Str).length = 1 := rfl
        have hlt := List.length_take (i := at') (l := cs)
        refine r_addS (by rw [lt1, lz]; omega) ?_
        rw [str_app]
        walk_at "rd"
        refine r_slS (by rw [lcs]; omega) ?_
        rw [ct2]
        have lt2 : (⟨(cs.take at' ++ [z]).toArray⟩ : Str).length = (cs.take at' ++ [z]).length := str_len _
        have lt3 : (⟨(cs.drop at').toArray⟩ : Str).length = (cs.drop at').length := str_len _
        have hld := List.length_drop (i := at') (l := cs)
        refine r_addS (by rw [lt2, lt3, List.length_append, List.length_singleton]; omega) ?_
        rw [str_app, List.append_assoc]
        have hfin : (cs.take at' ++ z :: cs.drop at').length ≤ 80000 := by rw [List.length_append, List.length_cons]; omega
        iterate 10 (try first | exact key _ _ ⟨cs.take at' ++ z :: cs.drop at', (at' : Int) + 1, _, rfl, hfin, colOk_bad hoc hzb hal⟩ | walk_at "rd1")

end

/-- a method's code, from the module's facts -/
theorem fun_of_DQ {K : PySem.W.Frag} {x qual : Str} {st : Stmt} {f : Addr} {fd : FuncData} (F : FunD K x qual (defArgs st) (defBody st) (defScope st) [] [] f fd) : Fun K x qual st f fd := by
  obtain ⟨oc, od, dV, kV, doc, pm, an, cdv, ct, osl, rfl, lk, hcd, hD, _⟩ := F.ex
  rcases hD with ⟨_, rfl⟩ | ⟨e, _⟩
  · exact ⟨⟨oc, od, kV, doc, pm, an, cdv, ct, osl, rfl, lk, hcd⟩, F.kp⟩
  · exact absurd rfl e
abbrev dd (x : Str) (i : Nat) : He.DefD := ⟨(x, none), x, x, defArgs (topS i), defBody (topS i), defScope (topS i), [], []⟩
abbrev dm (c m qn : Str) (st : Stmt) : He.DefD := ⟨(c, some m), m, qn, defArgs st, defBody st, defScope st, [], []⟩
def fnl : List He.DefD := [dd "is_letter" 6, dd "number_of" 7, dd "read_formula" 11, dd "tokens_of" 12, dd "is_small" 13, dm "Reader" "__init__" "Reader.__init__" (inClass (topS 14) 0), dm "Reader" "token" "Reader.token" (inClass (topS 14) 1), dm "Reader" "place" "Reader.place" (inClass (topS 14) 2), dm "Reader" "take" "Reader.take" (inClass (topS 14) 3), dm "Reader" "operation" "Reader.operation" (inClass (topS 14) 4), dm "Reader" "plain" "Reader.plain" (inClass (topS 14) 5), dm "Reader" "opened" "Reader.opened" (inClass (topS 14) 6), dd "_law_cell" 16, dd "_law_numbers" 17, dd "_law_formula" 18, dd "_law_wrapped" 19, dd "_law_unary" 20, dd "_law_binary" 21, dd "_law_printed" 22, dd "_law_spoilt" 23, dd "_law_fault" 24, dd "_law_column" 25, dd "law" 26]
def fal : List He.Fa := [.glo "is_letter", .glo "number_of", .glo "read_formula", .glo "tokens_of", .glo "is_small", .glo "_law_cell", .glo "_law_numbers", .glo "_law_formula", .glo "_law_wrapped", .glo "_law_unary", .glo "_law_binary", .glo "_law_printed", .glo "_law_spoilt", .glo "_law_fault", .glo "_law_column", .glo "law", .free "ValueError", .free "enumerate", .free "int", .free "isinstance", .free "len", .free "max", .free "range", .free "tuple", .str "LETTERS" "abcd", .int "MOST_LEVELS" 12, .glo "BETWEEN", .cls "Reader", .noat "Reader" "tokens", .noat "Reader" "at", .noat "Reader" "levels", .noat "Reader" "numbers", .mkr "Reader", .meth "Reader" "token", .meth "Reader" "place", .meth "Reader" "take", .meth "Reader" "operation", .meth "Reader" "plain", .meth "Reader" "opened", .glo "MachineError", .glo "SyntaxFault", .glo "InvalidLines", .glo "Reader", .exm "SyntaxFault" "SyntaxFault" true]
def tfl : List He.Defn := []
def exB (K : PySem.W.Frag) : Bool := decide (((tfl.map (He.cT K)).map (·.2)).Nodup) && (ownIB PySem.Challenge.pw_turnsandthrows_k62_first_fault_of_a_form K (He.ga K "SyntaxFault") "column" true && (decide (PySem.W.kitOne K (.ref (He.ga K "SyntaxFault")) (.ref (He.ga K "InvalidLines")) = some false) && (decide (PySem.W.kitOne K (.ref (He.ga K "SyntaxFault")) (.ref (He.ga K "MachineError")) = some true) && (decide (PySem.W.kitOne K (.ref (He.ga K "SyntaxFault")) (.type "ValueError") = some true) && (He.tupB K "BETWEEN" [.str "or", .str "and", .str "since"])))))
abbrev R : PySem.W.OpenRow := PySem.W.OpenLaw.row PySem.Challenge.rw_turnsandthrows_k62_first_fault_of_a_form
abbrev hk : PySem.W.Hook := hookY 8 fal fnl [] tfl exB
def ob (s : PySem.W.SharedT) : He.AlX := obsY 8 fal fnl [] tfl exB (HandSHeadRun.getT s)
theorem ob_eq (s : PySem.W.SharedT) : ob s = hk.obs s.abs := obsY_eq (HandSHeadRun.getT_eq s)
abbrev names0 : List Str := ["__name__", "MachineError", "SyntaxFault", "InvalidLines", "LETTERS", "is_letter", "number_of", "MOST_LEVELS", "BETWEEN", "read_formula", "tokens_of", "is_small", "Reader", "_law_cell", "_law_numbers", "_law_formula", "_law_wrapped", "_law_unary", "_law_binary", "_law_printed", "_law_spoilt", "_law_fault", "_law_column"]
abbrev names : List Str := names0
theorem run (w : World) : HandSHeadRun.RunEq R (PySem.W.view R.prog [26]) hk ob 4000 names w := by
  intro os
  kernel_rfl
theorem facts {w : World} {K : PySem.W.Frag} {h : Heap} {mg : Str → Option Value} {f : Addr} (X : K.In h) (G : h.Ns mainGlobals mg) (hfa : mg ("law" : Str) = some (.ref f)) (c : He.SaysX fal fnl [] tfl exB w h K) : LamX.LawAtS PySem.Challenge.rw_turnsandthrows_k62_first_fault_of_a_form w K CX0 84 63 "script" mg f h := by
  obtain ⟨fd_is_letter, D_is_letter⟩ := c.t.d.def_ 0 (d := dd "is_letter" 6) rfl
  have F_is_letter : Fun K "is_letter" "is_letter" s_is_letter (He.fAd K ("is_letter", none)) fd_is_letter := fun_of_D (st := s_is_letter) D_is_letter
  have b_is_letter := FunD.bindsN (ps := ["entry"]) D_is_letter fun _ _ _ _ _ _ us hl => match us, hl with | [_], _ => rfl
  obtain ⟨fd_number_of, D_number_of⟩ := c.t.d.def_ 1 (d := dd "number_of" 7) rfl
  have F_number_of : Fun K "number_of" "number_of" s_number_of (He.fAd K ("number_of", none)) fd_number_of := fun_of_D (st := s_number_of) D_number_of
  have b_number_of := FunD.bindsN (ps := ["numbers", "line"]) D_number_of fun _ _ _ _ _ _ us hl => match us, hl with | [_, _], _ => rfl
  obtain ⟨fd_read_formula, D_read_formula⟩ := c.t.d.def_ 2 (d := dd "read_formula" 11) rfl
  have F_read_formula : Fun K "read_formula" "read_formula" s_read_formula (He.fAd K ("read_formula", none)) fd_read_formula := fun_of_D (st := s_read_formula) D_read_formula
  have b_read_formula := FunD.bindsN (ps := ["text"]) D_read_formula fun _ _ _ _ _ _ us hl => match us, hl with | [_], _ => rfl
  obtain ⟨fd_tokens_of, D_tokens_of⟩ := c.t.d.def_ 3 (d := dd "tokens_of" 12) rfl
  have F_tokens_of : Fun K "tokens_of" "tokens_of" s_tokens_of (He.fAd K ("tokens_of", none)) fd_tokens_of := fun_of_D (st := s_tokens_of) D_tokens_of
  have b_tokens_of := FunD.bindsN (ps := ["text"]) D_tokens_of fun _ _ _ _ _ _ us hl => match us, hl with | [_], _ => rfl
  obtain ⟨fd_is_small, D_is_small⟩ := c.t.d.def_ 4 (d := dd "is_small" 13) rfl
  have F_is_small : Fun K "is_small" "is_small" s_is_small (He.fAd K ("is_small", none)) fd_is_small := fun_of_D (st := s_is_small) D_is_small
  have b_is_small := FunD.bindsN (ps := ["sign"]) D_is_small fun _ _ _ _ _ _ us hl => match us, hl with | [_], _ => rfl
  obtain ⟨fd_Reader_init, D_Reader_init⟩ := c.t.d.def_ 5 (d := dm "Reader" "__init__" "Reader.__init__" (inClass (topS 14) 0)) rfl
  have F_Reader_init : Fun K "__init__" "Reader.__init__" s_Reader_init (He.fAd K ("Reader", some "__init__")) fd_Reader_init := fun_of_DQ (st := s_Reader_init) D_Reader_init
  have b_Reader_init := FunD.bindsN (ps := ["self", "tokens"]) D_Reader_init fun _ _ _ _ _ _ us hl => match us, hl with | [_, _], _ => rfl
  obtain ⟨fd_Reader_token, D_Reader_token⟩ := c.t.d.def_ 6 (d := dm "Reader" "token" "Reader.token" (inClass (topS 14) 1)) rfl
  have F_Reader_token : Fun K "token" "Reader.token" s_Reader_token (He.fAd K ("Reader", some "token")) fd_Reader_token := fun_of_DQ (st := s_Reader_token) D_Reader_token
  have b_Reader_token := FunD.bindsN (ps := ["self"]) D_Reader_token fun _ _ _ _ _ _ us hl => match us, hl with | [_], _ => rfl
  obtain ⟨fd_Reader_place, D_Reader_place⟩ := c.t.d.def_ 7 (d := dm "Reader" "place" "Reader.place" (inClass (topS 14) 2)) rfl
  have F_Reader_place : Fun K "place" "Reader.place" s_Reader_place (He.fAd K ("Reader", some "place")) fd_Reader_place := fun_of_DQ (st := s_Reader_place) D_Reader_place
  have b_Reader_place := FunD.bindsN (ps := ["self"]) D_Reader_place fun _ _ _ _ _ _ us hl => match us, hl with | [_], _ => rfl
  obtain ⟨fd_Reader_take, D_Reader_take⟩ := c.t.d.def_ 8 (d := dm "Reader" "take" "Reader.take" (inClass (topS 14) 3)) rfl
  have F_Reader_take : Fun K "take" "Reader.take" s_Reader_take (He.fAd K ("Reader", some "take")) fd_Reader_take := fun_of_DQ (st := s_Reader_take) D_Reader_take
  have b_Reader_take := FunD.bindsN (ps := ["self", "token"]) D_Reader_take fun _ _ _ _ _ _ us hl => match us, hl with | [_, _], _ => rfl
  obtain ⟨fd_Reader_operation, D_Reader_operation⟩ := c.t.d.def_ 9 (d := dm "Reader" "operation" "Reader.operation" (inClass (topS 14) 4)) rfl
  have F_Reader_operation : Fun K "operation" "Reader.operation" s_Reader_operation (He.fAd K ("Reader", some "operation")) fd_Reader_operation := fun_of_DQ (st := s_Reader_operation) D_Reader_operation
  have b_Reader_operation := FunD.bindsN (ps := ["self", "rank"]) D_Reader_operation fun _ _ _ _ _ _ us hl => match us, hl with | [_, _], _ => rfl
  obtain ⟨fd_Reader_plain, D_Reader_plain⟩ := c.t.d.def_ 10 (d := dm "Reader" "plain" "Reader.plain" (inClass (topS 14) 5)) rfl
  have F_Reader_plain : Fun K "plain" "Reader.plain" s_Reader_plain (He.fAd K ("Reader", some "plain")) fd_Reader_plain := fun_of_DQ (st := s_Reader_plain) D_Reader_plain
  have b_Reader_plain := FunD.bindsN (ps := ["self"]) D_Reader_plain fun _ _ _ _ _ _ us hl => match us, hl with | [_], _ => rfl
  obtain ⟨fd_Reader_opened, D_Reader_opened⟩ := c.t.d.def_ 11 (d := dm "Reader" "opened" "Reader.opened" (inClass (topS 14) 6)) rfl
  have F_Reader_opened : Fun K "opened" "Reader.opened" s_Reader_opened (He.fAd K ("Reader", some "opened")) fd_Reader_opened := fun_of_DQ (st := s_Reader_opened) D_Reader_opened
  have b_Reader_opened := FunD.bindsN (ps := ["self", "token"]) D_Reader_opened fun _ _ _ _ _ _ us hl => match us, hl with | [_, _], _ => rfl
  obtain ⟨fd_l_cell, D_l_cell⟩ := c.t.d.def_ 12 (d := dd "_law_cell" 16) rfl
  have F_l_cell : Fun K "_law_cell" "_law_cell" s_l_cell (He.fAd K ("_law_cell", none)) fd_l_cell := fun_of_D (st := s_l_cell) D_l_cell
  have b_l_cell := FunD.bindsN (ps := ["script", "k"]) D_l_cell fun _ _ _ _ _ _ us hl => match us, hl with | [_, _], _ => rfl
  obtain ⟨fd_l_numbers, D_l_numbers⟩ := c.t.d.def_ 13 (d := dd "_law_numbers" 17) rfl
  have F_l_numbers : Fun K "_law_numbers" "_law_numbers" s_l_numbers (He.fAd K ("_law_numbers", none)) fd_l_numbers := fun_of_D (st := s_l_numbers) D_l_numbers
  have b_l_numbers := FunD.bindsN (ps := ["cell", "count"]) D_l_numbers fun _ _ _ _ _ _ us hl => match us, hl with | [_, _], _ => rfl
  obtain ⟨fd_l_formula, D_l_formula⟩ := c.t.d.def_ 14 (d := dd "_law_formula" 18) rfl
  have F_l_formula : Fun K "_law_formula" "_law_formula" s_l_formula (He.fAd K ("_law_formula", none)) fd_l_formula := fun_of_D (st := s_l_formula) D_l_formula
  have b_l_formula := FunD.bindsN (ps := ["script", "first", "size"]) D_l_formula fun _ _ _ _ _ _ us hl => match us, hl with | [_, _, _], _ => rfl
  obtain ⟨fd_l_wrapped, D_l_wrapped⟩ := c.t.d.def_ 15 (d := dd "_law_wrapped" 19) rfl
  have F_l_wrapped : Fun K "_law_wrapped" "_law_wrapped" s_l_wrapped (He.fAd K ("_law_wrapped", none)) fd_l_wrapped := fun_of_D (st := s_l_wrapped) D_l_wrapped
  have b_l_wrapped := FunD.bindsN (ps := ["entry", "rank", "needless"]) D_l_wrapped fun _ _ _ _ _ _ us hl => match us, hl with | [_, _, _], _ => rfl
  obtain ⟨fd_l_unary, D_l_unary⟩ := c.t.d.def_ 16 (d := dd "_law_unary" 20) rfl
  have F_l_unary : Fun K "_law_unary" "_law_unary" s_l_unary (He.fAd K ("_law_unary", none)) fd_l_unary := fun_of_D (st := s_l_unary) D_l_unary
  have b_l_unary := FunD.bindsN (ps := ["entry", "word", "number"]) D_l_unary fun _ _ _ _ _ _ us hl => match us, hl with | [_, _, _], _ => rfl
  obtain ⟨fd_l_binary, D_l_binary⟩ := c.t.d.def_ 17 (d := dd "_law_binary" 21) rfl
  have F_l_binary : Fun K "_law_binary" "_law_binary" s_l_binary (He.fAd K ("_law_binary", none)) fd_l_binary := fun_of_D (st := s_l_binary) D_l_binary
  have b_l_binary := FunD.bindsN (ps := ["left", "right", "which", "numbers"]) D_l_binary fun _ _ _ _ _ _ us hl => match us, hl with | [_, _, _, _], _ => rfl
  obtain ⟨fd_l_printed, D_l_printed⟩ := c.t.d.def_ 18 (d := dd "_law_printed" 22) rfl
  have F_l_printed : Fun K "_law_printed" "_law_printed" s_l_printed (He.fAd K ("_law_printed", none)) fd_l_printed := fun_of_D (st := s_l_printed) D_l_printed
  have b_l_printed := FunD.bindsN (ps := ["tokens", "cell"]) D_l_printed fun _ _ _ _ _ _ us hl => match us, hl with | [_, _], _ => rfl
  obtain ⟨fd_l_spoilt, D_l_spoilt⟩ := c.t.d.def_ 19 (d := dd "_law_spoilt" 23) rfl
  have F_l_spoilt : Fun K "_law_spoilt" "_law_spoilt" s_l_spoilt (He.fAd K ("_law_spoilt", none)) fd_l_spoilt := fun_of_D (st := s_l_spoilt) D_l_spoilt
  have b_l_spoilt := FunD.bindsN (ps := ["tokens", "numbers"]) D_l_spoilt fun _ _ _ _ _ _ us hl => match us, hl with | [_, _], _ => rfl
  obtain ⟨fd_l_fault, D_l_fault⟩ := c.t.d.def_ 20 (d := dd "_law_fault" 24) rfl
  have F_l_fault : Fun K "_law_fault" "_law_fault" s_l_fault (He.fAd K ("_law_fault", none)) fd_l_fault := fun_of_D (st := s_l_fault) D_l_fault
  have b_l_fault := FunD.bindsN (ps := ["tokens"]) D_l_fault fun _ _ _ _ _ _ us hl => match us, hl with | [_], _ => rfl
  obtain ⟨fd_l_column, D_l_column⟩ := c.t.d.def_ 21 (d := dd "_law_column" 25) rfl
  have F_l_column : Fun K "_law_column" "_law_column" s_l_column (He.fAd K ("_law_column", none)) fd_l_column := fun_of_D (st := s_l_column) D_l_column
  have b_l_column := FunD.bindsN (ps := ["text"]) D_l_column fun _ _ _ _ _ _ us hl => match us, hl with | [_], _ => rfl
  obtain ⟨fd_law, D_law⟩ := c.t.d.def_ 22 (d := dd "law" 26) rfl
  have F_law : Fun K "law" "law" s_law (He.fAd K ("law", none)) fd_law := fun_of_D (st := s_law) D_law
  have b_law := FunD.bindsN (ps := ["script"]) D_law fun _ _ _ _ _ _ us hl => match us, hl with | [_], _ => rfl
  have e := hfa.symm.trans (He.glo_ok X G (c.t.d.fact 15 (f := .glo "law") rfl))
  cases e
  have bA := FunD.bindsA (ps := ["script"]) D_law fun _ _ _ _ _ _ us hl => match us, hl with | [_], _ => rfl
  have ce := c.more
  unfold exB at ce
  obtain ⟨e0, ce⟩ := He.ba ce
  obtain ⟨e1, ce⟩ := He.ba ce
  obtain ⟨e2, ce⟩ := He.ba ce
  obtain ⟨e3, ce⟩ := He.ba ce
  obtain ⟨e4, ce⟩ := He.ba ce
  have e5 := ce
  have T : Txt K mg ⟨He.fAd K ("is_letter", none), fd_is_letter, He.fAd K ("number_of", none), fd_number_of, He.fAd K ("read_formula", none), fd_read_formula, He.fAd K ("tokens_of", none), fd_tokens_of, He.fAd K ("is_small", none), fd_is_small, He.fAd K ("Reader", some "__init__"), fd_Reader_init, He.fAd K ("Reader", some "token"), fd_Reader_token, He.fAd K ("Reader", some "place"), fd_Reader_place, He.fAd K ("Reader", some "take"), fd_Reader_take, He.fAd K ("Reader", some "operation"), fd_Reader_operation, He.fAd K ("Reader", some "plain"), fd_Reader_plain, He.fAd K ("Reader", some "opened"), fd_Reader_opened, He.fAd K ("_law_cell", none), fd_l_cell, He.fAd K ("_law_numbers", none), fd_l_numbers, He.fAd K ("_law_formula", none), fd_l_formula, He.fAd K ("_law_wrapped", none), fd_l_wrapped, He.fAd K ("_law_unary", none), fd_l_unary, He.fAd K ("_law_binary", none), fd_l_binary, He.fAd K ("_law_printed", none), fd_l_printed, He.fAd K ("_law_spoilt", none), fd_l_spoilt, He.fAd K ("_law_fault", none), fd_l_fault, He.fAd K ("_law_column", none), fd_l_column, He.fAd K ("law", none), fd_law, He.ga K "MachineError", He.ga K "SyntaxFault", He.ga K "InvalidLines", He.ga K "Reader", He.ga K "BETWEEN", PySem.Challenge.pw_turnsandthrows_k62_first_fault_of_a_form, iniF K (He.ga K "SyntaxFault"), iniD K (He.ga K "SyntaxFault")⟩ := ⟨F_is_letter, b_is_letter, He.glo_ok X G (c.t.d.fact 0 (f := .glo "is_letter") rfl), F_number_of, b_number_of, He.glo_ok X G (c.t.d.fact 1 (f := .glo "number_of") rfl), F_read_formula, b_read_formula, He.glo_ok X G (c.t.d.fact 2 (f := .glo "read_formula") rfl), F_tokens_of, b_tokens_of, He.glo_ok X G (c.t.d.fact 3 (f := .glo "tokens_of") rfl), F_is_small, b_is_small, He.glo_ok X G (c.t.d.fact 4 (f := .glo "is_small") rfl), F_Reader_init, b_Reader_init, He.mkr_ok (c.t.d.fact 32 (f := .mkr "Reader") rfl), F_Reader_token, b_Reader_token, He.meth_ok (c.t.d.fact 33 (f := .meth "Reader" "token") rfl), F_Reader_place, b_Reader_place, He.meth_ok (c.t.d.fact 34 (f := .meth "Reader" "place") rfl), F_Reader_take, b_Reader_take, He.meth_ok (c.t.d.fact 35 (f := .meth "Reader" "take") rfl), F_Reader_operation, b_Reader_operation, He.meth_ok (c.t.d.fact 36 (f := .meth "Reader" "operation") rfl), F_Reader_plain, b_Reader_plain, He.meth_ok (c.t.d.fact 37 (f := .meth "Reader" "plain") rfl), F_Reader_opened, b_Reader_opened, He.meth_ok (c.t.d.fact 38 (f := .meth "Reader" "opened") rfl), F_l_cell, b_l_cell, He.glo_ok X G (c.t.d.fact 5 (f := .glo "_law_cell") rfl), F_l_numbers, b_l_numbers, He.glo_ok X G (c.t.d.fact 6 (f := .glo "_law_numbers") rfl), F_l_formula, b_l_formula, He.glo_ok X G (c.t.d.fact 7 (f := .glo "_law_formula") rfl), F_l_wrapped, b_l_wrapped, He.glo_ok X G (c.t.d.fact 8 (f := .glo "_law_wrapped") rfl), F_l_unary, b_l_unary, He.glo_ok X G (c.t.d.fact 9 (f := .glo "_law_unary") rfl), F_l_binary, b_l_binary, He.glo_ok X G (c.t.d.fact 10 (f := .glo "_law_binary") rfl), F_l_printed, b_l_printed, He.glo_ok X G (c.t.d.fact 11 (f := .glo "_law_printed") rfl), F_l_spoilt, b_l_spoilt, He.glo_ok X G (c.t.d.fact 12 (f := .glo "_law_spoilt") rfl), F_l_fault, b_l_fault, He.glo_ok X G (c.t.d.fact 13 (f := .glo "_law_fault") rfl), F_l_column, b_l_column, He.glo_ok X G (c.t.d.fact 14 (f := .glo "_law_column") rfl), F_law, b_law, He.glo_ok X G (c.t.d.fact 15 (f := .glo "law") rfl), He.cls_ok (c.t.d.fact 27 (f := .cls "Reader") rfl), He.noat_ok (c.t.d.fact 28 (f := .noat "Reader" "tokens") rfl), He.noat_ok (c.t.d.fact 29 (f := .noat "Reader" "at") rfl), He.noat_ok (c.t.d.fact 30 (f := .noat "Reader" "levels") rfl), He.noat_ok (c.t.d.fact 31 (f := .noat "Reader" "numbers") rfl), He.glo_ok X G (c.t.d.fact 26 (f := .glo "BETWEEN") rfl), He.tupB_ok e5, He.free_ok X G (c.t.d.fact 16 (f := .free "ValueError") rfl), He.free_ok X G (c.t.d.fact 17 (f := .free "enumerate") rfl), He.free_ok X G (c.t.d.fact 18 (f := .free "int") rfl), He.free_ok X G (c.t.d.fact 19 (f := .free "isinstance") rfl), He.free_ok X G (c.t.d.fact 20 (f := .free "len") rfl), He.free_ok X G (c.t.d.fact 21 (f := .free "max") rfl), He.free_ok X G (c.t.d.fact 22 (f := .free "range") rfl), He.free_ok X G (c.t.d.fact 23 (f := .free "tuple") rfl), He.str_ok X G (c.t.d.fact 24 (f := .str "LETTERS" "abcd") rfl), He.int_ok X G (c.t.d.fact 25 (f := .int "MOST_LEVELS" 12) rfl), He.glo_ok X G (c.t.d.fact 39 (f := .glo "MachineError") rfl), He.glo_ok X G (c.t.d.fact 40 (f := .glo "SyntaxFault") rfl), He.glo_ok X G (c.t.d.fact 41 (f := .glo "InvalidLines") rfl), He.glo_ok X G (c.t.d.fact 42 (f := .glo "Reader") rfl), ownI_ok X G e1 (He.glo_ok X G (c.t.d.fact 40 (f := .glo "SyntaxFault") rfl)) (by decide) (by decide) (by decide) (fun _ _ _ _ _ _ _ _ _ _ _ _ _ _ _ _ _ => rfl), He.exm_ok (c.t.d.fact 43 (f := .exm "SyntaxFault" "SyntaxFault" true) rfl), of_decide_eq_true e2, of_decide_eq_true e3, of_decide_eq_true e4⟩
  refine ⟨fd_law, tfl.map (He.cT K), sp_law K ⟨He.fAd K ("is_letter", none), fd_is_letter, He.fAd K ("number_of", none), fd_number_of, He.fAd K ("read_formula", none), fd_read_formula, He.fAd K ("tokens_of", none), fd_tokens_of, He.fAd K ("is_small", none), fd_is_small, He.fAd K ("Reader", some "__init__"), fd_Reader_init, He.fAd K ("Reader", some "token"), fd_Reader_token, He.fAd K ("Reader", some "place"), fd_Reader_place, He.fAd K ("Reader", some "take"), fd_Reader_take, He.fAd K ("Reader", some "operation"), fd_Reader_operation, He.fAd K ("Reader", some "plain"), fd_Reader_plain, He.fAd K ("Reader", some "opened"), fd_Reader_opened, He.fAd K ("_law_cell", none), fd_l_cell, He.fAd K ("_law_numbers", none), fd_l_numbers, He.fAd K ("_law_formula", none), fd_l_formula, He.fAd K ("_law_wrapped", none), fd_l_wrapped, He.fAd K ("_law_unary", none), fd_l_unary, He.fAd K ("_law_binary", none), fd_l_binary, He.fAd K ("_law_printed", none), fd_l_printed, He.fAd K ("_law_spoilt", none), fd_l_spoilt, He.fAd K ("_law_fault", none), fd_l_fault, He.fAd K ("_law_column", none), fd_l_column, He.fAd K ("law", none), fd_law, He.ga K "MachineError", He.ga K "SyntaxFault", He.ga K "InvalidLines", He.ga K "Reader", He.ga K "BETWEEN", PySem.Challenge.pw_turnsandthrows_k62_first_fault_of_a_form, iniF K (He.ga K "SyntaxFault"), iniD K (He.ga K "SyntaxFault")⟩, fun p hp => ?_, fun p hp => ?_, fun p hp => ?_, fun s u => bA s [u] rfl, fun H a ns hl _ hT hS => ?_, fun base hK hns hB => ok_law T rfl⟩
  · obtain ⟨x, hx, rfl⟩ := List.mem_map.mp hp
    exact c.empty x hx
  · obtain ⟨x, hx, rfl⟩ := List.mem_map.mp hp
    exact c.out x hx
  · obtain ⟨x, hx, rfl⟩ := List.mem_map.mp hp
    exact PySem.W.codeHd_of_K X (c.hd x hx)
  · refine ⟨a, ns, rfl, hS, hl, tabs_nil fun p hp => ?_, fun _ => rfl⟩
    exact nomatch hp
end L62
open PySem PySem.W PySem.Calls PyProof.Rows
set_option maxHeartbeats 0 in
theorem PySem.Challenge.cw_turnsandthrows_k62_first_fault_of_a_form_holds : PySem.Challenge.rw_turnsandthrows_k62_first_fault_of_a_form.Holds := by
  w_on; o_law
  refine HandSHeadRun.head_any (r := OpenLaw.row PySem.Challenge.rw_turnsandthrows_k62_first_fault_of_a_form) (q := view (OpenLaw.row PySem.Challenge.rw_turnsandthrows_k62_first_fault_of_a_form).prog [26]) (H := L62.hk) (ob := L62.ob) (M := 4000) (loose := L62.names) (d := HandSHeadRun.topDef (OpenLaw.row PySem.Challenge.rw_turnsandthrows_k62_first_fault_of_a_form).prog 26) (kwd := []) L62.ob_eq (by kernel_rfl) (fun s => by kernel_rfl) L62.run (by kernel_rfl) (by kernel_rfl) (by kernel_rfl) (by rfl) (by first | assumption | decide +kernel) (by decide +kernel) ⟨rfl, rfl, rfl, rfl, rfl, by decide +kernel⟩ ?hw ?hc
  case hw => w_witness2
  case hc =>
    refine LamX.walk_ofTsE (l := PySem.Challenge.rw_turnsandthrows_k62_first_fault_of_a_form) (n := 63) (k := 84) (x := "script") (CX := fun _ => L2.CX0) rfl (by decide) (by kernel_rfl) ⟨rfl, by decide, by decide⟩ ?F (fun _ _ _ _ _ z => z)
    intro w mg fa h Y G hmg0
    obtain ⟨K, KX, c⟩ := Y
    have hmg : mg ("law" : PySem.Str) = some (.ref fa) := by
      have e : (HandSHeadRun.topDef (OpenLaw.row PySem.Challenge.rw_turnsandthrows_k62_first_fault_of_a_form).prog 26).name = ("law" : PySem.Str) := by kernel_rfl
      rw [← e]
      exact hmg0
    exact ⟨K, KX, L62.facts KX G hmg c⟩

