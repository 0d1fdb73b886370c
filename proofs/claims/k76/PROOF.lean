import PyProof.Rows.All
import Wide.All
import OpenK.AllK
import Wide.FinOn
import HandS.ForMost
import HandS.IsInst
import HandS.SetBool
import HandS.Strs
import HandS.SetFor
import HandS.Lambda
import HandS.NestedK
import HandS.EndTab
import HandS.Head0
import HandS.Head1
import HandS.Head2
import HandS.HeadEnd
import HandS.HeadHook1
import HandS.HeadHook2
import HandS.HeadHook3
import HandS.HeadHook4
import HandS.HeadWalk
import HandS.ForExc
import HandS.ExcIs
import HandS.RaiseMore
import HandS.FStr
import KE.GoesMore
import PyProof.Draws
import PyProof.EnumMake
import HandS.Iter
import HandS.Gcd
import KE.KSortTupG
import KE.KDictDisplayH
import KE.KDictSum
import HandS.Keys
import HandS.Conv
import HandS.Dict
import HandS.More
import KE.KMathG
import HandS.Text
import PyProof.FString5
import HandS.ExcCtx
import HandS.HotCalls
import KE.KExcSuper
import HandS.ExcInit
import HandS.ExcField
import HandS.ClsMeth
import KE.KExcIs
import PyProof.MinMaxWalk
import HandS.Comp
import HandS.Deep
import KE.DataMinMax
import HandS.TupAny
import HandS.SetKeys
import HandS.Style
import HandS.TupLe
import HandS.Star
import PyProof.StrBlock2
import HandS.Replace
import PySem.Challenge.RW_turnsandthrows_k76_faults_of_a_machine_t
set_option Elab.async false
set_option linter.all false
set_option maxRecDepth 100000
set_option maxHeartbeats 8000000
set_option Elab.async false
set_option linter.all false
set_option maxRecDepth 100000
namespace G
open PySem PySem.Spec PyProof.Rows L2

/-! ### readings, step by step -/
section
variable {σ : L2.St} {H : Hp} {Q : VK} {QB : Bool → Hp → Prop} {QA : List V → Hp → Prop} {D : Ends} {K : PySem.W.Frag} {te ta tb : TE} {t u : TS} {c c2 : TT} {i : Nat} {v x y : V}
theorem r_seq (h : t { D with nx := u D } σ H) : tSeq t u D σ H := h
theorem r_set (h : te σ H fun x H1 => D.nx (σ.set i (some x)) H1) : tAsg te (gName i) D σ H := h
theorem r_asg {g : TG} (h : te σ H fun x H1 => g x σ H1 D.nx) : tAsg te g D σ H := h
theorem r_drop (h : te σ H fun _ H1 => D.nx σ H1) : tDrop te D σ H := h
theorem r_ret (h : te σ H D.rt) : tRet te D σ H := h
theorem r_retN (h : D.rt .non H) : tRetN D σ H := h
theorem r_next (h : D.nx σ H) : tNext D σ H := h
theorem r_break (h : D.bk σ H) : tBreak D σ H := h
theorem r_cont (h : D.ct σ H) : tCont D σ H := h
theorem r_yes (h : QB true H) : tYes σ H QB := h
theorem r_if (h : c σ H fun b H1 => if b = true then t D σ H1 else u D σ H1) : tIfS c t u D σ H := h
theorem r_ifx (h : c σ H fun d H1 => if d = true then ta σ H1 Q else tb σ H1 Q) : tIf c ta tb σ H Q := h
theorem r_var (h : σ[i]? = some (some v)) (q : Q v H) : tVar i σ H Q := ⟨v, h, q⟩
theorem r_c (q : Q v H) : tC v σ H Q := q
theorem r_op {r : R2} (h : ta σ H fun x H1 => tb σ H1 fun y H2 => r x y H2 Q) : tOp r ta tb σ H Q := h
theorem r_un {r : V → Hp → VK → Prop} (h : ta σ H fun x H1 => r x H1 Q) : tUn r ta σ H Q := h
theorem r_cb {r : List V → Hp → VK → Prop} {t : TA} (h : t σ H fun vs H1 => r vs H1 Q) : tCB r t σ H Q := h
theorem r_cons {tr : TA} (h : te σ H fun x H1 => tr σ H1 fun xs H2 => QA (x :: xs) H2) : tCons te tr σ H QA := h
theorem r_nil (h : QA [] H) : tNil σ H QA := h
theorem r_call {sp : Sp} {dvs : List V} {E : XK} {t : TA} (h : t σ H fun vs H1 => sp (vs ++ dvs) H1 Q E) : tCall sp dvs E t σ H Q := h
theorem r_test (h : te σ H fun x H' => ∃ k, x = .bl k ∧ QB k H') : tTest te σ H QB := h
theorem r_tb (h : te σ H fun x H' => ∃ k, x = .bl k ∧ QB k H') : tB te σ H QB := h
theorem r_bl {b : Bool} {C : Bool → Prop} (h : C b) : ∃ k, V.bl b = .bl k ∧ C k := ⟨b, rfl, h⟩
theorem r_and (h : c σ H fun b H1 => if b = true then c2 σ H1 QB else QB false H1) : tAnd c c2 σ H QB := h
theorem r_or (h : c σ H fun b H1 => if b = true then QB true H1 else c2 σ H1 QB) : tOr c c2 σ H QB := h
theorem r_not (h : c σ H fun b H1 => QB (!b) H1) : tNot c σ H QB := h
theorem r_andV (h : ta σ H fun x H1 => ∃ c, x = .bl c ∧ if c = true then tb σ H1 Q else Q (.bl false) H1) : tAndV ta tb σ H Q := h
theorem r_orV (h : ta σ H fun x H1 => ∃ c, x = .bl c ∧ if c = true then Q (.bl true) H1 else tb σ H1 Q) : tOrV ta tb σ H Q := h
theorem r_notV (h : ta σ H fun x H1 => ∃ c, x = .bl c ∧ Q (.bl (!c)) H1) : tNotV ta σ H Q := h
theorem r_tup {t : TA} (h : t σ H fun xs H1 => xs.length ≤ sizeLine ∧ ∀ p, H1 p = none → Q (.ref p) (upd H1 p (.tup xs))) : tTup t σ H Q := h
theorem r_lst {t : TA} (h : t σ H fun xs H1 => xs.length ≤ sizeLine ∧ ∀ p, H1 p = none → Q (.ref p) (upd H1 p (.lst xs))) : tLst t σ H Q := h
theorem r_I0 {g : Int → Int → V} {i j : Int} (h : Q (g i j) H) : rI0 g (.int i) (.int j) H Q := ⟨i, j, rfl, rfl, h⟩
theorem r_I {C : Int → Int → Prop} {g : Int → Int → V} {i j : Int} (hc : C i j) (h : Q (g i j) H) : rI C g (.int i) (.int j) H Q := ⟨i, j, rfl, rfl, hc, h⟩
theorem r_U {g : Int → V} {i : Int} (h : Q (g i) H) : rU g (.int i) H Q := ⟨i, rfl, h⟩
theorem r_eqI {i j : Int} (h : Q (.bl (decide (i = j))) H) : rEq (.int i) (.int j) H Q := by
  refine ⟨rfl, ?_⟩
  have e : decide (V.int i = V.int j) = decide (i = j) := by simp
  rw [e]; exact h
theorem r_neI {i j : Int} (h : Q (.bl (!decide (i = j))) H) : rNe (.int i) (.int j) H Q := by
  refine ⟨rfl, ?_⟩
  have e : decide (V.int i = V.int j) = decide (i = j) := by simp
  rw [e]; exact h
theorem r_eqS {i j : Str} (h : Q (.bl (decide (i = j))) H) : rEq (.str i) (.str j) H Q := by
  refine ⟨rfl, ?_⟩
  have e : decide (V.str i = V.str j) = decide (i = j) := by simp
  rw [e]; exact h
theorem r_neS {i j : Str} (h : Q (.bl (!decide (i = j))) H) : rNe (.str i) (.str j) H Q := by
  refine ⟨rfl, ?_⟩
  have e : decide (V.str i = V.str j) = decide (i = j) := by simp
  rw [e]; exact h
theorem r_eqB {i j : Bool} (h : Q (.bl (decide (i = j))) H) : rEq (.bl i) (.bl j) H Q := by
  refine ⟨rfl, ?_⟩
  have e : decide (V.bl i = V.bl j) = decide (i = j) := by simp
  rw [e]; exact h
theorem r_neB {i j : Bool} (h : Q (.bl (!decide (i = j))) H) : rNe (.bl i) (.bl j) H Q := by
  refine ⟨rfl, ?_⟩
  have e : decide (V.bl i = V.bl j) = decide (i = j) := by simp
  rw [e]; exact h
theorem r_iteD {p A B : Prop} [Decidable p] (h1 : p → A) (h2 : ¬ p → B) : if decide p = true then A else B := ite2 (fun e => h1 (of_decide_eq_true e)) fun e => h2 fun q => e (decide_eq_true q)
theorem r_iteN {p A B : Prop} [Decidable p] (h1 : ¬ p → A) (h2 : p → B) : if (!decide p) = true then A else B := by
  by_cases h : p
  · rw [decide_eq_true h]; exact iteF (h2 h)
  · rw [decide_eq_false h]; exact iteT (h1 h)
theorem r_ixL {p : Addr} {xs : List V} {i : Int} (h : SqL K H p xs) (a : atI xs i = some v) (q : Q v H) : rIxL K (.ref p) (.int i) H Q := ⟨p, xs, i, v, rfl, rfl, h, a, q⟩
theorem r_ixT {p : Addr} {xs : List V} {i : Int} (h : SqT K H p xs) (a : atI xs i = some v) (q : Q v H) : rIxT K (.ref p) (.int i) H Q := ⟨p, xs, i, v, rfl, rfl, h, a, q⟩
theorem r_ixS {z : Str} {i : Int} {c : Nat} (hz : z.length ≤ sizeLine) (a : atI z.cps.toList i = some c) (q : Q (.str ⟨#[c]⟩) H) : rIxS (.str z) (.int i) H Q := ⟨z, i, c, rfl, rfl, hz, a, q⟩
/-! named readings for what the layer says by a bare fun -/
def rInt1 : List V → Hp → VK → Prop := fun xs H Q => (∃ i, xs = [.int i] ∧ Q (.int i) H) ∨ ∃ k, xs = [.bl k] ∧ Q (.int (if k then 1 else 0)) H
theorem call_int1' {X : Cx} : CallR X (.type "int") rInt1 := call_int1
theorem r_int1 {i : Int} (q : Q (.int i) H) : rInt1 [.int i] H Q := .inl ⟨i, rfl, q⟩
def rLenQ (K : PySem.W.Frag) : List V → Hp → VK → Prop := fun xs H Q => ∃ p ys, xs = [.ref p] ∧ (SqL K H p ys ∨ SqT K H p ys) ∧ Q (.int ys.length) H
theorem call_lenQ {X : Cx} : CallR X (.builtin "len") (rLenQ X.K) := call_len_seq
theorem r_lenL {p : Addr} {ys : List V} (h : SqL K H p ys) (q : Q (.int ys.length) H) : rLenQ K [.ref p] H Q := ⟨p, ys, rfl, .inl h, q⟩
theorem r_lenT {p : Addr} {ys : List V} (h : SqT K H p ys) (q : Q (.int ys.length) H) : rLenQ K [.ref p] H Q := ⟨p, ys, rfl, .inr h, q⟩
def rLenS1 : List V → Hp → VK → Prop := fun xs H Q => ∃ z, xs = [.str z] ∧ z.length ≤ sizeLine ∧ Q (.int z.length) H
theorem call_lenS1 {X : Cx} : CallR X (.builtin "len") rLenS1 := call_len_str
theorem r_lenS {z : Str} (h : z.length ≤ sizeLine) (q : Q (.int z.length) H) : rLenS1 [.str z] H Q := ⟨z, rfl, h, q⟩
def rAddS1 : R2 := fun x y H Q => ∃ i j, x = .str i ∧ y = .str j ∧ i.length + j.length ≤ sizeLine ∧ Q (.str (i ++ j)) H
theorem op_addS {X : Cx} : OpR X (binaryOp .Add) rAddS1 := op_add_str
theorem r_addS {i j : Str} (h : i.length + j.length ≤ sizeLine) (q : Q (.str (i ++ j)) H) : rAddS1 (.str i) (.str j) H Q := ⟨i, j, rfl, rfl, h, q⟩
def rIsN1 : R2 := fun x y H Q => y = .non ∧ Q (.bl (decide (x = .non))) H
def rNotN1 : R2 := fun x y H Q => y = .non ∧ Q (.bl (!decide (x = .non))) H
theorem op_isN1 {X : Cx} : OpR X (compareOp .Is) rIsN1 := op_isN
theorem op_notN1 {X : Cx} : OpR X (compareOp .IsNot) rNotN1 := op_notN
theorem r_isN (q : Q (.bl (decide (x = .non))) H) : rIsN1 x .non H Q := ⟨rfl, q⟩
theorem r_notN (q : Q (.bl (!decide (x = .non))) H) : rNotN1 x .non H Q := ⟨rfl, q⟩
def rTupOf (K : PySem.W.Frag) : List V → Hp → VK → Prop := fun xs H Q => ∃ p ys, xs = [.ref p] ∧ ((SqL K H p ys ∧ ∀ l, H l = none → Q (.ref l) (upd H l (.tup ys))) ∨ (SqT K H p ys ∧ Q (.ref p) H))
theorem call_tupOf {X : Cx} : CallR X (.type "tuple") (rTupOf X.K) := call_tuple_of
theorem r_tupL {p : Addr} {ys : List V} (h : SqL K H p ys) (q : ∀ l, H l = none → Q (.ref l) (upd H l (.tup ys))) : rTupOf K [.ref p] H Q := ⟨p, ys, rfl, .inl ⟨h, q⟩⟩
def rLstOf (K : PySem.W.Frag) : List V → Hp → VK → Prop := fun xs H Q => ∃ p ys, xs = [.ref p] ∧ (SqL K H p ys ∨ SqT K H p ys) ∧ ∀ l, H l = none → Q (.ref l) (upd H l (.lst ys))
theorem call_lstOf {X : Cx} : CallR X (.type "list") (rLstOf X.K) := call_list_of
theorem r_lstL {p : Addr} {ys : List V} (h : SqL K H p ys) (q : ∀ l, H l = none → Q (.ref l) (upd H l (.lst ys))) : rLstOf K [.ref p] H Q := ⟨p, ys, rfl, .inl h, q⟩
theorem r_lstT {p : Addr} {ys : List V} (h : SqT K H p ys) (q : ∀ l, H l = none → Q (.ref l) (upd H l (.lst ys))) : rLstOf K [.ref p] H Q := ⟨p, ys, rfl, .inr h, q⟩
theorem r_cat {l b : Addr} {xs zs : List V} (h1 : H l = some (.lst xs)) (h2 : H b = some (.lst zs)) (hl : xs.length + zs.length ≤ sizeLine) (q : ∀ p, H p = none → Q (.ref p) (upd H p (.lst (xs ++ zs)))) : rCat (.ref l) (.ref b) H Q := ⟨l, b, xs, zs, rfl, rfl, h1, h2, hl, q⟩
theorem r_append {l : Addr} {xs : List V} (h1 : H l = some (.lst xs)) (hl : xs.length < sizeLine) (q : Q .non (upd H l (.lst (xs ++ [y])))) : rAppend (.ref l) [y] H Q := ⟨l, xs, y, rfl, rfl, h1, hl, q⟩
theorem r_extend {l b : Addr} {xs zs : List V} (h1 : H l = some (.lst xs)) (h2 : H b = some (.lst zs)) (hl : xs.length + zs.length ≤ sizeLine) (q : Q .non (upd H l (.lst (xs ++ zs)))) : rExtend (.ref l) [.ref b] H Q := ⟨l, b, xs, zs, rfl, rfl, h1, h2, hl, q⟩
theorem r_bmL {r : V → List V → Hp → VK → Prop} {to : TE} {t : TA} (h : to σ H fun x H1 => tyV K "list" x H1 ∧ t σ H1 fun xs H2 => r x xs H2 Q) : tBM K "list" r to t σ H Q := h
theorem ty_l {p : Addr} {xs : List V} (h : SqL K H p xs) : tyV K "list" (.ref p) H := .inl ⟨rfl, _, h⟩
theorem r_slS {z : Str} {lo hi : Option Int} (h : z.length ≤ sizeLine) (q : Q (.str (cutS z lo hi)) H) : rSlS (.str z) lo hi H Q := ⟨z, rfl, h, q⟩
theorem r_slL {p : Addr} {xs : List V} {lo hi : Option Int} (h : SqL K H p xs) (q : ∀ l, H l = none → Q (.ref l) (upd H l (.lst (cutV xs lo hi)))) : rSlL K (.ref p) lo hi H Q := ⟨p, xs, rfl, h, q⟩
theorem r_sl {r : V → Option Int → Option Int → Hp → VK → Prop} {tl th : TO} (h : te σ H fun x H1 => tl σ H1 fun l H2 => th σ H2 fun u H3 => r x l u H3 Q) : tSl r te tl th σ H Q := h
theorem r_noPart {Qo : Option Int → Hp → Prop} (q : Qo none H) : tNoPart σ H Qo := q
theorem r_part {Qo : Option Int → Hp → Prop} (h : te σ H fun x H1 => ∃ i, x = .int i ∧ Qo (some i) H1) : tPart te σ H Qo := h
theorem r_pint {j : Int} {C : Int → Prop} (h : C j) : ∃ i, V.int j = .int i ∧ C i := ⟨j, rfl, h⟩
theorem r_isi {t u : Value} {b : Bool} {cl : V} (k : ClsV cl u) (ty : TyX K H x t) (e : PySem.W.kitOne K t u = some b) (q : Q (.bl b) H) : rIsi K [x, cl] H Q := ⟨x, cl, t, u, b, rfl, k, ty, e, q⟩
theorem r_rng1 {ta : TA} {R : It → Hp → Prop} (h : ta σ H fun vs H1 => ∃ j : Int, vs = [.int j] ∧ -(2 ^ 62) ≤ j ∧ j < 2 ^ 62 ∧ R (Itr 0 j.toNat) H1) : iRng1 ta σ H R := h
theorem r_rng1' {j : Int} {C : Int → Prop} (h1 : -(2 ^ 62) ≤ j) (h2 : j < 2 ^ 62) (h : C j) : ∃ j' : Int, [V.int j] = [.int j'] ∧ -(2 ^ 62) ≤ j' ∧ j' < 2 ^ 62 ∧ C j' := ⟨j, rfl, h1, h2, h⟩
end

/-! ### what was tracked stands -/
theorem same_t {K : PySem.W.Frag} {H H' : Hp} {a : Addr} {xs : List V} (e : Same H H') (h : SqT K H a xs) : SqT K H' a xs := by
  rcases h with (h | ⟨o, h⟩) | h
  · exact .inl (.inl (e _ _ h))
  · exact .inl (.inr ⟨o, e _ _ h⟩)
  · exact .inr h
theorem same_new {H : Hp} {p : Addr} {o : HO} (h : H p = none) : Same H (upd H p o) := fun b x e => by
  rw [upd_ne (ne_of_none e h)]
  exact e
/-- an object that H did not know was changed -/
theorem same_mut {H H' : Hp} {p : Addr} {o : HO} (e : Same H H') (h : H p = none) : Same H (upd H' p o) := fun a u ha => by
  rw [upd_ne (ne_of_none ha h)]
  exact e a u ha
mutual
theorem dp_same {K : PySem.W.Frag} {H H' : Hp} (e : Same H H') : ∀ (d : PyData) (v : V), Dp K H v d → Dp K H' v d
  | .none, _, h => by cases h; exact .non
  | .bool b, _, h => by cases h; exact .bl b
  | .int i, _, h => by cases h; exact .int i
  | .str x, _, h => by cases h; exact .str x
  | .list ds, _, h => by
    cases h with
    | lst hs ha => exact .lst (e.seq hs) (dpAll_same e ds _ ha)
  | .tuple ds, _, h => by
    cases h with
    | tup hs ha => exact .tup (same_t e hs) (dpAll_same e ds _ ha)
  | .dict _, _, h => by cases h
theorem dpAll_same {K : PySem.W.Frag} {H H' : Hp} (e : Same H H') : ∀ (ds : List PyData) (vs : List V), DpAll K H vs ds → DpAll K H' vs ds
  | [], _, h => by cases h; exact .nil
  | d :: ds, _, h => by
    cases h with
    | cons h1 h2 => exact .cons (dp_same e d _ h1) (dpAll_same e ds _ h2)
end
theorem dpAll_len {K : PySem.W.Frag} {H : Hp} : ∀ {vs : List V} {ds : List PyData}, DpAll K H vs ds → vs.length = ds.length
  | _, _, .nil => rfl
  | _, _, .cons _ t => congrArg (· + 1) (dpAll_len t)
theorem dpAll_get {K : PySem.W.Frag} {H : Hp} : ∀ {vs : List V} {ds : List PyData} {i : Nat} {d : PyData}, DpAll K H vs ds → ds[i]? = some d → ∃ v, vs[i]? = some v ∧ Dp K H v d
  | _, _, _, _, .nil, e => by simp at e
  | _, _, 0, _, .cons h _, e => by simp at e; subst e; exact ⟨_, rfl, h⟩
  | _, _, i + 1, d, .cons _ t, e => by
    obtain ⟨v, h1, h2⟩ := dpAll_get (i := i) (d := d) t (by simpa using e)
    exact ⟨v, by simpa using h1, h2⟩
theorem dpAll_map {K : PySem.W.Frag} {H : Hp} {α : Type} {f : α → V} {g : α → PyData} (h : ∀ x, Dp K H (f x) (g x)) : ∀ xs : List α, DpAll K H (xs.map f) (xs.map g)
  | [] => .nil
  | x :: xs => .cons (h x) (dpAll_map h xs)
/-- the type of what bears data -/
theorem tyx_sqL {K : PySem.W.Frag} {H : Hp} {a : Addr} {xs : List V} (h : SqL K H a xs) : TyX K H (.ref a) (.type "list") := by
  rcases h with (h | ⟨o, h⟩) | ⟨o, its, n, hk, hc, _⟩
  · exact .base (.lst h)
  · exact .base (.frz h)
  · exact .kList hk hc
theorem tyx_sqT {K : PySem.W.Frag} {H : Hp} {a : Addr} {xs : List V} (h : SqT K H a xs) : TyX K H (.ref a) (.type "tuple") := by
  rcases h with (h | ⟨o, h⟩) | ⟨o, its, n, hk, hc, _⟩
  · exact .base (.tup h)
  · exact .fTuple h
  · exact .kTuple hk hc

/-! ### walks over a text's signs -/
theorem for_str {x : Str} {g : TG} {tb : TS} {D : Ends} {σ : L2.St} {H : Hp} (Pv : Nat → L2.St → Hp → Prop) (h0 : Pv 0 σ H)
    (hs : ∀ i c σ H, x.cps.toList[i]? = some c → Pv i σ H → g (.str ⟨#[c]⟩) σ H fun σ2 H2 => tb { D with nx := Pv (i + 1), ct := Pv (i + 1), bk := D.nx } σ2 H2) (hd : ∀ σ H, Pv x.cps.size σ H → D.nx σ H) :
    ∃ W : Nat → Nat → L2.St → Hp → Prop, (∃ m, W 0 m σ H) ∧ ∀ i m σ H, W i m σ H →
      ((Its x).stop i H ∧ D.nx σ H) ∨ ((Its x).go i H ∧ ∃ N : L2.St → Hp → Prop, (∀ σ' H', N σ' H' → ∃ m', m' < m ∧ W (i + 1) m' σ' H') ∧ ∀ x' H', (Its x).yld i H x' H' → g x' σ H' fun σ2 H2 => tb { D with nx := N, ct := N, bk := D.nx } σ2 H2) := by
  refine ⟨fun i m σ H => m = x.cps.size - i ∧ i ≤ x.cps.size ∧ Pv i σ H, ⟨x.cps.size, by simp, Nat.zero_le _, h0⟩, ?_⟩
  rintro i m σ H ⟨rfl, hi, p⟩
  by_cases hlt : i < x.cps.size
  · refine .inr ⟨hlt, Pv (i + 1), fun σ' H' p' => ⟨x.cps.size - (i + 1), by omega, rfl, hlt, p'⟩, fun x' H' y => ?_⟩
    obtain ⟨e, c, hc, rfl⟩ := y
    subst e
    exact hs i c σ _ (by rw [Array.getElem?_toList]; exact hc) p
  · have e : i = x.cps.size := by omega
    subst e
    exact .inl ⟨Nat.le_refl _, hd σ H p⟩
end G
namespace G
open PySem PySem.Spec PyProof.Rows L2
/-! isinstance of built-in kinds -/
section
variable {K : PySem.W.Frag}
theorem kt_NoneType_list : PySem.W.kitOne K (.type "NoneType") (.type "list") = some false := kit_ty (by decide +kernel)
theorem kt_NoneType_tuple : PySem.W.kitOne K (.type "NoneType") (.type "tuple") = some false := kit_ty (by decide +kernel)
theorem kt_NoneType_bool : PySem.W.kitOne K (.type "NoneType") (.type "bool") = some false := kit_ty (by decide +kernel)
theorem kt_NoneType_int : PySem.W.kitOne K (.type "NoneType") (.type "int") = some false := kit_ty (by decide +kernel)
theorem kt_NoneType_str : PySem.W.kitOne K (.type "NoneType") (.type "str") = some false := kit_ty (by decide +kernel)
theorem kt_bool_list : PySem.W.kitOne K (.type "bool") (.type "list") = some false := kit_ty (by decide +kernel)
theorem kt_bool_tuple : PySem.W.kitOne K (.type "bool") (.type "tuple") = some false := kit_ty (by decide +kernel)
theorem kt_bool_bool : PySem.W.kitOne K (.type "bool") (.type "bool") = some true := kit_ty (by decide +kernel)
theorem kt_bool_int : PySem.W.kitOne K (.type "bool") (.type "int") = some true := kit_ty (by decide +kernel)
theorem kt_bool_str : PySem.W.kitOne K (.type "bool") (.type "str") = some false := kit_ty (by decide +kernel)
theorem kt_int_list : PySem.W.kitOne K (.type "int") (.type "list") = some false := kit_ty (by decide +kernel)
theorem kt_int_tuple : PySem.W.kitOne K (.type "int") (.type "tuple") = some false := kit_ty (by decide +kernel)
theorem kt_int_bool : PySem.W.kitOne K (.type "int") (.type "bool") = some false := kit_ty (by decide +kernel)
theorem kt_int_int : PySem.W.kitOne K (.type "int") (.type "int") = some true := kit_ty (by decide +kernel)
theorem kt_int_str : PySem.W.kitOne K (.type "int") (.type "str") = some false := kit_ty (by decide +kernel)
theorem kt_str_list : PySem.W.kitOne K (.type "str") (.type "list") = some false := kit_ty (by decide +kernel)
theorem kt_str_tuple : PySem.W.kitOne K (.type "str") (.type "tuple") = some false := kit_ty (by decide +kernel)
theorem kt_str_bool : PySem.W.kitOne K (.type "str") (.type "bool") = some false := kit_ty (by decide +kernel)
theorem kt_str_int : PySem.W.kitOne K (.type "str") (.type "int") = some false := kit_ty (by decide +kernel)
theorem kt_str_str : PySem.W.kitOne K (.type "str") (.type "str") = some true := kit_ty (by decide +kernel)
theorem kt_list_list : PySem.W.kitOne K (.type "list") (.type "list") = some true := kit_ty (by decide +kernel)
theorem kt_list_tuple : PySem.W.kitOne K (.type "list") (.type "tuple") = some false := kit_ty (by decide +kernel)
theorem kt_list_bool : PySem.W.kitOne K (.type "list") (.type "bool") = some false := kit_ty (by decide +kernel)
theorem kt_list_int : PySem.W.kitOne K (.type "list") (.type "int") = some false := kit_ty (by decide +kernel)
theorem kt_list_str : PySem.W.kitOne K (.type "list") (.type "str") = some false := kit_ty (by decide +kernel)
theorem kt_tuple_list : PySem.W.kitOne K (.type "tuple") (.type "list") = some false := kit_ty (by decide +kernel)
theorem kt_tuple_tuple : PySem.W.kitOne K (.type "tuple") (.type "tuple") = some true := kit_ty (by decide +kernel)
theorem kt_tuple_bool : PySem.W.kitOne K (.type "tuple") (.type "bool") = some false := kit_ty (by decide +kernel)
theorem kt_tuple_int : PySem.W.kitOne K (.type "tuple") (.type "int") = some false := kit_ty (by decide +kernel)
theorem kt_tuple_str : PySem.W.kitOne K (.type "tuple") (.type "str") = some false := kit_ty (by decide +kernel)
end
section
variable {K : PySem.W.Frag} {H : Hp} {Q : VK} {v : V}
theorem r_xL {p : Addr} {xs : List V} {i : Int} (h : SqL K H p xs) (a : atI xs i = some v) (q : Q v H) : rIx K (.ref p) (.int i) H Q := .inl ⟨p, xs, i, v, rfl, rfl, h, a, q⟩
theorem r_xT {p : Addr} {xs : List V} {i : Int} (h : SqT K H p xs) (a : atI xs i = some v) (q : Q v H) : rIx K (.ref p) (.int i) H Q := .inr (.inl ⟨p, xs, i, v, rfl, rfl, h, a, q⟩)
end
/-! a def of which nothing is promised -/
theorem fn_false {P : Program} {w : World} {K : PySem.W.Frag} {mg : Str → Option Value} {base : Heap} {CX : CXT} {k : Nat} {f : Addr} {fd : FuncData} {ps : List Str} : FnOk P w K mg base CX k f fd ps (fun _ _ _ _ => False) := by
  constructor
  · intros; contradiction
  · intros; contradiction
theorem fn_vac {P : Program} {w : World} {K : PySem.W.Frag} {mg : Str → Option Value} {base : Heap} {CX : CXT} {k : Nat} {f : Addr} {fd : FuncData} {ps : List Str} {sp : Sp} (h : ∀ vs H Q E, sp vs H Q E → False) : FnOk P w K mg base CX k f fd ps sp := by
  have e : sp = fun _ _ _ _ => False := by
    funext vs H Q E
    exact propext ⟨h vs H Q E, False.elim⟩
  rw [e]
  exact fn_false

/-! ### promises of the law's helpers -/
def cellV (ns : List Int) (k : Int) : Int := ns.getD k.toNat 0
def spCellG (K : PySem.W.Frag) : Sp := fun vs H Q _ => ∃ (l : Addr) (ns : List Int) (k : Int), vs = [.ref l, .int k] ∧ SqL K H l (ns.map V.int) ∧ 0 ≤ k ∧ Q (.int (cellV ns k)) H
/-- data of a depth below n, of bounded lengths -/
def fits : Nat → PyData → Prop
  | 0, _ => False
  | n + 1, .list ds => ds.length ≤ sizeLine ∧ ∀ d ∈ ds, fits n d
  | n + 1, .tuple ds => ds.length ≤ sizeLine ∧ ∀ d ∈ ds, fits n d
  | _ + 1, .dict _ => False
  | _ + 1, .none => True
  | _ + 1, .bool _ => True
  | _ + 1, .int _ => True
  | _ + 1, .str _ => True
def spSame (K : PySem.W.Frag) (n : Nat) : Sp := fun vs H Q _ => ∃ (x y : V) (d : PyData), vs = [x, y] ∧ Dp K H x d ∧ Dp K H y d ∧ fits n d ∧ Q (.bl true) H
/-- count new numbers from 0 to 999 -/
def spNums (K : PySem.W.Frag) : Sp := fun vs H Q _ => ∃ (c : Int) (n : Nat), vs = [.int c, .int (n : Int)] ∧ n ≤ 10000 ∧
  ∀ (H' : Hp) (p : Addr) (ns : List Int), Same H H' → H p = none → H' p = some (.lst (ns.map V.int)) → ns.length = n → (∀ z ∈ ns, 0 ≤ z ∧ z < 1000) → Q (.ref p) H'
theorem emod_rng (a : Int) {b : Int} (h : 0 < b) : 0 ≤ a % b ∧ a % b < b := ⟨Int.emod_nonneg a (by omega), Int.emod_lt_of_pos a h⟩
/-! texts as lists of codes -/
abbrev sV (l : List Nat) : V := .str ⟨l.toArray⟩
theorem str_app (a b : List Nat) : (⟨a.toArray⟩ : Str) ++ (⟨b.toArray⟩ : Str) = ⟨(a ++ b).toArray⟩ := congrArg Str.mk (show a.toArray ++ b.toArray = (a ++ b).toArray by simp)
theorem str_len (a : List Nat) : (⟨a.toArray⟩ : Str).length = a.length := by simp [Str.length]
/-- a comprehension over a text's signs -/
theorem lc_str {x : Str} {g : TG} {tt : TT} {te : TE} {vs : List Nat} {σ : L2.St} {H1 : Hp} {D : Addr} {Qd : Hp → Prop} (Pv : Nat → Hp → Prop) (h0 : Pv 0 (upd H1 D (.lst [])))
    (hs : ∀ i c H, x.cps.toList[i]? = some c → Pv i H → g (.str ⟨#[c]⟩) (wipe σ vs) H fun σ2 H2 => wipe σ2 vs = wipe σ vs ∧ tt σ2 H2 fun b H3 =>
      if b = true then te σ2 H3 fun y H4 => ∃ acc, H4 D = some (.lst acc) ∧ acc.length < sizeLine ∧ Pv (i + 1) (upd H4 D (.lst (acc ++ [y]))) else Pv (i + 1) H3) (hd : ∀ H, Pv x.cps.size H → Qd H) :
    ∃ W : Nat → Nat → Hp → Prop, (∃ m, W 0 m (upd H1 D (.lst []))) ∧ ∀ i m H, W i m H →
      ((Its x).stop i H ∧ Qd H) ∨ ((Its x).go i H ∧ ∃ Nx : Hp → Prop, (∀ H', Nx H' → ∃ m', m' < m ∧ W (i + 1) m' H') ∧ ∀ x' H', (Its x).yld i H x' H' → g x' (wipe σ vs) H' fun σ2 H2 => wipe σ2 vs = wipe σ vs ∧ tt σ2 H2 fun b H3 =>
        if b = true then te σ2 H3 fun y H4 => ∃ acc, H4 D = some (.lst acc) ∧ acc.length < sizeLine ∧ Nx (upd H4 D (.lst (acc ++ [y]))) else Nx H3) := by
  refine ⟨fun i m H => m = x.cps.size - i ∧ i ≤ x.cps.size ∧ Pv i H, ⟨x.cps.size, by simp, Nat.zero_le _, h0⟩, ?_⟩
  rintro i m H ⟨rfl, hi, p⟩
  by_cases hlt : i < x.cps.size
  · refine .inr ⟨hlt, Pv (i + 1), fun H' p' => ⟨x.cps.size - (i + 1), by omega, rfl, hlt, p'⟩, fun x' H' y => ?_⟩
    obtain ⟨e, c, hc, rfl⟩ := y
    subst e
    exact hs i c _ (by rw [Array.getElem?_toList]; exact hc) p
  · have e : i = x.cps.size := by omega
    subst e
    exact .inl ⟨Nat.le_refl _, hd H p⟩
theorem cut_abcd {m : Nat} (h4 : m ≤ 4) : cutS (Str.ofString "abcd") none (some (m : Int)) = ⟨(List.take m [97, 98, 99, 100]).toArray⟩ := by
  match m, h4 with
  | 0, _ => decide +kernel
  | 1, _ => decide +kernel
  | 2, _ => decide +kernel
  | 3, _ => decide +kernel
  | 4, _ => decide +kernel
section
variable {σ : L2.St} {H : Hp} {Q : VK} {K : PySem.W.Frag} {te : TE} {R : It → Hp → Prop}
theorem r_gn {i : Nat} {v : V} {C : L2.St → Hp → Prop} (h : C (σ.set i (some v)) H) : gName i v σ H C := h
theorem iteNT {A B : Prop} (h : B) : if (!true) = true then A else B := iteF h
theorem iteNF {A B : Prop} (h : A) : if (!false) = true then A else B := iteT h
theorem r_fdiv {g : Int → Int → V} {i j : Int} (hc : 0 < j ∧ j < 1073741824) (h : Q (g i j) H) : rI CDiv g (.int i) (.int j) H Q := ⟨i, j, rfl, rfl, hc, h⟩
theorem r_mod {g : Int → Int → V} {i j : Int} (hc : 0 < j) (h : Q (g i j) H) : rI (fun _ j => 0 < j) g (.int i) (.int j) H Q := ⟨i, j, rfl, rfl, hc, h⟩
theorem r_mul {g : Int → Int → V} {i j : Int} (hc : (-(2 ^ 64) < i ∧ i < 2 ^ 64) ∨ (-(2 ^ 64) < j ∧ j < 2 ^ 64)) (h : Q (g i j) H) : rI CMul g (.int i) (.int j) H Q := ⟨i, j, rfl, rfl, hc, h⟩
theorem r_pow {g : Int → Int → V} {i j : Int} (hc : 0 ≤ j ∧ j ≤ 1000000 ∧ i.natAbs < 2 ^ 64) (h : Q (g i j) H) : rI CPow g (.int i) (.int j) H Q := ⟨i, j, rfl, rfl, hc, h⟩
theorem r_iStr (h : te σ H fun v H1 => ∃ x, v = .str x ∧ R (Its x) H1) : iStr te σ H R := h
theorem r_iList (h : te σ H fun x H1 => ∃ a, x = .ref a ∧ (∃ xs, SqL K H1 a xs) ∧ R (Itl K a) H1) : iList K te σ H R := h
theorem r_iTup (h : te σ H fun x H1 => ∃ a, x = .ref a ∧ (∃ xs, SqT K H1 a xs) ∧ R (Itt K a) H1) : iTup K te σ H R := h
theorem r_str1 {z : Str} {C : Str → Prop} (h : C z) : ∃ x, V.str z = .str x ∧ C x := ⟨z, rfl, h⟩
theorem r_ref1 {p : Addr} {C : Addr → Prop} (h : C p) : ∃ a, V.ref p = .ref a ∧ C a := ⟨p, rfl, h⟩
end
/-! places in a text -/
def noE : Expr := .Name "" ⟨0, 0, 0, 0⟩
def noS : Stmt := .Pass ⟨0, 0, 0, 0⟩
def eArg (k : Nat) : Expr → Expr | .Call _ es _ _ => es.getD k noE | _ => noE
def eFun : Expr → Expr | .Call f _ _ _ => f | _ => noE
def eObj : Expr → Expr | .Attribute v _ _ => v | _ => noE
def eElt : Expr → Expr | .ListComp e _ _ _ => e | .SetComp e _ _ _ => e | .GeneratorExp e _ _ _ => e | _ => noE
def eScope : Expr → Scope | .ListComp _ _ sc _ => sc | .SetComp _ _ sc _ => sc | .GeneratorExp _ _ sc _ => sc | _ => { kind := .function, names := [], isGenerator := false, isCoroutine := false }
def eIter (k : Nat) : Expr → Expr | .ListComp _ gs _ _ => (gs.map fun g => g.iter).getD k noE | _ => noE
def eIf (k j : Nat) : Expr → Expr | .ListComp _ gs _ _ => ((gs.map fun g => g.ifs).getD k []).getD j noE | _ => noE
def eLeft : Expr → Expr | .BinOp a _ _ _ => a | .Compare a _ _ _ => a | .Subscript a _ _ => a | .UnaryOp _ a _ => a | _ => noE
def eRight : Expr → Expr | .BinOp _ _ b _ => b | .Subscript _ b _ => b | _ => noE
def eCmp (k : Nat) : Expr → Expr | .Compare _ _ bs _ => bs.getD k noE | _ => noE
def eVal (k : Nat) : Expr → Expr | .BoolOp _ es _ => es.getD k noE | .List es _ => es.getD k noE | .Tuple es _ _ => es.getD k noE | _ => noE
def sE : Stmt → Expr | .Assign _ e _ => e | .AugAssign _ _ e _ => e | .Return (some e) _ => e | .Expr e _ => e | .If c _ _ _ => c | .While c _ _ _ => c | .For _ it _ _ _ => it | _ => noE
def sIn (k : Nat) : Stmt → Stmt | .FunctionDef _ _ b _ _ _ _ _ _ _ => b.getD k noS | .If _ b _ _ => b.getD k noS | .For _ _ b _ _ => b.getD k noS | .While _ b _ _ => b.getD k noS | _ => noS
def sElse (k : Nat) : Stmt → Stmt | .If _ _ b _ => b.getD k noS | _ => noS
section
variable {σ : L2.St} {H : Hp} {Q : VK} {K : PySem.W.Frag} {te : TE}
def rIdxS : V → List V → Hp → VK → Prop := fun x xs H Q => ∃ a b i rest, x = .str a ∧ xs = [.str b] ∧ Builtin.Str.occurrences a b 0 a.length 1 = i :: rest ∧ Q (.int (i : Nat)) H
theorem mt_indexS {X : Cx} : MtR X "str.index" rIdxS := mt_sindex
theorem occ_abcd {j c : Nat} (h : [97, 98, 99, 100][j]? = some c) : Builtin.Str.occurrences (Str.ofString "abcd") ⟨#[c]⟩ 0 (Str.ofString "abcd").length 1 = [j] := by
  match j, h with
  | 0, h => cases Option.some.inj h; decide +kernel
  | 1, h => cases Option.some.inj h; decide +kernel
  | 2, h => cases Option.some.inj h; decide +kernel
  | 3, h => cases Option.some.inj h; decide +kernel
  | n + 4, h => simp at h
theorem r_idxS {j c : Nat} (h : [97, 98, 99, 100][j]? = some c) (q : Q (.int (j : Int)) H) : rIdxS (.str (Str.ofString "abcd")) [.str ⟨#[c]⟩] H Q := ⟨_, _, j, [], rfl, rfl, occ_abcd h, q⟩
def rJoinS (K : PySem.W.Frag) : V → List V → Hp → VK → Prop := fun x xs H Q => ∃ a p, ∃ ys : List Str, x = .str a ∧ xs = [.ref p] ∧ (SqL K H p (ys.map V.str) ∨ SqT K H p (ys.map V.str)) ∧ (ys.map (·.length)).sum + ys.length * a.length ≤ 16777216 ∧ Q (.str (Txt.join a ys)) H
theorem mt_joinS {X : Cx} : MtR X "str.join" (rJoinS X.K) := mt_join
theorem r_bmS {T : String} {r : V → List V → Hp → VK → Prop} {to : TE} {t : TA} (h : to σ H fun x H1 => tyV K T x H1 ∧ t σ H1 fun xs H2 => r x xs H2 Q) : tBM K T r to t σ H Q := h
theorem foldl_app : ∀ (xs : List (Array Nat)) (acc : Array Nat), xs.foldl (· ++ ·) acc = acc ++ (xs.map Array.toList).flatten.toArray
  | [], acc => by simp
  | x :: xs, acc => by
    rw [List.foldl_cons, foldl_app xs (acc ++ x)]
    rw [List.map_cons, List.flatten_cons, Array.append_assoc]
    congr 1
    apply Array.ext'
    simp
theorem mul_txt (l : List Nat) (n : Nat) : Txt.mul ⟨l.toArray⟩ (n : Int) = ⟨((List.replicate n l).flatten).toArray⟩ := by
  unfold Txt.mul
  by_cases h1 : (n : Int) < 1
  · have e : n = 0 := by omega
    subst e
    rfl
  · rw [if_neg h1]
    by_cases h2 : ((n : Int) == 1 || (⟨l.toArray⟩ : Str).length == 0) = true
    · rw [if_pos h2]
      rcases Bool.or_eq_true_iff.mp h2 with e | e
      · have e' : n = 1 := by have := eq_of_beq e; omega
        subst e'
        simp
      · have e' : l = [] := by
          have e2 : l.toArray.size = 0 := eq_of_beq e
          rw [List.size_toArray] at e2
          exact List.length_eq_zero_iff.mp e2
        subst e'
        simp
    · rw [if_neg h2]
      congr 1
      rw [foldl_app]
      simp
def rRepS : R2 := fun x y H Q => ∃ (l : List Nat) (n : Nat), x = .str ⟨l.toArray⟩ ∧ y = .int (n : Int) ∧ l.length * n ≤ sizeLine ∧ n ≤ 1000000 ∧ Q (.str ⟨((List.replicate n l).flatten).toArray⟩) H
theorem op_repS {X : Cx} : OpR X (binaryOp .Mult) rRepS := by
  intro pins s σ H x y v u Q I rx ry h
  obtain ⟨l, n, rfl, rfl, hl, hn, q⟩ := h
  obtain ⟨t, rfl⟩ := rx
  obtain ⟨t2, rfl⟩ := ry
  refine SB.mul ⟨?_, fun h1 h2 => ?_, fun h1 h2 => ?_⟩ fun t' k => ⟨.str (Txt.mul ⟨l.toArray⟩ (n : Int)), H, I.tok k, ⟨t', rfl⟩, ?_⟩
  · rw [Bool.or_eq_false_iff]
    exact ⟨decide_eq_false (by omega), decide_eq_false (by omega)⟩
  · have hz : (sizeLine : Nat) = 16777216 := by decide
    rw [str_len]
    intro hc
    have hn1 : 1 ≤ n := by omega
    have hll : l.length ≤ 16777216 := by
      have : l.length * 1 ≤ l.length * n := Nat.mul_le_mul_left _ hn1
      omega
    have h3 : (1000000000 : Int) ≤ (2 ^ 63 - 1) / (n : Int) := by
      rw [Int.le_ediv_iff_mul_le (by omega)]
      omega
    omega
  · rw [str_len]
    have : (l.length * (n : Int).toNat) ≤ sizeLine := by rw [Int.toNat_natCast]; exact hl
    exact decide_eq_false (by omega)
  · rw [mul_txt]
    exact q
theorem r_lstRg1 {j : Int} (h0 : 0 ≤ j) (h1 : j ≤ 16777216) (q : ∀ p, H p = none → Q (.ref p) (upd H p (.lst (((List.range j.toNat).map fun i : Nat => (i : Int)).map V.int)))) (h : te σ H fun x H1 => x = .int j ∧ H1 = H) (mono : ∀ R R' : VK, (∀ v H, R v H → R' v H) → te σ H R → te σ H R') : tLstRg (tRg1 te) σ H Q := by
  refine mono _ _ (fun v H1 e => ?_) h
  obtain ⟨rfl, rfl⟩ := e
  refine ⟨j, rfl, RgOk.of_le (Int.le_refl _) h1 (by decide) h0, fun p hp => ?_⟩
  have e : rgV 0 j = ((List.range j.toNat).map fun i : Nat => (i : Int)).map V.int := by
    unfold rgV
    rw [List.map_map, show (j - 0) = j by omega]
    refine List.map_congr_left fun i _ => ?_
    show V.int (0 + (i : Int)) = V.int (i : Int)
    rw [Int.zero_add]
  rw [e]
  exact q p hp
end
/-! drawn numbers -/
def Dr (n : Nat) (c : Int) (ms : List Int) : Prop := ms.length = n ∧ ∀ z ∈ ms, 0 ≤ z ∧ z < c
theorem Dr.nil {c : Int} : Dr 0 c [] := ⟨rfl, fun _ h => nomatch h⟩
theorem Dr.app {n : Nat} {c z : Int} {ms : List Int} (h : Dr n c ms) (h0 : 0 ≤ z) (h1 : z < c) : Dr (n + 1) c (ms ++ [z]) := by
  refine ⟨by rw [List.length_append, h.1]; rfl, fun y hy => ?_⟩
  rcases List.mem_append.mp hy with hy | hy
  · exact h.2 y hy
  · rw [List.mem_singleton.mp hy]; exact ⟨h0, h1⟩
theorem Dr.set {n : Nat} {c z : Int} {ms : List Int} {j : Nat} (h : Dr n c ms) (h0 : 0 ≤ z) (h1 : z < c) : Dr n c (ms.set j z) := by
  refine ⟨by rw [List.length_set]; exact h.1, fun y hy => ?_⟩
  rcases List.mem_or_eq_of_mem_set hy with hy | hy
  · exact h.2 y hy
  · rw [hy]; exact ⟨h0, h1⟩
theorem Dr.getD {n : Nat} {c : Int} {ms : List Int} {j : Nat} (h : Dr n c ms) (hj : j < n) : 0 ≤ ms.getD j 0 ∧ ms.getD j 0 < c := by
  have hj' : j < ms.length := by rw [h.1]; exact hj
  rw [List.getD_eq_getElem?_getD, List.getElem?_eq_getElem hj']
  exact h.2 _ (List.getElem_mem hj')
theorem at_int {ns : List Int} {i : Int} (h0 : 0 ≤ i) (h1 : i < ns.length) : atI (ns.map V.int) i = some (.int (ns.getD i.toNat 0)) := by
  have hi : i.toNat < ns.length := by omega
  refine at_of (j := i.toNat) (by omega) ?_
  rw [List.getElem?_map, List.getD_eq_getElem?_getD, List.getElem?_eq_getElem hi]
  rfl
theorem ix_set {n : Nat} {i : Int} (h0 : 0 ≤ i) (h1 : i < n) : ixN n i = some i.toNat := by
  unfold ixN
  rw [if_pos h0, if_pos h1]
theorem r_setL {p : Addr} {xs : List V} {k : Int} {y : V} {H : Hp} {Q : Hp → Prop} (h : H p = some (.lst xs)) (h0 : 0 ≤ k) (h1 : k < xs.length) (q : Q (upd H p (.lst (xs.set k.toNat y)))) : rSetL (.ref p) (.int k) y H Q := ⟨p, xs, k, k.toNat, rfl, rfl, h, ix_set h0 h1, q⟩
theorem r_gsub {to ti : TE} {t : TSet} {v : V} {σ : L2.St} {H : Hp} {C : L2.St → Hp → Prop} (h : to σ H fun o H1 => ti σ H1 fun i H2 => t o i v H2 fun H3 => C σ H3) : gSub to ti t v σ H C := h
theorem map_set_int (ms : List Int) (j : Nat) (z : Int) : (ms.map V.int).set j (V.int z) = (ms.set j z).map V.int := by rw [List.map_set]
theorem rep_flat (z : Int) (n : Nat) : (List.replicate n [V.int z]).flatten = (List.replicate n z).map V.int := by
  induction n with
  | zero => rfl
  | succ n ih => rw [List.replicate_succ, List.flatten_cons, ih, List.replicate_succ]; rfl
theorem Dr.rep {n : Nat} {c z : Int} (h0 : 0 ≤ z) (h1 : z < c) : Dr n c (List.replicate n z) := ⟨List.length_replicate, fun y hy => by rw [(List.mem_replicate.mp hy).2]; exact ⟨h0, h1⟩⟩
theorem Dr.perm {n : Nat} {c : Int} {ms ms' : List Int} (h : Dr n c ms) (p : ms'.Perm ms) : Dr n c ms' := ⟨by rw [p.length_eq]; exact h.1, fun y hy => h.2 y (p.mem_iff.mp hy)⟩
theorem Dr.range (n : Nat) : Dr n n ((List.range n).map fun i : Nat => (i : Int)) := by
  refine ⟨by rw [List.length_map, List.length_range], fun y hy => ?_⟩
  obtain ⟨i, hi, rfl⟩ := List.mem_map.mp hy
  have := List.mem_range.mp hi
  exact ⟨by omega, by omega⟩
def spAction (K : PySem.W.Frag) : Sp := fun vs H Q _ => ∃ (p : Addr) (ns : List Int) (n : Nat), vs = [.ref p, .int (n : Int)] ∧ SqL K H p (ns.map V.int) ∧ 12 ≤ ns.length ∧ 1 ≤ n ∧ n ≤ 10 ∧
  ∀ (H' : Hp) (q : Addr) (ms : List Int), Same H H' → H q = none → H' q = some (.lst (ms.map V.int)) → Dr n n ms → Q (.ref q) H'
/-! the rules with the written part named -/
section
variable {X : Cx} {K : PySem.W.Frag}
theorem ix_listK (h : X.K = K) : IxR X (rIxL K) := h ▸ ix_list
theorem ix_tupK (h : X.K = K) : IxR X (rIxT K) := h ▸ ix_tup
theorem ix_seqK (h : X.K = K) : IxR X (rIx K) := h ▸ ix_seq
theorem call_lenQK (h : X.K = K) : CallR X (.builtin "len") (rLenQ K) := h ▸ call_lenQ
theorem call_tupOfK (h : X.K = K) : CallR X (.type "tuple") (rTupOf K) := h ▸ call_tupOf
theorem call_lstOfK (h : X.K = K) : CallR X (.type "list") (rLstOf K) := h ▸ call_lstOf
theorem call_isiK1 (h : X.K = K) : CallR X (.builtin "isinstance") (rIsi K) := h ▸ call_isi
theorem cr_sortedK (h : X.K = K) : CallR X (.builtin "sorted") (rSorted K) := h ▸ cr_sorted
theorem sl_listK (h : X.K = K) : SlR X (rSlL K) := h ▸ sl_list
theorem sl_tupK (h : X.K = K) : SlR X (rSlT K) := h ▸ sl_tup
theorem op_inK (h : X.K = K) : OpR X (compareOp .In) (rIn K false) := h ▸ op_in_seq
theorem op_notInK (h : X.K = K) : OpR X (compareOp .NotIn) (rIn K true) := h ▸ op_notIn_seq
theorem op_catTK (h : X.K = K) : OpR X (binaryOp .Add) (rCatT K) := h ▸ op_catT
theorem op_eqDK (h : X.K = K) (hu : X.A.units + 64 < cLine) : OpR X (compareOp .Eq) (rEqD K) := h ▸ op_eqD hu
theorem op_neDK (h : X.K = K) (hu : X.A.units + 64 < cLine) : OpR X (compareOp .NotEq) (rNeD K) := h ▸ op_neD hu
theorem mt_joinSK (h : X.K = K) : MtR X "str.join" (rJoinS K) := h ▸ mt_joinS
theorem cr_anyK (h : X.K = K) (hc : X.calm = true) : CallR X (.builtin "any") (rAny K) := h ▸ cr_any hc
theorem pi_listK {tg l : Expr} {tl : TE} (h : X.K = K) (hl : PE X l tl) : PI X tg l (iList K tl) := h ▸ pi_list hl
theorem pi_tupK {tg l : Expr} {tl : TE} (h : X.K = K) (hl : PE X l tl) : PI X tg l (iTup K tl) := h ▸ pi_tup hl
theorem bmK {e : Expr} {T : String} {r : V → List V → Hp → VK → Prop} {to : TE} {t : TA} (h : X.K = K) (p : PE X e (tBM X.K T r to t)) : PE X e (tBM K T r to t) := h ▸ p
theorem bm0K {e : Expr} {T : String} {r : V → List V → Hp → VK → Prop} {to : TE} (h : X.K = K) (p : PE X e (tBM0 X.K T r to)) : PE X e (tBM0 K T r to) := h ▸ p
theorem pg_tupK {es : List Expr} {k : Nat} {t : TGs} {n : Nat} {pos : Pos} (hK : X.K = K) (hc : X.calm = true) (h : PGs X es t) (hn : (assignEach es X.env).length = n := by rfl) (hst : (assignEach es X.env).findIdx? (·.1) = none := by rfl) : PG X (.Tuple es k pos) (gTup K n t) := hK ▸ pg_tup hc h hn hst
end
theorem ln1 {x0 : V} : [x0].length ≤ sizeLine := by show 1 ≤ sizeLine; decide
theorem ln2 {x0 x1 : V} : [x0, x1].length ≤ sizeLine := by show 2 ≤ sizeLine; decide
theorem ln3 {x0 x1 x2 : V} : [x0, x1, x2].length ≤ sizeLine := by show 3 ≤ sizeLine; decide
theorem ln4 {x0 x1 x2 x3 : V} : [x0, x1, x2, x3].length ≤ sizeLine := by show 4 ≤ sizeLine; decide
theorem ln5 {x0 x1 x2 x3 x4 : V} : [x0, x1, x2, x3, x4].length ≤ sizeLine := by show 5 ≤ sizeLine; decide
theorem ln6 {x0 x1 x2 x3 x4 x5 : V} : [x0, x1, x2, x3, x4, x5].length ≤ sizeLine := by show 6 ≤ sizeLine; decide
theorem ln7 {x0 x1 x2 x3 x4 x5 x6 : V} : [x0, x1, x2, x3, x4, x5, x6].length ≤ sizeLine := by show 7 ≤ sizeLine; decide
theorem ln8 {x0 x1 x2 x3 x4 x5 x6 x7 : V} : [x0, x1, x2, x3, x4, x5, x6, x7].length ≤ sizeLine := by show 8 ≤ sizeLine; decide
/-! ### data of tuples alone: what never changes -/
mutual
inductive Dt (K : PySem.W.Frag) (H : Hp) : V → PyData → Prop
  | non : Dt K H .non .none
  | bl (b : Bool) : Dt K H (.bl b) (.bool b)
  | int (i : Int) : Dt K H (.int i) (.int i)
  | str (x : Str) : Dt K H (.str x) (.str x)
  | tup {a : Addr} {xs : List V} {ds : List PyData} : SqT K H a xs → DtAll K H xs ds → Dt K H (.ref a) (.tuple ds)
inductive DtAll (K : PySem.W.Frag) (H : Hp) : List V → List PyData → Prop
  | nil : DtAll K H [] []
  | cons {v : V} {vs : List V} {d : PyData} {ds : List PyData} : Dt K H v d → DtAll K H vs ds → DtAll K H (v :: vs) (d :: ds)
end
/-- tuples stand -/
def SameT (H H' : Hp) : Prop := ∀ b, (∀ xs, H b = some (.tup xs) → H' b = some (.tup xs)) ∧ ∀ o xs, H b = some (.frz o (.tup xs)) → H' b = some (.frz o (.tup xs))
theorem sT_of {H H' : Hp} (e : Same H H') : SameT H H' := fun b => ⟨fun _ h => e b _ h, fun _ _ h => e b _ h⟩
theorem SameT.refl (H : Hp) : SameT H H := fun _ => ⟨fun _ h => h, fun _ _ h => h⟩
theorem SameT.trans {H H1 H2 : Hp} (a : SameT H H1) (b : SameT H1 H2) : SameT H H2 := fun c => ⟨fun xs h => (b c).1 xs ((a c).1 xs h), fun o xs h => (b c).2 o xs ((a c).2 o xs h)⟩
theorem SameT.lst {H : Hp} {p : Addr} {xs : List V} {o : HO} (h : H p = some (.lst xs)) : SameT H (upd H p o) := fun b => by
  refine ⟨fun ys e => ?_, fun o' ys e => ?_⟩
  · have : b ≠ p := fun z => by rw [z, h] at e; cases e
    rw [upd_ne this]; exact e
  · have : b ≠ p := fun z => by rw [z, h] at e; cases e
    rw [upd_ne this]; exact e
theorem SameT.sq {K : PySem.W.Frag} {H H' : Hp} {a : Addr} {xs : List V} (e : SameT H H') (h : SqT K H a xs) : SqT K H' a xs := by
  rcases h with (h | ⟨o, h⟩) | h
  · exact .inl (.inl ((e _).1 _ h))
  · exact .inl (.inr ⟨o, (e _).2 _ _ h⟩)
  · exact .inr h
mutual
theorem Dt.keep {K : PySem.W.Frag} {H H' : Hp} (e : SameT H H') : ∀ (d : PyData) (v : V), Dt K H v d → Dt K H' v d
  | .none, _, h => by cases h; exact .non
  | .bool b, _, h => by cases h; exact .bl b
  | .int i, _, h => by cases h; exact .int i
  | .str x, _, h => by cases h; exact .str x
  | .list ds, _, h => by cases h
  | .tuple ds, _, h => by
    cases h with
    | tup hs ha => exact .tup (e.sq hs) (DtAll.keep e ds _ ha)
  | .dict _, _, h => by cases h
theorem DtAll.keep {K : PySem.W.Frag} {H H' : Hp} (e : SameT H H') : ∀ (ds : List PyData) (vs : List V), DtAll K H vs ds → DtAll K H' vs ds
  | [], _, h => by cases h; exact .nil
  | d :: ds, _, h => by
    cases h with
    | cons h1 h2 => exact .cons (Dt.keep e d _ h1) (DtAll.keep e ds _ h2)
end
mutual
theorem Dt.dp {K : PySem.W.Frag} {H : Hp} : ∀ (d : PyData) (v : V), Dt K H v d → Dp K H v d
  | .none, _, h => by cases h; exact .non
  | .bool b, _, h => by cases h; exact .bl b
  | .int i, _, h => by cases h; exact .int i
  | .str x, _, h => by cases h; exact .str x
  | .list ds, _, h => by cases h
  | .tuple ds, _, h => by
    cases h with
    | tup hs ha => exact .tup hs (DtAll.dp ds _ ha)
  | .dict _, _, h => by cases h
theorem DtAll.dp {K : PySem.W.Frag} {H : Hp} : ∀ (ds : List PyData) (vs : List V), DtAll K H vs ds → DpAll K H vs ds
  | [], _, h => by cases h; exact .nil
  | d :: ds, _, h => by
    cases h with
    | cons h1 h2 => exact .cons (Dt.dp d _ h1) (DtAll.dp ds _ h2)
end
section
variable {K : PySem.W.Frag} {H H' : Hp}
theorem Dt.k {v : V} {d : PyData} (h : Dt K H v d) (e : SameT H H') : Dt K H' v d := Dt.keep e d v h
theorem DtAll.k {vs : List V} {ds : List PyData} (h : DtAll K H vs ds) (e : SameT H H') : DtAll K H' vs ds := DtAll.keep e ds vs h
theorem DtAll.len : ∀ {vs : List V} {ds : List PyData}, DtAll K H vs ds → vs.length = ds.length
  | _, _, .nil => rfl
  | _, _, .cons _ t => congrArg (· + 1) (DtAll.len t)
theorem DtAll.get : ∀ {vs : List V} {ds : List PyData} {i : Nat} {d : PyData}, DtAll K H vs ds → ds[i]? = some d → ∃ v, vs[i]? = some v ∧ Dt K H v d
  | _, _, _, _, .nil, e => by simp at e
  | _, _, 0, _, .cons h _, e => by simp at e; subst e; exact ⟨_, rfl, h⟩
  | _, _, i + 1, d, .cons _ t, e => by
    obtain ⟨v, h1, h2⟩ := DtAll.get (i := i) (d := d) t (by simpa using e)
    exact ⟨v, by simpa using h1, h2⟩
theorem DtAll.map {α : Type} {f : α → V} {g : α → PyData} (h : ∀ x, Dt K H (f x) (g x)) : ∀ xs : List α, DtAll K H (xs.map f) (xs.map g)
  | [] => .nil
  | x :: xs => .cons (h x) (DtAll.map h xs)
theorem DtAll.app : ∀ {vs ws : List V} {ds es : List PyData}, DtAll K H vs ds → DtAll K H ws es → DtAll K H (vs ++ ws) (ds ++ es)
  | _, _, _, _, .nil, s => s
  | _, _, _, _, .cons h t, s => .cons h (DtAll.app t s)
theorem DtAll.snoc {vs : List V} {ds : List PyData} {v : V} {d : PyData} (a : DtAll K H vs ds) (b : Dt K H v d) : DtAll K H (vs ++ [v]) (ds ++ [d]) := a.app (.cons b .nil)
theorem Dt.tupE {v : V} {ds : List PyData} (h : Dt K H v (.tuple ds)) : ∃ a xs, v = .ref a ∧ SqT K H a xs ∧ DtAll K H xs ds := by
  cases h with
  | tup hs ha => exact ⟨_, _, rfl, hs, ha⟩
theorem Dt.intE {v : V} {i : Int} (h : Dt K H v (.int i)) : v = .int i := by cases h; rfl
theorem DtAll.ints : ∀ {ns : List Int} {vs : List V}, DtAll K H vs (ns.map .int) → vs = ns.map V.int
  | [], _, h => by cases h; rfl
  | n :: ns, _, h => by
    cases h with
    | cons h1 h2 => rw [Dt.intE h1, DtAll.ints h2]; rfl
theorem DtAll.ofInts (ns : List Int) : DtAll K H (ns.map V.int) (ns.map .int) := DtAll.map (fun i => .int i) ns
/-- an item of a tuple of data -/
theorem Dt.item {v : V} {ds : List PyData} {i : Nat} {d : PyData} (h : Dt K H v (.tuple ds)) (e : ds[i]? = some d) : ∃ a xs w, v = .ref a ∧ SqT K H a xs ∧ xs[i]? = some w ∧ Dt K H w d := by
  obtain ⟨a, xs, rfl, hs, ha⟩ := h.tupE
  obtain ⟨w, h1, h2⟩ := ha.get e
  exact ⟨a, xs, w, rfl, hs, h1, h2⟩
end
/-! ### machines -/
structure Mac where
  steps : List (List Nat)
  start : Nat
  good : List Nat
def nD (n : Nat) : PyData := .int (n : Int)
def rowD (r : List Nat) : PyData := .tuple (r.map nD)
def macD (M : Mac) : PyData := .tuple [.tuple (M.steps.map rowD), nD M.start, rowD M.good]
structure MacOk (M : Mac) (n m : Nat) : Prop where
  len : M.steps.length = n
  row : ∀ r ∈ M.steps, r.length = m ∧ ∀ s ∈ r, s < n
  start : M.start < n
  good : ∀ s ∈ M.good, s < n
  asc : M.good.Pairwise (· < ·)
def iV (n : Nat) : V := .int (n : Int)
def spMachine (K : PySem.W.Frag) : Sp := fun vs H Q _ => ∃ (c : Int) (n m : Nat), vs = [.int c, .int (n : Int), .int (m : Int)] ∧ 1 ≤ n ∧ n ≤ 10 ∧ 1 ≤ m ∧ m ≤ 4 ∧
  ∀ (H' : Hp) (v : V) (M : Mac), Same H H' → Dt K H' v (macD M) → MacOk M n m → Q v H'
theorem cut_drop (xs : List V) (k : Nat) : cutV xs (some (k : Int)) none = xs.drop k := by
  unfold cutV
  rw [HT.sIx_nat, HT.sIx_none]
  by_cases h : k ≤ xs.length
  · rw [Nat.min_eq_left h]
    refine List.take_of_length_le ?_
    rw [List.length_drop]
    exact Nat.le_refl _
  · rw [Nat.min_eq_right (by omega), List.drop_eq_nil_of_le (Nat.le_refl _), List.drop_eq_nil_of_le (by omega), List.take_nil]
theorem menu8 {j : Nat} (h : j < 8) : ∃ d : Int, [V.int 1, V.int 2, V.int 4, V.int 8, V.int 16, V.int 32, V.int 64, V.int 125][j]? = some (.int d) ∧ 0 < d ∧ d < 1073741824 := by
  match j, h with
  | 0, _ => exact ⟨1, rfl, by decide, by decide⟩
  | 1, _ => exact ⟨2, rfl, by decide, by decide⟩
  | 2, _ => exact ⟨4, rfl, by decide, by decide⟩
  | 3, _ => exact ⟨8, rfl, by decide, by decide⟩
  | 4, _ => exact ⟨16, rfl, by decide, by decide⟩
  | 5, _ => exact ⟨32, rfl, by decide, by decide⟩
  | 6, _ => exact ⟨64, rfl, by decide, by decide⟩
  | 7, _ => exact ⟨125, rfl, by decide, by decide⟩
theorem nat_of {z c : Int} (h0 : 0 ≤ z) (h1 : z < c) : ∃ k : Nat, z = (k : Int) ∧ (k : Int) < c := ⟨z.toNat, by omega, by omega⟩
theorem ints_nat (r : List Nat) : (r.map iV) = (r.map fun n : Nat => (n : Int)).map V.int := by rw [List.map_map]; rfl
theorem ofNats {K : PySem.W.Frag} {H : Hp} (r : List Nat) : DtAll K H (r.map iV) (r.map nD) := DtAll.map (α := Nat) (f := iV) (g := nD) (fun n => .int (n : Int)) r
theorem nats_of {ms : List Int} {c : Int} (h : ∀ z ∈ ms, 0 ≤ z ∧ z < c) : ∃ r : List Nat, ms = r.map (fun n : Nat => (n : Int)) ∧ ∀ s ∈ r, (s : Int) < c := by
  refine ⟨ms.map Int.toNat, ?_, fun s hs => ?_⟩
  · rw [List.map_map]
    refine ((List.map_id ms).symm.trans (List.map_congr_left fun z hz => ?_))
    have := (h z hz).1
    show z = ((z.toNat : Nat) : Int)
    omega
  · obtain ⟨z, hz, rfl⟩ := List.mem_map.mp hs
    have := h z hz
    omega
/-! ### where words lead -/
def stepM (M : Mac) (s c : Nat) : Nat := (M.steps.getD s []).getD (c - 97) 0
def leadM (M : Mac) (s : Nat) (w : List Nat) : Nat := w.foldl (stepM M) s
def accM (M : Mac) (w : List Nat) : Bool := decide (leadM M M.start w ∈ M.good)
/-- codes of the first m letters -/
def isW (m : Nat) (w : List Nat) : Prop := ∀ c ∈ w, 97 ≤ c ∧ c < 97 + m
theorem isW.app {m : Nat} {u w : List Nat} (a : isW m u) (b : isW m w) : isW m (u ++ w) := fun c hc => (List.mem_append.mp hc).elim (a c) (b c)
theorem isW.take {m : Nat} {w : List Nat} (a : isW m w) (i : Nat) : isW m (w.take i) := fun c hc => a c (List.mem_of_mem_take hc)
theorem isW.rep {m : Nat} {w : List Nat} (a : isW m w) (k : Nat) : isW m (List.replicate k w).flatten := fun c hc => by
  obtain ⟨l, hl, hc⟩ := List.mem_flatten.mp hc
  rw [(List.mem_replicate.mp hl).2] at hc
  exact a c hc
theorem MacOk.rowAt {M : Mac} {n m s : Nat} (h : MacOk M n m) (hs : s < n) : (M.steps.getD s []).length = m ∧ ∀ t ∈ M.steps.getD s [], t < n := by
  have hs' : s < M.steps.length := by rw [h.len]; exact hs
  rw [List.getD_eq_getElem?_getD, List.getElem?_eq_getElem hs']
  exact h.row _ (List.getElem_mem hs')
theorem getD_mem {l : List Nat} {j : Nat} (h : j < l.length) : l.getD j 0 ∈ l := by
  rw [List.getD_eq_getElem?_getD, List.getElem?_eq_getElem h]
  exact List.getElem_mem h
theorem MacOk.step {M : Mac} {n m s c : Nat} (h : MacOk M n m) (hs : s < n) (h0 : 97 ≤ c) (h1 : c < 97 + m) : stepM M s c < n := by
  obtain ⟨hl, hr⟩ := h.rowAt hs
  exact hr _ (getD_mem (by rw [hl]; omega))
theorem leadM_lt {M : Mac} {n m : Nat} (h : MacOk M n m) : ∀ (w : List Nat) (s : Nat), s < n → isW m w → leadM M s w < n
  | [], s, hs, _ => hs
  | c :: w, s, hs, hw => leadM_lt h w _ (h.step hs (hw c List.mem_cons_self).1 (hw c List.mem_cons_self).2) fun d hd => hw d (List.mem_cons_of_mem _ hd)
theorem leadM_snoc (M : Mac) (s : Nat) (w : List Nat) (c : Nat) : leadM M s (w ++ [c]) = stepM M (leadM M s w) c := by
  unfold leadM
  rw [List.foldl_append]
  rfl
section
variable {K : PySem.W.Frag} {H : Hp}
theorem rowE {v : V} {r : List Nat} (h : Dt K H v (rowD r)) : ∃ p, v = .ref p ∧ SqT K H p (r.map iV) := by
  obtain ⟨p, xs, rfl, hs, ha⟩ := h.tupE
  refine ⟨p, rfl, ?_⟩
  have e : r.map nD = (r.map fun n : Nat => (n : Int)).map PyData.int := by rw [List.map_map]; rfl
  rw [e] at ha
  rw [ints_nat, ← ha.ints]
  exact hs
theorem macE {v : V} {M : Mac} (h : Dt K H v (macD M)) : ∃ a st gd vs, v = .ref a ∧ SqT K H a [.ref st, iV M.start, .ref gd] ∧ SqT K H st vs ∧ DtAll K H vs (M.steps.map rowD) ∧ SqT K H gd (M.good.map iV) := by
  obtain ⟨a, xs, rfl, hs, ha⟩ := h.tupE
  cases ha with
  | cons h1 t1 =>
  cases t1 with
  | cons h2 t2 =>
  cases t2 with
  | cons h3 t3 =>
  cases t3
  obtain ⟨st, vs, rfl, hst, hvs⟩ := h1.tupE
  obtain ⟨gd, rfl, hg⟩ := rowE h3
  have e := Dt.intE h2
  subst e
  exact ⟨a, st, gd, vs, rfl, hs, hst, hvs, hg⟩
theorem rowsE {vs : List V} {M : Mac} {s : Nat} (h : DtAll K H vs (M.steps.map rowD)) (hs : s < M.steps.length) : ∃ p, vs[s]? = some (.ref p) ∧ SqT K H p ((M.steps.getD s []).map iV) := by
  obtain ⟨w, h1, h2⟩ := h.get (i := s) (d := rowD M.steps[s]) (by rw [List.getElem?_map, List.getElem?_eq_getElem hs]; rfl)
  obtain ⟨p, rfl, hp⟩ := rowE h2
  refine ⟨p, h1, ?_⟩
  rw [List.getD_eq_getElem?_getD, List.getElem?_eq_getElem hs]
  exact hp
theorem at_nat {r : List Nat} {z : Int} {j : Nat} (e : z = (j : Int)) (h : j < r.length) : atI (r.map iV) z = some (iV (r.getD j 0)) := by
  refine at_of e ?_
  rw [List.getElem?_map, List.getD_eq_getElem?_getD, List.getElem?_eq_getElem h]
  rfl
end
theorem let_ix {c m : Nat} (h0 : 97 ≤ c) (h1 : c < 97 + m) (hm : m ≤ 4) : [97, 98, 99, 100][c - 97]? = some c := by
  have h : c = 97 ∨ c = 98 ∨ c = 99 ∨ c = 100 := by omega
  rcases h with rfl | rfl | rfl | rfl <;> rfl
theorem inV_nat (k : Nat) (g : List Nat) : inV (iV k) (g.map iV) = decide (k ∈ g) := by
  unfold inV
  rw [List.any_map]
  by_cases h : k ∈ g
  · rw [decide_eq_true h]
    exact List.any_eq_true.mpr ⟨k, h, by show ((k : Int) == (k : Int)) = true; exact beq_self_eq_true _⟩
  · rw [decide_eq_false h]
    refine List.any_eq_false.mpr fun y hy e => h ?_
    have e2 : ((y : Int) == (k : Int)) = true := e
    have e3 : (y : Int) = (k : Int) := eq_of_beq e2
    have : y = k := by omega
    rw [← this]; exact hy
theorem flat_nats (g : List Nat) : (g.map iV).all flatV = true := by
  refine List.all_eq_true.mpr fun x hx => ?_
  obtain ⟨n, _, rfl⟩ := List.mem_map.mp hx
  rfl
def spLead (K : PySem.W.Frag) : Sp := fun vs H Q _ => ∃ (v : V) (M : Mac) (n m s : Nat) (w : List Nat), vs = [v, iV s, sV w] ∧ Dt K H v (macD M) ∧ MacOk M n m ∧ m ≤ 4 ∧ s < n ∧ isW m w ∧ Q (iV (leadM M s w)) H
def spAcc (K : PySem.W.Frag) : Sp := fun vs H Q _ => ∃ (v : V) (M : Mac) (n m : Nat) (w : List Nat), vs = [v, sV w] ∧ Dt K H v (macD M) ∧ MacOk M n m ∧ m ≤ 4 ∧ isW m w ∧ Q (.bl (accM M w)) H
def abcdG (m : Nat) : List Nat := List.take m [97, 98, 99, 100]
theorem abcdG_len {m : Nat} (h : m ≤ 4) : (abcdG m).length = m := by
  unfold abcdG
  rw [List.length_take]
  exact Nat.min_eq_left h
def spLetters (K : PySem.W.Frag) : Sp := fun vs H Q _ => ∃ (v : V) (M : Mac) (n m : Nat), vs = [v] ∧ Dt K H v (macD M) ∧ MacOk M n m ∧ 1 ≤ n ∧ m ≤ 4 ∧ Q (sV (abcdG m)) H
def spWord (K : PySem.W.Frag) : Sp := fun vs H Q _ => ∃ (c : Int) (m : Nat), vs = [.int c, .int (m : Int)] ∧ 1 ≤ m ∧ m ≤ 4 ∧
  ∀ (H' : Hp) (w : List Nat), Same H H' → w.length ≤ 14 → isW m w → Q (sV w) H'
theorem foldl_signs : ∀ (cs : List Nat) (acc : Array Nat), (cs.map fun c => (⟨#[c]⟩ : Str)).foldl (fun acc p => acc ++ (⟨#[]⟩ : Str).cps ++ p.cps) acc = acc ++ cs.toArray
  | [], acc => by simp
  | c :: cs, acc => by
    rw [List.map_cons, List.foldl_cons, foldl_signs cs]
    apply Array.ext'
    simp
theorem join_signs (cs : List Nat) : Txt.join (Str.ofString "") (cs.map fun c => (⟨#[c]⟩ : Str)) = ⟨cs.toArray⟩ := by
  have e0 : Str.ofString "" = (⟨#[]⟩ : Str) := by decide +kernel
  rw [e0]
  cases cs with
  | nil => rfl
  | cons c cs =>
    show (⟨((cs.map fun c => (⟨#[c]⟩ : Str)).foldl (fun acc p => acc ++ (⟨#[]⟩ : Str).cps ++ p.cps) #[c])⟩ : Str) = ⟨(c :: cs).toArray⟩
    rw [foldl_signs]
    congr 1
    apply Array.ext'
    simp
theorem cutV_map {α : Type} (f : α → V) (xs : List α) (lo hi : Option Int) : ∃ ys : List α, cutV (xs.map f) lo hi = ys.map f ∧ ys.length ≤ xs.length ∧ ∀ y ∈ ys, y ∈ xs := by
  refine ⟨(xs.drop (HT.sIx (xs.map f).length 0 lo)).take (HT.sIx (xs.map f).length (xs.map f).length hi - HT.sIx (xs.map f).length 0 lo), ?_, ?_, fun y hy => List.mem_of_mem_drop (List.mem_of_mem_take hy)⟩
  · unfold cutV
    rw [List.map_take, List.map_drop]
  · rw [List.length_take, List.length_drop]
    omega
theorem r_in {K : PySem.W.Frag} {H : Hp} {Q : VK} {k : Nat} {g : List Nat} {p : Addr} (h : SqT K H p (g.map iV)) (q : Q (.bl (decide (k ∈ g))) H) : rIn K false (iV k) (.ref p) H Q := ⟨p, _, rfl, .inr h, rfl, flat_nats g, by rw [← inV_nat] at q; exact q⟩
section
variable {σ : L2.St} {H : Hp} {Q : VK} {K : PySem.W.Frag} {ta tb tc : TE}
def rInSg : R2 := fun x y H Q => ∃ (c : Nat) (z : Str), x = .str ⟨#[c]⟩ ∧ y = .str z ∧ Q (.bl (decide (c ∈ z.cps.toList))) H
def rNotInSg : R2 := fun x y H Q => ∃ (c : Nat) (z : Str), x = .str ⟨#[c]⟩ ∧ y = .str z ∧ Q (.bl (!decide (c ∈ z.cps.toList))) H
theorem op_inSg {X : Cx} : OpR X (compareOp .In) rInSg := op_in_sign
theorem op_notInSg {X : Cx} : OpR X (compareOp .NotIn) rNotInSg := op_notIn_sign
theorem r_inSg {c : Nat} {l : List Nat} (q : Q (.bl (decide (c ∈ l))) H) : rInSg (.str ⟨#[c]⟩) (.str ⟨l.toArray⟩) H Q := ⟨c, _, rfl, rfl, q⟩
theorem r_notInSg {c : Nat} {l : List Nat} (q : Q (.bl (!decide (c ∈ l))) H) : rNotInSg (.str ⟨#[c]⟩) (.str ⟨l.toArray⟩) H Q := ⟨c, _, rfl, rfl, q⟩
theorem r_chain {r r' : R2} (h : ta σ H fun x H1 => tb σ H1 fun y H2 => r x y H2 fun z H3 => ∃ k, z = .bl k ∧ if k = true then tc σ H3 fun w' H4 => r' y w' H4 Q else Q (.bl false) H3) : tChain r r' ta tb tc σ H Q := h
theorem r_slT {p : Addr} {xs : List V} {lo hi : Option Int} (h : SqT K H p xs) (c : ¬ (HT.sIx xs.length 0 lo = 0 ∧ HT.sIx xs.length xs.length hi = xs.length)) (q : ∀ l, H l = none → Q (.ref l) (upd H l (.tup (cutV xs lo hi)))) : rSlT K (.ref p) lo hi H Q := ⟨p, xs, rfl, h, c, q⟩
theorem r_any {p : Addr} {bs : List Bool} (h : SqL K H p (bs.map V.bl)) (q : Q (.bl (bs.any id)) H) : rAny K [.ref p] H Q := ⟨p, bs, rfl, h, q⟩
theorem r_eqD {x y : V} {d e : PyData} (h1 : Dp K H x d) (h2 : Dp K H y e) (s1 : SeqAt.shaped d = true) (s2 : SeqAt.shaped e = true) (q : Q (.bl (PyData.eqv d e)) H) : rEqD K x y H Q := ⟨d, e, h1, h2, s1, s2, q⟩
theorem r_neD {x y : V} {d e : PyData} (h1 : Dp K H x d) (h2 : Dp K H y e) (s1 : SeqAt.shaped d = true) (s2 : SeqAt.shaped e = true) (q : Q (.bl (!PyData.eqv d e)) H) : rNeD K x y H Q := ⟨d, e, h1, h2, s1, s2, q⟩
end
theorem lay_ints : ∀ A : List Int, PyData.canLayAll0 (A.map .int) = true
  | [] => rfl
  | a :: A => by
    have ih := lay_ints A
    simp [PyData.canLayAll0, PyData.canLay0] at ih ⊢
    exact ih
theorem eqv_ints_all : ∀ A B : List Int, PyData.eqvAll (A.map .int) (B.map .int) = decide (A = B)
  | [], [] => rfl
  | [], b :: B => rfl
  | a :: A, [] => rfl
  | a :: A, b :: B => by
    show (a == b && PyData.eqvAll (A.map .int) (B.map .int)) = _
    rw [eqv_ints_all A B]
    by_cases h : a = b
    · subst h
      by_cases h2 : A = B
      · subst h2; simp
      · simp [h2]
    · simp [h]
theorem depth_ints : ∀ A : List Int, PyData.depthAll (A.map .int) = 0
  | [] => rfl
  | a :: A => by
    have ih := depth_ints A
    show max 0 _ = 0
    rw [ih]
    rfl
theorem shaped_ints (A : List Int) : SeqAt.shaped (.list (A.map .int)) = true := by
  refine Bool.and_eq_true_iff.mpr ⟨lay_ints A, decide_eq_true ?_⟩
  show PyData.depthAll _ + 1 ≤ 64
  rw [depth_ints]
  decide
theorem eqv_lists (A B : List Int) : PyData.eqv (.list (A.map .int)) (.list (B.map .int)) = decide (A = B) := by
  rw [PyData.eqv]
  exact eqv_ints_all A B
theorem dp_ints {K : PySem.W.Frag} {H : Hp} {p : Addr} {A : List Int} (h : SqL K H p (A.map V.int)) : Dp K H (.ref p) (.list (A.map .int)) := .lst h (dpAll_map (fun i => .int i) A)
theorem cut_1 (xs : List V) : cutV xs (some 1) none = xs.drop 1 := cut_drop xs 1
theorem six_1 (n : Nat) : HT.sIx n 0 (some 1) = min 1 n := HT.sIx_nat n 0 1
/-- the ways behind a statement are joined: what holds there -/
theorem r_cutJ {t u : TS} {D : Ends} {σ : L2.St} {H : Hp} (J : L2.St → Hp → Prop) (key : ∀ σ H, J σ H → u D σ H) (h : (∀ σ H, J σ H → u D σ H) → t { D with nx := u D } σ H) : tSeq t u D σ H := h key
theorem six_m1 (n d : Nat) : HT.sIx n d (some (-1)) = n - 1 := by
  show (if (-1 : Int) < 0 then ((-1 : Int) + (n : Int)).toNat else min (-1 : Int).toNat n) = n - 1
  rw [if_pos (by decide)]
  omega
theorem cut_init (xs : List V) (y : V) : cutV (xs ++ [y]) none (some (-1)) = xs := by
  unfold cutV
  rw [HT.sIx_none, six_m1, List.length_append]
  simp
theorem cut_mid (xs : List V) (j : Nat) : (cutV xs (some (j : Int)) (some (-1))).length = xs.length - 1 - j := by
  unfold cutV
  rw [HT.sIx_nat, six_m1, List.length_take, List.length_drop]
  omega
theorem cut_to (xs : List V) (k : Nat) (h : k ≤ xs.length) : cutV xs none (some (k : Int)) = xs.take k := by
  unfold cutV
  rw [HT.sIx_none, HT.sIx_nat, Nat.min_eq_left h]
  rfl
theorem inV_int (k : Int) (g : List Int) : inV (.int k) (g.map V.int) = decide (k ∈ g) := by
  unfold inV
  rw [List.any_map]
  by_cases h : k ∈ g
  · rw [decide_eq_true h]
    exact List.any_eq_true.mpr ⟨k, h, by show (k == k) = true; exact beq_self_eq_true _⟩
  · rw [decide_eq_false h]
    refine List.any_eq_false.mpr fun y hy e => h ?_
    have e2 : (y == k) = true := e
    rw [← eq_of_beq e2]; exact hy
theorem flat_ints (g : List Int) : (g.map V.int).all flatV = true := by
  refine List.all_eq_true.mpr fun x hx => ?_
  obtain ⟨n, _, rfl⟩ := List.mem_map.mp hx
  rfl
section
variable {K : PySem.W.Frag} {H : Hp} {Q : VK} {p : Addr}
theorem r_inT {k : Int} {g : List Int} (h : SqT K H p (g.map V.int)) (q : Q (.bl (decide (k ∈ g))) H) : rIn K false (.int k) (.ref p) H Q := ⟨p, _, rfl, .inr h, rfl, flat_ints g, by rw [← inV_int] at q; exact q⟩
theorem r_inL {k : Int} {g : List Int} (h : SqL K H p (g.map V.int)) (q : Q (.bl (decide (k ∈ g))) H) : rIn K false (.int k) (.ref p) H Q := ⟨p, _, rfl, .inl h, rfl, flat_ints g, by rw [← inV_int] at q; exact q⟩
theorem mt_indexLK {X : Cx} (hK : X.K = K) : MtR X "list.index" (rIndex K) := hK ▸ mt_index
theorem r_indexL {k : Int} {g : List Int} (h : SqL K H p (g.map V.int)) (hk : k ∈ g) (q : Q (.int (g.idxOf k : Nat)) H) : rIndex K (.ref p) [.int k] H Q := by
  have hl := List.idxOf_lt_length_of_mem hk
  refine ⟨p, _, .int k, g.idxOf k, .int k, rfl, rfl, h, rfl, flat_ints g, ?_, ?_, fun m z' hm hz => ?_, q⟩
  · rw [List.getElem?_map, List.getElem?_eq_getElem hl, List.getElem_idxOf hl]
    rfl
  · show (k == k) = true
    exact beq_self_eq_true _
  · rw [List.getElem?_map] at hz
    obtain ⟨y, hy, rfl⟩ := Option.map_eq_some_iff.mp hz
    show (y == k) = false
    obtain ⟨hml, ey⟩ := List.getElem?_eq_some_iff.mp hy
    have := List.not_of_lt_findIdx (p := (· == k)) (xs := g) (i := m) hm
    rw [ey] at this
    simpa using this
theorem r_rep {l : Addr} {k : Int} {xs : List V} (h : H l = some (.lst xs)) (h0 : 0 ≤ k) (h1 : k ≤ 1000000) (hl : xs.length * k.toNat ≤ sizeLine) (q : ∀ p, H p = none → Q (.ref p) (upd H p (.lst (List.replicate k.toNat xs).flatten))) : rRep (.ref l) (.int k) H Q := ⟨l, k, xs, rfl, rfl, h, by omega, by omega, hl, q⟩
end
def sgD (c : Nat) : PyData := .str ⟨#[c]⟩
def sgV (c : Nat) : V := .str ⟨#[c]⟩
theorem lay_signs : ∀ A : List Nat, (∀ c ∈ A, c < 1000) → PyData.canLayAll0 (A.map sgD) = true
  | [], _ => rfl
  | a :: A, h => by
    have ih := lay_signs A fun c hc => h c (List.mem_cons_of_mem _ hc)
    have ha := h a List.mem_cons_self
    show (PyData.strOk ⟨#[a]⟩ && PyData.canLayAll0 (A.map sgD)) = true
    rw [ih, Bool.and_true]
    unfold PyData.strOk
    simp
    omega
theorem depth_signs : ∀ A : List Nat, PyData.depthAll (A.map sgD) = 0
  | [] => rfl
  | a :: A => by
    have ih := depth_signs A
    show max 0 _ = 0
    rw [ih]
    rfl
theorem shaped_signs {A : List Nat} (h : ∀ c ∈ A, c < 1000) : SeqAt.shaped (.list (A.map sgD)) = true := by
  refine Bool.and_eq_true_iff.mpr ⟨lay_signs A h, decide_eq_true ?_⟩
  show PyData.depthAll _ + 1 ≤ 64
  rw [depth_signs]
  decide
theorem eqv_signs_nil (A : List Nat) : PyData.eqv (.list (A.map sgD)) (.list []) = decide (A = []) := by
  rw [PyData.eqv]
  cases A <;> rfl
theorem dp_signs {K : PySem.W.Frag} {H : Hp} {p : Addr} {A : List Nat} (h : SqL K H p (A.map sgV)) : Dp K H (.ref p) (.list (A.map sgD)) := .lst h (dpAll_map (fun c => .str _) A)
end G
set_option Elab.async false
set_option linter.all false
set_option maxRecDepth 100000
set_option maxHeartbeats 4000000
namespace G
open PySem PySem.Spec PyProof.Rows L2
/-! ### own classes with methods: the fragment named -/
section
variable {X : Cx} {K : PySem.W.Frag} {o e value : Expr} {f : Str} {pos pos' tpos : Pos} {ta tv : TE}
theorem pe_fldK (hK : X.K = K) (he : PE X e ta) (hb : attributeBase e f X.env (eval e X.env) = eval e X.env) : PE X (.Attribute e f pos) (tFld K ta f) := hK ▸ pe_fld he hb
theorem ps_fldK (hK : X.K = K) (ha : PE X o ta) (hv : PE X value tv) (hs : swapsWith value (some (.Attribute o f pos')) pos.line X.env = pure false) : PS X (.Assign [.Attribute o f pos'] value pos) (sFld K ta tv f) := hK ▸ ps_fld ha hv hs
theorem ps_fldaugK {op : Operator} {rd : V → V → Hp → VK → Prop} (hK : X.K = K) (ha : PE X o ta) (hv : PE X value tv) (hop : InOp X op rd) : PS X (.AugAssign (.Attribute o f tpos) op value pos) (sFldAug K ta tv rd f) := hK ▸ ps_fldaug ha hv hop
end
section
variable {K : PySem.W.Frag} {σ : L2.St} {H H1 : Hp} {Q : VK} {D : Ends} {ta tv : TE} {f : Str} {a C dx : Addr} {fs : List (Str × V)} {v y : V}
/-- o.f, o standing at a -/
theorem r_fld (h : ta σ H fun x H1 => ∃ a C dx fs v, x = .ref a ∧ H1 a = some (.ins C dx fs) ∧ Cls K C ∧ NoAttr K C f ∧ fs.lookup f = some v ∧ Q v H1) : tFld K ta f σ H Q := h
theorem r_fldv {C' : V → Prop} (e : H a = some (.ins C dx fs)) (c : Cls K C) (n : NoAttr K C f) (l : fs.lookup f = some v) (q : Q v H) : ∃ a' C dx fs v, V.ref a = .ref a' ∧ H a' = some (.ins C dx fs) ∧ Cls K C ∧ NoAttr K C f ∧ fs.lookup f = some v ∧ Q v H :=
  ⟨a, C, dx, fs, v, rfl, e, c, n, l, q⟩
/-- self.f where self stands in a slot -/
theorem r_fldS {i : Nat} (hσ : σ[i]? = some (some (.ref a))) (e : H a = some (.ins C dx fs)) (c : Cls K C) (n : NoAttr K C f) (l : fs.lookup f = some v) (q : Q v H) : tFld K (tVar i) f σ H Q :=
  ⟨.ref a, hσ, a, C, dx, fs, v, rfl, e, c, n, l, q⟩
theorem r_sfld (h : tv σ H fun y H1 => ta σ H1 fun x H2 => ∃ a C dx fs, x = .ref a ∧ H2 a = some (.ins C dx fs) ∧ Cls K C ∧ NoAttr K C f ∧ fs.length < 1000 ∧ D.nx σ (upd H2 a (.ins C dx (putF f y fs)))) : sFld K ta tv f D σ H := h
theorem r_sfldv {k : L2.St → Hp → Prop} (e : H a = some (.ins C dx fs)) (c : Cls K C) (n : NoAttr K C f) (hl : fs.length < 1000) {fs' : List (Str × V)} (ep : putF f y fs = fs') (q : k σ (upd H a (.ins C dx fs'))) :
    ∃ a' C dx fs, V.ref a = .ref a' ∧ H a' = some (.ins C dx fs) ∧ Cls K C ∧ NoAttr K C f ∧ fs.length < 1000 ∧ k σ (upd H a' (.ins C dx (putF f y fs))) := ⟨a, C, dx, fs, rfl, e, c, n, hl, by rw [ep]; exact q⟩
/-- self.f = .., self standing in a slot -/
theorem r_saug {rd : V → V → Hp → VK → Prop} (h : ta σ H fun x H1 => ∃ a C dx fs v, x = .ref a ∧ H1 a = some (.ins C dx fs) ∧ Cls K C ∧ NoAttr K C f ∧ fs.lookup f = some v ∧
  tv σ H1 fun y H2 => rd v y H2 fun z H3 => ∃ dx' fs', H3 a = some (.ins C dx' fs') ∧ fs'.length < 1000 ∧ D.nx σ (upd H3 a (.ins C dx' (putF f z fs')))) : sFldAug K ta tv rd f D σ H := h
/-- o.m(..) -/
theorem r_meth {m : Str} {sp : Sp} {dvs : List V} {E : XK} {t : TA} (h : ta σ H fun x H1 => ∃ a dx fs, x = .ref a ∧ H1 a = some (.ins C dx fs) ∧ fs.lookup m = none ∧ t σ H1 fun vs H2 => sp (x :: (vs ++ dvs)) H2 Q E) : tMeth C m sp dvs E ta t σ H Q := h
theorem r_methS {i : Nat} {m : Str} {sp : Sp} {E : XK} {t : TA} (hσ : σ[i]? = some (some (.ref a))) (e : H a = some (.ins C dx fs)) (l : fs.lookup m = none) (h : t σ H fun vs H2 => sp (.ref a :: (vs ++ [])) H2 Q E) : tMeth C m sp [] E (tVar i) t σ H Q :=
  ⟨.ref a, hσ, a, dx, fs, rfl, e, l, h⟩
theorem r_make {sp : Sp} {E : XK} {t : TA} (h : t σ H fun vs H1 => ∀ x dx, H1 x = none → H1 dx = none → dx ≠ x → sp (.ref x :: (vs ++ [])) (upd (upd H1 dx (.own x)) x (.ins C dx [])) (fun v H2 => v = .non ∧ Q (.ref x) H2) E) : tMake C sp [] E t σ H Q := h
end
/-- a while by a measure that nothing of the state tells -/
theorem while_gn {c : TT} {tb : TS} {D : Ends} {σ : L2.St} {H : Hp} (W : Nat → L2.St → Hp → Prop) (m0 : Nat) (h0 : W m0 σ H)
    (hs : ∀ m σ H, W m σ H → c σ H fun b H1 => if b = true then tb { D with nx := fun σ' H' => ∃ m', m' < m ∧ W m' σ' H', ct := fun σ' H' => ∃ m', m' < m ∧ W m' σ' H', bk := D.nx } σ H1 else D.nx σ H1)
    (mono : ∀ σ H Q Q', (∀ b H1, Q b H1 → Q' b H1) → c σ H Q → c σ H Q') : tWhile c tb D σ H := by
  refine ⟨W, ⟨m0, h0⟩, fun m σ H p => mono σ H _ _ (fun b H1 q => ?_) (hs m σ H p)⟩
  cases b with
  | true => exact ⟨_, fun σ' H' h => h, q⟩
  | false => exact q
section
variable {c : TT} {t u : TS} {D : Ends} {σ : L2.St} {H : Hp}
/-- an if whose test comes out so, whatever is wanted of it -/
theorem r_ifT (J : Hp → Prop) (h1 : ∀ QB : Bool → Hp → Prop, (∀ H', J H' → QB true H') → c σ H QB) (h2 : ∀ H', J H' → t D σ H') : tIfS c t u D σ H := h1 _ fun H' j => iteT (h2 H' j)
theorem r_ifF (J : Hp → Prop) (h1 : ∀ QB : Bool → Hp → Prop, (∀ H', J H' → QB false H') → c σ H QB) (h2 : ∀ H', J H' → u D σ H') : tIfS c t u D σ H := h1 _ fun H' j => iteF (h2 H' j)
end
end G
set_option Elab.async false
set_option linter.all false
set_option maxRecDepth 100000
set_option maxHeartbeats 4000000
namespace G
open PySem PySem.Spec PyProof.Rows L2
/-! ### {e for x in ..}, e a whole number -/
abbrev noInts : Int → Bool := fun _ => false
abbrev moreI (S : Int → Bool) (k : Int) : Int → Bool := fun j => S j || decide (j = k)
abbrev moreN (S : Int → Bool) (n : Nat) (k : Int) : Nat := if S k = true then n else n + 1
/-- a turn's end: the item y goes into the set at D -/
def putI (w : World) (D : Addr) (R : Hp → Prop) : VK := fun y H => ∃ (k : Int) (S : Int → Bool) (n : Nat),
  y = .int k ∧ H D = some (SetO w D S n) ∧ n + 1 < scanBound ∧ R (upd H D (SetO w D (moreI S k) (moreN S n k)))
def turnI (w : World) (D : Addr) (vs : List Nat) (σ : L2.St) (g : TG) (tt : TT) (te : TE) (x : V) (H : Hp) (R : Hp → Prop) : Prop :=
  g x (wipe σ vs) H fun σ2 H2 => wipe σ2 vs = wipe σ vs ∧ tt σ2 H2 fun b H3 => if b = true then te σ2 H3 (putI w D R) else R H3
def tScI (w : World) (wi : TI) (g : TG) (tt : TT) (te : TE) (vs : List Nat) : TE := fun σ H Q => wi σ H fun J H1 => ∀ D, H1 D = none →
  ∃ W : Nat → Nat → Hp → Prop, (∃ m, W 0 m (upd H1 D (SetO w D noInts 0))) ∧ ∀ i m H, W i m H →
    (J.stop i H ∧ Q (.ref D) H) ∨ (J.go i H ∧ ∃ R : Hp → Prop, (∀ H', R H' → ∃ m', m' < m ∧ W (i + 1) m' H') ∧ ∀ x H', J.yld i H x H' → turnI w D vs σ g tt te x H' R)
section
variable {X : Cx}
theorem add_int {pins : List (Addr × Obj)} {σ : L2.St} {H : Hp} {s : Shared} {E : Value → Shared → Prop} {D : Addr} {v : Value} {y : V} {R : Hp → Prop}
    (I : Inv X pins σ H s) (r : RelV y v) (h : putI X.w D R y H) :
    wpAny (model X.prog X.w) X.A (call (.builtin "set.add") [.ref D, v]) (fun _ s' => ∃ H', Inv X pins σ H' s' ∧ R H') E s := by
  obtain ⟨k, S, n, rfl, hD, room, q⟩ := h
  obtain ⟨tk, rfl⟩ := r
  refine setR_add (setO_get I hD) room fun h' same new => ⟨_, I.write (e := D) (t' := s.toks + 1) ?_ (.inl rfl) (fun b u hb hu => (same.2 b hb).trans hu) ?_ (setO_new new), q⟩
  · rw [hD]
    trivial
  · obtain ⟨o, _, _, _, ho, _⟩ := new
    exact ⟨o, ho⟩
theorem scI_core {pins : List (Addr × Obj)} {s : Shared} {σ : L2.St} {H : Hp} {Q : VK} {elt tg iter : Expr} {ifs : List Expr} {scope : Scope} {own : List (PySem.Str × Nat)} {pos pos' : Pos} {wi : TI} {g : TG} {tt : TT} {te : TE} {use : Option (Value → Sem Unit)} {Qf : Value → Shared → Prop}
    (calm : X.calm = true) (nd : X.N.Nodup) (I : Inv X pins σ H s) (hi : PI X tg iter wi) (ok : BlkOk X.N X.env.scope scope own)
    (hg : ∀ (s : Shared) (H : Hp) (C : Addr) (cl : List (PySem.Str × Addr)) (fp : List Addr), PG (X.blk s H scope (compEnvC scope cl C X.env) fp) tg g)
    (ht : ∀ (s : Shared) (H : Hp) (C : Addr) (cl : List (PySem.Str × Addr)) (fp : List Addr), PTs (X.blk s H scope (compEnvC scope cl C X.env) fp) ifs tt)
    (he : ∀ (s : Shared) (H : Hp) (C : Addr) (cl : List (PySem.Str × Addr)) (fp : List Addr), PE (X.blk s H scope (compEnvC scope cl C X.env) fp) elt te)
    (plain : ∀ x, foldedSetIterable iter X.env x = pure x) (h : tScI X.w wi g tt te (own.map (·.2)) σ H Q)
    (back : ∀ D C s' m H', Inv X pins σ H' s' → Q (.ref D) H' → s'.heap.Ns C m → FpOk X pins H' C → compPost (model X.prog X.w) X.A X.xe use Qf (.ref D) C (.ok .next) s') :
    wpAny (model X.prog X.w) X.A (comprehension (.SetComp elt [⟨tg, iter, ifs, 0⟩] scope pos) scope X.env pos' (newSet (.type "set")) false (eval iter X.env) use) Qf X.xe s := by
  have has : ∀ y ∈ scope.names, y.2 = .free → ∃ c, X.env.cells.lookup y.1 = some c := fun y hy e =>
    (ok.free y hy e).elim (fun k => I.ok.has _ (.inl k)) fun k => I.ok.has _ (.inr k)
  refine wpAny_comprehension_free (use := use) rfl plain (closure_ok has) ok.kind (fun y hy e => by rw [ok.uniq y hy, e]) ?_
  refine thn (hi.run pins s σ H _ I h) fun _ _ hx => thn hx fun _ sa ha => ?_
  obtain ⟨it, fp, at_, J, Ha, rfl, Ia, T, sta, fa, q⟩ := ha
  refine PpSet.newSet_ok (newEnv_comp ?_)
  obtain ⟨D, eD⟩ : ∃ D, sa.heap.objs.size = D := ⟨_, rfl⟩
  rw [eD]
  have freshD : Ha D = none := Ia.hok.fresh (Nat.le_of_eq eD)
  obtain ⟨W, ⟨m0, w0⟩, turn⟩ := q D freshD
  obtain ⟨sb, esb⟩ : ∃ sb : Shared, ({ sa with heap := sa.heap.push { cls := .type "set", dict := none, data := .set #[] 0 (.fresh 0 0 (!X.w.params.followText "set-order")) } } : Shared) = sb := ⟨_, rfl⟩
  have hb : sb.heap = sa.heap.push { cls := .type "set", dict := none, data := .set #[] 0 (.fresh 0 0 (!X.w.params.followText "set-order")) } := by rw [← esb]
  have Ib : Inv X pins σ (upd Ha D (SetO X.w D noInts 0)) sb := by
    subst esb eD
    exact Ia.laid (t' := sa.toks) (fun _ _ e => Heap.get?_push_of_some _ e) (Nat.le_refl _) (setO_new (setR_fresh X.w))
  obtain ⟨Hb, eHb⟩ : ∃ Hb, upd Ha D (SetO X.w D noInts 0) = Hb := ⟨_, rfl⟩
  have fb : ∀ b ∈ fp, FpOk X pins Hb b ∧ b < sb.heap.objs.size := fun b hm => by
    obtain ⟨o, e, _⟩ := T.obj _ _ sta b hm
    have lt := Heap.lt_size e
    refine ⟨⟨?_, (fa b hm).2⟩, ?_⟩
    · rw [← eHb, upd_ne (by rw [← eD]; exact Nat.ne_of_lt lt)]
      exact (fa b hm).1
    · rw [hb, Heap.size_push]
      exact Nat.lt_succ_of_lt lt
  have stb : at_ 0 sb.heap := T.keep _ _ _ sta fun b _ o e => by
    rw [hb]
    exact Heap.get?_push_of_some _ e
  rw [eHb] at Ib w0
  have Ic := block_start Ib ok nd fb
  obtain ⟨C, eC⟩ : ∃ C, sb.heap.objs.size = C := ⟨_, rfl⟩
  have pg := hg sb Hb C (cellsFrom (C + 1) scope.names (cloFrom X.env.cells scope.names [])) fp
  have pt := ht sb Hb C (cellsFrom (C + 1) scope.names (cloFrom X.env.cells scope.names [])) fp
  have pe := he sb Hb C (cellsFrom (C + 1) scope.names (cloFrom X.env.cells scope.names [])) fp
  rw [eC] at Ic
  rw [esb, eC]
  show codeAny _ _ (.compStart (.SetComp elt [⟨tg, iter, ifs, 0⟩] scope pos) 0 (.ref it) (.ref D) (compEnvC scope (cellsFrom (C + 1) scope.names (cloFrom X.env.cells scope.names [])) C X.env))
    (compPost (model X.prog X.w) X.A X.xe use Qf (.ref D) C) { sb with heap := pushCells (sb.heap.push { cls := .type "dict", data := .dict #[] }) scope.names }
  obtain ⟨ce, ece⟩ : ∃ ce, compEnvC scope (cellsFrom (C + 1) scope.names (cloFrom X.env.cells scope.names [])) C X.env = ce := ⟨_, rfl⟩
  rw [ece] at Ic pg pt pe ⊢
  have eL : ce.locals = C := by rw [← ece]; rfl
  obtain ⟨sc, esc⟩ : ∃ sc : Shared, ({ sb with heap := pushCells (sb.heap.push { cls := .type "dict", data := .dict #[] }) scope.names } : Shared) = sc := ⟨_, rfl⟩
  rw [esc] at Ic ⊢
  have stc : at_ 0 sc.heap := T.keep _ _ _ stb fun b _ o e => by
    rw [← esc]
    exact pushCells_keeps _ _ _ _ (Heap.get?_push_of_some _ e)
  have stat : ∀ {τ : L2.St} {G : Hp} {r : Shared}, Inv (X.blk sb Hb scope ce fp) [] τ G r → (∀ b ∈ fp, G b = none) → ∀ b ∈ fp, FpOk (X.blk sb Hb scope ce fp) [] G b :=
    fun {τ G r} J hn b hm => ⟨hn b hm, (J.ok.exf b hm).1, J.ok.exfs b hm, .inl hm, fun x c e => (J.ok.exf b hm).2 x c e, fun p hp => nomatch (show p ∈ ([] : List (Addr × Obj)) ++ [] from hp)⟩
  have loop : codeAny (model X.prog X.w) X.A (.compLoop (.SetComp elt [⟨tg, iter, ifs, 0⟩] scope pos) 0 (.ref it) (.ref D) ce) (compPost (model X.prog X.w) X.A X.xe use Qf (.ref D) C) sc := by
    refine PpSet.compLoopS_any (fun n r => ∃ i G, Inv (X.blk sb Hb scope ce fp) [] (wipe σ (own.map (·.2))) G r ∧ at_ i r.heap ∧ (∀ b ∈ fp, G b = none) ∧ W i n G) ?_ m0
      ⟨0, Hb, Ic, stc, fun b hm => (fb b hm).1.1, w0⟩
    rintro n s5 ⟨i, H5, I5, st5, n5, w5⟩
    rcases turn i n H5 w5 with ⟨stop, fin⟩ | ⟨go, R, hR, step⟩
    · refine thnF (T.done (X.blk sb Hb scope ce fp) rfl rfl rfl calm i [] s5 _ H5 (fun _ _ => False) I5 (stat I5 n5) st5 stop) fun r s6 hr6 => ?_
      obtain ⟨rfl, I6⟩ := hr6
      have I7 : Inv X pins σ H5 s6 := Ib.call' (ch := fp) I6.os I6.base I6.hok I6.bare fun b hm =>
        ⟨(fb b hm).1.2.2.2.1, (fb b hm).1.2.1, (fb b hm).1.2.2.2.2.1, (fb b hm).1.2.2.2.2.2⟩
      have nC : H5 C = none := by
        rw [← eL]
        exact I6.free
      obtain ⟨m, hn, _⟩ := I6.loc
      have hn : s6.heap.Ns ce.locals m := hn
      rw [eL] at hn
      exact back D C s6 m H5 I7 fin hn (Ib.fpOk (Nat.le_of_eq eC) nC)
    · refine thnF (T.item (X.blk sb Hb scope ce fp) rfl rfl rfl calm i [] s5 _ H5 (fun _ _ => False) I5 (stat I5 n5) st5 go) fun r s6 hr6 => ?_
      obtain ⟨u, rfl, h6⟩ := hr6
      refine thnF h6 fun _ s7 h7 => ?_
      obtain ⟨x, H7, I7, r7, y7, st7, n7⟩ := h7
      have P7 := I7.pinned (stat I7 n7) (T.obj _ _ st7)
      refine thnF (pg.run _ s7 _ H7 x u _ P7 r7 (step x H7 y7)) fun _ s8 h8 => ?_
      obtain ⟨σ8, H8, I8, same8, q8⟩ := h8
      have turnEnd : ∀ {r : Shared} {G : Hp}, Inv (X.blk sb Hb scope ce fp) ([] ++ pinsAt fp s7.heap) σ8 G r → R G →
          ∃ m, m < n ∧ ∃ i G, Inv (X.blk sb Hb scope ce fp) [] (wipe σ (own.map (·.2))) G r ∧ at_ i r.heap ∧ (∀ b ∈ fp, G b = none) ∧ W i m G := fun {r G} J rG => by
        obtain ⟨m', lt, w'⟩ := hR G rG
        have pin : ∀ b ∈ fp, ∀ o, s7.heap.get? b = some o → r.heap.get? b = some o ∧ G b = none := fun b hm o e => by
          have z := J.pin (b, o) (List.mem_append_right _ (List.mem_append_right _ (mem_pinsAt hm e)))
          exact ⟨z.1, z.2.1⟩
        have len : (wipe σ (own.map (·.2))).length = σ8.length := by
          rw [← same8]
          exact wipe_length _ _
        refine ⟨m', lt, i + 1, G, (J.unpinned (pins := [])).weak len (fun j v e => ?_), T.keep _ _ _ st7 fun b hm o e => (pin b hm o e).1, fun b hm => ?_, w'⟩
        · rw [← same8] at e
          exact (wipe_some e).1
        · obtain ⟨o, e, _⟩ := T.obj _ _ st7 b hm
          exact (pin b hm o e).2
      refine thnF (pt.run _ s8 σ8 H8 _ I8 q8) fun b s9 h9 => ?_
      obtain ⟨H9, I9, q9⟩ := h9
      cases b with
      | false =>
        rw [if_neg Bool.false_ne_true] at q9
        simp only [Bool.false_eq_true, if_false]
        exact turnEnd I9 q9
      | true =>
        rw [if_pos rfl] at q9
        simp only [if_true]
        refine thnF (pe.run _ s9 σ8 H9 _ I9 q9) fun z s10 h10 => ?_
        obtain ⟨yv, H10, I10, r10, q10⟩ := h10
        refine thnF (add_int (X := X.blk sb Hb scope ce fp) (E := fun _ _ => False) I10 r10 q10) fun _ s11 h11 => ?_
        obtain ⟨H11, I11, q11⟩ := h11
        exact turnEnd I11 q11
  exact PpSet.codeAny_compStart_set loop (T.self X.A 0 _ _ _ stc loop)
/-- as a value -/
theorem pe_scI {elt tg iter : Expr} {ifs : List Expr} {scope : Scope} {own : List (PySem.Str × Nat)} {pos : Pos} {wi : TI} {g : TG} {tt : TT} {te : TE} (calm : X.calm = true) (nd : X.N.Nodup) (hi : PI X tg iter wi) (ok : BlkOk X.N X.env.scope scope own)
    (hg : ∀ (s : Shared) (H : Hp) (C : Addr) (cl : List (PySem.Str × Addr)) (fp : List Addr), PG (X.blk s H scope (compEnvC scope cl C X.env) fp) tg g)
    (ht : ∀ (s : Shared) (H : Hp) (C : Addr) (cl : List (PySem.Str × Addr)) (fp : List Addr), PTs (X.blk s H scope (compEnvC scope cl C X.env) fp) ifs tt)
    (he : ∀ (s : Shared) (H : Hp) (C : Addr) (cl : List (PySem.Str × Addr)) (fp : List Addr), PE (X.blk s H scope (compEnvC scope cl C X.env) fp) elt te)
    (plain : ∀ x, foldedSetIterable iter X.env x = pure x := by intro _; rfl) :
    PE X (.SetComp elt [⟨tg, iter, ifs, 0⟩] scope pos) (tScI X.w wi g tt te (own.map (·.2))) := by
  refine ⟨fun pins s σ H Q I h => ?_⟩
  rw [PpSet.eval_SetComp]
  refine scI_core calm nd I hi ok hg ht he plain h fun D C s' m H' J q hn f => ⟨m, hn, fun h'' sbut => ?_⟩
  obtain ⟨f0, f1, _, f3, f4, f5⟩ := f
  exact ⟨.ref D, H', J.turned (t' := s'.toks) (fun b o hb e => (sbut.2 b hb).trans e) f0 f1 f3 f4 f5, rfl, q⟩
end
theorem r_scI {w : World} {wi : TI} {g : TG} {tt : TT} {te : TE} {vs : List Nat} {σ : L2.St} {H : Hp} {Q : VK} (h : wi σ H fun J H1 => ∀ D, H1 D = none → ∃ W : Nat → Nat → Hp → Prop, (∃ m, W 0 m (upd H1 D (SetO w D noInts 0))) ∧ ∀ i m H, W i m H →
    (J.stop i H ∧ Q (.ref D) H) ∨ (J.go i H ∧ ∃ R : Hp → Prop, (∀ H', R H' → ∃ m', m' < m ∧ W (i + 1) m' H') ∧ ∀ x H', J.yld i H x H' → turnI w D vs σ g tt te x H' R)) : tScI w wi g tt te vs σ H Q := h
/-- over a tuple -/
theorem scI_tup {w : World} {K : PySem.W.Frag} {a : Addr} {xs : List V} {g : TG} {tt : TT} {te : TE} {vs : List Nat} {σ : L2.St} {H1 : Hp} {D : Addr} {Qd : Hp → Prop} (Pv : Nat → Hp → Prop) (h0 : Pv 0 (upd H1 D (SetO w D noInts 0)))
    (hl : ∀ i H, i ≤ xs.length → Pv i H → SqT K H a xs) (hs : ∀ i x H, xs[i]? = some x → Pv i H → turnI w D vs σ g tt te x H (Pv (i + 1))) (hd : ∀ H, Pv xs.length H → Qd H) :
    ∃ W : Nat → Nat → Hp → Prop, (∃ m, W 0 m (upd H1 D (SetO w D noInts 0))) ∧ ∀ i m H, W i m H →
      ((Itt K a).stop i H ∧ Qd H) ∨ ((Itt K a).go i H ∧ ∃ R : Hp → Prop, (∀ H', R H' → ∃ m', m' < m ∧ W (i + 1) m' H') ∧ ∀ x H', (Itt K a).yld i H x H' → turnI w D vs σ g tt te x H' R) := by
  refine ⟨fun i m H => m = xs.length - i ∧ i ≤ xs.length ∧ Pv i H, ⟨xs.length, by simp, Nat.zero_le _, h0⟩, ?_⟩
  rintro i m H ⟨rfl, hi, p⟩
  have q := hl i H hi p
  by_cases lt : i < xs.length
  · refine .inr ⟨⟨xs, xs[i], q, by simp [lt]⟩, Pv (i + 1), fun H' p' => ⟨xs.length - (i + 1), by omega, rfl, lt, p'⟩, fun x H' y => ?_⟩
    obtain ⟨rfl, y⟩ := y
    exact hs i x _ (y xs q) p
  · obtain rfl : i = xs.length := by omega
    exact .inl ⟨⟨xs, q, Nat.le_refl _⟩, hd H p⟩
/-! ### the members of a lot, ascending -/
def normL (n : Nat) (xs : List Nat) : List Nat := (List.range n).filter fun k => decide (k ∈ xs)
theorem normL_mem {n k : Nat} {xs : List Nat} (h : ∀ x ∈ xs, x < n) : k ∈ normL n xs ↔ k ∈ xs := by
  unfold normL
  rw [List.mem_filter, List.mem_range, decide_eq_true_eq]
  exact ⟨fun z => z.2, fun z => ⟨h k z, z⟩⟩
theorem normL_lt {n : Nat} {xs : List Nat} : ∀ k ∈ normL n xs, k < n := fun k hk => by
  unfold normL at hk
  exact List.mem_range.mp (List.mem_filter.mp hk).1
theorem normL_sorted (n : Nat) (xs : List Nat) : (normL n xs).Pairwise (· < ·) := List.Pairwise.filter _ List.pairwise_lt_range
theorem normL_len (n : Nat) (xs : List Nat) : (normL n xs).length ≤ n := by
  have := List.length_filter_le (fun k => decide (k ∈ xs)) (List.range n)
  rw [List.length_range] at this
  exact this
theorem strict_eq : ∀ {a b : List Int}, a.Pairwise (· < ·) → b.Pairwise (· < ·) → (∀ k, k ∈ a ↔ k ∈ b) → a = b
  | [], [], _, _, _ => rfl
  | [], y :: b, _, _, h => nomatch (h y).mpr List.mem_cons_self
  | x :: a, [], _, _, h => nomatch (h x).mp List.mem_cons_self
  | x :: a, y :: b, ha, hb, h => by
    obtain ⟨a1, a2⟩ := List.pairwise_cons.mp ha
    obtain ⟨b1, b2⟩ := List.pairwise_cons.mp hb
    have e : x = y := by
      rcases List.mem_cons.mp ((h x).mp List.mem_cons_self) with e | e
      · exact e
      · rcases List.mem_cons.mp ((h y).mpr List.mem_cons_self) with e2 | e2
        · exact e2.symm
        · have := a1 y e2
          have := b1 x e
          omega
    subst e
    rw [strict_eq a2 b2 fun k => ⟨fun hk => (List.mem_cons.mp ((h k).mp (List.mem_cons_of_mem _ hk))).resolve_left fun z => by
      have := a1 k hk
      omega, fun hk => (List.mem_cons.mp ((h k).mpr (List.mem_cons_of_mem _ hk))).resolve_left fun z => by
      have := b1 k hk
      omega⟩]
theorem norm_ints {n : Nat} {xs : List Nat} {ns : List Int} (pw : ns.Pairwise (· < ·)) (hm : ∀ k : Int, k ∈ ns ↔ ∃ y ∈ xs, k = (y : Int)) (hb : ∀ y ∈ xs, y < n) : ns.map V.int = (normL n xs).map iV := by
  have e : ns = (normL n xs).map fun k : Nat => (k : Int) := by
    refine strict_eq pw ?_ fun k => ?_
    · rw [List.pairwise_map]
      exact (normL_sorted n xs).imp fun h => by omega
    · rw [hm, List.mem_map]
      exact ⟨fun ⟨y, h1, h2⟩ => ⟨y, (normL_mem hb).mpr h1, h2.symm⟩, fun ⟨y, h1, h2⟩ => ⟨y, (normL_mem hb).mp h1, h2.symm⟩⟩
  rw [e, List.map_map]
  rfl
theorem normL_self {n : Nat} {xs : List Nat} (hs : xs.Pairwise (· < ·)) (hb : ∀ x ∈ xs, x < n) : normL n xs = xs := by
  have e : (normL n xs).map (fun k : Nat => (k : Int)) = xs.map fun k : Nat => (k : Int) := by
    refine strict_eq ?_ ?_ fun k => ?_
    · rw [List.pairwise_map]
      exact (normL_sorted n xs).imp fun h => by omega
    · rw [List.pairwise_map]
      exact hs.imp fun h => by omega
    · rw [List.mem_map, List.mem_map]
      exact ⟨fun ⟨y, h1, h2⟩ => ⟨y, (normL_mem hb).mp h1, h2⟩, fun ⟨y, h1, h2⟩ => ⟨y, (normL_mem hb).mpr h1, h2⟩⟩
  exact (List.map_inj_right fun a b h => by omega).mp e
theorem normL_map {n : Nat} {xs : List Nat} {f : Nat → Nat} (hx : ∀ x ∈ xs, x < n) : normL n ((normL n xs).map f) = normL n (xs.map f) := by
  unfold normL
  refine List.filter_congr fun k _ => ?_
  refine decide_eq_decide.mpr ?_
  rw [List.mem_map, List.mem_map]
  exact ⟨fun ⟨y, h1, h2⟩ => ⟨y, (normL_mem hx).mp h1, h2⟩, fun ⟨y, h1, h2⟩ => ⟨y, (normL_mem hx).mpr h1, h2⟩⟩
end G
set_option Elab.async false
set_option linter.all false
set_option maxRecDepth 100000
set_option maxHeartbeats 4000000
namespace G
open PySem PySem.Spec PyProof.Rows L2
/-! ### set(xs), xs a list of ints -/
abbrev newSetO (w : World) : Obj := { cls := .type "set", dict := none, data := .set #[] 0 (.fresh 0 0 (!w.params.followText "set-order")) }
section
variable {P : Program} {w : World} {A : Around} {E : Value → Shared → Prop} {s : Shared}
theorem set_of_list {l : Addr} {its : Array Value} (ns : List Int) {Q : Value → Shared → Prop} (calm : A.handled = none) (hl : s.heap.IsList l its) (hit : IntsAre its.toList ns) (few : ns.length + 1 < scanBound)
    (h : ∀ (h' : Heap) (tk c : Nat), SetR w h' s.heap.objs.size (fun j => decide (j ∈ ns)) c → c ≤ ns.length → (∀ b o, s.heap.get? b = some o → h'.get? b = some o) →
      Q (.ref s.heap.objs.size) { s with heap := h', toks := tk }) :
    wpAny (model P w) A (call (.type "set") [.ref l]) Q E s := by
  have lens : its.size = ns.length := (Array.length_toList (xs := its)).symm.trans (IntsAre.length hit)
  have k0 := F.called_set.mro
  obtain ⟨mc, mtl, k0⟩ := k0
  have k1 := F.called_set.made
  have k2 := F.called_set.sub
  have k3 := F.called_set.notType
  have k4 := F.called_set.canCreate
  have k5 := F.typeCall_set_1 (.ref l)
  refine wpAny_call (codeAny_of_tree (show wpAny _ _ (callAny (.type "set") _) _ _ _ from ?_))
  refine wpAny_pure (And.intro (Code.quiet_builtin _ (by decide +kernel)) (codeAny_builtin F.entry_type_call ?_))
  rw [Around.under_plain (weight_type_call_type "set" [Value.ref l] []) rfl]
  repeat any_goals (first | assumption | wp_step)
  refine codeAny_mono (code_set_led1 (.ref l) (E := E)
    (Q₁ := fun obj s₁ => obj = .ref s.heap.objs.size ∧ s₁ = { s with heap := s.heap.push (newSetO w) }) (And.intro rfl rfl)) fun r s₁ hr => ?_
  cases r with
  | error e => exact hr
  | ok fl =>
    cases fl with
    | ret obj =>
      obtain ⟨eo, es⟩ := hr
      subst eo es
      have atS : (s.heap.push (newSetO w)).get? s.heap.objs.size = some (newSetO w) := Heap.get?_push_size _ rfl
      have isT : Shared.TypeIs { s with heap := s.heap.push (newSetO w) } (.ref s.heap.objs.size) "set" := ⟨_, atS, rfl⟩
      have j1 := F.called_set.init.lookup
      have j2 := F.called_set.init.bind (Value.ref s.heap.objs.size)
      repeat any_goals (first | assumption | wp_step)
      refine codeAny_mono (codeAny_call_builtin
        (R := wants (fun r s₂ => r = .none ∧ ∃ h' tk c, s₂ = { s with heap := h', toks := tk } ∧ SetR w h' s.heap.objs.size (fun j => decide (j ∈ ns)) c ∧ c ≤ ns.length ∧ ∀ b o, s.heap.get? b = some o → h'.get? b = some o) E)
        F.called_set.init.plain F.entry_set_init (check_set_init_1 isT ?_)) fun r₂ s₂ hr₂ => ?_
      · obtain ⟨ol, atL, e1, nl, e2⟩ := hl
        obtain ⟨lc, ld, ldt, lsl⟩ := ol
        dsimp only at e1 e2
        subst e1 e2
        have atL1 : (s.heap.push (newSetO w)).get? l = some { cls := .type "list", dict := ld, data := .seq its nl, slots := lsl } := Heap.get?_push_of_some _ atL
        have n1 := F.sub_list_set
        have n2 := F.sub_list_frozenset
        have n3 : (Value.type "list" == Value.type "dict") = false := by decide
        have isL1 : (s.heap.push (newSetO w)).IsList l its := ⟨_, atL1, rfl, nl, rfl⟩
        unfold Builtin.«set.__init__» noKeywords Builtin.Frozenset.updateFrom
        generalize ePI : pyIter = PI
        wp_walk
        subst ePI
        refine wpAny_pyIter_list isL1 (wpAny_bind (wpAny_runValue ?_))
        have ltL : l < s.heap.objs.size := Heap.lt_size atL
        have sz : (s.heap.push (newSetO w)).objs.size = s.heap.objs.size + 1 := Heap.size_push ..
        have calm3 : A.in1.in1.in1.handled = none := calm
        have apart : s.heap.objs.size ∉ [(s.heap.push (newSetO w)).objs.size, l] := fun z => by
          rw [sz] at z
          rcases List.mem_cons.mp z with z | z
          · exact absurd z (Nat.ne_of_lt (Nat.lt_succ_self _))
          · exact absurd (List.mem_singleton.mp z) (Nat.ne_of_gt ltL)
        have notI : l ≠ (s.heap.push (newSetO w)).objs.size := by
          rw [sz]
          exact Nat.ne_of_lt (Nat.lt_succ_of_lt ltL)
        refine set_update_ints ((Walks.list calm3 _ l notI its).toS) s.heap.objs.size apart ns lens few (fun i v hv => ?_) (its.size - 0) 0 _ (by omega) (Nat.zero_le _)
          ⟨⟨_, Heap.get?_push_size _ rfl, rfl, rfl⟩, isL1.push _⟩ ?start ?stop
        · have hi : i < ns.length := lens ▸ (Array.getElem?_eq_some_iff.mp hv).1
          obtain ⟨t, e⟩ := PyProof.Rows.IntsAre.int_at hit i v ((Array.getElem?_toList (xs := its)).trans hv)
          exact ⟨ns[i], t, List.getElem?_eq_getElem hi, by rw [e, List.getD_eq_getElem?_getD, List.getElem?_eq_getElem hi] <;> rfl⟩
        case start => exact ⟨0, Nat.le_refl 0, setR_new_at (Heap.get?_push_of_some _ atS)⟩
        case stop =>
          intro s' c' hm hc' hS'
          obtain ⟨h2, g2, d2, t2, o2⟩ := s'
          obtain rfl : g2 = s.gens := hm.gens
          obtain rfl : d2 = s.drawn := hm.drawn
          obtain rfl : o2 = s.os := hm.os
          refine wpAny_pure (show wpAny _ _ (ret Value.none) _ _ _ from wpAny_pure ⟨rfl, h2, t2, c', rfl, hS', lens ▸ hc', fun b o e => ?_⟩)
          have lt := Heap.lt_size e
          refine hm.heap b o (fun z => ?_) (Heap.get?_push_of_some _ (Heap.get?_push_of_some _ e))
          rcases List.mem_cons.mp z with z | z
          · exact Nat.ne_of_lt lt z
          · rw [sz] at z
            exact Nat.ne_of_lt (Nat.lt_succ_of_lt lt) (List.mem_singleton.mp z)
      · cases r₂ with
        | error e => exact hr₂
        | ok f2 =>
          cases f2 with
          | ret u =>
            obtain ⟨rfl, h', tk, c', rfl, a1, a2, a3⟩ := hr₂
            repeat any_goals (first | assumption | wp_step)
            exact h h' tk c' a1 a2 a3
          | next => exact hr₂.elim
          | brk => exact hr₂.elim
          | cont => exact hr₂.elim
    | next => exact hr.elim
    | brk => exact hr.elim
    | cont => exact hr.elim
end
def rSetL (K : PySem.W.Frag) (w : World) : List V → Hp → VK → Prop := fun xs H Q => ∃ (l : Addr) (ns : List Int), xs = [.ref l] ∧ SqL K H l (ns.map V.int) ∧ ns.length ≤ 1000 ∧
  ∀ (p : Addr) (c : Nat), c ≤ ns.length → H p = none → Q (.ref p) (upd H p (SetO w p (fun j => decide (j ∈ ns)) c))
theorem cr_setL {X : Cx} {K : PySem.W.Frag} (hK : X.K = K) (hc : X.calm = true) : CallR X (.type "set") (rSetL K X.w) := by
  subst hK
  rintro pins s σ H xs us Q I rs ⟨l, ns, rfl, hs, few, q⟩
  rw [Vals.ref1 rs]
  obtain ⟨its, rv, hl, hz⟩ := I.list hs
  refine set_of_list ns (I.ok.hd hc) hl.isList (by simpa using ints_of_vals rv) (by unfold scanBound; omega) fun h' tk c hS hc keep => ?_
  have hn := I.hok.fresh (Nat.le_refl _)
  exact ⟨.ref s.heap.objs.size, _, I.laid keep (Nat.le_refl _) (setO_new hS), rfl, q _ c hc hn⟩
end G
set_option Elab.async false
set_option linter.all false
set_option maxRecDepth 100000
set_option maxHeartbeats 2000000
namespace G
open PySem PySem.Spec PyProof.Rows L2 LamX NdefX
/-! ### lambdas with parameters, handed on: F their words (its body is of no account), e their expression -/
abbrev lamFd (F : NF) (e : Expr) (pm ctv : Value) : FuncData :=
  PySem.W.kla_fn "<lambda>" F.qual F.params e F.scope F.cl pm (.ref F.c) ctv
def LamO (f : Addr) (F : NF) (e : Expr) : HO := .ext fun h => ∃ (od : Option Addr) (sl : Array (Option Value)) (pm ctv : Value),
  h.get? f = some (⟨.type "function", od, .func (lamFd F e pm ctv), sl⟩ : Obj)
theorem lamO_at {P : Program} {w : World} {H : Hp} {h : Heap} {f : Addr} {F : NF} {e : Expr} (hok : HOk P w H h) (q : H f = some (LamO f F e)) :
    ∃ (od : Option Addr) (sl : Array (Option Value)) (pm ctv : Value), h.get? f = some (⟨.type "function", od, .func (lamFd F e pm ctv), sl⟩ : Obj) := (hok f _ q).1
theorem lamO_ne {f : Addr} {F : NF} {e : Expr} (ps : Array Value) : LamO f F e ≠ .tbl ps := fun z => by
  unfold LamO at z
  exact nomatch z
/-- what was there is there -/
def Dom (H H' : Hp) : Prop := ∀ b, H b ≠ none → H' b ≠ none
theorem Dom.upd {H H' : Hp} {a : Addr} {o : HO} (h : Dom H H') : Dom H (L2.upd H' a o) := fun b hb => by
  unfold L2.upd
  split
  · exact fun z => nomatch z
  · exact h b hb
abbrev lamNF (X : Cx) (params : Arguments) (scope : Scope) (c' : Addr) : NF :=
  ⟨"<lambda>", X.env.qual ++ "<lambda>", params, [], scope, cloFrom X.env.cells scope.names [], c'⟩
section
variable {X : Cx} {pins : List (Addr × Obj)} {σ : L2.St} {H : Hp} {s : Shared}
theorem inv_lam {F : NF} {e : Expr} {o : Obj} {tk : Nat} {pm ctv : Value} (I : Inv X pins σ H s) (ho : o = { cls := .type "function", data := .func (lamFd F e pm ctv) }) :
    Inv X pins σ (upd H s.heap.objs.size (LamO s.heap.objs.size F e)) { s with heap := s.heap.push o, toks := tk } := by
  subst ho
  have at_ := Heap.get?_push_size (o := ({ cls := .type "function", data := .func (lamFd F e pm ctv) } : Obj)) s.heap rfl
  exact I.laid (fun b u z => Heap.get?_push_of_some _ z) (Nat.le_refl _)
    ⟨⟨_, _, pm, ctv, at_⟩, ⟨_, at_⟩, fun h1 h2 z st => by
      obtain ⟨od, sl, p1, p2, z⟩ := z
      exact ⟨od, sl, p1, p2, st _ z⟩⟩
theorem lam_make {T : List (Addr × Str)} {c P : Addr} {params : Arguments} {body : Expr} {scope : Scope} {pos : Pos} {E : Value → Shared → Prop} {Q : Value → Shared → Prop}
    (I : Inv X pins σ H s) (TB : TabB X.base X.mg c P) (hcode : X.env.code = .ref c)
    (hm : (P, X.env.qual ++ "<lambda>") ∈ T) (hu : ∀ p ∈ T, p.1 = P → p.2 = X.env.qual ++ "<lambda>") (hT : Tabs T H)
    (hdef : defaultsOf params X.env = ([], [])) (hfree : ∀ y ∈ scope.names, y.2 = .free → ∃ c, X.env.cells.lookup y.1 = some c)
    (h : ∀ (f c' : Addr) (H1 : Hp) (s' : Shared), Inv X pins σ H1 s' → ExtN H H1 → Dom H H1 → Tabs T H1 → H f = none →
      H1 f = some (LamO f (lamNF X params scope c') body) → H1 c' = some (CodeO c' (X.env.qual ++ "<lambda>")) → Q (.ref f) s') :
    wpAny (model X.prog X.w) X.A (eval (.Lambda params body scope pos) X.env) Q E s := by
  obtain ⟨ps, tabP, trip, told⟩ := hT _ hm
  refine PySem.W.kla_eval hdef ?_
  have bmP : s.heap.BuiltinsAt X.mg P := TB.bm.keeps I.bk
  have objP : s.heap.get? P = some { cls := .none, data := .fields ps } := I.hok P _ tabP
  have clo := closure_ok (env := X.env) hfree
  have gl := I.mod.glob.keeps I.bk
  have hd := TB.code.keeps I.bk
  cases found : codeAmong pos ps.toList with
  | some cv =>
    obtain ⟨c', rfl, hco⟩ := told pos cv found
    refine PySem.W.kla_makeFunctionHit (mg := X.mg) (c := c) (P := P) (ps := ps) clo I.ok.glob gl
      hcode hd objP trip found bmP fun ctv h' tk keep big => ?_
    have I1 : Inv X pins σ H { s with heap := h', toks := tk } := I.kept keep
    have new : H h'.objs.size = none := I1.hok.fresh (Nat.le_refl _)
    have I2 := inv_lam (F := lamNF X params scope c') (e := body) (tk := tk) (pm := (X.mg "__name__").getD .none) (ctv := ctv) I1 rfl
    refine h _ c' _ _ I2 (fun b o z _ => (upd_ne (ne_of_none z new)).trans z) (Dom.upd fun b z => z) ?_ new upd_same ((upd_ne (ne_of_none hco new)).trans hco)
    exact hT.ext fun b o z => (upd_ne (ne_of_none z new)).trans z
  | none =>
    refine PySem.W.kla_makeFunction (mg := X.mg) (c := c) (P := P) (ps := ps) clo I.ok.glob gl
      hcode hd objP trip found TB.gP bmP fun c' ctv h' tk keep ge lt rec_ tab => ?_
    obtain ⟨c2, oc, vs, t, e2, a1, a2, a3⟩ := rec_
    obtain rfl := Value.ref.inj e2
    have newC : H c' = none := I.hok.fresh ge
    have I1 := inv_table (q := X.env.qual ++ "<lambda>") (t' := tk) (more := #[rawInt pos.line, rawInt pos.col, .ref c']) I tabP
      (fun b o hb z => keep b o hb z) tab ge ⟨oc, vs, t, a1, a2, a3⟩
    have ext1 : ExtN H (upd (upd H P (.tbl (ps ++ #[rawInt pos.line, rawInt pos.col, .ref c']))) c' (CodeO c' (X.env.qual ++ "<lambda>"))) := fun b o z n => by
      have nb : b ≠ P := fun y => by
        rw [y, tabP] at z
        exact n ps (Option.some.inj z).symm
      rw [upd_ne (ne_of_none z newC), upd_ne nb]
      exact z
    have codeAt : (upd (upd H P (.tbl (ps ++ #[rawInt pos.line, rawInt pos.col, .ref c']))) c' (CodeO c' (X.env.qual ++ "<lambda>"))) c' = _ := upd_same
    have eL : (ps ++ #[rawInt pos.line, rawInt pos.col, Value.ref c']).toList = ps.toList ++ [rawInt pos.line, rawInt pos.col, .ref c'] := by simp
    have tabs1 : Tabs T (upd (upd H P (.tbl (ps ++ #[rawInt pos.line, rawInt pos.col, .ref c']))) c' (CodeO c' (X.env.qual ++ "<lambda>"))) := fun p hp => by
      obtain ⟨qs, b1, b2, b3⟩ := hT p hp
      by_cases hb : p.1 = P
      · refine ⟨ps ++ #[rawInt pos.line, rawInt pos.col, .ref c'], ?_, ?_, fun p' cv hcv => ?_⟩
        · rw [hb, upd_ne (ne_of_none tabP newC)]
          exact upd_same
        · rw [eL]
          exact PySem.TriplesOk_snoc _ _ _ _ trip
        · rw [eL] at hcv
          rw [hu p hp hb]
          rcases among_app _ trip hcv with z | z
          · obtain ⟨c0, d1, d2⟩ := told p' cv z
            exact ⟨c0, d1, ext1 _ _ d2 codeO_ne⟩
          · exact ⟨c', z, codeAt⟩
      · refine ⟨qs, ?_, b2, fun p' cv hcv => ?_⟩
        · rw [upd_ne (ne_of_none b1 newC), upd_ne hb]
          exact b1
        · obtain ⟨c0, d1, d2⟩ := b3 p' cv hcv
          exact ⟨c0, d1, ext1 _ _ d2 codeO_ne⟩
    have newF := I1.hok.fresh (Nat.le_refl _)
    have I2 := inv_lam (F := lamNF X params scope c') (e := body) (tk := tk) (pm := (X.mg "__name__").getD .none) (ctv := ctv) I1 rfl
    refine h _ c' _ _ I2 (fun b o z n => ?_) (Dom.upd (Dom.upd (Dom.upd fun b z => z))) (tabs1.ext fun b o z => (upd_ne (ne_of_none z newF)).trans z) ?_ upd_same ((upd_ne (ne_of_none codeAt newF)).trans codeAt)
    · have z1 := ext1 b o z n
      exact (upd_ne (ne_of_none z1 newF)).trans z1
    · cases z : H h'.objs.size with
      | none => rfl
      | some o =>
        have big : s.heap.objs.size ≤ h'.objs.size := Nat.le_trans ge (Nat.le_of_lt lt)
        rw [I.hok.fresh big] at z
        exact nomatch z
end
/-- the reading of a lambda: a new function object -/
def tLamH (T : List (Addr × Str)) (mk : Addr → NF) (e : Expr) : TE := fun σ H Q => Tabs T H ∧ ∀ (f c' : Addr) (H1 : Hp), ExtN H H1 → Tabs T H1 → H f = none →
  H1 f = some (LamO f (mk c') e) → H1 (mk c').c = some (CodeO (mk c').c (mk c').qual) → Q (.ref f) H1
section
variable {X : Cx}
theorem pe_lamH {T : List (Addr × Str)} {c P : Addr} {params : Arguments} {body : Expr} {scope : Scope} {pos : Pos} (TB : TabB X.base X.mg c P) (hcode : X.env.code = .ref c)
    (hm : (P, X.env.qual ++ "<lambda>") ∈ T) (hu : ∀ p ∈ T, p.1 = P → p.2 = X.env.qual ++ "<lambda>") (hdef : defaultsOf params X.env = ([], []))
    (hfree : ∀ y ∈ scope.names, y.2 = .free → X.env.scope.names.lookup y.1 = some .cell ∨ X.env.scope.names.lookup y.1 = some .free) :
    PE X (.Lambda params body scope pos) (tLamH T (lamNF X params scope) body) := by
  refine ⟨fun pins s σ H Q I h => ?_⟩
  obtain ⟨hT, h⟩ := h
  have fr : ∀ y ∈ scope.names, y.2 = .free → ∃ c, X.env.cells.lookup y.1 = some c := fun y hy e => (hfree y hy e).elim (fun z => I.ok.has _ (.inl z)) fun z => I.ok.has _ (.inr z)
  exact lam_make I TB hcode hm hu hT hdef fr fun f c' H1 s' I1 x1 _ t1 n1 l1 k1 => ⟨.ref f, H1, I1, rfl, h f c' H1 x1 t1 n1 l1 k1⟩
end
/-- what a call leaves: all but the tables stays, nothing is gone -/
structure ExD (H H' : Hp) : Prop where
  n : ExtN H H'
  d : Dom H H'
def tLamD (T : List (Addr × Str)) (mk : Addr → NF) (e : Expr) : TE := fun σ H Q => Tabs T H ∧ ∀ (f c' : Addr) (H1 : Hp), ExD H H1 → Tabs T H1 → H f = none →
  H1 f = some (LamO f (mk c') e) → H1 (mk c').c = some (CodeO (mk c').c (mk c').qual) → Q (.ref f) H1
section
variable {X : Cx}
theorem pe_lamD {T : List (Addr × Str)} {c P : Addr} {params : Arguments} {body : Expr} {scope : Scope} {pos : Pos} (TB : TabB X.base X.mg c P) (hcode : X.env.code = .ref c)
    (hm : (P, X.env.qual ++ "<lambda>") ∈ T) (hu : ∀ p ∈ T, p.1 = P → p.2 = X.env.qual ++ "<lambda>") (hdef : defaultsOf params X.env = ([], []))
    (hfree : ∀ y ∈ scope.names, y.2 = .free → X.env.scope.names.lookup y.1 = some .cell ∨ X.env.scope.names.lookup y.1 = some .free) :
    PE X (.Lambda params body scope pos) (tLamD T (lamNF X params scope) body) := by
  refine ⟨fun pins s σ H Q I h => ?_⟩
  obtain ⟨hT, h⟩ := h
  have fr : ∀ y ∈ scope.names, y.2 = .free → ∃ c, X.env.cells.lookup y.1 = some c := fun y hy e => (hfree y hy e).elim (fun z => I.ok.has _ (.inl z)) fun z => I.ok.has _ (.inr z)
  exact lam_make I TB hcode hm hu hT hdef fr fun f c' H1 s' I1 x1 d1 t1 n1 l1 k1 => ⟨.ref f, H1, I1, rfl, h f c' H1 ⟨x1, d1⟩ t1 n1 l1 k1⟩
end
/-! ### what a lambda promises -/
structure LOk (P : Program) (w : World) (K : PySem.W.Frag) (mg : Str → Option Value) (base : Heap) (CX : CXT) (k : Nat) (f : Addr) (F : NF) (e : Expr) (ps fr : List Str) (sp : List (Option V) → Sp) : Prop where
  len : ∀ ws vs H Q E, sp ws vs H Q E → vs.length = ps.length
  run : ∀ (A : Around) (outer : List Env) (s : Shared) (H : Hp) (us : List Value) (vs : List V) (ws : List (Option V)) (Q : VK) (E : XK),
    Room k A → Env0 P w K mg base A outer s H → H f = some (LamO f F e) → H F.c = some (CodeO F.c F.qual) →
    CellsAt F.cl fr ws s.heap H → Vals vs us → sp ws vs H Q E → codeAny (model P w) A (.call (.ref f) ⟨us, []⟩) (CR CX outer P w H s Q E) s
section
variable {CX : CXT} {P : Program} {w : World} {K : PySem.W.Frag} {mg : Str → Option Value} {base : Heap} {N ps fr : List Str} {F : NF} {e : Expr} {f : Addr} {k j : Nat} {sp : List (Option V) → Sp}
theorem LOk.mono (o : LOk P w K mg base CX j f F e ps fr sp) (h : j ≤ k) : LOk P w K mg base CX k f F e ps fr sp :=
  ⟨o.len, fun A outer s H us vs ws Q E hr => o.run A outer s H us vs ws Q E (hr.mono h)⟩
/-- THE RULE: a lambda by its expression -/
theorem lok_of (S : NScope N ps fr F.scope) (hb : ∀ (pm ctv : Value) (us : List Value), us.length = ps.length → bindArgs (lamFd F e pm ctv) ⟨us, []⟩ = pure (ps.zip us))
    (len : ∀ ws vs H Q E, sp ws vs H Q E → vs.length = ps.length)
    (hbody : ∀ (A : Around) (outer : List Env) (s : Shared) (H : Hp) (vs : List V) (ws : List (Option V)) (Q : VK) (E : XK), Room k (A.deeper (envF F f s.heap.objs.size)) →
      ws.length = fr.length → sp ws vs H Q E → ∃ t, PE (ncx CX P w K mg base N F f A outer s H E) e t ∧ t (startF N vs ws) H Q) :
    LOk P w K mg base CX (k + 1) f F e ps fr sp := by
  refine ⟨len, fun A outer s H us vs ws Q E hr e0 hf hc C r hsp => ?_⟩
  have hl := len _ _ _ _ _ hsp
  have lim : s.heap.NoLimit := e0.mod.nolimit.keeps fun b o z => (e0.bs b o z).1
  obtain ⟨od, sl, pm, ctv, ho⟩ := lamO_at e0.hok hf
  refine PySem.W.kla_callFunE hr.depth ho rfl S.co S.gen rfl (codeO_at e0.hok hc) ?_
  rw [hb pm ctv us (by rw [← r.length]; exact hl)]
  refine wpAny_pure (wpAny_newFunctionEnv S.nocell (fun y hy => S.par y.1 (List.of_mem_zip (b := y.2) hy).1) (fun h₁ hns hsb => ⟨lim.fresh _ hsb, ?_⟩) S.kind)
  show codeAny _ _ (.expr e (envF F f s.heap.objs.size)) _ _
  have kp : ∀ b o, s.heap.get? b = some o → h₁.get? b = some o := fun b o z =>
    hsb.extBut b o (Nat.ne_of_lt (Heap.lt_size z)) (Heap.get?_push_of_some _ z)
  obtain ⟨t, ht, hq⟩ := hbody A outer s H vs ws Q E (hr.deeper _) C.len hsp
  have I := inv_startN (CX := CX) (E := E) (f := f) (tk := s.toks + (ps.zip us).length) S hr.hd e0 hl r C hns kp
  refine PySem.W.kla_codeExpr (wpAny_mono (ht.run [] _ (startF N vs ws) H _ I hq) (fun u s' hs => ?_) fun _ _ hs => hs)
  obtain ⟨v, H', J, rv, q⟩ := hs
  exact ⟨v, H', J.os, J.bare, J.base, J.hok, rv, q⟩
end
/-! ### calls of such a lambda in a def that was handed it -/
structure Clo where
  cl : List (Str × Addr)
  fr : List Str
  ws : List (Option V)
/-- its captured cells hold so, and are no frames of those that run -/
structure HeldC (C : Clo) (l : List Env) (h : Heap) (H : Hp) : Prop where
  at_ : CellsAt C.cl C.fr C.ws h H
  nofr : ∀ y c, C.cl.lookup y = some c → c ∉ frs l
section
variable {X : Cx} {pins : List (Addr × Obj)} {σ : L2.St} {H : Hp} {s : Shared}
theorem held_later {C : Clo} (h : HeldC C X.outer X.s_0.heap X.H_0) (nx : X.ex = []) (I : Inv X pins σ H s) : HeldC C X.stack s.heap H := by
  refine ⟨h.at_.later (fun y c z => h.nofr y c z) (fun y c _ => by rw [nx]; simp) I, fun y c z hc => ?_⟩
  obtain ⟨v, o, ho, hd⟩ := (h.at_.all y c z).2
  rcases List.mem_cons.mp (I.stkSub c hc) with e | e
  · have h1 := I.ok.above
    have h2 := Heap.lt_size ho
    rw [e] at h2
    exact absurd (Nat.lt_of_lt_of_le h2 h1) (Nat.lt_irrefl _)
  · exact h.nofr y c z e
/-- .. of the def that makes it -/
theorem held_made {C : Clo} {js : List Nat} (c : Caps X C.cl C.fr js) (hw : C.ws = js.map (slotAt σ)) (hfn : ∀ x, X.fn x = true) (I : Inv X pins σ H s) : HeldC C X.stack s.heap H := by
  refine ⟨by rw [hw]; exact cells_of I c, fun y a z hc => ?_⟩
  have ha := c.sub y a z
  rcases List.mem_cons.mp (I.stkSub a hc) with e | e
  · exact I.cne y a ha e
  · obtain ⟨_, o, ho, _⟩ := I.ok.funs.mem e
    have h1 := I.ok.cab y a (hfn y) ha
    exact absurd (Nat.lt_of_lt_of_le (Heap.lt_size ho) h1) (Nat.lt_irrefl _)
end
/-- x(..), x a name that holds a lambda that was handed in -/
def tCallH (i : Nat) (F : Addr → NF → Expr → Prop) (sp : NF → Sp) (t : TA) : TE := fun σ H Q => ∃ f F' e, σ[i]? = some (some (.ref f)) ∧ F f F' e ∧ H f = some (LamO f F' e) ∧
  t σ H fun vs H1 => H1 f = some (LamO f F' e) ∧ H1 F'.c = some (CodeO F'.c F'.qual) ∧ sp F' vs H1 Q E0
section
variable {X : Cx} {k j i : Nat} {x : Str} {t : TA} {e : Expr} {es : List Expr} {p pos : Pos} {FP : Addr → NF → Expr → Prop} {sp : NF → Sp}
theorem fnAt_lam {pins : List (Addr × Obj)} {σ : L2.St} {H : Hp} {s : Shared} {f : Addr} {F : NF} {e : Expr} (I : Inv X pins σ H s) (q : H f = some (LamO f F e)) : PySem.W.FnAt f s.heap := by
  obtain ⟨od, sl, pm, ctv, ho⟩ := lamO_at I.hok q
  exact ⟨_, od, _, sl, ho⟩
theorem pe_callH (Fn : ∀ f F e, FP f F e → ∃ (C : Clo) (ps : List Str) (spL : List (Option V) → Sp), C.cl = F.cl ∧ LOk X.prog X.w X.K X.mg X.base CX0 k f F e ps C.fr spL ∧ HeldC C X.outer X.s_0.heap X.H_0 ∧ ∀ vs H Q E, sp F vs H Q E → spL C.ws vs H Q E) (nx : X.ex = [])
    (hr : Room j X.A) (hk : k ≤ j) (hN : X.N[i]? = some x) (hv : Vis X.env.scope x) (ha : PA X (e :: es) t)
    (hd : (x == ("__debug__" : Str)) = false := by decide) (hcd : (x == ("__classdict__" : Str)) = false := by decide)
    (he : starEach (e :: es) X.env = (false, eval e X.env) :: starEach es X.env := by rfl) (hpl : (backTo pos (starEach es X.env)).any (·.1) = false := by rfl) :
    PE X (.Call (.Name x p) (e :: es) [] pos) (tCallH i FP sp t) := by
  refine ⟨fun pins s σ H Q I h => ?_⟩
  obtain ⟨f, F, e', hs, hFP, hf, ht⟩ := h
  obtain ⟨C, ps, spL, eC, L, hC, hS⟩ := Fn f F e' hFP
  have nm := (pe_var (pos := p) hN hv hd hcd).run pins s σ H (fun v H1 => v = .ref f ∧ H1 = H) I ⟨.ref f, hs, rfl, rfl⟩
  refine wpAny_Call_Name_kw (thn nm fun u s1 q1 => ?_)
  obtain ⟨v, H1, I1, r1, ev, eH⟩ := q1
  subst ev
  rw [eH] at I1
  obtain rfl : u = Value.ref f := r1
  refine PySem.W.callWith_F (first := []) (fnAt_lam I1 hf) (thn (ha.run pos pins s1 σ H _ I1 ht) fun us s2 q2 => ?_) he hpl
  obtain ⟨vs, H2, I2, r, h1, h2, q⟩ := q2
  refine ⟨fnAt_lam I2 h1, ?_⟩
  show wpAny _ _ (call (.ref f) us) _ _ _
  have hc2 := (held_later hC nx I2).at_
  rw [eC] at hc2
  refine wpAny_call (codeAny_mono (L.run X.A X.stack s2 H2 us vs C.ws Q E0 (hr.mono hk) I2.env0 h1 h2 hc2 r (hS _ _ _ _ q)) fun r s' hq => ?_)
  cases r with
  | error _ => exact (show False from hq).elim
  | ok fl =>
    cases fl with
    | ret u => exact I2.after hq
    | next => exact (show False from hq).elim
    | brk => exact (show False from hq).elim
    | cont => exact (show False from hq).elim
end
/-! ### a def that is handed lambdas -/
structure FnOkC (P : Program) (w : World) (K : PySem.W.Frag) (mg : Str → Option Value) (base : Heap) (CX : CXT) (k : Nat) (f : Addr) (fd : FuncData) (ps : List Str) (sp : List Clo → Sp) : Prop where
  len : ∀ Cs vs H Q E, sp Cs vs H Q E → vs.length = ps.length
  run : ∀ (Cs : List Clo) (A : Around) (outer : List Env) (s : Shared) (H : Hp) (args : Args) (us : List Value) (vs : List V) (Q : VK) (E : XK), Room k A → Env0 P w K mg base A outer s H → BindsTo s fd args (ps.zip us) → Vals vs us →
    (∀ C ∈ Cs, HeldC C outer s.heap H) → sp Cs vs H Q E → codeAny (model P w) A (.call (.ref f) args) (CR CX outer P w H s Q E) s
theorem FnOkC.mono {P : Program} {w : World} {K : PySem.W.Frag} {mg : Str → Option Value} {base : Heap} {CX : CXT} {k j : Nat} {f : Addr} {fd : FuncData} {ps : List Str} {sp : List Clo → Sp}
    (o : FnOkC P w K mg base CX j f fd ps sp) (h : j ≤ k) : FnOkC P w K mg base CX k f fd ps sp :=
  ⟨o.len, fun Cs A outer s H args us vs Q E hr => o.run Cs A outer s H args us vs Q E (hr.mono h)⟩
section
variable {P : Program} {w : World} {K : PySem.W.Frag} {mg : Str → Option Value} {base : Heap}
/-- THE RULE for such a def -/
theorem Fun.okC {x qual : Str} {st : Stmt} {f : Addr} {fd : FuncData} {N ps : List Str} {k : Nat} {sp : List Clo → Sp} (F : Fun K x qual st f fd) (S : FnScope N ps (defScope st)) (len : ∀ Cs vs H Q E, sp Cs vs H Q E → vs.length = ps.length)
    (hbody : ∀ (cdv : Value) (Cs : List Clo) (A : Around) (outer : List Env) (s : Shared) (H : Hp) (vs : List V) (Q : VK) (E : XK), Room k (A.deeper (envOfC qual (defScope st) s.heap.objs.size f cdv)) → (∀ C ∈ Cs, HeldC C outer s.heap H) → sp Cs vs H Q E →
      ∃ t, PSs (cxOf CX0 P w K mg base N qual (defScope st) f cdv A outer s H E).nox (defBody st) t ∧ t { nx := fun _ H' => Q .non H', rt := Q } (L2.start N vs) H) : FnOkC P w K mg base CX0 (k + 1) f fd ps sp := by
  obtain ⟨oc, od, kV, doc, pm, an, cdv, ct, osl, rfl, lk, hcd⟩ := F.ex
  refine ⟨len, fun Cs A outer s H args us vs Q E hr e0 hb r hC hsp => ?_⟩
  refine run_ofS lk hcd S hr e0 hb r (len _ _ _ _ _ hsp) fun hr2 => ?_
  obtain ⟨t, ht, hq⟩ := hbody cdv Cs A outer s H vs Q E hr2 hC hsp
  exact ⟨t, ht.nox, hq⟩
/-- a def whose code object is named -/
structure FunC (K : PySem.W.Frag) (x qual : Str) (st : Stmt) (f : Addr) (fd : FuncData) (c : Addr) : Prop where
  ex : ∃ (oc : Value) (od : Option Addr) (kV doc pm : Value) (an : Option Addr) (ct : Value) (osl : Array (Option Value)),
    fd = PySem.W.fnOf x qual (defArgs st) (defBody st) (defScope st) .none kV doc pm an (.ref c) ct ∧ K.lookup f = some ⟨oc, od, .func fd, osl⟩ ∧ PySem.W.codeIn K (.ref c) qual = true
  kp : PySem.W.keepIn K (.ref f) = true
theorem FunC.fun_ {x qual : Str} {st : Stmt} {f c : Addr} {fd : FuncData} (F : FunC K x qual st f fd c) : Fun K x qual st f fd := by
  obtain ⟨oc, od, kV, doc, pm, an, ct, osl, e, lk, hcd⟩ := F.ex
  exact ⟨⟨oc, od, kV, doc, pm, an, _, ct, osl, e, lk, hcd⟩, F.kp⟩
/-- THE RULE for a def that makes lambdas -/
theorem FunC.ok {x qual : Str} {st : Stmt} {f c : Addr} {fd : FuncData} {N ps : List Str} {k : Nat} {sp : Sp} (F : FunC K x qual st f fd c) (S : FnScope N ps (defScope st)) (len : ∀ vs H Q E, sp vs H Q E → vs.length = ps.length)
    (hbody : ∀ (A : Around) (outer : List Env) (s : Shared) (H : Hp) (vs : List V) (Q : VK) (E : XK), Room k (A.deeper (envOfC qual (defScope st) s.heap.objs.size f (.ref c))) → sp vs H Q E →
      ∃ t, PSs (cxOf CX0 P w K mg base N qual (defScope st) f (.ref c) A outer s H E).nox (defBody st) t ∧ t { nx := fun _ H' => Q .non H', rt := Q } (L2.start N vs) H) : FnOk P w K mg base CX0 (k + 1) f fd ps sp := by
  obtain ⟨oc, od, kV, doc, pm, an, ct, osl, rfl, lk, hcd⟩ := F.ex
  refine fn_of lk hcd S len fun A outer s H vs Q E hr hsp => ?_
  obtain ⟨t, ht, hq⟩ := hbody A outer s H vs Q E hr hsp
  exact ⟨t, ht.nox, hq⟩
end
def tCallC (Cs : L2.St → List Clo) (sp : List Clo → Sp) (t : TA) : TE := fun σ H Q => t σ H fun vs H1 => sp (Cs σ) vs H1 Q E0
section
variable {X : Cx} {k : Nat} {f : Addr} {fd : FuncData} {ps : List Str} {sp : List Clo → Sp} {x : Str} {p pos : Pos} {e : Expr} {es : List Expr} {t : TA} {Cs : L2.St → List Clo}
theorem pe_callC (F : FnOkC X.prog X.w X.K X.mg X.base CX0 k f fd ps sp) (hC : ∀ pins σ H s, Inv X pins σ H s → ∀ C ∈ Cs σ, HeldC C X.stack s.heap H) (hr : Room k X.A) (hg : Gl X x) (hm : X.mg x = some (.ref f)) (hk : PySem.W.keepIn X.K (.ref f) = true) (hb : Binds X.K fd ps [])
    (ha : PA X (e :: es) t) (hdb : (x == ("__debug__" : Str)) = false := by decide) (he : starEach (e :: es) X.env = (false, eval e X.env) :: starEach es X.env := by rfl) (hpl : (backTo pos (starEach es X.env)).any (·.1) = false := by rfl) :
    PE X (.Call (.Name x p) (e :: es) [] pos) (tCallC Cs sp t) := by
  refine ⟨fun pins s σ H Q I h => ?_⟩
  refine wpAny_Call_Name_kw (ld_glob I hg hm ?_ hdb)
  refine PySem.W.callWith_K (h₀ := X.base) I.ok.mod.kin hk (thn (ha.run pos pins s σ H _ I h) fun us s1 q1 => ?_) he hpl
  obtain ⟨vs, H1, I1, r, q⟩ := q1
  refine ⟨I1.kIn, ?_⟩
  have hl : us.length = ps.length := by
    rw [← r.length]
    exact F.len _ _ _ _ _ q
  have bnd := hb s1 us I1.kIn (by rw [List.append_nil]; exact hl)
  rw [List.append_nil] at bnd
  refine wpAny_call (codeAny_mono (F.run (Cs σ) X.A X.stack s1 H1 ⟨us, []⟩ us vs Q E0 hr I1.env0 bnd r (hC _ _ _ _ I1) q) fun r s' hq => ?_)
  cases r with
  | error _ => exact (show False from hq).elim
  | ok fl =>
    cases fl with
    | ret u => exact I1.after hq
    | next => exact (show False from hq).elim
    | brk => exact (show False from hq).elim
    | cont => exact (show False from hq).elim
end
/-! ### for the writer of terms -/
def eLamArgs : Expr → Arguments | .Lambda ps _ _ _ => ps | _ => { posonlyargs := [], args := [], vararg := none, kwonlyargs := [], kw_defaults := [], kwarg := none, defaults := [] }
def eLamBody : Expr → Expr | .Lambda _ b _ _ => b | _ => noE
def eLamScope : Expr → Scope | .Lambda _ _ sc _ => sc | _ => { kind := .function, names := [], isGenerator := false, isCoroutine := false }
def eKey (k : Nat) : Expr → Expr | .Dict ks _ _ => (ks.getD k none).getD noE | _ => noE
def eVl (k : Nat) : Expr → Expr | .Dict _ vs _ => vs.getD k noE | _ => noE
theorem held_nil {X : Cx} : ∀ (pins : List (Addr × Obj)) (σ : L2.St) (H : Hp) (s : Shared), Inv X pins σ H s → ∀ C ∈ ([] : List Clo), HeldC C X.stack s.heap H := fun _ _ _ _ _ C hC => nomatch hC
theorem held_cons {X : Cx} {scope : Scope} {js : List Nat} {fr : List Str} {Cs : L2.St → List Clo} (hfn : ∀ x, X.fn x = true) (hB : NdefX.ndefB X.env.scope scope fr = true) (hjs : js.map (fun j => X.N[j]?) = fr.map some)
    (rest : ∀ (pins : List (Addr × Obj)) (σ : L2.St) (H : Hp) (s : Shared), Inv X pins σ H s → ∀ C ∈ Cs σ, HeldC C X.stack s.heap H) :
    ∀ (pins : List (Addr × Obj)) (σ : L2.St) (H : Hp) (s : Shared), Inv X pins σ H s → ∀ C ∈ (⟨cloFrom X.env.cells scope.names [], fr, js.map (NdefX.slotAt σ)⟩ : Clo) :: Cs σ, HeldC C X.stack s.heap H := by
  intro pins σ H s I C hC
  rcases List.mem_cons.mp hC with rfl | hC
  · exact held_made (js := js) (NdefX.Caps.made I.ok (NdefX.ndef_free hB) (NdefX.ndef_fr hB) hjs) rfl hfn I
  · exact rest pins σ H s I C hC
theorem tabs_uniq {l : List (Addr × Str)} {P : Addr} {x : Str} (nd : (l.map (·.1)).Nodup) (hm : (P, x) ∈ l) : ∀ p ∈ l, p.1 = P → p.2 = x := by
  induction l with
  | nil => exact nomatch hm
  | cons y l ih =>
    obtain ⟨n1, n2⟩ := List.nodup_cons.mp (show (y.1 :: l.map (·.1)).Nodup from nd)
    intro p hp e
    rcases List.mem_cons.mp hm with h1 | h1
    · rcases List.mem_cons.mp hp with h2 | h2
      · rw [h2, ← h1]
      · have m2 : p.1 ∈ l.map (·.1) := List.mem_map_of_mem h2
        rw [e, show P = y.1 by rw [← h1]] at m2
        exact absurd m2 n1
    · rcases List.mem_cons.mp hp with h2 | h2
      · have m2 : P ∈ l.map (·.1) := List.mem_map_of_mem (f := (·.1)) h1
        rw [← e, h2] at m2
        exact absurd m2 n1
      · exact ih n2 h1 p h2 e
theorem tabs_nil {l : List (Addr × Str)} {H : Hp} (h : ∀ p ∈ l, H p.1 = some (.tbl #[])) : Tabs l H := fun p hp => TabS.nil (h p hp)
theorem fun_of_D {K : PySem.W.Frag} {x : Str} {st : Stmt} {f : Addr} {fd : FuncData} (F : FunD K x x (defArgs st) (defBody st) (defScope st) [] [] f fd) : Fun K x x st f fd := by
  obtain ⟨oc, od, dV, kV, doc, pm, an, cdv, ct, osl, rfl, lk, hcd, hD, _⟩ := F.ex
  rcases hD with ⟨_, rfl⟩ | ⟨e, _⟩
  · exact ⟨⟨oc, od, kV, doc, pm, an, cdv, ct, osl, rfl, lk, hcd⟩, F.kp⟩
  · exact absurd rfl e
theorem funC_of_D {K : PySem.W.Frag} {x : Str} {st : Stmt} {p : Str × Option Str} {fd : FuncData} (F : FunD K x x (defArgs st) (defBody st) (defScope st) [] [] (He.fAd K p) fd) : FunC K x x st (He.fAd K p) fd (He.cT K p).1 := by
  obtain ⟨oc, od, dV, kV, doc, pm, an, cdv, ct, osl, rfl, lk, hcd, hD, _⟩ := F.ex
  obtain ⟨c, rfl⟩ := He.codeIn_ref hcd
  have ec := He.codeOf_eq lk rfl
  rcases hD with ⟨_, rfl⟩ | ⟨e, _⟩
  · show FunC K x x st _ _ (He.codeOf K p)
    rw [ec]
    exact ⟨⟨oc, od, kV, doc, pm, an, ct, osl, rfl, lk, hcd⟩, F.kp⟩
  · exact absurd rfl e
/-! ### what stands where code tables grow -/
section
variable {K : PySem.W.Frag} {H H' : Hp}
theorem _root_.LamX.ExtN.keep {a : Addr} {o : HO} (e : ExtN H H') (h : H a = some o) (n : ∀ ps, o ≠ .tbl ps) : H' a = some o := e a o h n
theorem _root_.LamX.ExtN.sqL {a : Addr} {xs : List V} (e : ExtN H H') (h : SqL K H a xs) : SqL K H' a xs := by
  rcases h with (h | ⟨o, h⟩) | h
  · exact .inl (.inl (e _ _ h fun _ z => nomatch z))
  · exact .inl (.inr ⟨o, e _ _ h fun _ z => nomatch z⟩)
  · exact .inr h
theorem _root_.LamX.ExtN.sqT {a : Addr} {xs : List V} (e : ExtN H H') (h : SqT K H a xs) : SqT K H' a xs := by
  rcases h with (h | ⟨o, h⟩) | h
  · exact .inl (.inl (e _ _ h fun _ z => nomatch z))
  · exact .inl (.inr ⟨o, e _ _ h fun _ z => nomatch z⟩)
  · exact .inr h
theorem _root_.LamX.ExtN.tup {a : Addr} {xs : List V} (e : ExtN H H') (h : H a = some (.tup xs)) : H' a = some (.tup xs) := e _ _ h fun _ z => nomatch z
theorem _root_.LamX.ExtN.lst {a : Addr} {xs : List V} (e : ExtN H H') (h : H a = some (.lst xs)) : H' a = some (.lst xs) := e _ _ h fun _ z => nomatch z
theorem _root_.LamX.ExtN.dT {a : Addr} {kvs : List (List Key × V)} (e : ExtN H H') (h : H a = some (.dT kvs)) : H' a = some (.dT kvs) := e _ _ h fun _ z => nomatch z
theorem _root_.LamX.ExtN.same {H2 : Hp} (e : ExtN H H') (s : Same H' H2) : ExtN H H2 := e.trans (ExtN.of s)
theorem _root_.LamX.ExtN.sT (e : ExtN H H') : SameT H H' := fun b => ⟨fun _ h => e b _ h (fun _ z => nomatch z), fun _ _ h => e b _ h (fun _ z => nomatch z)⟩
theorem ExD.refl (H : Hp) : ExD H H := ⟨ExtN.refl H, fun _ h => h⟩
theorem ExD.trans {H2 : Hp} (e : ExD H H') (f : ExD H' H2) : ExD H H2 := ⟨e.n.trans f.n, fun b h => f.d b (e.d b h)⟩
theorem ExD.of (s : Same H H') : ExD H H' := ⟨ExtN.of s, fun b h z => by
  cases e : H b with
  | none => exact h e
  | some o => rw [s _ _ e] at z; exact nomatch z⟩
theorem ExD.same {H2 : Hp} (e : ExD H H') (s : Same H' H2) : ExD H H2 := e.trans (ExD.of s)
theorem ExD.mut {p : Addr} {o : HO} (e : ExD H H') (h : H p = none) : ExD H (L2.upd H' p o) := ⟨fun b u hb n => by
  rw [upd_ne (ne_of_none hb h)]
  exact e.n b u hb n, Dom.upd e.d⟩
theorem ExD.free {p : Addr} (e : ExD H H') (h : H' p = none) : H p = none := Classical.byContradiction fun z => e.d p z h
theorem ExD.tup {a : Addr} {xs : List V} (e : ExD H H') (h : H a = some (.tup xs)) : H' a = some (.tup xs) := e.n.tup h
theorem ExD.lst {a : Addr} {xs : List V} (e : ExD H H') (h : H a = some (.lst xs)) : H' a = some (.lst xs) := e.n.lst h
theorem ExD.dT {a : Addr} {kvs : List (List Key × V)} (e : ExD H H') (h : H a = some (.dT kvs)) : H' a = some (.dT kvs) := e.n.dT h
theorem ExD.keep {a : Addr} {o : HO} (e : ExD H H') (h : H a = some o) (n : ∀ ps, o ≠ .tbl ps) : H' a = some o := e.n a o h n
theorem ExD.frz {a : Addr} {o : Obj} {u : HO} (e : ExD H H') (h : H a = some (.frz o u)) : H' a = some (.frz o u) := e.n _ _ h fun _ z => nomatch z
theorem ExD.sqL {a : Addr} {xs : List V} (e : ExD H H') (h : SqL K H a xs) : SqL K H' a xs := e.n.sqL h
theorem ExD.sqT {a : Addr} {xs : List V} (e : ExD H H') (h : SqT K H a xs) : SqT K H' a xs := e.n.sqT h
theorem ExD.sT (e : ExD H H') : SameT H H' := e.n.sT
theorem _root_.LamX.Tabs.same {l : List (Addr × Str)} (t : Tabs l H) (s : Same H H') : Tabs l H' := t.ext s
end
section
variable {σ : L2.St} {H : Hp} {Q : VK}
theorem r_callC {Cs : L2.St → List Clo} {sp : List Clo → Sp} {t : TA} (h : t σ H fun vs H1 => sp (Cs σ) vs H1 Q E0) : tCallC Cs sp t σ H Q := h
theorem r_lamH {T : List (Addr × Str)} {mk : Addr → NF} {e : Expr} (hT : Tabs T H) (h : ∀ (f c' : Addr) (H1 : Hp), ExtN H H1 → Tabs T H1 → H f = none → H1 f = some (LamO f (mk c') e) → H1 (mk c').c = some (CodeO (mk c').c (mk c').qual) → Q (.ref f) H1) : tLamH T mk e σ H Q := ⟨hT, h⟩
theorem r_lamD {T : List (Addr × Str)} {mk : Addr → NF} {e : Expr} (hT : Tabs T H) (h : ∀ (f c' : Addr) (H1 : Hp), ExD H H1 → Tabs T H1 → H f = none → H1 f = some (LamO f (mk c') e) → H1 (mk c').c = some (CodeO (mk c').c (mk c').qual) → Q (.ref f) H1) : tLamD T mk e σ H Q := ⟨hT, h⟩
end
end G
set_option Elab.async false
set_option linter.all false
set_option maxRecDepth 100000
set_option maxHeartbeats 4000000
namespace G
open PySem PySem.Spec PyProof.Rows L2
/-! ### own errors -/
abbrev veB : List Value := [.type "ValueError", .type "Exception", .type "BaseException", .type "object"]
/-- what is known of an own error class, under ValueError or another own one -/
structure OwnE (K : PySem.W.Frag) (mg : Str → Option Value) (x : Str) (C : Addr) : Prop where
  g : mg x = some (.ref C)
  x : PySem.W.excIn K C veB "ValueError.__new__" = true
  k : PySem.W.keepIn K (.ref C) = true
  s : PySem.W.subIn K (.ref C) (.type "BaseException") = some true
  t : PySem.W.typeIn K (.ref C) = some (.type "type")
  e : ExcC K C
def excCB (K : PySem.W.Frag) (D : Addr) : Bool :=
  decide (PySem.W.findIn K (.ref D) "__getattribute__" = some (some (.builtin "BaseException.__getattribute__"))) && (decide (PySem.W.findIn K (.ref D) "__getattr__" = some none) && (decide (PySem.W.subIn K (.ref D) (.type "BaseException") = some true) && (PySem.W.hasDictIn K D &&
  (decide (PySem.W.findIn K (.ref D) "__class__" = some (some (.builtin "object.__class__"))) && (decide (PySem.W.specialIn K (.builtin "object.__class__") "__get__" = some (some (.builtin "getset_descriptor.__get__"))) && (decide (PySem.W.takesIn K (.builtin "object.__class__") = some true) && decide (PySem.W.mroIn K D (.type "object") = some true)))))))
theorem excCB_ok {K : PySem.W.Frag} {D : Addr} (h : excCB K D = true) : ExcC K D := by
  unfold excCB at h
  simp only [Bool.and_eq_true, decide_eq_true_eq] at h
  obtain ⟨a1, a2, a3, a4, a5, a6, a7, a8⟩ := h
  exact ⟨a1, a2, a3, a4, a5, a6, a7, a8⟩
/-- raise C(e) -/
def tRaise1 (C : Addr) (W : WX) (ta : TE) : TS := fun _ σ H => ta σ H fun _ H1 => W (.ref C) none σ H1
section
variable {X : Cx}
theorem ps_raise1 {K : PySem.W.Frag} {mg : Str → Option Value} {C : Addr} {x : Str} {e : Expr} {ta : TE} {W : WX} {p pos pos2 : Pos} (O : OwnE K mg x C) (hK : X.K = K) (hmg : X.mg = mg) (hc : X.calm = true) (tk : Takes X W) (hg : Gl X x) (he : PE X e ta)
    (hs : starEach [e] X.env = (false, eval e X.env) :: starEach [] X.env := by rfl) (hdb : (x == ("__debug__" : Str)) = false := by decide) :
    PS X (.Raise (some (.Call (.Name x p) [e] [] pos)) none pos2) (tRaise1 C W ta) := by
  subst hK hmg
  exact ps_raise hc tk (SkE.pmk_own1 PySem.F.excBase_ValueError O.x O.g O.k (raises_own O.s O.t) hg he hs hdb)
theorem r_raise1 {C : Addr} {W : WX} {ta : TE} {D : Ends} {σ : L2.St} {H : Hp} (h : ta σ H fun _ H1 => W (.ref C) none σ H1) : tRaise1 C W ta D σ H := h
theorem r_callS {sp : Sp} {E : L2.St → XK} {t : TA} {σ : L2.St} {H : Hp} {Q : VK} (h : t σ H fun vs H1 => sp vs H1 Q (E σ)) : tCallS sp E t σ H Q := h
/-- isinstance(e, c), e the error that the suite holds -/
def rIsEx (K : PySem.W.Frag) (a : Addr) (cls : Value) (d : Option Addr) : List V → Hp → VK → Prop := fun xs H Q => ∃ D, cls = .ref D ∧ d = none ∧ ExcC K D ∧ rIsE K D a xs H Q
theorem call_isEx {a : Addr} {oe : Obj} {cls : Value} {d : Option Addr} {pn : List (Addr × Obj)} (hz : Zc cls d oe) (hf : ∃ vs, oe.data = .fields vs) : CallR (X.suite a ((a, oe) :: pn)) (.builtin "isinstance") (rIsEx X.K a cls d) := by
  intro pins s σ H xs us Q I r h
  obtain ⟨D, rfl, rfl, hE, q⟩ := h
  exact call_isE hE hz hf pins s σ H xs us Q I r q
theorem r_isEx {K : PySem.W.Frag} {a D : Addr} {c : V} {cv : Value} {b : Bool} {H : Hp} {Q : VK} (hE : ExcC K D) (hc : ∀ u, RelV c u → u = cv) (k : PySem.W.kitOne K (.ref D) cv = some b) (q : Q (.bl b) H) : rIsEx K a (.ref D) none [.ref a, c] H Q :=
  ⟨D, rfl, rfl, hE, c, cv, b, rfl, hc, k, q⟩
/-- try: .. except C as n: .. -/
def tTryAs (K : PySem.W.Frag) (c : Value) (i : Nat) (tb : WX → TS) (ts : Addr → Value → Option Addr → TS) (Wout : WX) : TS := fun D σ H => tb (wAs K c i ts Wout D) D σ H
theorem r_tryAs {K : PySem.W.Frag} {c : Value} {i : Nat} {tb : WX → TS} {ts : Addr → Value → Option Addr → TS} {Wout : WX} {D : Ends} {σ : L2.St} {H : Hp} (h : tb (wAs K c i ts Wout D) D σ H) : tTryAs K c i tb ts Wout D σ H := h
theorem ps_tryAs {x n : Str} {c : Value} {i : Nat} {body suite : List Stmt} {b₀ : Stmt} {np pos pos' : Pos} {tb : WX → TS} {ts : Addr → Value → Option Addr → TS} {Wout : WX} (hs : X.stack = X.env :: X.outer) (hf : X.env.frame = some X.env.locals) (hN : X.N.Nodup) (hi : X.N[i]? = some n) (hln : X.env.kindOf n = some .local) (hc : Names X x c) (tk : Takes X Wout)
    (hb : ∀ (W : WX) (pn : List (Addr × Obj)) (xe : Value → Shared → Prop), Takes (X.tr pn xe) W → PassesOwn (model X.prog X.w) X.A X.env xe → PSs (X.tr pn xe) body (tb W))
    (hsu : ∀ (a : Addr) (oe : Obj) (cls : Value) (d : Option Addr) (pn : List (Addr × Obj)), Zc cls d oe → (∃ vs, oe.data = .fields vs) → PSs (X.suite a ((a, oe) :: pn)) (b₀ :: suite) (ts a cls d)) :
    PS X (.Try body [.ExceptHandler (some (.Name x np)) (some n) (b₀ :: suite) pos'] [] [] pos) (tTryAs X.K c i tb ts Wout) := ps_try_as hs hf hN hi hln hc tk hb hsu
end
/-! ### f-strings whose text nobody asks for -/
section
variable {σ : L2.St} {H : Hp}
def Part (σ : L2.St) (H : Hp) (t : TE) : Prop := ∀ Q : VK, (∀ y : Str, y.length ≤ 2000 → Q (.str y) H) → t σ H Q
theorem part_c {z : Str} (h : z.length ≤ 2000) : Part σ H (tC (.str z)) := fun _ q => r_c (q z h)
theorem part_i {te : TE} {i : Int} (hi : i.natAbs.log2 < 1920) (h : ∀ Q : VK, Q (.int i) H → te σ H Q) : Part σ H (tFmt te) := fun Q q =>
  h (fun x H1 => (∃ y, x = .str y ∧ y.length ≤ sizeLine ∧ Q (.str y) H1) ∨ ∃ i, x = .int i ∧ i.natAbs.log2 < 1920 ∧ Q (.str (Str.ofString (toString i))) H1)
    (.inr ⟨i, rfl, hi, q _ (Nat.le_trans (PyProof.Rows.int_text_len_1921 hi) (by decide))⟩)
theorem js_ok {R : Str → Hp → Prop} : ∀ (ts : List TE) (acc : Str), (∀ t ∈ ts, Part σ H t) → acc.length + 2000 * ts.length ≤ 100000 → (∀ out, R out H) → tJs ts acc σ H R
  | [], acc, _, _, r => r acc
  | t :: ts, acc, hp, hl, r => by
    refine hp t List.mem_cons_self _ fun y hy => ?_
    have e : (acc ++ y).length = acc.length + y.length := by
      show (acc.cps ++ y.cps).size = acc.cps.size + y.cps.size
      exact Array.size_append
    rw [List.length_cons] at hl
    have zl : (sizeLine : Nat) = 16777216 := by decide
    exact ⟨y, rfl, by rw [e]; omega, js_ok ts _ (fun t ht => hp t (List.mem_cons_of_mem _ ht)) (by rw [e]; omega) r⟩
end
theorem log_lt {i : Int} (h : i.natAbs < 1000000) : i.natAbs.log2 < 1920 := by
  rcases Nat.eq_zero_or_pos i.natAbs with e | e
  · rw [e]; decide
  · have e2 : i.natAbs.log2 < 20 := (Nat.log2_lt (by omega)).mpr (Nat.lt_of_lt_of_le h (by decide))
    omega
/-! ### enumerate of a list -/
theorem for_enL {K : PySem.W.Frag} {a : Addr} {xs : List V} {g : TG} {tb : TS} {D : Ends} {σ : L2.St} {H : Hp} (Pv : Nat → L2.St → Hp → Prop) (h0 : Pv 0 σ H) (hl : ∀ i σ H, i ≤ xs.length → Pv i σ H → SqL K H a xs)
    (hs : ∀ i x σ H T, xs[i]? = some x → Pv i σ H → H T = none → g (.ref T) σ (upd H T (.tup [.int (i : Nat), x])) fun σ2 H2 => tb { D with nx := Pv (i + 1), ct := Pv (i + 1), bk := D.nx } σ2 H2) (hd : ∀ σ H, Pv xs.length σ H → D.nx σ H) :
    ∃ W : Nat → Nat → L2.St → Hp → Prop, (∃ m, W 0 m σ H) ∧ ∀ i m σ H, W i m σ H → ((Ite K a).stop i H ∧ D.nx σ H) ∨
      ((Ite K a).go i H ∧ ∃ N : L2.St → Hp → Prop, (∀ σ' H', N σ' H' → ∃ m', m' < m ∧ W (i + 1) m' σ' H') ∧ ∀ x H', (Ite K a).yld i H x H' → g x σ H' fun σ2 H2 => tb { D with nx := N, ct := N, bk := D.nx } σ2 H2) := by
  refine ⟨fun i m σ H => m + i = xs.length ∧ Pv i σ H, ⟨xs.length, rfl, h0⟩, ?_⟩
  rintro i m σ H ⟨hm, p⟩
  have q := hl i σ H (by omega) p
  by_cases hlt : i < xs.length
  · refine .inr ⟨⟨xs, xs[i], q, List.getElem?_eq_getElem hlt⟩, Pv (i + 1), fun σ' H' p' => ⟨m - 1, by omega, by omega, p'⟩, ?_⟩
    rintro v H' ⟨T, x, rfl, hT, rfl, hx⟩
    exact hs i x σ H T (hx xs q) p hT
  · have e : i = xs.length := by omega
    subst e
    exact .inl ⟨⟨xs, q, Nat.le_refl _⟩, hd σ H p⟩
theorem pi_enumK {X : Cx} {K : PySem.W.Frag} {e : Expr} {ta : TA} {p pos tpos : Pos} {elts : List Expr} {kk : Nat} (hK : X.K = K) (hg : Gl X "enumerate") (hm : X.mg "enumerate" = none) (ha : PA X [e] ta) (hs : starEach [e] X.env = [(false, eval e X.env)] := by rfl) :
    PI X (.Tuple elts kk tpos) (.Call (.Name "enumerate" p) [e] [] pos) (iEnum K ta) := hK ▸ pi_enum hg hm ha hs
theorem r_iEnum {K : PySem.W.Frag} {ta : TA} {σ : L2.St} {H : Hp} {R : It → Hp → Prop} (h : ta σ H fun vs H1 => ∃ a xs, vs = [.ref a] ∧ SqL K H1 a xs ∧ R (Ite K a) H1) : iEnum K ta σ H R := h
/-! ### lists of lists of ints -/
def refsI (ps : List (Addr × List Int)) : List V := ps.map fun p => V.ref p.1
theorem refsI_len (ps : List (Addr × List Int)) : (refsI ps).length = ps.length := List.length_map _
theorem refsI_at {ps : List (Addr × List Int)} {i : Nat} {x : V} (h : (refsI ps)[i]? = some x) : ∃ p, ps[i]? = some p ∧ V.ref p.1 = x := by
  unfold refsI at h
  rw [List.getElem?_map] at h
  exact Option.map_eq_some_iff.mp h
theorem at_refsI {ps : List (Addr × List Int)} {z : Int} {i : Nat} {p : Addr × List Int} (e : z = (i : Int)) (h : ps[i]? = some p) : atI (refsI ps) z = some (.ref p.1) := by
  refine at_of e ?_
  unfold refsI
  rw [List.getElem?_map, h]
  rfl
theorem ints_at {xs : List Int} {i : Nat} {x : V} (h : (xs.map V.int)[i]? = some x) : ∃ z, xs[i]? = some z ∧ V.int z = x := by
  rw [List.getElem?_map] at h
  exact Option.map_eq_some_iff.mp h
/-! ### the world named -/
theorem cr_setLw {X : Cx} {K : PySem.W.Frag} {w : World} (hK : X.K = K) (hw : X.w = w) (hc : X.calm = true) : CallR X (.type "set") (_root_.G.rSetL K w) := hw ▸ cr_setL hK hc
theorem cr_sortedSetW {X : Cx} {w : World} (hw : X.w = w) (hc : X.calm = true) : CallR X (.builtin "sorted") (rSortedSet w) := hw ▸ cr_sortedSet hc
end G
set_option Elab.async false
set_option linter.all false
set_option maxRecDepth 100000
set_option maxHeartbeats 4000000
namespace G
open PySem PySem.Spec PyProof.Rows L2
/-! enumerate of a tuple -/
theorem en_new (l : Addr) (items : Array Value) (n : Nat) (dct : Option Addr) (sl : Array (Option Value)) :
    Meets (Builtin.«enumerate.__new__» ⟨[.type "enumerate", .ref l], []⟩) (fun _ R s =>
      s.heap.get? l = some { cls := .type "tuple", dict := dct, data := .seq items n, slots := sl } ∧
      R (.ok (.ret (.ref (s.heap.push { cls := .type "tuple_iterator", data := .fields #[.ref l, .int 0 0] }).objs.size)))
        { s with heap := (s.heap.push { cls := .type "tuple_iterator", data := .fields #[.ref l, .int 0 0] }).push { cls := .type "enumerate", data := .fields #[.none, .bool false, .ref s.heap.objs.size, rawInt 0, .none, .none] } }) :=
  .of_wp fun prog w A R s h => by
    obtain ⟨hp, g, d, tk, os⟩ := s
    obtain ⟨hl, h⟩ := h
    have hsub := sub_enumerate
    have hT : Heap.IsTuple (Shared.heap ⟨hp, g, d, tk, os⟩) l items := ⟨_, hl, rfl, n, rfl⟩
    (wp_walk using AutoSeq1.wpAny_loadPart' hl); refine wpAny_stack_any fun st => wpAny_pure ?_; split
    · rename_i c _ _ _ _ _
      cases (c == Value.type "enumerate") <;> (wp_walk using AutoSeq1.wpAny_loadPart' hl, wpAny_pyIter_tuple hT) <;> exact ⟨_, rfl, h⟩
    · (wp_walk using AutoSeq1.wpAny_loadPart' hl, wpAny_pyIter_tuple hT); exact ⟨_, rfl, h⟩
section
variable {prog : Program} {w : World} {A : Around} {E : Value → Shared → Prop} {s : Shared}
theorem call_en {l : Addr} {items : Array Value} {Q : Value → Shared → Prop} (hL : s.heap.IsTuple l items)
    (h : ∀ h', IsEnum h' (s.heap.objs.size + 1) s.heap.objs.size 0 .none → h'.IsTupleIter s.heap.objs.size l 0 →
      h'.objs.size = s.heap.objs.size + 2 → (∀ b o, s.heap.get? b = some o → h'.get? b = some o) →
      Q (.ref (s.heap.objs.size + 1)) { s with heap := h' }) : wpAny (model prog w) A (call (.type "enumerate") [.ref l]) Q E s := by
  obtain ⟨⟨c, dct, dt, sl⟩, hl, hc, n, hd⟩ := hL
  obtain rfl : c = .type "tuple" := hc
  obtain rfl : dt = .seq items n := hd
  have hz : (s.heap.push { cls := .type "tuple_iterator", data := .fields #[.ref l, .int 0 0] }).objs.size = s.heap.objs.size + 1 := Heap.size_push ..
  have he := Heap.get?_push_size (s.heap.push { cls := .type "tuple_iterator", data := .fields #[.ref l, .int 0 0] })
    (o := { cls := .type "enumerate", data := .fields #[.none, .bool false, .ref s.heap.objs.size, rawInt 0, .none, .none] }) rfl
  rw [hz] at he
  refine callType_new F.called_enumerate (by decide) (F.typeCall_enumerate_1 _) (F.newCall_enumerate_1 _)
    (fun obj => F.args_object_init_2 obj _) F.entry_enumerate_new (en_new l items n dct sl) ⟨hl, ?_⟩
  show _ ∧ _
  rw [hz]
  refine ⟨⟨_, he, rfl⟩, h _ he ⟨{ cls := .type "tuple_iterator", data := .fields #[.ref l, .int 0 0] }, Heap.get?_push_of_some _ (Heap.get?_push_size _ rfl), rfl, rfl⟩ ?_ ?_⟩
  · rw [Heap.size_push, hz]
  · exact fun b o x => Heap.get?_push_of_some _ (Heap.get?_push_of_some _ x)
end
/-- the tuple at a: each item in a new pair -/
def ItT (K : PySem.W.Frag) (a : Addr) : It where
  go i H := ∃ (xs : List V) (x : V), SqT K H a xs ∧ xs[i]? = some x
  yld i H v H' := ∃ T x, v = .ref T ∧ H T = none ∧ H' = upd H T (.tup [.int (i : Nat), x]) ∧ ∀ xs, SqT K H a xs → xs[i]? = some x
  stop i H := ∃ xs : List V, SqT K H a xs ∧ xs.length = i
theorem turn_T {P : Program} {w : World} {K : PySem.W.Frag} {elts : List Expr} {kk : Nat} {tpos : Pos} (a e it : Addr) :
    Turn P w K (.Tuple elts kk tpos) (ItT K a) [e, it] e (fun i h => (∃ old, IsEnum h e it ((i : Nat) : Int) old) ∧ h.IsTupleIter it a i ∧ e ≠ it) where
  mem := List.mem_cons_self
  obj := by
    rintro i h ⟨⟨old, he⟩, ⟨o, ho, hc, hd⟩, _⟩ b hb
    rcases List.mem_cons.mp hb with rfl | hb
    · exact ⟨_, he, fun v q => nomatch q⟩
    · rw [List.mem_singleton.mp hb]
      exact ⟨o, ho, fun v q => by rw [hd] at q; cases q⟩
  keep := by
    rintro i h h' ⟨⟨old, he⟩, hi, hne⟩ k
    exact ⟨⟨old, k e List.mem_cons_self _ he⟩, hi.at fun o q => k it (List.mem_cons_of_mem _ List.mem_cons_self) o q, hne⟩
  item := by
    rintro X rfl rfl rfl hc i pins s σ H E I hf ⟨⟨old, he⟩, hit, hne⟩ ⟨xs, x, hq, hx⟩
    obtain ⟨its, rv, p, hz⟩ := I.tuple hq
    obtain ⟨u, hu, ru⟩ := rv.get hx
    have hel : e < s.heap.objs.size := Heap.lt_size he
    have hil : it < s.heap.objs.size := by obtain ⟨_, q, _⟩ := hit; exact Heap.lt_size q
    have hae : a ≠ it := fun z => by
      obtain ⟨oi, hoi, hci, _⟩ := hit
      obtain ⟨oa, hoa, hca, _⟩ := p
      rw [z, hoi] at hoa
      cases hoa
      rw [hci] at hca
      injection hca with hca
      exact absurd hca (by decide)
    have hae2 : e ∉ [it, a] := fun z => by
      rcases List.mem_cons.mp z with z | z
      · exact hne z
      · have z := List.mem_singleton.mp z
        obtain ⟨oa, hoa, hca, _⟩ := p
        rw [← z, he] at hoa
        cases hoa
        injection hca with hca
        exact absurd hca (by decide)
    have hh : X.A.in1.handled = none := I.ok.hd hc
    have hi : i < its.toArray.size := by
      have := (List.getElem?_eq_some_iff.mp hu).1
      simpa using this
    refine wpAny_pyNext_enum_itemD (Draws.tuple hh it a hae its.toArray) he ⟨hit, show s.heap.IsTuple a its.toArray from p⟩ hi hne hae2 ?_
    intro x2 h' tk hx2 ho hst hT hsz hk
    have ex : x2 = u := by
      have h3 : its[i]? = some x2 := by simpa using hx2
      rw [hu] at h3
      exact (Option.some.inj h3).symm
    subst ex
    refine ⟨_, rfl, wpAny_letOwnedTupleGo_enum (s := { s with heap := h', toks := tk + 1 }) ho fun h'' he' sb => ?_⟩
    have hT2 : h''.get? s.heap.objs.size = some { cls := .type "tuple", data := .seq #[.int i tk, x2] } := (sb.2 _ (Nat.ne_of_gt hel)).trans hT
    have new : ObjOk X.prog X.w (upd H s.heap.objs.size (.tup [.int (i : Nat), x])) h'' s.heap.objs.size (.tup [.int (i : Nat), x]) := by
      refine ⟨by show 2 ≤ sizeLine; decide, [.int i tk, x2], .cons ⟨_, rfl⟩ (.cons ru .nil), ⟨_, hT2, rfl, _, rfl⟩⟩
    have stays : ∀ b ob, b ∉ [e, it] → s.heap.get? b = some ob → h''.get? b = some ob := fun b ob hb q => by
      have h1 : b ≠ e := fun z => hb (by rw [z]; exact List.mem_cons_self)
      have h2 : b ≠ it := fun z => hb (by rw [z]; exact List.mem_cons_of_mem _ List.mem_cons_self)
      exact (sb.2 b h1).trans (hk b ob h1 h2 q)
    have I1 := I.turnedNew (t' := tk + 1) (ch := [e, it]) stays hf (Nat.le_refl _) new
    have e1 : ((i + 1 : Nat) : Int) = (i : Int) + 1 := Int.natCast_succ i
    refine ⟨.ref s.heap.objs.size, _, I1, rfl, ⟨_, x, rfl, I.hok.fresh (Nat.le_refl _), rfl, fun ys hy => ?_⟩, ⟨⟨x2, ?_⟩, ?_, hne⟩, fun b hb => ?_⟩
    · rw [I.tuple_inj hy hq]
      exact hx
    · rw [e1]
      exact he'
    · exact hst.1.at fun o q => (sb.2 it (Ne.symm hne)).trans q
    · have hb' : b < s.heap.objs.size := by
        rcases List.mem_cons.mp hb with z | z
        · rw [z]; exact hel
        · rw [List.mem_singleton.mp z]; exact hil
      rw [upd_ne (Nat.ne_of_lt hb')]
      exact (hf b hb).1
  done := by
    rintro X rfl rfl rfl hc i pins s σ H E I hf ⟨⟨old, he⟩, hit, hne⟩ ⟨xs, hq, hx⟩
    obtain ⟨its, rv, p, hz⟩ := I.tuple hq
    obtain ⟨f0, f1, f2, f3, f4, f5⟩ := hf it (List.mem_cons_of_mem _ List.mem_cons_self)
    have hl := rv.length
    have hh : X.A.in1.handled = none := I.ok.hd hc
    have hae : a ≠ it := fun z => by
      obtain ⟨oi, hoi, hci, _⟩ := hit
      obtain ⟨oa, hoa, hca, _⟩ := p
      rw [z, hoi] at hoa
      cases hoa
      rw [hci] at hca
      injection hca with hca
      exact absurd hca (by decide)
    have ei : i = its.toArray.size := by rw [List.size_toArray, ← hl, hx]
    rw [ei] at hit
    exact wpAny_pyNext_enum_endD (Draws.tuple hh it a hae its.toArray) he ⟨hit, show s.heap.IsTuple a its.toArray from p⟩ fun h' eb =>
      ⟨rfl, I.turned (t' := s.toks) (fun b o hb q => eb b o hb q) f0 f1 f3 f4 f5⟩
  self := fun A i s Q E st h => by
    obtain ⟨⟨_, he⟩, _⟩ := st
    exact wpAny_pyIter_enum he h
def iEnumT (K : PySem.W.Frag) (ta : TA) : TI := fun σ H R => ta σ H fun vs H1 => ∃ a xs, vs = [.ref a] ∧ SqT K H1 a xs ∧ R (ItT K a) H1
theorem pi_enumT {X : Cx} {K : PySem.W.Frag} {e : Expr} {ta : TA} {p pos tpos : Pos} {elts : List Expr} {kk : Nat} (hK : X.K = K) (hg : Gl X "enumerate") (hm : X.mg "enumerate" = none) (ha : PA X [e] ta)
    (hs : starEach [e] X.env = [(false, eval e X.env)] := by rfl) : PI X (.Tuple elts kk tpos) (.Call (.Name "enumerate" p) [e] [] pos) (iEnumT K ta) := by
  subst hK
  constructor
  intro pins s σ H R I h
  refine Call_ (ld_blt I hg hm boot_enumerate (callWith_type1 (thn (ha.run pos pins s σ H _ I h) ?_) hs rfl))
  rintro us s1 ⟨vs, H1, I1, r1, a, xs, rfl, hq, q⟩
  obtain ⟨u, rfl, ru⟩ := vals1 r1
  cases ru
  obtain ⟨its, rv, p', hz⟩ := I1.tuple hq
  refine call_en (show s1.heap.IsTuple a its.toArray from p') fun h' he hit hsz hk => wpAny_pyIter_enum he ?_
  have I2 : Inv X pins σ H1 { s1 with heap := h' } := I1.kept (t' := s1.toks) hk
  refine ⟨_, [s1.heap.objs.size + 1, s1.heap.objs.size], _, _, H1, rfl, I2, turn_T a (s1.heap.objs.size + 1) s1.heap.objs.size, ⟨⟨.none, he⟩, hit, Nat.succ_ne_self _⟩, fun b hb => ?_, q⟩
  have hle : s1.heap.objs.size ≤ b := by
    rcases List.mem_cons.mp hb with z | z
    · rw [z]; exact Nat.le_add_right _ _
    · rw [List.mem_singleton.mp z]; exact Nat.le_refl _
  exact I1.fpOk hle (I1.hok.fresh hle)
/-- the loop over such pairs, i and x given to two names -/
theorem for_enT {K : PySem.W.Frag} {a : Addr} {xs : List V} {g : TG} {tb : TS} {D : Ends} {σ : L2.St} {H : Hp} (Pv : Nat → L2.St → Hp → Prop) (h0 : Pv 0 σ H) (hl : ∀ i σ H, i ≤ xs.length → Pv i σ H → SqT K H a xs)
    (hs : ∀ i x σ H T, xs[i]? = some x → Pv i σ H → H T = none → g (.ref T) σ (upd H T (.tup [.int (i : Nat), x])) fun σ2 H2 => tb { D with nx := Pv (i + 1), ct := Pv (i + 1), bk := D.nx } σ2 H2) (hd : ∀ σ H, Pv xs.length σ H → D.nx σ H) :
    ∃ W : Nat → Nat → L2.St → Hp → Prop, (∃ m, W 0 m σ H) ∧ ∀ i m σ H, W i m σ H → ((ItT K a).stop i H ∧ D.nx σ H) ∨
      ((ItT K a).go i H ∧ ∃ N : L2.St → Hp → Prop, (∀ σ' H', N σ' H' → ∃ m', m' < m ∧ W (i + 1) m' σ' H') ∧ ∀ x H', (ItT K a).yld i H x H' → g x σ H' fun σ2 H2 => tb { D with nx := N, ct := N, bk := D.nx } σ2 H2) := by
  refine ⟨fun i m σ H => m + i = xs.length ∧ Pv i σ H, ⟨xs.length, rfl, h0⟩, ?_⟩
  rintro i m σ H ⟨hm, p⟩
  have q := hl i σ H (by omega) p
  by_cases hlt : i < xs.length
  · refine .inr ⟨⟨xs, xs[i], q, List.getElem?_eq_getElem hlt⟩, Pv (i + 1), fun σ' H' p' => ⟨m - 1, by omega, by omega, p'⟩, ?_⟩
    rintro v H' ⟨T, x, rfl, hT, rfl, hx⟩
    exact hs i x σ H T (hx xs q) p hT
  · have e : i = xs.length := by omega
    subst e
    exact .inl ⟨⟨xs, q, rfl⟩, hd σ H p⟩
end G
set_option Elab.async false
set_option linter.all false
set_option maxRecDepth 100000
set_option maxHeartbeats 4000000
namespace G
open PySem PySem.Spec PyProof.Rows L2
section
variable {X : Cx} {H : Hp} {Q : VK}
def rLcm : List V → Hp → VK → Prop := fun xs H Q => ∃ a b : Nat, xs = [.int (a : Int), .int (b : Int)] ∧ a < 2 ^ 64 ∧ b < 2 ^ 64 ∧ Q (.int ((Nat.lcm a b : Nat) : Int)) H
theorem call_lcm : CallR X (.builtin "math.lcm") rLcm := by
  intro pins s σ H vs us Q I r h
  obtain ⟨a, b, rfl, ha, hb, q⟩ := h
  obtain ⟨t, u, rfl⟩ := Vals.int2 r
  exact PySem.W.mc_lcm (by rw [Int.natAbs_natCast]; exact ha) (by rw [Int.natAbs_natCast]; exact hb) fun _ => ⟨.int _, H, I.tok _, ⟨_, rfl⟩, q⟩
end
/-! ### permutations -/
structure Perm (n : Nat) (p : List Nat) : Prop where
  len : p.length = n
  lt : ∀ x ∈ p, x < n
  nd : p.Nodup
def at0 (p : List Nat) (i : Nat) : Nat := p.getD i 0
def thenN (p q : List Nat) : List Nat := p.map (at0 q)
def idN (n : Nat) : List Nat := List.range n
def itr (p : List Nat) : Nat → Nat → Nat
  | 0, i => i
  | k + 1, i => at0 p (itr p k i)
def pw (p : List Nat) : Nat → List Nat
  | 0 => idN p.length
  | k + 1 => thenN (pw p k) p
theorem at0_some {p : List Nat} {i : Nat} (h : i < p.length) : p[i]? = some (at0 p i) := by
  unfold at0
  rw [List.getD_eq_getElem?_getD, List.getElem?_eq_getElem h]; rfl
theorem Perm.at_lt {n i : Nat} {p : List Nat} (h : Perm n p) (hi : i < n) : at0 p i < n := h.lt _ (List.mem_of_getElem? (at0_some (by rw [h.len]; exact hi)))
theorem Perm.inj {n i j : Nat} {p : List Nat} (h : Perm n p) (hi : i < n) (hj : j < n) (e : at0 p i = at0 p j) : i = j := by
  have h1 := at0_some (p := p) (i := i) (by rw [h.len]; exact hi)
  have h2 := at0_some (p := p) (i := j) (by rw [h.len]; exact hj)
  rw [e] at h1
  exact nd_ix h.nd h1 h2
theorem Perm.itr_lt {n : Nat} {p : List Nat} (h : Perm n p) : ∀ k i, i < n → itr p k i < n
  | 0, _, hi => hi
  | k + 1, i, hi => h.at_lt (Perm.itr_lt h k i hi)
theorem itr_add (p : List Nat) (a : Nat) : ∀ b i, itr p (a + b) i = itr p b (itr p a i)
  | 0, _ => rfl
  | b + 1, i => by
    show at0 p (itr p (a + b) i) = at0 p (itr p b (itr p a i))
    rw [itr_add p a b i]
theorem Perm.itr_inj {n : Nat} {p : List Nat} (h : Perm n p) : ∀ k i j, i < n → j < n → itr p k i = itr p k j → i = j
  | 0, _, _, _, _, e => e
  | k + 1, i, j, hi, hj, e => Perm.itr_inj h k i j hi hj (h.inj (h.itr_lt k i hi) (h.itr_lt k j hj) e)
theorem pw_len (p : List Nat) : ∀ k, (pw p k).length = p.length
  | 0 => List.length_range
  | k + 1 => by
    show ((pw p k).map (at0 p)).length = _
    rw [List.length_map, pw_len p k]
theorem pw_at (p : List Nat) {i : Nat} (hi : i < p.length) : ∀ k, (pw p k)[i]? = some (itr p k i)
  | 0 => List.getElem?_range hi
  | k + 1 => by
    show ((pw p k).map (at0 p))[i]? = _
    rw [List.getElem?_map, pw_at p hi k]
    rfl
theorem pw_id (p : List Nat) (k : Nat) : pw p k = idN p.length ↔ ∀ i, i < p.length → itr p k i = i := by
  constructor
  · intro e i hi
    have h1 := pw_at p hi k
    rw [e] at h1
    have h2 : (idN p.length)[i]? = some i := List.getElem?_range hi
    rw [h1] at h2
    exact Option.some.inj h2
  · intro hall
    apply List.ext_getElem?
    intro i
    by_cases hi : i < p.length
    · rw [pw_at p hi k, hall i hi]
      exact (List.getElem?_range hi).symm
    · rw [List.getElem?_eq_none (by rw [pw_len]; omega), List.getElem?_eq_none (by unfold idN; rw [List.length_range]; omega)]
theorem pw_one {n : Nat} {p : List Nat} (h : Perm n p) : pw p 1 = p := by
  apply List.ext_getElem?
  intro i
  by_cases hi : i < p.length
  · rw [pw_at p hi 1, at0_some hi]
    rfl
  · rw [List.getElem?_eq_none (by rw [pw_len]; omega), List.getElem?_eq_none (by omega)]
/-- how long it takes place i to come back -/
def IsCyc (p : List Nat) (i L : Nat) : Prop := 1 ≤ L ∧ itr p L i = i ∧ ∀ k, 1 ≤ k → k < L → itr p k i ≠ i
theorem nodup_le : ∀ {ks ns : List Nat}, ks.Nodup → (∀ k ∈ ks, k ∈ ns) → ks.length ≤ ns.length
  | [], _, _, _ => Nat.zero_le _
  | k :: ks, ns, nd, h => by
    have hk : k ∈ ns := h k List.mem_cons_self
    have nd' := List.nodup_cons.mp nd
    have hs : ∀ x ∈ ks, x ∈ ns.erase k := fun x hx => by
      have hne : x ≠ k := fun e => nd'.1 (e ▸ hx)
      exact (List.mem_erase_of_ne hne).mpr (h x (List.mem_cons_of_mem _ hx))
    have ih := nodup_le nd'.2 hs
    rw [List.length_erase_of_mem hk] at ih
    have := List.length_pos_of_mem hk
    rw [List.length_cons]
    omega
theorem least_of {P : Nat → Prop} : ∀ n, (∃ k, 1 ≤ k ∧ k ≤ n ∧ P k) → ∃ L, 1 ≤ L ∧ L ≤ n ∧ P L ∧ ∀ k, 1 ≤ k → k < L → ¬ P k
  | 0, ⟨k, h1, h2, _⟩ => absurd h1 (by omega)
  | n + 1, ⟨k, h1, h2, hp⟩ => by
    by_cases hn : ∃ k, 1 ≤ k ∧ k ≤ n ∧ P k
    · obtain ⟨L, a, b, c, d⟩ := least_of n hn
      exact ⟨L, a, by omega, c, d⟩
    · have e : k = n + 1 := by
        by_cases hk : k ≤ n
        · exact absurd ⟨k, h1, hk, hp⟩ hn
        · omega
      subst e
      exact ⟨n + 1, h1, Nat.le_refl _, hp, fun j j1 j2 pj => hn ⟨j, j1, by omega, pj⟩⟩
theorem Perm.cyc {n i : Nat} {p : List Nat} (h : Perm n p) (hi : i < n) : ∃ L, L ≤ n ∧ IsCyc p i L := by
  have hex : ∃ k, 1 ≤ k ∧ k ≤ n ∧ itr p k i = i := by
    by_cases hh : ∃ k, 1 ≤ k ∧ k ≤ n ∧ itr p k i = i
    · exact hh
    · exfalso
      have nd : ((List.range (n + 1)).map fun k => itr p k i).Nodup := by
        refine List.pairwise_iff_getElem.mpr fun a b ha hb hab e => ?_
        rw [List.length_map, List.length_range] at ha hb
        rw [List.getElem_map, List.getElem_map, List.getElem_range, List.getElem_range] at e
        have e2 : itr p b i = itr p a (itr p (b - a) i) := by rw [← itr_add]; congr 1; omega
        rw [e2] at e
        exact hh ⟨b - a, by omega, by omega, (h.itr_inj a _ _ hi (h.itr_lt _ _ hi) e).symm⟩
      have := nodup_le (ns := List.range n) nd (fun k hk => by
        obtain ⟨j, _, rfl⟩ := List.mem_map.mp hk
        exact List.mem_range.mpr (h.itr_lt _ _ hi))
      rw [List.length_map, List.length_range, List.length_range] at this
      omega
  obtain ⟨L, a, b, c, d⟩ := least_of n hex
  exact ⟨L, b, a, c, d⟩
theorem cyc_mul {p : List Nat} {i L : Nat} (h : itr p L i = i) : ∀ m, itr p (L * m) i = i
  | 0 => rfl
  | m + 1 => by rw [Nat.mul_succ, Nat.add_comm, itr_add, h, cyc_mul h m]
theorem IsCyc.dvd {p : List Nat} {i L k : Nat} (h : IsCyc p i L) : itr p k i = i ↔ L ∣ k := by
  constructor
  · intro e
    have hm : itr p (k % L) i = i := by
      have e2 : itr p k i = itr p (k % L) (itr p (L * (k / L)) i) := by rw [← itr_add, Nat.div_add_mod]
      rw [cyc_mul h.2.1] at e2
      rw [← e2, e]
    by_cases hz : k % L = 0
    · exact Nat.dvd_of_mod_eq_zero hz
    · exact absurd hm (h.2.2 _ (by omega) (Nat.mod_lt _ h.1))
  · rintro ⟨m, rfl⟩
    exact cyc_mul h.2.1 m
/-! lcm of a list -/
def lcmL (l : List Nat) : Nat := l.foldl Nat.lcm 1
theorem foldl_lcm_dvd : ∀ (l : List Nat) (a k : Nat), l.foldl Nat.lcm a ∣ k ↔ a ∣ k ∧ ∀ x ∈ l, x ∣ k
  | [], a, k => by simp
  | x :: l, a, k => by
    rw [List.foldl_cons, foldl_lcm_dvd l (Nat.lcm a x) k]
    constructor
    · rintro ⟨h1, h2⟩
      refine ⟨Nat.dvd_trans (Nat.dvd_lcm_left a x) h1, fun y hy => ?_⟩
      rcases List.mem_cons.mp hy with rfl | hy
      · exact Nat.dvd_trans (Nat.dvd_lcm_right a y) h1
      · exact h2 y hy
    · rintro ⟨h1, h2⟩
      exact ⟨Nat.lcm_dvd h1 (h2 x List.mem_cons_self), fun y hy => h2 y (List.mem_cons_of_mem _ hy)⟩
theorem lcmL_dvd (l : List Nat) (k : Nat) : lcmL l ∣ k ↔ ∀ x ∈ l, x ∣ k := by
  unfold lcmL
  rw [foldl_lcm_dvd]
  exact ⟨fun h => h.2, fun h => ⟨Nat.one_dvd k, h⟩⟩
theorem lcmL_pos : ∀ {l : List Nat}, (∀ x ∈ l, 1 ≤ x) → 1 ≤ lcmL l := by
  have gen : ∀ (l : List Nat) (a : Nat), 1 ≤ a → (∀ x ∈ l, 1 ≤ x) → 1 ≤ l.foldl Nat.lcm a := by
    intro l
    induction l with
    | nil => intro a ha _; exact ha
    | cons x l ih =>
      intro a ha h
      rw [List.foldl_cons]
      exact ih _ (Nat.lcm_pos ha (h x List.mem_cons_self)) fun y hy => h y (List.mem_cons_of_mem _ hy)
  intro l h
  exact gen l 1 (Nat.le_refl _) h
/-! at most 20 for nine places: distinct lengths take different places -/
theorem count_sum : ∀ (l S : List Nat), S.Nodup → (S.map fun x => l.count x).sum ≤ l.length
  | [], S, nd => by
    have : (S.map fun x => ([] : List Nat).count x).sum = 0 := by
      clear nd
      induction S with
      | nil => rfl
      | cons s S ih =>
        rw [List.map_cons, List.sum_cons, ih]
        rfl
    rw [this]; exact Nat.zero_le _
  | y :: l, S, nd => by
    have ih := count_sum l S nd
    have h1 : ∀ S : List Nat, S.Nodup → (S.map fun x => (y :: l).count x).sum ≤ (S.map fun x => l.count x).sum + (if y ∈ S then 1 else 0) := by
      intro S
      induction S with
      | nil => intro _; simp
      | cons s S ihs =>
        intro nd
        have nd' := List.nodup_cons.mp nd
        have := ihs nd'.2
        rw [List.map_cons, List.sum_cons, List.map_cons, List.sum_cons, List.count_cons]
        by_cases e : y = s
        · subst e
          rw [if_neg nd'.1] at this
          rw [if_pos List.mem_cons_self]
          simp only [beq_self_eq_true, if_true]
          omega
        · have e2 : (y == s) = false := by simpa using e
          rw [e2]
          have e3 : (y ∈ s :: S) ↔ y ∈ S := by simp [e]
          simp only [e3, Bool.false_eq_true, if_false]
          omega
    have h2 := h1 S nd
    rw [List.length_cons]
    by_cases hy : y ∈ S
    · rw [if_pos hy] at h2; omega
    · rw [if_neg hy] at h2; omega
theorem small_lcm (q : Nat → Bool) (h0 : q 0 = false) (h : ((List.range 10).filter q).sum ≤ 9) : lcmL ((List.range 10).filter q) ≤ 99 := by
  have e : List.range 10 = [0, 1, 2, 3, 4, 5, 6, 7, 8, 9] := by decide
  rw [e] at h ⊢
  simp only [List.filter_cons, List.filter_nil, h0] at h ⊢
  generalize q 1 = b1 at h ⊢
  generalize q 2 = b2 at h ⊢
  generalize q 3 = b3 at h ⊢
  generalize q 4 = b4 at h ⊢
  generalize q 5 = b5 at h ⊢
  generalize q 6 = b6 at h ⊢
  generalize q 7 = b7 at h ⊢
  generalize q 8 = b8 at h ⊢
  generalize q 9 = b9 at h ⊢
  revert b1 b2 b3 b4 b5 b6 b7 b8 b9
  decide +kernel
theorem Perm.order_small {n : Nat} {p Ls : List Nat} (h : Perm n p) (hn : n ≤ 9) (hl : Ls.length = n) (hc : ∀ i, i < n → IsCyc p i (at0 Ls i)) : lcmL Ls ≤ 99 := by
  have mem : ∀ x ∈ Ls, ∃ i, i < n ∧ at0 Ls i = x := fun x hx => by
    obtain ⟨i, hi⟩ := List.mem_iff_getElem?.mp hx
    have hil := (List.getElem?_eq_some_iff.mp hi).1
    rw [at0_some hil] at hi
    exact ⟨i, by omega, Option.some.inj hi⟩
  -- the places on the way of i have its length
  have cnt : ∀ x ∈ Ls, x ≤ Ls.count x := fun x hx => by
    obtain ⟨i, hi, ex⟩ := mem x hx
    have hci := hc i hi
    rw [ex] at hci
    have same : ∀ k, at0 Ls (itr p k i) = x := fun k => by
      have hj := h.itr_lt k i hi
      have hcj := hc _ hj
      have d1 : at0 Ls (itr p k i) ∣ x := by
        rw [← hcj.dvd, ← itr_add, Nat.add_comm, itr_add, hci.2.1]
      have d2 : x ∣ at0 Ls (itr p k i) := by
        rw [← hci.dvd]
        refine h.itr_inj k _ _ (h.itr_lt _ _ hi) hi ?_
        rw [← itr_add, Nat.add_comm, itr_add]
        exact hcj.2.1
      exact Nat.dvd_antisymm d1 d2
    have nd : ((List.range x).map fun k => itr p k i).Nodup := by
      refine List.pairwise_iff_getElem.mpr fun a b ha hb hab e => ?_
      rw [List.length_map, List.length_range] at ha hb
      rw [List.getElem_map, List.getElem_map, List.getElem_range, List.getElem_range] at e
      have e2 : itr p b i = itr p a (itr p (b - a) i) := by rw [← itr_add]; congr 1; omega
      rw [e2] at e
      exact hci.2.2 (b - a) (by omega) (by omega) (h.itr_inj a _ _ hi (h.itr_lt _ _ hi) e).symm
    have hle := nodup_le (ns := (List.range n).filter fun j => at0 Ls j == x) nd (fun j hj => by
      obtain ⟨k, _, rfl⟩ := List.mem_map.mp hj
      refine List.mem_filter.mpr ⟨List.mem_range.mpr (h.itr_lt k i hi), ?_⟩
      rw [same k]; exact beq_self_eq_true _)
    rw [List.length_map, List.length_range] at hle
    have eL : Ls = (List.range n).map (at0 Ls) := by
      apply List.ext_getElem?
      intro j
      by_cases hj : j < n
      · rw [at0_some (by omega), List.getElem?_map, List.getElem?_range hj]; rfl
      · rw [List.getElem?_eq_none (by omega), List.getElem?_eq_none (by rw [List.length_map, List.length_range]; omega)]
    have e3 : Ls.count x = ((List.range n).filter fun j => at0 Ls j == x).length := by
      rw [List.count_eq_countP]
      conv => lhs; rw [eL]
      rw [List.countP_map, List.countP_eq_length_filter]
      rfl
    omega
  have pos : ∀ x ∈ Ls, 1 ≤ x := fun x hx => by
    obtain ⟨i, hi, ex⟩ := mem x hx
    rw [← ex]; exact (hc i hi).1
  have bnd : ∀ x ∈ Ls, x ≤ 9 := fun x hx => by
    have := cnt x hx
    have := List.count_le_length (a := x) (l := Ls)
    omega
  have ndS : ((List.range 10).filter fun x => decide (x ∈ Ls)).Nodup := (List.nodup_range.sublist List.filter_sublist)
  have s1 := count_sum Ls _ ndS
  have s2 : ((List.range 10).filter fun x => decide (x ∈ Ls)).sum ≤ (((List.range 10).filter fun x => decide (x ∈ Ls)).map fun x => Ls.count x).sum := by
    have gen : ∀ S : List Nat, (∀ x ∈ S, x ≤ Ls.count x) → S.sum ≤ (S.map fun x => Ls.count x).sum := by
      intro S
      induction S with
      | nil => intro _; exact Nat.le_refl _
      | cons s S ih =>
        intro hS
        rw [List.map_cons, List.sum_cons, List.sum_cons]
        have := hS s List.mem_cons_self
        have := ih fun x hx => hS x (List.mem_cons_of_mem _ hx)
        omega
    exact gen _ fun x hx => cnt x (of_decide_eq_true (List.mem_filter.mp hx).2)
  have h3 := small_lcm (fun x => decide (x ∈ Ls)) (decide_eq_false fun h0 => absurd (pos 0 h0) (by omega)) (by omega)
  refine Nat.le_trans (Nat.le_of_dvd ?_ ?_) h3
  · exact lcmL_pos fun x hx => pos x (of_decide_eq_true (List.mem_filter.mp hx).2)
  · rw [lcmL_dvd]
    intro x hx
    have hm : x ∈ (List.range 10).filter fun x => decide (x ∈ Ls) := List.mem_filter.mpr ⟨List.mem_range.mpr (by have := bnd x hx; omega), decide_eq_true hx⟩
    exact (lcmL_dvd _ _).mp (Nat.dvd_refl _) x hm
/-- the order: the least power that leads each place to itself -/
theorem Perm.order {n : Nat} {p Ls : List Nat} (h : Perm n p) (hl : Ls.length = n) (hc : ∀ i, i < n → IsCyc p i (at0 Ls i)) : 1 ≤ lcmL Ls ∧ pw p (lcmL Ls) = idN n ∧ ∀ k, 1 ≤ k → k < lcmL Ls → pw p k ≠ idN n := by
  have key : ∀ k, pw p k = idN n ↔ lcmL Ls ∣ k := fun k => by
    have e : idN n = idN p.length := by rw [h.len]
    rw [e, pw_id, lcmL_dvd, h.len]
    constructor
    · intro hall x hx
      obtain ⟨i, hi⟩ := List.mem_iff_getElem?.mp hx
      have hil := (List.getElem?_eq_some_iff.mp hi).1
      rw [at0_some hil] at hi
      rw [← Option.some.inj hi]
      exact (hc i (by omega)).dvd.mp (hall i (by omega))
    · intro hall i hi
      exact (hc i hi).dvd.mpr (hall _ (List.mem_of_getElem? (at0_some (by omega))))
  have pos : ∀ x ∈ Ls, 1 ≤ x := fun x hx => by
    obtain ⟨i, hi⟩ := List.mem_iff_getElem?.mp hx
    have hil := (List.getElem?_eq_some_iff.mp hi).1
    rw [at0_some hil] at hi
    rw [← Option.some.inj hi]
    exact (hc i (by omega)).1
  refine ⟨lcmL_pos pos, (key _).mpr (Nat.dvd_refl _), fun k h1 h2 e => ?_⟩
  have := Nat.le_of_dvd (by omega) ((key k).mp e)
  omega
end G
set_option Elab.async false
set_option linter.all false
set_option maxRecDepth 100000
set_option maxHeartbeats 4000000
namespace G
open PySem PySem.Spec PyProof.Rows L2
section
variable {X : Cx} {K : PySem.W.Frag} {H : Hp} {Q : VK}
def rIdxT (K : PySem.W.Frag) : V → List V → Hp → VK → Prop := fun x xs H Q => ∃ (p : Addr) (g : List Int) (k : Int), x = .ref p ∧ xs = [.int k] ∧ SqT K H p (g.map V.int) ∧ k ∈ g ∧ Q (.int (g.idxOf k : Nat)) H
theorem mt_indexT (hK : X.K = K) : MtR X "tuple.index" (rIdxT K) := by
  subst hK
  intro pins s σ H x xs v us Q I rx rs h
  obtain ⟨p, g, k, rfl, rfl, hq, hk, q⟩ := h
  cases rx
  obtain ⟨u, rfl, t, rfl⟩ := vals1 rs
  obtain ⟨its, r, ⟨⟨cls, dd, dt, sl⟩, ho, hc, n, hd⟩, hz⟩ := I.tuple hq
  obtain rfl : cls = .type "tuple" := hc
  obtain rfl : dt = .seq its.toArray n := hd
  have hl : its.toArray.size = g.length := by rw [List.size_toArray, ← r.length, List.length_map]
  have hj := List.idxOf_lt_length_of_mem hk
  have there : ∀ (m : Nat) (hm : m < its.toArray.size), ∃ t', its.toArray[m] = Value.int (g.getD m 0) t' := fun m hm => by
    have hm' : m < g.length := by omega
    obtain ⟨w, hw, t', hw'⟩ := r.get (i := m) (x := .int (g.getD m 0)) (by rw [List.getElem?_map, List.getD_eq_getElem?_getD, List.getElem?_eq_getElem hm']; rfl)
    refine ⟨t', ?_⟩
    have e := (List.getElem?_eq_some_iff.mp hw).2
    rw [← hw', ← e]
    simp
  have eqs : ∀ w, w ∈ its.toArray → SeqAt.EqAt X.A.in1 s w (.int k t) (eqU (.int k) w) := fun w hw =>
    mem_eqAt (x := .int k) ⟨t, rfl⟩ rfl r (flat_ints g) w (by simpa using hw)
  refine call_meets PySem.F.slot_tuple_index ⟨_, ho, rfl⟩ PySem.F.entry_tuple_index (PySem.F.args_tuple_index_2 _ _)
    (TI.tuple_indexAt p its.toArray n dd sl (.int k t) (eqU (.int k)) (g.idxOf k) (by omega) ?_ ?_) ⟨ho, eqs, ⟨.int _, H, I.tok _, ⟨_, rfl⟩, q⟩⟩
  · obtain ⟨t', h2⟩ := there (g.idxOf k) (by omega)
    rw [h2]
    show (g.getD (g.idxOf k) 0 == k) = true
    rw [List.getD_eq_getElem?_getD, List.getElem?_eq_getElem hj, List.getElem_idxOf hj]
    exact beq_self_eq_true k
  · intro m hm hmj
    obtain ⟨t', h2⟩ := there m hm
    rw [h2]
    show (g.getD m 0 == k) = false
    have hm' : m < g.length := by omega
    have := List.not_of_lt_findIdx (p := (· == k)) (xs := g) (i := m) hmj
    rw [List.getD_eq_getElem?_getD, List.getElem?_eq_getElem hm']
    simpa using this
theorem r_idxT {p : Addr} {g : List Int} {k : Int} (h : SqT K H p (g.map V.int)) (hk : k ∈ g) (q : Q (.int (g.idxOf k : Nat)) H) : rIdxT K (.ref p) [.int k] H Q := ⟨p, g, k, rfl, rfl, h, hk, q⟩
end
theorem nat_ints (r : List Nat) : r.map nD = (r.map fun n : Nat => (n : Int)).map PyData.int := by rw [List.map_map]; rfl
theorem shaped_row (r : List Nat) : SeqAt.shaped (rowD r) = true := by
  refine Bool.and_eq_true_iff.mpr ⟨?_, decide_eq_true ?_⟩
  · show PyData.canLayAll0 (r.map nD) = true
    rw [nat_ints]
    exact lay_ints _
  · show PyData.depthAll (r.map nD) + 1 ≤ 64
    rw [nat_ints, depth_ints]
    decide
theorem cast_inj {a b : List Nat} : (a.map fun n : Nat => (n : Int)) = (b.map fun n : Nat => (n : Int)) ↔ a = b := by
  constructor
  · intro h
    have h2 := congrArg (List.map Int.toNat) h
    rw [List.map_map, List.map_map] at h2
    have e : (Int.toNat ∘ fun n : Nat => (n : Int)) = id := by funext n; exact Int.toNat_natCast n
    rw [e, List.map_id, List.map_id] at h2
    exact h2
  · rintro rfl
    rfl
theorem eqv_rows (a b : List Nat) : PyData.eqv (rowD a) (rowD b) = decide (a = b) := by
  unfold rowD
  rw [PyData.eqv, nat_ints, nat_ints, eqv_ints_all]
  by_cases h : a = b
  · subst h; simp
  · rw [decide_eq_false h, decide_eq_false fun e => h (cast_inj.mp e)]
theorem fits_row {r : List Nat} (n : Nat) (h : r.length ≤ 1000) : fits (n + 2) (rowD r) := by
  have zl : (sizeLine : Nat) = 16777216 := by decide
  refine ⟨by rw [List.length_map]; omega, fun d hd => ?_⟩
  obtain ⟨k, _, rfl⟩ := List.mem_map.mp hd
  exact True.intro
section
variable {σ : L2.St} {H : Hp} {Q : VK} {te ta : TE} {K : PySem.W.Frag}
theorem r_rng2 {ta : TA} {R : It → Hp → Prop} (h : ta σ H fun vs H1 => ∃ i j : Int, vs = [.int i, .int j] ∧ (-(2 ^ 62) ≤ i ∧ i < 2 ^ 62 ∧ -(2 ^ 62) ≤ j ∧ j < 2 ^ 62) ∧ R (Itr i (j - i).toNat) H1) : iRng2 ta σ H R := h
theorem r_rng2' {i j : Int} {C : Int → Int → Prop} (h : -(2 ^ 62) ≤ i ∧ i < 2 ^ 62 ∧ -(2 ^ 62) ≤ j ∧ j < 2 ^ 62) (q : C i j) : ∃ i' j' : Int, [V.int i, V.int j] = [.int i', .int j'] ∧ (-(2 ^ 62) ≤ i' ∧ i' < 2 ^ 62 ∧ -(2 ^ 62) ≤ j' ∧ j' < 2 ^ 62) ∧ C i' j' := ⟨i, j, rfl, h, q⟩
theorem rg_nat (n : Nat) : rgV 0 (n : Int) = (List.range n).map iV := by
  unfold rgV
  rw [show ((n : Int) - 0).toNat = n by omega]
  refine List.map_congr_left fun i _ => ?_
  show V.int (0 + (i : Int)) = V.int (i : Int)
  rw [Int.zero_add]
theorem r_tupRgN {n : Nat} (h1 : n ≤ 16777216) (q : ∀ p, H p = none → Q (.ref p) (upd H p (.tup ((List.range n).map iV)))) (h : ∀ R : VK, R (iV n) H → te σ H R) : tTupRg (tRg1 te) σ H Q := by
  refine h _ ⟨(n : Int), rfl, RgOk.of_le (Int.le_refl _) (by omega) (by decide) (by omega), fun p hp => ?_⟩
  rw [rg_nat]
  exact q p hp
theorem r_lcm {a b : Nat} (ha : a < 2 ^ 64) (hb : b < 2 ^ 64) (q : Q (iV (Nat.lcm a b)) H) : rLcm [.int (a : Int), .int (b : Int)] H Q := ⟨a, b, rfl, ha, hb, q⟩
end
theorem row_of {K : PySem.W.Frag} {H : Hp} {p : Addr} {r : List Nat} (h : SqT K H p (r.map iV)) : Dt K H (.ref p) (rowD r) := .tup h (ofNats r)
theorem at_row {r : List Nat} {i : Nat} (h : i < r.length) : atI (r.map iV) (i : Int) = some (iV (at0 r i)) := at_nat rfl h
/-! ### primes -/
def isPr (e : Nat) : Prop := 2 ≤ e ∧ ∀ f, 2 ≤ f → f < e → ¬ f ∣ e
theorem least_pr : ∀ n, 2 ≤ n → ∃ e, isPr e ∧ e ∣ n := by
  intro n
  induction n using Nat.strongRecOn with
  | _ n ih =>
    intro h2
    by_cases h : ∃ f, 2 ≤ f ∧ f < n ∧ f ∣ n
    · obtain ⟨f, a, b, c⟩ := h
      obtain ⟨e, he, hd⟩ := ih f b a
      exact ⟨e, he, Nat.dvd_trans hd c⟩
    · exact ⟨n, ⟨h2, fun f a b c => h ⟨f, a, b, c⟩⟩, Nat.dvd_refl n⟩
open Classical in
noncomputable def prF (c d : Nat) : List Nat := (List.range d).filter fun e => decide (isPr e ∧ e ∣ c)
theorem prF_yes {c d : Nat} (h : isPr d ∧ d ∣ c) : prF c (d + 1) = prF c d ++ [d] := by
  classical
  unfold prF
  rw [List.range_succ, List.filter_append, List.filter_cons_of_pos (by simpa using h)]
  rfl
theorem prF_no {c d : Nat} (h : ¬ (isPr d ∧ d ∣ c)) : prF c (d + 1) = prF c d := by
  classical
  unfold prF
  rw [List.range_succ, List.filter_append, List.filter_cons_of_neg (by simpa using h), List.filter_nil, List.append_nil]
theorem prF_mem {c d e : Nat} : e ∈ prF c d ↔ e < d ∧ isPr e ∧ e ∣ c := by
  classical
  unfold prF
  rw [List.mem_filter, List.mem_range]
  simp
theorem prF_two (c : Nat) : prF c 2 = [] := by
  refine List.eq_nil_iff_forall_not_mem.mpr fun e he => ?_
  have := prF_mem.mp he
  have := this.2.1.1
  omega
theorem prF_grow {c d : Nat} (h : ∀ e, d ≤ e → isPr e → ¬ e ∣ c) : ∀ k, prF c (d + k) = prF c d
  | 0 => rfl
  | k + 1 => by
    show prF c (d + k + 1) = _
    rw [prF_no (fun z => h (d + k) (Nat.le_add_right _ _) z.1 z.2), prF_grow h k]
theorem pr_cop {e d : Nat} (he : isPr e) (hd : 1 ≤ d) (h : d < e) : Nat.Coprime e d := by
  have g1 := Nat.gcd_dvd_left e d
  have g2 := Nat.gcd_dvd_right e d
  have hle := Nat.le_of_dvd hd g2
  by_cases hg : 2 ≤ Nat.gcd e d
  · exact absurd g1 (he.2 _ hg (by omega))
  · have : 0 < Nat.gcd e d := Nat.gcd_pos_of_pos_right _ hd
    show Nat.gcd e d = 1
    omega
end G
set_option Elab.async false
set_option linter.all false
set_option maxRecDepth 100000
set_option maxHeartbeats 4000000
namespace G
open PySem PySem.Spec PyProof.Rows L2
/-! rows of numbers, sorted -/
def kk (r : List Nat) : List (Int ⊕ List Nat) := r.map fun n : Nat => Sum.inl (n : Int)
def rle (a b : List Nat) : Prop := (listOrd itemOrd).kle (kk a) (kk b)
theorem kk_inj {a b : List Nat} (h : kk a = kk b) : a = b := by
  induction a generalizing b with
  | nil => cases b with
    | nil => rfl
    | cons y b => exact nomatch h
  | cons x a ih => cases b with
    | nil => exact nomatch h
    | cons y b =>
      have h1 := List.cons.inj h
      have h2 : (x : Int) = (y : Int) := Sum.inl.inj h1.1
      rw [show x = y by omega, ih h1.2]
theorem rle_anti {a b : List Nat} (h1 : rle a b) (h2 : rle b a) : a = b := kk_inj (KeyOrd.kle_antisymm h1 h2)
theorem sort_uniq : ∀ {a b : List (List Nat)}, a.Perm b → a.Pairwise rle → b.Pairwise rle → a = b
  | [], b, h, _, _ => (List.Perm.nil_eq h)
  | x :: a, [], h, _, _ => absurd h.length_eq (by simp)
  | x :: a, y :: b, h, ha, hb => by
    have ha' := List.pairwise_cons.mp ha
    have hb' := List.pairwise_cons.mp hb
    have e : x = y := by
      have hx : x ∈ y :: b := h.mem_iff.mp List.mem_cons_self
      have hy : y ∈ x :: a := h.mem_iff.mpr List.mem_cons_self
      rcases List.mem_cons.mp hx with e | hx
      · exact e
      · rcases List.mem_cons.mp hy with e | hy
        · exact e.symm
        · exact rle_anti (ha'.1 y hy) (hb'.1 x hx)
    subst e
    rw [sort_uniq (List.Perm.cons_inv h) ha'.2 hb'.2]
theorem items_key : ∀ (r : List Nat) (its : List Value) (i : Nat), Vals (r.map iV) its → tupItems (fun _ => false) i its = some (kk r)
  | [], _, _, h => by cases h; simp [tupItems, kk]
  | n :: r, _, i, h => by
    cases h with
    | cons h1 h2 =>
      obtain ⟨t, rfl⟩ := h1
      show (if (fun _ => false) i = true then none else (tupItems (fun _ => false) (i + 1) _).map _) = _
      rw [if_neg Bool.false_ne_true, items_key r _ (i + 1) h2]
      rfl
theorem tup_key {h : Heap} {b : Addr} {r : List Nat} {its : List Value} (ht : IsTup h b its.toArray) (hv : Vals (r.map iV) its) : PyProof.Rows.G.tupKeyC h (fun _ => false) (.ref b) = some (kk r) := by
  obtain ⟨o, ho, hc, n, hd⟩ := ht
  unfold PyProof.Rows.G.tupKeyC
  have e1 : PyProof.Rows.G.isTupObj h (.ref b) = true := by
    simp only [PyProof.Rows.G.isTupObj, ho, hc]
    decide
  rw [if_pos e1]
  simp only [tupKey, ho, hd]
  exact items_key r its 0 hv
def RowAt (h : Heap) (b : Addr) (r : List Nat) : Prop := r ≠ [] ∧ ∃ its : List Value, Vals (r.map iV) its ∧ IsTup h b its.toArray
theorem tups_of {h : Heap} : ∀ (ps : List (Addr × List Nat)), (∀ p ∈ ps, RowAt h p.1 p.2) → ∃ fs, TupsOf h (fun _ => false) (ps.map fun p => Value.ref p.1) fs
  | [], _ => ⟨[], .nil⟩
  | p :: ps, hall => by
    obtain ⟨fs, hf⟩ := tups_of ps fun q hq => hall q (List.mem_cons_of_mem _ hq)
    obtain ⟨b, r⟩ := p
    obtain ⟨hne, its, hv, o, ho, hc, n, hd⟩ := hall (b, r) List.mem_cons_self
    cases r with
    | nil => exact absurd rfl hne
    | cons x r =>
      cases hv with
      | @cons _ u _ us h1 h2 =>
        obtain ⟨t, rfl⟩ := h1
        exact ⟨_ :: fs, .cons ⟨b, o, _, n, rfl, ho, hc, hd, rfl, fun _ => ⟨_, _, rfl⟩, fun e => absurd e Bool.false_ne_true⟩ hf⟩
theorem keys_of {h : Heap} {ps : List (Addr × List Nat)} (hall : ∀ p ∈ ps, RowAt h p.1 p.2) : ∀ v, v ∈ (ps.map fun p => Value.ref p.1) → ∃ l, PyProof.Rows.G.tupKeyC h (fun _ => false) v = some l := fun v hv => by
  obtain ⟨p, hp, rfl⟩ := List.mem_map.mp hv
  obtain ⟨_, its, h1, h2⟩ := hall p hp
  exact ⟨_, tup_key h2 h1⟩
theorem out_rows {h : Heap} {ps : List (Addr × List Nat)} (hall : ∀ p ∈ ps, RowAt h p.1 p.2) {xs : Array Keyed} (hp : xs.Perm (pairsOf (ps.map fun p => Value.ref p.1)))
    (hs : SortedToK (PyProof.Rows.G.tupKindC h (fun _ => false)) xs (pairsOf (ps.map fun p => Value.ref p.1)).size) :
    ∃ zs : List (Addr × List Nat), zs.Perm ps ∧ (xs.map (·.2)).toList = zs.map (fun p => Value.ref p.1) ∧ zs.Pairwise fun p q => rle p.2 q.2 := by
  have hl : xs.toList.Perm ((ps.map fun p => Value.ref p.1).zip (ps.map fun p => Value.ref p.1)) := by rw [← pairsOf_toList]; exact Array.perm_iff_toList_perm.mp hp
  have ez : ps.map (fun p => (Value.ref p.1, Value.ref p.1)) = (ps.map fun p => Value.ref p.1).zip (ps.map fun p => Value.ref p.1) := by
    rw [List.zip_map']
  obtain ⟨zs, pz, qz⟩ := perm_lift (fun p : Addr × List Nat => (Value.ref p.1, Value.ref p.1)) hl ps ez
  refine ⟨zs, pz, ?_, ?_⟩
  · rw [Array.toList_map, ← qz, List.map_map]
    rfl
  · rw [List.pairwise_iff_getElem]
    intro i j hi hj hij
    have hsz : (pairsOf (ps.map fun p => Value.ref p.1)).size = zs.length := by rw [pairsOf_size, List.length_map, pz.length_eq]
    have h1 := hs i j (Nat.le_of_lt hij) (by rw [hsz]; exact hj)
    have key : ∀ k (hk : k < zs.length), KK (PyProof.Rows.G.tupKindC h (fun _ => false)) xs k = kk zs[k].2 := by
      intro k hk
      have e : xs[k]? = some (Value.ref zs[k].1, Value.ref zs[k].1) := by
        rw [← Array.getElem?_toList, ← qz, List.getElem?_map, List.getElem?_eq_getElem hk]
        rfl
      unfold KK
      rw [e]
      obtain ⟨_, its, h2, h3⟩ := hall zs[k] (pz.mem_iff.mp (List.getElem_mem hk))
      show (PyProof.Rows.G.tupKeyC h (fun _ => false) (.ref zs[k].1)).getD [] = _
      rw [tup_key h3 h2]
      rfl
    rw [key i hi, key j hj] at h1
    exact h1
theorem RowAt.keep {h h' : Heap} {b : Addr} {r : List Nat} (x : RowAt h b r) (k : ∀ b o, h.get? b = some o → h'.get? b = some o) : RowAt h' b r := by
  obtain ⟨h1, its, h2, o, ho, h3⟩ := x
  exact ⟨h1, its, h2, o, k _ _ ho, h3⟩
def refsV (ps : List (Addr × List Nat)) : List V := ps.map fun p => V.ref p.1
def refsU (ps : List (Addr × List Nat)) : List Value := ps.map fun p => Value.ref p.1
theorem refs_eq : ∀ (ps : List (Addr × List Nat)) (its : List Value), Vals (refsV ps) its → its = refsU ps
  | [], _, h => by cases h; rfl
  | p :: ps, _, h => by
    cases h with
    | cons h1 h2 =>
      cases h1
      rw [refs_eq ps _ h2]
      rfl
theorem refs_vals : ∀ ps : List (Addr × List Nat), Vals (refsV ps) (refsU ps)
  | [] => .nil
  | _ :: ps => .cons rfl (refs_vals ps)
abbrev sortedR (zs : List (Addr × List Nat)) : Prop := zs.Pairwise fun p q => rle p.2 q.2
def rSortT (K : PySem.W.Frag) : List V → Hp → VK → Prop := fun vs H Q => ∃ (a : Addr) (ps : List (Addr × List Nat)), vs = [.ref a] ∧ SqL K H a (refsV ps) ∧ (∀ p ∈ ps, SqT K H p.1 (p.2.map iV) ∧ p.2 ≠ []) ∧
  ∀ (zs : List (Addr × List Nat)) (p : Addr), zs.Perm ps → sortedR zs → H p = none → Q (.ref p) (upd H p (.lst (refsV zs)))
section
variable {X : Cx} {K : PySem.W.Frag}
theorem cr_sortT (hK : X.K = K) : CallR X (.builtin "sorted") (rSortT K) := by
  subst hK
  rintro pins s σ H vs us Q I rs ⟨a, ps, rfl, hs, hall, key⟩
  obtain ⟨its, rv, hl, hz⟩ := I.list hs
  obtain rfl := refs_eq ps its rv
  rw [Vals.ref1 rs]
  have hrow : ∀ p ∈ ps, RowAt s.heap p.1 p.2 := fun p hp => by
    obtain ⟨js, jv, jt, _⟩ := I.tuple (hall p hp).1
    exact ⟨(hall p hp).2, js, jv, jt⟩
  obtain ⟨fs, hfs⟩ := tups_of ps hrow
  have hz2 : (refsU ps).length ≤ sizeLine := by rw [← rv.length]; exact hz
  refine PyProof.Rows.G.sorted_tups hl.isList hfs (keys_of hrow) hz2 fun st p1 p2 _ => ?_
  obtain ⟨zs, g1, g2, g3⟩ := out_rows hrow p1 p2
  obtain ⟨ep, hat⟩ := PyProof.Rows.sortedAll_at s.heap (refsU ps) ((arrOf st).map (·.2))
  have hln : (refsV zs).length ≤ sizeLine := by
    have := g1.length_eq
    have h2 : (refsU ps).length = ps.length := List.length_map _
    show (zs.map _).length ≤ _
    rw [List.length_map]
    omega
  have hvz : Vals (refsV zs) ((arrOf st).map (·.2)).toList := by
    rw [g2]
    exact refs_vals zs
  have new : ObjOk X.prog X.w (upd H (s.heap.objs.size + 1) (.lst (refsV zs))) (sortedAll s.heap (refsU ps) ((arrOf st).map (·.2))) (s.heap.objs.size + 1) (.lst (refsV zs)) := ⟨hln, _, ep, hvz, hat⟩
  exact ⟨.ref (s.heap.objs.size + 1), _, I.laid (t' := s.toks) (fun _ _ => PyProof.Rows.sortedAll_old) (Nat.le_succ _) new, rfl, key zs _ g1 g3 (I.hok.fresh (Nat.le_succ _))⟩
end
/-! dicts whose keys are rows -/
def kN (r : List Nat) : List Key := r.map fun n : Nat => .inl (n : Int)
theorem kN_row (r : List Nat) : (kN r).map kV = r.map iV := by
  unfold kN
  rw [List.map_map]
  rfl
theorem kN_inj {a b : List Nat} (h : kN a = kN b) : a = b := by
  induction a generalizing b with
  | nil => cases b with
    | nil => rfl
    | cons y b => exact nomatch h
  | cons x a ih => cases b with
    | nil => exact nomatch h
    | cons y b =>
      have h1 := List.cons.inj h
      have h2 : (x : Int) = (y : Int) := Sum.inl.inj h1.1
      rw [show x = y by omega, ih h1.2]
def dictN (rs : List (List Nat)) : List (List Key × V) := rs.map fun r => (kN r, V.bl true)
theorem dictN_len (rs : List (List Nat)) : (dictN rs).length = rs.length := List.length_map _
theorem valV_in {rs : List (List Nat)} {r : List Nat} (h : r ∈ rs) : valV (dictN rs) (kN r) = some (.bl true) := by
  induction rs with
  | nil => exact nomatch h
  | cons x rs ih =>
    by_cases e : x = r
    · subst e
      exact valV_pos rfl
    · rcases List.mem_cons.mp h with z | h
      · exact absurd z.symm e
      · show valV ((kN x, V.bl true) :: dictN rs) (kN r) = _
        rw [valV_neg (fun z => e (kN_inj z))]
        exact ih h
theorem valV_out {rs : List (List Nat)} {r : List Nat} (h : r ∉ rs) : valV (dictN rs) (kN r) = none := by
  induction rs with
  | nil => rfl
  | cons x rs ih =>
    show valV ((kN x, V.bl true) :: dictN rs) (kN r) = _
    rw [valV_neg (fun z => h (by rw [← kN_inj z]; exact List.mem_cons_self))]
    exact ih fun z => h (List.mem_cons_of_mem _ z)
theorem putN {rs : List (List Nat)} {r : List Nat} (h : r ∉ rs) : putK (dictN rs) (kN r) (.bl true) = dictN (rs ++ [r]) := by
  rw [putK_new _ (valV_out h)]
  unfold dictN
  rw [List.map_append]
  rfl
theorem rows_of {H : Hp} : ∀ {rs : List (List Nat)} {ks : List (List Key × Addr × Value)}, Paired (fun (p : List Key × V) (q : List Key × Addr × Value) => p.1 = q.1 ∧ H q.2.1 = some (.tup (p.1.map kV)) ∧ RelV p.2 q.2.2) (dictN rs) ks →
    ∃ ps : List (Addr × List Nat), ps.map (·.2) = rs ∧ refsU ps = ks.map (fun x => Value.ref x.2.1) ∧ ∀ p ∈ ps, H p.1 = some (.tup (p.2.map iV))
  | [], _, h => by cases h; exact ⟨[], rfl, rfl, fun p hp => nomatch hp⟩
  | r :: rs, _, h => by
    cases h with
    | @cons _ k _ ks h1 h2 =>
      obtain ⟨ps, e1, e2, e3⟩ := rows_of h2
      have hk : H k.2.1 = some (.tup ((kN r).map kV)) := h1.2.1
      rw [kN_row] at hk
      refine ⟨(k.2.1, r) :: ps, by rw [List.map_cons, e1], ?_, fun p hp => ?_⟩
      · show Value.ref k.2.1 :: refsU ps = _
        rw [e2]
        rfl
      · rcases List.mem_cons.mp hp with rfl | hp
        · exact hk
        · exact e3 p hp
/-- {t: v}, one key, a row -/
def tDispT (tk tv : TE) : TE := fun σ H Q => ∀ p, H p = none → tk σ (upd H p (.dT [])) fun x H1 => tv σ H1 fun y H2 => ∃ b r, x = .ref b ∧ H2 b = some (.tup ((r : List Nat).map iV)) ∧ H2 p = some (.dT []) ∧ y = .bl true ∧ Q (.ref p) (upd H2 p (.dT (dictN [r])))
section
variable {X : Cx} {K : PySem.W.Frag}
theorem pe_dispT {k v : Expr} {tk tv : TE} {pos : Pos} (hu : X.A.units + 1 < cLine) (hk : PE X k tk) (hv : PE X v tv) : PE X (.Dict [some k] [v] pos) (tDispT tk tv) := by
  constructor
  intro pins s σ H Q I q
  have hn := I.hok.fresh (Nat.le_refl s.heap.objs.size)
  have I1 := I.laid (a := s.heap.objs.size) (o := .dT []) (h' := s.heap.push { cls := .type "dict", data := .dict #[] }) (t' := s.toks) (fun _ _ e => Heap.get?_push_of_some _ e) (Nat.le_refl _) (dt_empty s.heap I.big)
  rw [arm_eval_Dict, zip_pairTrees [some k] [v] X.env pos rfl rfl, dictDisplay_pairs (pairTrees [some k] [v] X.env pos) (by simp [pairTrees]) (by simp [pairTrees])]
  refine wpAny_bind (wpAny_standAt (wpAny_bind ?_))
  refine wpAny_subDictH (knd := tupleKind (mixKind X.prog X.w)) (Q := fun d s' => wpAny (model X.prog X.w) X.A (pure (Value.ref d)) (EP X pins σ Q) X.xe s') (show X.A.units < cLine by omega) (by simp [pairTrees]) ?_
  refine pairTrees_cons_walk (thn (hk.run pins _ σ _ _ I1 (q _ hn)) fun u s1 ⟨x, H1, I2, rx, q1⟩ => thn (hv.run pins s1 σ H1 _ I2 q1) fun w2 s2 ⟨y, H2, I3, ry, b, r, ex, hb, hp, ey, q2⟩ => pairTrees_nil_walk ?_)
  subst ex ey
  cases rx
  rw [← kN_row] at hb
  obtain ⟨z, hd, xs, rel, dd⟩ := dt_of I3.hok hp
  cases rel
  refine ⟨[(kN r, b, w2)], ⟨rfl, rfl, key_of I3.hok hb, trivial⟩, dd, fun h' tk dd' hs => wpAny_pure ?_⟩
  obtain ⟨ob, es, ep, hq, h2, h3, h4, _, h5⟩ := dd'
  have I4 := d_write (t' := tk) (ob := .dT (dictN [r])) I3 (by rw [hp]; exact True.intro) hs ⟨ob, hq⟩ ⟨by rw [dictN_len]; show 1 ≤ sizeLine; decide, hd, [(kN r, b, w2)], .cons ⟨rfl, by rw [upd_ne (ne_of hb hp (fun z => nomatch z))]; exact hb, ry⟩ .nil, ob, es, ep, hq, h2, h3, h4, h5⟩
  exact ⟨.ref _, _, I4, rfl, q2⟩
/-- sorted(d) of a dict with rows as keys -/
def rSortD : List V → Hp → VK → Prop := fun vs H Q => ∃ (d : Addr) (rs : List (List Nat)), vs = [.ref d] ∧ Rd H d (.dT (dictN rs)) ∧ (∀ r ∈ rs, r ≠ []) ∧
  ∀ (zs : List (Addr × List Nat)) (p : Addr), (zs.map (·.2)).Perm rs → sortedR zs → (∀ z ∈ zs, H z.1 = some (.tup (z.2.map iV))) → H p = none → Q (.ref p) (upd H p (.lst (refsV zs)))
theorem cr_sortD (hc : X.calm = true) : CallR X (.builtin "sorted") rSortD := by
  rintro pins s σ H vs us Q I rs ⟨d, rows, rfl, hd, hne, key⟩
  rw [Vals.ref1 rs]
  obtain ⟨z, hs, ks, pr, o, es, ep, ho, hx, hdt, he, hn⟩ := (show ObjOk X.prog X.w H s.heap d (.dT (dictN rows)) from hd.ok I.hok)
  obtain ⟨ps, e1, e2, e3⟩ := rows_of pr
  have hes : es.size = ks.length := by rw [← Array.length_toList, he, List.length_map]
  have hps : ps.length = ks.length := by
    have := congrArg List.length e2
    rw [List.length_map] at this
    rw [← this]
    exact (List.length_map _).symm
  have hzl : ps.length ≤ sizeLine := by
    have h1 : (dictN rows).length = rows.length := dictN_len rows
    have h2 := congrArg List.length e1
    rw [List.length_map] at h2
    omega
  refine Calls.call_function_entry PyProof.Rows.kind_sorted PyProof.Rows.plain_sorted PyProof.Rows.entry_sorted (PyProof.Rows.args_sorted1 _) ?_
  unfold Builtin.«sorted»
  refine wpAny_bind (m := checkCount "sorted" 1 1 _) (wpAny_pure ?_)
  refine wpAny_bind (PySem.W.kdu_collect (A := X.A.in1) (kdl_raw hs hx hdt) (I.ok.hd hc) ho (by omega) fun h1 tk acc hk hacc => ?_)
  have ea : acc.toList = refsU ps := by
    rw [e2]
    refine List.ext_getElem (by rw [Array.length_toList, hacc.1, hes, List.length_map]) fun j hj1 hj2 => ?_
    rw [List.length_map] at hj2
    have hg : acc[j]? = some acc.toList[j] := by rw [← Array.getElem?_toList, List.getElem?_eq_getElem hj1]
    obtain ⟨en, hen, hv⟩ := hacc.2 j _ hg
    rw [← Array.getElem?_toList, he, List.getElem?_map, List.getElem?_eq_getElem hj2] at hen
    have h3 := Option.some.inj hen
    rw [hv, ← h3, List.getElem_map]
    rfl
  rw [ea]
  have I1 : Inv X pins σ H { s with heap := h1, toks := tk } := I.kept hk
  have hul : (refsU ps).length = ps.length := List.length_map _
  refine wpAny_bind (wpAny_newList ?_ (by omega))
  have hoL : (h1.push (seqObj "list" (refsU ps).toArray 0)).get? h1.objs.size = some (seqObj "list" (refsU ps).toArray 0) := Heap.get?_push_size _ rfl
  have hrow : ∀ p ∈ ps, RowAt (h1.push (seqObj "list" (refsU ps).toArray 0)) p.1 p.2 := fun p hp => by
    obtain ⟨js, jv, jt, _⟩ := I1.tuple (a := p.1) (xs := p.2.map iV) (.inl (.inl (e3 p hp)))
    have hpne : p.2 ≠ [] := hne _ (by rw [← e1]; exact List.mem_map_of_mem hp)
    exact RowAt.keep ⟨hpne, js, jv, jt⟩ fun b o e => Heap.get?_push_of_some _ e
  obtain ⟨fs, hfs⟩ := tups_of ps hrow
  show wpAny _ _ _ _ _ { s with heap := h1.push (seqObj "list" (refsU ps).toArray 0), toks := tk }
  refine wpAny_bind (wpAny_holding (wpAny_call_entry PyProof.Rows.slot_list_sort ⟨_, hoL, rfl⟩ PyProof.Rows.entry_list_sort
    (PyProof.Rows.G.list_sort_tups (s := { s with heap := h1.push (seqObj "list" (refsU ps).toArray 0), toks := tk }) hoL hfs (keys_of hrow) (by omega) fun st p1 p2 _ => ⟨_, rfl, ?_⟩) (PyProof.Rows.args_list_sort _)))
  obtain ⟨zs, g1, g2, g3⟩ := out_rows hrow p1 p2
  obtain ⟨e', hat⟩ := PyProof.Rows.sortedHeap_at (vs := refsU ps) (out := (arrOf st).map (·.2)) hoL
  have hln : (refsV zs).length ≤ sizeLine := by
    have := g1.length_eq
    show (zs.map _).length ≤ _
    rw [List.length_map]
    omega
  have hvz : Vals (refsV zs) ((arrOf st).map (·.2)).toList := by
    rw [g2]
    exact refs_vals zs
  have fin := I1.laid (a := h1.objs.size) (o := .lst (refsV zs)) (h' := sortedHeap (h1.push (seqObj "list" (refsU ps).toArray 0)) h1.objs.size (refsU ps) ((arrOf st).map (·.2))) (t' := tk) (fun b u e => by
      have hb : b < h1.objs.size := Heap.lt_size e
      rw [PyProof.Rows.sortedHeap_old (Nat.ne_of_lt hb) (by rw [size_push']; exact Nat.lt_succ_of_lt hb)]
      exact Heap.get?_push_of_some _ e) (Nat.le_refl _) ⟨hln, _, e', hvz, hat⟩
  refine wpAny_pure ⟨_, rfl, .ref h1.objs.size, _, fin, rfl, key zs _ ?_ g3 (fun z hz => e3 z (g1.mem_iff.mp hz)) (I1.hok.fresh (Nat.le_refl _))⟩
  rw [← e1]
  exact g1.map _
end
end G
set_option Elab.async false
set_option linter.all false
set_option maxRecDepth 100000
set_option maxHeartbeats 4000000
namespace G
open PySem PySem.Spec PyProof.Rows L2
/-! what some permutations make -/
inductive Gen (n : Nat) (gs : List (List Nat)) : List Nat → Prop
  | one : Gen n gs (idN n)
  | step {x m : List Nat} : Gen n gs x → m ∈ gs → Gen n gs (thenN x m)
def RowN (n : Nat) (r : List Nat) : Prop := r.length = n ∧ ∀ x ∈ r, x < n
theorem Perm.row {n : Nat} {p : List Nat} (h : Perm n p) : RowN n p := ⟨h.len, h.lt⟩
theorem RowN.id (n : Nat) : RowN n (idN n) := ⟨List.length_range, fun x hx => List.mem_range.mp hx⟩
theorem RowN.at {n i : Nat} {r : List Nat} (h : RowN n r) (hi : i < n) : at0 r i < n := h.2 _ (List.mem_of_getElem? (at0_some (by rw [h.1]; exact hi)))
theorem RowN.then {n : Nat} {x m : List Nat} (hx : RowN n x) (hm : RowN n m) : RowN n (thenN x m) := by
  refine ⟨by unfold thenN; rw [List.length_map]; exact hx.1, fun y hy => ?_⟩
  obtain ⟨k, hk, rfl⟩ := List.mem_map.mp hy
  exact hm.at (hx.2 k hk)
theorem Gen.row {n : Nat} {gs : List (List Nat)} (hg : ∀ m ∈ gs, RowN n m) {x : List Nat} (h : Gen n gs x) : RowN n x := by
  induction h with
  | one => exact RowN.id n
  | step _ hm ih => exact ih.then (hg _ hm)
theorem Gen.sub {n : Nat} {gs S : List (List Nat)} (h1 : idN n ∈ S) (h2 : ∀ x ∈ S, ∀ m ∈ gs, thenN x m ∈ S) {x : List Nat} (h : Gen n gs x) : x ∈ S := by
  induction h with
  | one => exact h1
  | step _ hm ih => exact h2 _ ih _ hm
theorem Gen.mono {n : Nat} {gs hs : List (List Nat)} (k : ∀ m ∈ gs, m ∈ hs) {x : List Nat} (h : Gen n gs x) : Gen n hs x := by
  induction h with
  | one => exact .one
  | step _ hm ih => exact .step ih (k _ hm)
theorem id_then {n : Nat} {m : List Nat} (h : m.length = n) : thenN (idN n) m = m := by
  apply List.ext_getElem?
  intro i
  unfold thenN idN
  by_cases hi : i < n
  · rw [List.getElem?_map, List.getElem?_range hi, at0_some (by omega)]
    rfl
  · rw [List.getElem?_eq_none (by rw [List.length_map, List.length_range]; omega), List.getElem?_eq_none (by omega)]
theorem at_id {n i : Nat} (h : i < n) : at0 (idN n) i = i := by
  unfold at0 idN
  rw [List.getD_eq_getElem?_getD, List.getElem?_range h]
  rfl
theorem then_id {n : Nat} {x : List Nat} (h : RowN n x) : thenN x (idN n) = x := by
  unfold thenN
  conv => rhs; rw [← List.map_id x]
  exact List.map_congr_left fun y hy => at_id (h.2 y hy)
theorem at_then {x m : List Nat} {i : Nat} (h : i < x.length) : at0 (thenN x m) i = at0 m (at0 x i) := by
  have e : (thenN x m)[i]? = some (at0 m (at0 x i)) := by
    unfold thenN
    rw [List.getElem?_map, at0_some h]
    rfl
  have e2 := at0_some (p := thenN x m) (i := i) (by unfold thenN; rw [List.length_map]; exact h)
  rw [e2] at e
  exact Option.some.inj e
theorem then_assoc {n : Nat} {x y m : List Nat} (hx : RowN n x) (hy : RowN n y) : thenN x (thenN y m) = thenN (thenN x y) m := by
  show x.map (at0 (thenN y m)) = (x.map (at0 y)).map (at0 m)
  rw [List.map_map]
  exact List.map_congr_left fun k hk => at_then (by rw [hy.1]; exact hx.2 k hk)
theorem Gen.mul {n : Nat} {gs : List (List Nat)} (hg : ∀ m ∈ gs, RowN n m) {x y : List Nat} (hx : Gen n gs x) (hy : Gen n gs y) : Gen n gs (thenN x y) := by
  induction hy with
  | one => rw [then_id (hx.row hg)]; exact hx
  | step h hm ih => rw [then_assoc (hx.row hg) (h.row hg)]; exact .step ih hm
theorem Gen.of {n : Nat} {gs : List (List Nat)} {m : List Nat} (hr : RowN n m) (h : m ∈ gs) : Gen n gs m := by
  have := Gen.step (.one (n := n)) h
  rw [id_then hr.1] at this
  exact this
/-- a list of all that some permutations make -/
structure Group (n : Nat) (gs rs : List (List Nat)) : Prop where
  nd : rs.Nodup
  all : ∀ x, x ∈ rs ↔ Gen n gs x
theorem Group.perm {n : Nat} {gs a b : List (List Nat)} (h1 : Group n gs a) (h2 : Group n gs b) : a.Perm b :=
  (List.perm_ext_iff_of_nodup h1.nd h2.nd).mpr fun x => (h1.all x).trans (h2.all x).symm
/-- a bound of what they make -/
structure Bnd (n : Nat) (gs L : List (List Nat)) (B : Nat) : Prop where
  rows : ∀ m ∈ gs, RowN n m
  one : idN n ∈ L
  step : ∀ x ∈ L, ∀ m ∈ gs, thenN x m ∈ L
  len : L.length ≤ B
theorem Bnd.le {n B : Nat} {gs L ms rs : List (List Nat)} (b : Bnd n gs L B) (hs : ∀ m ∈ ms, m ∈ gs) (nd : rs.Nodup) (h : ∀ x ∈ rs, Gen n ms x) : rs.length ≤ B := by
  refine Nat.le_trans (List.Nodup.length_le_of_subset nd fun x hx => ?_) b.len
  exact ((h x hx).mono hs).sub b.one b.step
/-- makers that make all -/
theorem group_of {n : Nat} {gs ms rs : List (List Nat)} (hg : ∀ m ∈ gs, RowN n m) (hs : ∀ m ∈ ms, m ∈ gs) (nd : rs.Nodup) (h1 : idN n ∈ rs) (h2 : ∀ x ∈ rs, ∀ m ∈ ms, thenN x m ∈ rs) (h3 : ∀ x ∈ rs, Gen n ms x) (h4 : ∀ m ∈ gs, m ∈ rs) : Group n gs rs := by
  have hm : ∀ m ∈ ms, RowN n m := fun m hm => hg m (hs m hm)
  refine ⟨nd, fun x => ⟨fun hx => (h3 x hx).mono hs, fun hx => ?_⟩⟩
  refine hx.sub h1 fun y hy m hmg => ?_
  exact (Gen.mul hm (h3 y hy) (h3 m (h4 m hmg))).sub h1 h2
/-! all permutations of a few places -/
def extP (n : Nat) : Nat → List (List Nat)
  | 0 => [[]]
  | k + 1 => (extP n k).flatMap fun l => ((List.range n).filter fun x => !l.contains x).map fun x => l ++ [x]
theorem ext_mem {n : Nat} : ∀ (k : Nat) (l : List Nat), l.length = k → (∀ x ∈ l, x < n) → l.Nodup → l ∈ extP n k
  | 0, l, hl, _, _ => by
    rw [List.length_eq_zero_iff.mp hl]
    exact List.mem_singleton.mpr rfl
  | k + 1, l, hl, hlt, nd => by
    have hne : l ≠ [] := fun e => by rw [e] at hl; exact nomatch hl
    obtain ⟨m, y, rfl⟩ : ∃ m y, l = m ++ [y] := ⟨l.dropLast, l.getLast hne, (List.dropLast_concat_getLast hne).symm⟩
    rw [List.length_append] at hl
    have nd' := List.nodup_append.mp nd
    refine List.mem_flatMap.mpr ⟨m, ext_mem k m (by simpa using hl) (fun x hx => hlt x (List.mem_append_left _ hx)) nd'.1, List.mem_map.mpr ⟨y, List.mem_filter.mpr ⟨List.mem_range.mpr (hlt y (List.mem_append_right _ List.mem_cons_self)), ?_⟩, rfl⟩⟩
    have : y ∉ m := fun hy => nd'.2.2 y hy y List.mem_cons_self rfl
    simpa using this
theorem Perm.then {n : Nat} {p q : List Nat} (hp : Perm n p) (hq : Perm n q) : Perm n (thenN p q) := by
  have hr := hp.row.then hq.row
  refine ⟨hr.1, hr.2, ?_⟩
  unfold thenN
  refine List.pairwise_iff_getElem.mpr fun i j hi hj hij e => ?_
  rw [List.length_map] at hi hj
  rw [List.getElem_map, List.getElem_map] at e
  have h1 := hq.inj (hp.lt _ (List.getElem_mem hi)) (hp.lt _ (List.getElem_mem hj)) e
  exact absurd h1 (List.pairwise_iff_getElem.mp hp.nd i j hi hj hij)
theorem Perm.id (n : Nat) : Perm n (idN n) := ⟨List.length_range, fun x hx => List.mem_range.mp hx, List.nodup_range⟩
theorem Perm.ext {n : Nat} {p : List Nat} (h : Perm n p) : p ∈ extP n n := ext_mem n p h.len h.lt h.nd
theorem ext_len {n : Nat} (h : n ≤ 6) : (extP n n).length ≤ 720 ∧ (extP n n).length = Nat.rec 1 (fun k f => (k + 1) * f) n := by
  match n, h with
  | 0, _ => decide +kernel
  | 1, _ => decide +kernel
  | 2, _ => decide +kernel
  | 3, _ => decide +kernel
  | 4, _ => decide +kernel
  | 5, _ => decide +kernel
  | 6, _ => decide +kernel
theorem ext_perm {n : Nat} : ∀ (k : Nat) (l : List Nat), l ∈ extP n k → l.length = k ∧ (∀ x ∈ l, x < n) ∧ l.Nodup
  | 0, l, h => by
    rw [List.mem_singleton.mp h]
    exact ⟨rfl, (fun x hx => nomatch hx), List.nodup_nil⟩
  | k + 1, l, h => by
    obtain ⟨m, hm, h2⟩ := List.mem_flatMap.mp h
    obtain ⟨y, hy, rfl⟩ := List.mem_map.mp h2
    obtain ⟨a, b, c⟩ := ext_perm k m hm
    obtain ⟨y1, y2⟩ := List.mem_filter.mp hy
    have hy' : y ∉ m := by simpa using y2
    refine ⟨by rw [List.length_append, a]; rfl, fun x hx => ?_, ?_⟩
    · rcases List.mem_append.mp hx with hx | hx
      · exact b x hx
      · rw [List.mem_singleton.mp hx]; exact List.mem_range.mp y1
    · refine List.nodup_append.mpr ⟨c, by simp, fun x hx z hz e => ?_⟩
      rw [List.mem_singleton.mp hz] at e
      subst e
      exact hy' hx
theorem bnd_small {n : Nat} {gs : List (List Nat)} (hn : n ≤ 6) (hg : ∀ m ∈ gs, Perm n m) : Bnd n gs (extP n n) (extP n n).length where
  rows := fun m hm => (hg m hm).row
  one := (Perm.id n).ext
  step := fun x hx m hm => by
    obtain ⟨a, b, c⟩ := ext_perm n x hx
    exact (Perm.then ⟨a, b, c⟩ (hg m hm)).ext
  len := Nat.le_refl _
theorem fact_ok : ∀ n, n ≤ 64 → ((Builtin.Math.factorialNat n : Nat) : Int).natAbs.log2 < bitsLine ∧ (n ≤ 6 → (extP n n).length ≤ Builtin.Math.factorialNat n) ∧ (7 ≤ n → 999 ≤ Builtin.Math.factorialNat n) := by
  have h : (List.range 65).all (fun n => decide (((Builtin.Math.factorialNat n : Nat) : Int).natAbs.log2 < bitsLine) && decide (n ≤ 6 → (extP n n).length ≤ Builtin.Math.factorialNat n) && decide (7 ≤ n → 999 ≤ Builtin.Math.factorialNat n)) = true := by decide +kernel
  intro n hn
  have h2 := List.all_eq_true.mp h n (List.mem_range.mpr (by omega))
  simp only [Bool.and_eq_true, decide_eq_true_eq] at h2
  exact ⟨h2.1.1, h2.1.2, h2.2⟩
def rFact : List V → Hp → VK → Prop := fun xs H Q => ∃ n : Nat, xs = [.int (n : Int)] ∧ n ≤ 64 ∧ Q (.int ((Builtin.Math.factorialNat n : Nat) : Int)) H
theorem call_factorial {X : Cx} : CallR X (.builtin "math.factorial") rFact := by
  rintro pins s σ H vs us Q I rs ⟨n, rfl, hn, q⟩
  obtain ⟨u, rfl, t, rfl⟩ := vals1 rs
  refine PySem.W.mg_factorial (by simp only [Builtin.Math.maxSsize]; omega) (by omega) (by simp only [Builtin.Math.manyFactors]; omega) (by rw [Int.toNat_natCast]; exact (fact_ok n hn).1) ?_
  rw [Int.toNat_natCast]
  exact ⟨.int _, H, I.tok _, ⟨_, rfl⟩, q⟩
theorem lay_rows : ∀ rs : List (List Nat), PyData.canLayAll0 (rs.map rowD) = true
  | [] => rfl
  | r :: rs => Bool.and_eq_true_iff.mpr ⟨by
      show PyData.canLayAll0 (r.map nD) = true
      rw [nat_ints]
      exact lay_ints _, lay_rows rs⟩
theorem depth_rows : ∀ rs : List (List Nat), PyData.depthAll (rs.map rowD) ≤ 2
  | [] => by decide
  | r :: rs => by
    show max (PyData.depthAll (r.map nD) + 1) (PyData.depthAll (rs.map rowD)) ≤ 2
    have h1 := depth_rows rs
    rw [nat_ints, depth_ints]
    omega
theorem shaped_rows (rs : List (List Nat)) : SeqAt.shaped (.list (rs.map rowD)) = true := by
  refine Bool.and_eq_true_iff.mpr ⟨lay_rows rs, decide_eq_true ?_⟩
  show PyData.depthAll (rs.map rowD) + 1 ≤ 64
  have := depth_rows rs
  omega
theorem eqv_all_rows : ∀ (a b : List (List Nat)), PyData.eqvAll (a.map rowD) (b.map rowD) = decide (a = b)
  | [], [] => by simp [PyData.eqvAll]
  | [], y :: b => by simp [PyData.eqvAll]
  | x :: a, [] => by simp [PyData.eqvAll]
  | x :: a, y :: b => by
    rw [List.map_cons, List.map_cons, PyData.eqvAll, eqv_rows, eqv_all_rows a b]
    simp [Bool.decide_and]
theorem eqv_lrows (a b : List (List Nat)) : PyData.eqv (.list (a.map rowD)) (.list (b.map rowD)) = decide (a = b) := by
  rw [PyData.eqv, eqv_all_rows]
theorem dp_rows {K : PySem.W.Frag} {H : Hp} {p : Addr} {ps : List (Addr × List Nat)} (h : SqL K H p (refsV ps)) (hall : ∀ q ∈ ps, SqT K H q.1 (q.2.map iV)) : Dp K H (.ref p) (.list ((ps.map (·.2)).map rowD)) := by
  refine .lst h ?_
  clear h
  induction ps with
  | nil => exact .nil
  | cons q ps ih => exact .cons ((row_of (hall q List.mem_cons_self)).dp _ _) (ih fun q' hq => hall q' (List.mem_cons_of_mem _ hq))
theorem fits_rows {rs : List (List Nat)} (h : rs.length ≤ 1000) (hr : ∀ r ∈ rs, r.length ≤ 1000) : fits 3 (.list (rs.map rowD)) := by
  have zl : (sizeLine : Nat) = 16777216 := by decide
  refine ⟨by rw [List.length_map]; omega, fun d hd => ?_⟩
  obtain ⟨r, hm, rfl⟩ := List.mem_map.mp hd
  exact fits_row 0 (hr r hm)
/-- rows that stand at addresses, each a tuple of its own -/
def TupR (H : Hp) (ps : List (Addr × List Nat)) : Prop := ∀ p ∈ ps, H p.1 = some (.tup (p.2.map iV))
theorem TupR.k {H H' : Hp} {ps : List (Addr × List Nat)} (h : TupR H ps) (e : Same H H') : TupR H' ps := fun p hp => e _ _ (h p hp)
theorem TupR.snoc {H : Hp} {ps : List (Addr × List Nat)} {b : Addr} {r : List Nat} (h : TupR H ps) (hb : H b = some (.tup (r.map iV))) : TupR H (ps ++ [(b, r)]) := fun p hp => by
  rcases List.mem_append.mp hp with hp | hp
  · exact h p hp
  · rw [List.mem_singleton.mp hp]; exact hb
end G
set_option Elab.async false
set_option linter.all false
set_option maxRecDepth 100000
set_option maxHeartbeats 4000000
namespace G
open PySem PySem.Spec PyProof.Rows L2
/-! wheels -/
def rot (n j : Nat) : List Nat := (List.range n).map fun k => (k + j) % n
theorem rot_len (n j : Nat) : (rot n j).length = n := by unfold rot; rw [List.length_map, List.length_range]
theorem rot_row {n j : Nat} : RowN n (rot n j) := by
  refine ⟨rot_len n j, fun x hx => ?_⟩
  obtain ⟨k, hk, rfl⟩ := List.mem_map.mp hx
  have := List.mem_range.mp hk
  exact Nat.mod_lt _ (by omega)
theorem at_rot {n j i : Nat} (h : i < n) : at0 (rot n j) i = (i + j) % n := by
  unfold at0 rot
  rw [List.getD_eq_getElem?_getD, List.getElem?_map, List.getElem?_range h]
  rfl
theorem then_rot (n i j : Nat) : thenN (rot n i) (rot n j) = rot n ((i + j) % n) := by
  show (rot n i).map (at0 (rot n j)) = _
  unfold rot
  rw [List.map_map]
  refine List.map_congr_left fun k hk => ?_
  have hk' := List.mem_range.mp hk
  show at0 (rot n j) ((k + i) % n) = _
  rw [at_rot (Nat.mod_lt _ (by omega)), Nat.mod_add_mod, Nat.add_mod_mod, Nat.add_assoc]
theorem rot_zero (n : Nat) : rot n 0 = idN n := by
  unfold rot idN
  conv => rhs; rw [← List.map_id (List.range n)]
  refine List.map_congr_left fun k hk => ?_
  rw [Nat.add_zero]
  exact Nat.mod_eq_of_lt (List.mem_range.mp hk)
theorem bnd_wheel {n : Nat} (h1 : 1 ≤ n) : Bnd n [rot n 1] ((List.range n).map (rot n)) n where
  rows := fun m hm => by rw [List.mem_singleton.mp hm]; exact rot_row
  one := List.mem_map.mpr ⟨0, List.mem_range.mpr h1, rot_zero n⟩
  step := fun x hx m hm => by
    obtain ⟨j, _, rfl⟩ := List.mem_map.mp hx
    rw [List.mem_singleton.mp hm, then_rot]
    exact List.mem_map.mpr ⟨_, List.mem_range.mpr (Nat.mod_lt _ (by omega)), rfl⟩
  len := by rw [List.length_map, List.length_range]; exact Nat.le_refl _
def rot2 (f o i j : Nat) : List Nat := rot f i ++ (rot o j).map fun x => f + x
theorem rot2_row {f o i j : Nat} : RowN (f + o) (rot2 f o i j) := by
  unfold rot2
  refine ⟨by rw [List.length_append, List.length_map, rot_len, rot_len], fun x hx => ?_⟩
  rcases List.mem_append.mp hx with hx | hx
  · have := rot_row.2 x hx
    omega
  · obtain ⟨k, hk, rfl⟩ := List.mem_map.mp hx
    have := rot_row.2 k hk
    show f + k < f + o
    omega
theorem at_rot2 {f o i j x : Nat} (h : x < f) : at0 (rot2 f o i j) x = at0 (rot f i) x := by
  unfold at0 rot2
  rw [List.getD_eq_getElem?_getD, List.getD_eq_getElem?_getD, List.getElem?_append_left (by rw [rot_len]; exact h)]
theorem at_rot2' {f o i j x : Nat} (h : x < o) : at0 (rot2 f o i j) (f + x) = f + at0 (rot o j) x := by
  have e := at0_some (p := rot o j) (i := x) (by rw [rot_len]; exact h)
  unfold at0 rot2
  rw [List.getD_eq_getElem?_getD, List.getElem?_append_right (by rw [rot_len]; omega), rot_len, Nat.add_sub_cancel_left, List.getElem?_map, e]
  rfl
theorem then_rot2 (f o i j a b : Nat) : thenN (rot2 f o i j) (rot2 f o a b) = rot2 f o ((i + a) % f) ((j + b) % o) := by
  show (rot f i ++ (rot o j).map fun x => f + x).map (at0 (rot2 f o a b)) = rot f ((i + a) % f) ++ (rot o ((j + b) % o)).map fun x => f + x
  rw [List.map_append, List.map_map, ← then_rot, ← then_rot]
  have e1 : (rot f i).map (at0 (rot2 f o a b)) = thenN (rot f i) (rot f a) := List.map_congr_left fun x hx => at_rot2 (rot_row.2 x hx)
  have e2 : (rot o j).map (at0 (rot2 f o a b) ∘ fun x => f + x) = (thenN (rot o j) (rot o b)).map fun x => f + x := by
    show _ = ((rot o j).map (at0 (rot o b))).map fun x => f + x
    rw [List.map_map]
    exact List.map_congr_left fun x hx => at_rot2' (rot_row.2 x hx)
  rw [e1, e2]
theorem id_two (f o : Nat) : rot2 f o 0 0 = idN (f + o) := by
  unfold rot2
  rw [rot_zero, rot_zero]
  unfold idN
  rw [List.range_add]
theorem bnd_two {f o : Nat} (hf : 1 ≤ f) (ho : 1 ≤ o) : Bnd (f + o) [rot2 f o 1 0, rot2 f o 0 1] ((List.range f).flatMap fun i => (List.range o).map fun j => rot2 f o i j) (f * o) where
  rows := fun m hm => by
    rcases List.mem_cons.mp hm with rfl | hm
    · exact rot2_row
    · rw [List.mem_singleton.mp hm]; exact rot2_row
  one := List.mem_flatMap.mpr ⟨0, List.mem_range.mpr hf, List.mem_map.mpr ⟨0, List.mem_range.mpr ho, id_two f o⟩⟩
  step := fun x hx m hm => by
    obtain ⟨i, hi, h2⟩ := List.mem_flatMap.mp hx
    obtain ⟨j, hj, rfl⟩ := List.mem_map.mp h2
    have go : ∀ a b, thenN (rot2 f o i j) (rot2 f o a b) ∈ (List.range f).flatMap fun i => (List.range o).map fun j => rot2 f o i j := fun a b => by
      rw [then_rot2]
      exact List.mem_flatMap.mpr ⟨_, List.mem_range.mpr (Nat.mod_lt _ (by omega)), List.mem_map.mpr ⟨_, List.mem_range.mpr (Nat.mod_lt _ (by omega)), rfl⟩⟩
    rcases List.mem_cons.mp hm with rfl | hm
    · exact go 1 0
    · rw [List.mem_singleton.mp hm]; exact go 0 1
  len := by
    have : ∀ l : List Nat, (l.flatMap fun i => (List.range o).map fun j => rot2 f o i j).length = l.length * o := by
      intro l
      induction l with
      | nil => simp
      | cons x l ih => rw [List.flatMap_cons, List.length_append, ih, List.length_map, List.length_range, List.length_cons, Nat.succ_mul, Nat.add_comm]
    rw [this, List.length_range]
    exact Nat.le_refl _
/-! the small ones of the law -/
def reflN (n : Nat) : List Nat := (List.range n).map fun k => (n - k) % n
def permB (n : Nat) (p : List Nat) : Bool := decide (p.length = n) && p.all (fun x => decide (x < n)) && decide p.Nodup
theorem perm_of {n : Nat} {p : List Nat} (h : permB n p = true) : Perm n p := by
  unfold permB at h
  simp only [Bool.and_eq_true, List.all_eq_true, decide_eq_true_eq] at h
  exact ⟨h.1.1, h.1.2, h.2⟩
theorem wheel_perm {n : Nat} (h1 : 1 ≤ n) (h : n ≤ 6) : Perm n (rot n 1) ∧ Perm n (reflN n) := by
  match n, h1, h with
  | 1, _, _ => exact ⟨perm_of (by decide +kernel), perm_of (by decide +kernel)⟩
  | 2, _, _ => exact ⟨perm_of (by decide +kernel), perm_of (by decide +kernel)⟩
  | 3, _, _ => exact ⟨perm_of (by decide +kernel), perm_of (by decide +kernel)⟩
  | 4, _, _ => exact ⟨perm_of (by decide +kernel), perm_of (by decide +kernel)⟩
  | 5, _, _ => exact ⟨perm_of (by decide +kernel), perm_of (by decide +kernel)⟩
  | 6, _, _ => exact ⟨perm_of (by decide +kernel), perm_of (by decide +kernel)⟩
end G
set_option Elab.async false
set_option linter.all false
set_option maxRecDepth 100000
set_option maxHeartbeats 4000000
namespace G
open PySem PySem.Spec PyProof.Rows L2 TL
/-! ### a <= b, texts -/
def rLeS : R2 := fun x y H Q => ∃ a b : Str, x = .str a ∧ y = .str b ∧ Q (.bl (!decide (b.cps.toList < a.cps.toList))) H
theorem op_leS {X : Cx} : OpR X (compareOp .LtE) rLeS := by
  intro pins s σ H x y v u Q I rx ry h
  obtain ⟨a, b, rfl, rfl, q⟩ := h
  obtain ⟨t, rfl⟩ := rx
  obtain ⟨t', rfl⟩ := ry
  exact PySem.P.le_str ⟨.bl (!decide (b.cps.toList < a.cps.toList)), H, I, rfl, q⟩
/-! ### str(i), int(text) -/
def rStrI : List V → Hp → VK → Prop := fun xs H Q => ∃ i : Int, xs = [.int i] ∧ i.natAbs.log2 < 1920 ∧ Q (.str (Str.ofString (toString i))) H
theorem call_strI {X : Cx} : CallR X (.type "str") rStrI := call_str_int
def rIntT : List V → Hp → VK → Prop := fun xs H Q => ∃ a n, xs = [.str a] ∧ PySem.intText? a = some n ∧ a.length ≤ 640 ∧ Q (.int n) H
theorem call_intT {X : Cx} : CallR X (.type "int") rIntT := call_int_str
/-! ### for x in a list or a tuple -/
def iSq (K : PySem.W.Frag) (te : TE) : TI := fun σ H R => te σ H fun x H1 => ∃ a, x = .ref a ∧ ((∃ xs, SqL K H1 a xs) ∧ R (Itl K a) H1 ∨ (∃ xs, SqT K H1 a xs) ∧ R (Itt K a) H1)
theorem pi_sqK {X : Cx} {K : PySem.W.Frag} {tg l : Expr} {tl : TE} (eK : X.K = K) (hl : PE X l tl) : PI X tg l (iSq K tl) := by
  subst eK
  refine ⟨fun pins s σ H R I h => ?_⟩
  refine thn (hl.run pins s σ H _ I h) fun v s1 ⟨x, H1, I1, r1, q1⟩ => ?_
  obtain ⟨a, e, q⟩ := q1
  subst e
  cases r1
  rcases q with ⟨⟨xs, hq⟩, q⟩ | ⟨⟨xs, hq⟩, q⟩
  · obtain ⟨its, rv, p, hz⟩ := I1.list hq
    refine wpAny_pyIter_list p.isList ?_
    refine ⟨s1.heap.objs.size, [s1.heap.objs.size], _, _, H1, rfl, I1.kept (t' := s1.toks) fun b o e => Heap.get?_push_of_some _ e, turn_list a _, ⟨_, Heap.get?_push_size _ rfl, rfl, rfl⟩, fun b hb => ?_, q⟩
    have e : b = s1.heap.objs.size := by simpa using hb
    subst e
    exact I1.fpOk (Nat.le_refl _) (I1.hok.fresh (Nat.le_refl _))
  · obtain ⟨its, rv, p, hz⟩ := I1.tuple hq
    refine wpAny_pyIter_tuple (show s1.heap.IsTuple a its.toArray from p) ?_
    refine ⟨s1.heap.objs.size, [s1.heap.objs.size], _, _, H1, rfl, I1.kept (t' := s1.toks) fun b o e => Heap.get?_push_of_some _ e, turn_tuple a _, ⟨_, Heap.get?_push_size _ rfl, rfl, rfl⟩, fun b hb => ?_, q⟩
    have e : b = s1.heap.objs.size := by simpa using hb
    subst e
    exact I1.fpOk (Nat.le_refl _) (I1.hok.fresh (Nat.le_refl _))
/-! ### texts of numbers -/
/-- each behind the sign s -/
def rstJ (s : Nat) (ps : List (List Nat)) : List Nat := (ps.map fun p => s :: p).flatten
theorem rstJ_cons (s : Nat) (p : List Nat) (ps : List (List Nat)) : rstJ s (p :: ps) = s :: (p ++ rstJ s ps) := rfl
theorem joinL_rst (s : Nat) : ∀ (p : List Nat) (ps : List (List Nat)), joinL [s] (p :: ps) = p ++ rstJ s ps
  | p, [] => by
    show p = p ++ []
    rw [List.append_nil]
  | p, q :: ps => by
    show p ++ ([s] ++ joinL [s] (q :: ps)) = p ++ rstJ s (q :: ps)
    rw [joinL_rst s q ps]
    rfl
def numsL (ns : List Nat) : List Nat := joinL [32] (ns.map numL)
theorem numsL_cons (n : Nat) (ns : List Nat) : numsL (n :: ns) = numL n ++ rstJ 32 (ns.map numL) := joinL_rst 32 (numL n) (ns.map numL)
def isDg : List Nat → Bool
  | [c] => decide (48 ≤ c ∧ c ≤ 57)
  | _ => false
theorem numL_small : ∀ n < 100, (n < 10 ∧ numL n = [48 + n]) ∨ (10 ≤ n ∧ numL n = [48 + n / 10, 48 + n % 10]) := fun n hn => by
  by_cases h : n < 10
  · exact .inl ⟨h, numL_lt h⟩
  · refine .inr ⟨by omega, ?_⟩
    rw [numL_step (by omega), numL_lt (show n / 10 < 10 by omega)]
    rfl
theorem num_str (n : Nat) : Str.ofString (toString (n : Int)) = ⟨(numL n).toArray⟩ := ext_tl (by rw [tl_num, tl_mk])
theorem intText_num {n : Nat} (h : n < 100) : PySem.intText? ⟨(numL n).toArray⟩ = some (n : Int) := by
  rw [← num_str]
  refine int_num ?_
  rcases numL_small n h with ⟨_, e⟩ | ⟨_, e⟩
  · rw [e]
    show 1 ≤ 4300
    decide
  · rw [e]
    show 2 ≤ 4300
    decide
/-! slices of texts -/
theorem six_nat (n d k : Nat) : HT.sIx n d (some (k : Int)) = min k n := HT.sIx_nat n d k
theorem cutS_nat (L : List Nat) (j k : Nat) : cutS ⟨L.toArray⟩ (some (j : Int)) (some (k : Int)) = ⟨((L.drop (min j L.length)).take (min k L.length - min j L.length)).toArray⟩ := by
  unfold cutS
  rw [six_nat, six_nat]
  have e : (⟨L.toArray⟩ : Str).length = L.length := str_len L
  rw [e]
theorem cutS_one {L : List Nat} {k : Nat} : cutS ⟨L.toArray⟩ (some (k : Int)) (some ((k : Int) + 1)) = ⟨((L.drop k).take 1).toArray⟩ := by
  have e1 : (k : Int) + 1 = ((k + 1 : Nat) : Int) := rfl
  rw [e1, cutS_nat]
  by_cases h : k < L.length
  · rw [Nat.min_eq_left (by omega), Nat.min_eq_left (by omega), show k + 1 - k = 1 by omega]
  · rw [Nat.min_eq_right (by omega), Nat.min_eq_right (by omega), Nat.sub_self, List.drop_eq_nil_of_le (Nat.le_refl _), List.drop_eq_nil_of_le (by omega)]
    rfl
theorem cutS_in {L : List Nat} {j k : Nat} (h1 : j ≤ k) (h2 : k ≤ L.length) : cutS ⟨L.toArray⟩ (some (j : Int)) (some (k : Int)) = ⟨((L.drop j).take (k - j)).toArray⟩ := by
  rw [cutS_nat, Nat.min_eq_left (show j ≤ L.length by omega), Nat.min_eq_left h2]
end G
set_option Elab.async false
set_option linter.all false
set_option maxRecDepth 100000
set_option maxHeartbeats 4000000
namespace G
open PySem PySem.Spec PyProof.Rows L2 TL
/-! ### texts of machines: where a walk over the characters finds the first fault -/
def isD (c : Nat) : Bool := decide (48 ≤ c ∧ c ≤ 57)
/-- p: how many semicolons have been; num: the digits of the number that stands here; ls: whether a semicolon was the last -/
def colF : List Nat → Nat → Nat → List Nat → Bool → Nat
  | [], k, p, num, ls => if p < 2 ∨ (num = [] ∧ ls = false) then k + 1 else 0
  | c :: r, k, p, num, ls =>
    if isD c = true then (if num = [48] ∨ num.length = 2 then k + 1 else colF r (k + 1) p (num ++ [c]) false)
    else if num = [] ∨ c ∉ ([32, 59, 47] : List Nat) then k + 1
    else if (c = 47 ∧ 0 < p) ∨ (c = 59 ∧ 1 < p) ∨ (c = 32 ∧ p = 1) then k + 1
    else colF r (k + 1) (if c = 59 then p + 1 else p) [] (decide (c = 59))
/-- the same, behind a whole number -/
def aftF (r : List Nat) (k p : Nat) : Nat := match r with
  | [] => if p < 2 then k + 1 else 0
  | c :: r => if c = 32 then (if p = 1 then k + 1 else colF r (k + 1) p [] false) else if c = 47 then (if 0 < p then k + 1 else colF r (k + 1) p [] false)
    else if c = 59 then (if 1 < p then k + 1 else colF r (k + 1) (p + 1) [] true) else k + 1
def hdD (r : List Nat) : Bool := match r with
  | [] => false
  | c :: _ => isD c
theorem colF_aft {r num : List Nat} {k p : Nat} (h0 : num ≠ []) (h : num = [48] ∨ num.length = 2 ∨ hdD r = false) : colF r k p num false = aftF r k p := by
  cases r with
  | nil =>
    unfold colF aftF
    by_cases hp : p < 2
    · rw [if_pos (.inl hp), if_pos hp]
    · rw [if_neg (fun z => z.elim hp fun z => h0 z.1), if_neg hp]
  | cons c r =>
    unfold colF aftF
    dsimp only
    cases hc : isD c with
    | true =>
      have hr : 48 ≤ c ∧ c ≤ 57 := of_decide_eq_true hc
      rw [if_pos rfl, if_pos, if_neg (by omega), if_neg (by omega), if_neg (by omega)]
      rcases h with h | h | h
      · exact .inl h
      · exact .inr h
      · rw [show hdD (c :: r) = isD c from rfl, hc] at h
        exact nomatch h
    | false =>
      rw [if_neg Bool.false_ne_true]
      by_cases h32 : c = 32
      · subst h32
        rw [if_neg (fun z => z.elim h0 fun z => z (by decide)), if_pos rfl]
        by_cases hp : p = 1
        · rw [if_pos (.inr (.inr ⟨rfl, hp⟩)), if_pos hp]
        · rw [if_neg (by omega), if_neg hp, if_neg (by decide)]
          rfl
      · by_cases h47 : c = 47
        · subst h47
          rw [if_neg (fun z => z.elim h0 fun z => z (by decide)), if_neg h32, if_pos rfl]
          by_cases hp : 0 < p
          · rw [if_pos (.inl ⟨rfl, hp⟩), if_pos hp]
          · rw [if_neg (by omega), if_neg hp, if_neg (by decide)]
            rfl
        · by_cases h59 : c = 59
          · subst h59
            rw [if_neg (fun z => z.elim h0 fun z => z (by decide)), if_neg h32, if_neg h47]
            by_cases hp : 1 < p
            · rw [if_pos (.inr (.inl ⟨rfl, hp⟩)), if_pos hp]
              exact (if_pos rfl).symm
            · rw [if_neg (by omega), if_neg hp, if_pos rfl]
              exact (if_pos rfl).symm
          · have hm : c ∉ ([32, 59, 47] : List Nat) := fun z => by
              simp only [List.mem_cons, List.not_mem_nil, or_false] at z
              rcases z with z | z | z
              · exact h32 z
              · exact h59 z
              · exact h47 z
            rw [if_pos (.inr hm), if_neg h32, if_neg h47, if_neg h59]
/-- what stands where a number is wanted -/
theorem num_split (r : List Nat) : hdD r = false ∨ ∃ (n : Nat) (r' : List Nat), n < 100 ∧ r = numL n ++ r' ∧ (n < 10 → n = 0 ∨ hdD r' = false) := by
  cases r with
  | nil => exact .inl rfl
  | cons c r =>
    cases hc : isD c with
    | false => exact .inl hc
    | true =>
      have hr : 48 ≤ c ∧ c ≤ 57 := of_decide_eq_true hc
      have one : numL (c - 48) = [c] := by
        rcases numL_small (c - 48) (by omega) with ⟨_, e⟩ | ⟨e, _⟩
        · rw [e, show 48 + (c - 48) = c by omega]
        · omega
      by_cases h : c = 48 ∨ hdD r = false
      · exact .inr ⟨c - 48, r, by omega, by rw [one]; rfl, fun _ => h.elim (fun e => .inl (by omega)) .inr⟩
      · cases r with
        | nil => exact absurd (.inr rfl) h
        | cons d r =>
          cases hd : isD d with
          | false => exact absurd (.inr hd) h
          | true =>
            have hd2 : 48 ≤ d ∧ d ≤ 57 := of_decide_eq_true hd
            have hc48 : c ≠ 48 := fun z => h (.inl z)
            refine .inr ⟨(c - 48) * 10 + (d - 48), r, by omega, ?_, fun z => by omega⟩
            rcases numL_small ((c - 48) * 10 + (d - 48)) (by omega) with ⟨e, _⟩ | ⟨_, e⟩
            · omega
            · rw [e, show 48 + ((c - 48) * 10 + (d - 48)) / 10 = c by omega, show 48 + ((c - 48) * 10 + (d - 48)) % 10 = d by omega]
              rfl
theorem colF_bad {r : List Nat} {k p : Nat} {ls : Bool} (hp : p < 2 ∨ ls = false) (h : hdD r = false) : colF r k p [] ls = k + 1 := by
  cases r with
  | nil =>
    unfold colF
    rw [if_pos]
    exact hp.imp id fun z => ⟨rfl, z⟩
  | cons c r =>
    have hc : isD c = false := h
    unfold colF
    rw [hc, if_neg Bool.false_ne_true, if_pos (.inl rfl)]
theorem colF_num {r : List Nat} {k p n : Nat} {ls : Bool} (hn : n < 100) (h : n < 10 → n = 0 ∨ hdD r = false) : colF (numL n ++ r) k p [] ls = aftF r (k + (numL n).length) p := by
  rcases numL_small n hn with ⟨h1, e⟩ | ⟨h1, e⟩
  · rw [e]
    show colF ((48 + n) :: r) k p [] ls = aftF r (k + 1) p
    have hd : isD (48 + n) = true := decide_eq_true (by omega)
    rw [colF, hd, if_pos rfl, if_neg (by simp)]
    refine colF_aft (by simp) ?_
    rcases h h1 with h | h
    · exact .inl (by rw [h]; rfl)
    · exact .inr (.inr h)
  · rw [e]
    show colF ((48 + n / 10) :: (48 + n % 10) :: r) k p [] ls = aftF r (k + 2) p
    have hd : isD (48 + n / 10) = true := decide_eq_true (by omega)
    have hd2 : isD (48 + n % 10) = true := decide_eq_true (by omega)
    rw [colF, hd, if_pos rfl, if_neg (by simp), colF, hd2, if_pos rfl, if_neg]
    · exact colF_aft (by simp) (.inr (.inl rfl))
    · rintro (z | z)
      · have e2 : 48 + n / 10 = 48 := (List.cons.inj (show [48 + n / 10] = [48] from z)).1
        omega
      · exact absurd (show (1 : Nat) = 2 from z) (by decide)
theorem hd_isDg (r : List Nat) : hdD r = (match r.take 1 with | [] => false | c :: _ => isD c) := by
  cases r <;> rfl
/-- behind a number, where something else is wanted -/
theorem aftF_bad {r : List Nat} {k p : Nat} (hp : p < 2) (h32 : p ≠ 1 → r.take 1 ≠ [32]) (h47 : p = 0 → r.take 1 ≠ [47]) (h59 : r.take 1 ≠ [59]) : aftF r k p = k + 1 := by
  cases r with
  | nil =>
    unfold aftF
    rw [if_pos hp]
  | cons c r =>
    have t : (c :: r).take 1 = [c] := by cases r <;> rfl
    rw [t] at h32 h47 h59
    unfold aftF
    dsimp only
    by_cases e : c = 32
    · rw [if_pos e, if_pos]
      refine Decidable.byContradiction fun z => h32 z (by rw [e])
    · rw [if_neg e]
      by_cases e : c = 47
      · rw [if_pos e, if_pos]
        refine Decidable.byContradiction fun z => h47 (by omega) (by rw [e])
      · rw [if_neg e, if_neg (fun z => h59 (by rw [z]))]
theorem aftF_end {r : List Nat} {k : Nat} (h32 : r.take 1 ≠ [32]) (h : r ≠ []) : aftF r k 2 = k + 1 := by
  cases r with
  | nil => exact absurd rfl h
  | cons c r =>
    have t : (c :: r).take 1 = [c] := by cases r <;> rfl
    rw [t] at h32
    unfold aftF
    dsimp only
    rw [if_neg (fun z => h32 (by rw [z]))]
    by_cases e : c = 47
    · rw [if_pos e, if_pos (by decide)]
    · rw [if_neg e]
      by_cases e : c = 59
      · rw [if_pos e, if_pos (by decide)]
      · rw [if_neg e]
theorem numsL_snoc (n : Nat) (ns : List Nat) (m : Nat) : numsL (n :: (ns ++ [m])) = numsL (n :: ns) ++ 32 :: numL m := by
  rw [numsL_cons, numsL_cons, List.map_append, List.append_assoc]
  congr 1
  unfold rstJ
  rw [List.map_append, List.flatten_append]
  simp
end G
namespace G
open PySem PySem.Spec PyProof.Rows L2 TL
/-! ### a joined text, split -/
theorem split_L {s : Nat} {ls : List (List Nat)} (hs : s < 256) (hne : ls ≠ []) (h : ∀ l ∈ ls, s ∉ l) : Txt.split ⟨(joinL [s] ls).toArray⟩ ⟨#[s]⟩ = ls.map fun l => (⟨l.toArray⟩ : Str) := by
  have e : (⟨(joinL [s] ls).toArray⟩ : Str) = Txt.join ⟨#[s]⟩ (ls.map fun l => (⟨l.toArray⟩ : Str)) := by
    rw [join_eq]
    refine ext_tl ?_
    rw [tl_join, List.map_map]
    have e2 : (tl ∘ fun l : List Nat => (⟨l.toArray⟩ : Str)) = id := by
      funext l
      exact tl_mk l
    rw [e2, List.map_id]
  rw [e]
  refine split_join (s := s) (S := []) rfl (by simp [hs]) (fun z => hne (List.map_eq_nil_iff.mp z)) fun p hp => ?_
  obtain ⟨l, hl, rfl⟩ := List.mem_map.mp hp
  rw [tl_mk]
  exact h l hl
theorem numL_dig {n : Nat} (h : n < 100) : ∀ c ∈ numL n, 48 ≤ c ∧ c ≤ 57 := by
  intro c hc
  rcases numL_small n h with ⟨_, e⟩ | ⟨_, e⟩
  · rw [e] at hc
    have := List.mem_singleton.mp hc
    omega
  · rw [e] at hc
    simp only [List.mem_cons, List.not_mem_nil, or_false] at hc
    rcases hc with rfl | rfl <;> omega
theorem joinL_mem {s : Nat} : ∀ {ls : List (List Nat)} {c : Nat}, c ∈ joinL [s] ls → c = s ∨ ∃ l ∈ ls, c ∈ l
  | [], c, h => nomatch h
  | [l], c, h => .inr ⟨l, List.mem_cons_self, h⟩
  | l :: m :: r, c, h => by
    have h2 : c ∈ l ++ ([s] ++ joinL [s] (m :: r)) := h
    rcases List.mem_append.mp h2 with h2 | h2
    · exact .inr ⟨l, List.mem_cons_self, h2⟩
    rcases List.mem_append.mp h2 with h2 | h2
    · exact .inl (List.mem_singleton.mp h2)
    · rcases joinL_mem h2 with h3 | ⟨l2, h3, h4⟩
      · exact .inl h3
      · exact .inr ⟨l2, List.mem_cons_of_mem _ h3, h4⟩
theorem numsL_mem {ns : List Nat} (h : ∀ x ∈ ns, x < 100) {c : Nat} (hc : c ∈ numsL ns) : c = 32 ∨ (48 ≤ c ∧ c ≤ 57) := by
  unfold numsL at hc
  rcases joinL_mem hc with e | ⟨l, hl, hc⟩
  · exact .inl e
  · obtain ⟨n, hn, rfl⟩ := List.mem_map.mp hl
    exact .inr (numL_dig (h n hn) c hc)
theorem rowsL_mem {rs : List (List Nat)} (h : ∀ r ∈ rs, ∀ x ∈ r, x < 100) {c : Nat} (hc : c ∈ joinL [47] (rs.map numsL)) : c = 47 ∨ c = 32 ∨ (48 ≤ c ∧ c ≤ 57) := by
  rcases joinL_mem hc with e | ⟨l, hl, hc⟩
  · exact .inl e
  · obtain ⟨r, hr, rfl⟩ := List.mem_map.mp hl
    exact .inr (numsL_mem (h r hr) hc)
end G
set_option Elab.async false
set_option linter.all false
set_option maxRecDepth 100000
set_option maxHeartbeats 4000000
namespace G
open PySem PySem.Spec PyProof.Rows L2
/-! ### try: .. with several clauses 'except C as n: ..' -/
abbrev Hd := Value × Nat × (Addr → Value → Option Addr → TS)
/-- what the clauses, one after another, wish of an exception of the body -/
def wAll (K : PySem.W.Frag) (Wout : WX) (D : Ends) : List Hd → WX
  | [] => Wout
  | h :: l => wAs K h.1 h.2.1 h.2.2 (wAll K Wout D l) D
inductive HdAs (X : Cx) : List ExceptHandler → List Hd → Prop
  | nil : HdAs X [] []
  | cons {x n : Str} {c : Value} {i : Nat} {ts : Addr → Value → Option Addr → TS} {b₀ : Stmt} {suite : List Stmt} {np pos' : Pos} {hds : List ExceptHandler} {l : List Hd} (hi : X.N[i]? = some n) (hln : X.env.kindOf n = some .local) (hc : Names X x c)
      (hsu : ∀ (a : Addr) (oe : Obj) (cls : Value) (d : Option Addr) (pn : List (Addr × Obj)), Zc cls d oe → (∃ vs, oe.data = .fields vs) → PSs (X.suite a ((a, oe) :: pn)) (b₀ :: suite) (ts a cls d)) (r : HdAs X hds l) :
      HdAs X (.ExceptHandler (some (.Name x np)) (some n) (b₀ :: suite) pos' :: hds) ((c, i, ts) :: l)
section
variable {X : Cx} {pins : List (Addr × Obj)} {Wout : WX} {D : Ends}
/-- an exception of the body, landed in this frame -/
structure Lnd (X : Cx) (pins : List (Addr × Obj)) (σ : L2.St) (H : Hp) (a : Addr) (cls : Value) (d : Option Addr) (B : Heap) (sI s : Shared) : Prop where
  ok : X.Ok
  hs : X.stack = X.env :: X.outer
  hf : X.env.frame = some X.env.locals
  J : Inv X pins σ H sI
  nb : ∀ b o, sI.heap.get? b = some o → b ∉ L2.frs X.stack → B.get? b = some o
  up : sI.heap.UpToSlots s.heap
  os : s.os = sI.os
  ag : AllBare s.gens
  na : H a = none
  fl : HandSPX.FlyingZ B (X.env :: X.outer) a (Zc cls d) s.heap
variable {σ : L2.St} {H : Hp} {a : Addr} {cls : Value} {d : Option Addr} {B : Heap} {sI s : Shared}
theorem Lnd.inv (h : Lnd X pins σ H a cls d B sI s) : Inv X pins σ H s := h.J.landed h.nb h.fl.1 h.up h.os h.ag
theorem Lnd.move (h : Lnd X pins σ H a cls d B sI s) {h' : Heap} (fl : HandSPX.FlyingZ B (X.env :: X.outer) a (Zc cls d) h') (u : s.heap.UpToSlots h') : Lnd X pins σ H a cls d B sI { s with heap := h' } :=
  ⟨h.ok, h.hs, h.hf, h.J, h.nb, h.up.trans u, h.os, h.ag, h.na, fl⟩
theorem Lnd.obj (h : Lnd X pins σ H a cls d B sI s) : ∃ oe vs, s.heap.get? a = some oe ∧ Zc cls d oe ∧ oe.data = .fields vs ∧ a ≠ X.env.locals ∧ a ∉ X.fs := by
  obtain ⟨oe, vs, e, z, dd⟩ := h.fl.there
  have out : a ∉ L2.frs (X.env :: X.outer) := fun hm => by
    obtain ⟨_, o', e', hn⟩ := h.fl.2.2.1.mem hm
    rw [e] at e'
    cases e'
    exact hn _ dd
  refine ⟨oe, vs, e, z, dd, fun q => out ?_, fun q => out ?_⟩
  · exact List.mem_filterMap.mpr ⟨X.env, List.mem_cons_self, by rw [h.hf, q]⟩
  · obtain ⟨x, hx, e2⟩ := List.mem_filterMap.mp q
    exact List.mem_filterMap.mpr ⟨x, List.mem_cons_of_mem _ hx, e2⟩
/-- no clause is left: it goes on -/
theorem Lnd.pass (h : Lnd X pins σ H a cls d B sI s) (tk : Takes X Wout) (w : Wout cls d σ H) : wpAny (model X.prog X.w) X.A (handleBy (.ref a) X.env []) (SP X pins D) X.xe s := by
  refine wpAny_handleBy_nil ?_
  obtain ⟨_, _, _, oe, vs, T, oT, ts', he, hz, hd, h1, _⟩ := id h.fl
  unfold PySem.passOn
  refine wpAny_bind (wpAny_field he hd h1 ?_)
  rw [if_neg (show ¬ ((Value.ref T == Value.none) = true) from by simp)]
  have up : wpAny (model X.prog X.w) X.A (setFlight (.ref a) X.env.frame) (fun _ s4 => wpAny (model X.prog X.w) X.A (throw (.ref a) : Sem Flow) (SP X pins D) X.xe s4) X.xe s := by
    rw [h.hf]
    refine HandSPX.setFlight_upZ h.fl fun h4 hh u => wpAny_throw (tk _ _ ?_)
    exact ⟨a, B, sI, pins, σ, H, cls, d, rfl, h.J, h.nb, h.up.trans u, .inr (.inr (by rw [h.hs]; exact hh)), h.na, h.os, h.ag, w⟩
  first
    | exact wpAny_bind (wpAny_pure (wpAny_bind up))
    | exact wpAny_bind up
/-- one clause, and what stands behind it -/
theorem Lnd.clause {x n : Str} {c : Value} {i : Nat} {ts : Addr → Value → Option Addr → TS} {b₀ : Stmt} {suite : List Stmt} {np pos' : Pos} {hds : List ExceptHandler} {W : WX} (h : Lnd X pins σ H a cls d B sI s)
    (hN : X.N.Nodup) (hi : X.N[i]? = some n) (hln : X.env.kindOf n = some .local) (hc : Names X x c)
    (hsu : ∀ (a : Addr) (oe : Obj) (cls : Value) (d : Option Addr) (pn : List (Addr × Obj)), Zc cls d oe → (∃ vs, oe.data = .fields vs) → PSs (X.suite a ((a, oe) :: pn)) (b₀ :: suite) (ts a cls d))
    (w : wAs X.K c i ts W D cls d σ H) (rest : W cls d σ H → wpAny (model X.prog X.w) X.A (handleBy (.ref a) X.env hds) (SP X pins D) X.xe s) :
    wpAny (model X.prog X.w) X.A (handleBy (.ref a) X.env (.ExceptHandler (some (.Name x np)) (some n) (b₀ :: suite) pos' :: hds)) (SP X pins D) X.xe s := by
  obtain ⟨b, hb, yes, no⟩ := w
  obtain ⟨oe, vs, he, hz, hd, nL, nF⟩ := h.obj
  have S := h.inv.suite he hd h.na nL nF
  have look := PySem.W.exm_one (M := model X.prog X.w) h.inv.kIn (show PySem.W.Looks (model X.prog X.w) s.heap (typeOf (.ref a)) cls from fun A Q E s' k q => wpAny_typeOf_ref (k _ _ he) (by rw [hz.1]; exact q)) hb
  have ask : ∀ {Q : Value → Shared → Prop} {E : Value → Shared → Prop}, Q c s → wpAny (model X.prog X.w) (X.A.mark (some (.ref a))) (eval (.Name x np) X.env) Q E s := fun {Q E} q => by
    obtain ⟨hg, hdb, hm | ⟨hm, hv, hnn⟩⟩ := hc
    · exact ld_glob (X := X.suite a ((a, oe) :: (X.pn ++ pins))) S hg hm q hdb
    · exact ld_blt (X := X.suite a ((a, oe) :: (X.pn ++ pins))) S hg hm hv q hnn hdb
  refine wpAny_handleBy_cons (codeAny_handlers_test ?_) (by intro q; cases q)
  refine ask (look.here ?_)
  cases b with
  | false => exact rest (no rfl)
  | true =>
    refine codeAny_handlers_suite_as (HandSPX.lands_againZ h.fl fun h4 fl4 up4 => ?_)
    have h' := h.move fl4 up4
    obtain ⟨oe', vs', he', hz', hd', nL', nF'⟩ := h'.obj
    refine store_ok (X := X.suite a ((a, oe') :: (X.pn ++ pins))) (v := .ref a) (h'.inv.suite he' hd' h.na nL' nF') hN hi (.inl hln) rfl (fun s5 S5 => ?_) (.inr hln)
    refine wpAny_mono ((hsu a oe' cls d (X.pn ++ pins) hz' ⟨_, hd'⟩).run [] s5 _ H _ S5 (yes rfl a h.na)) (fun f s6 r => ?_) (fun _ _ z => False.elim z)
    have gone : ∀ {σ6 : L2.St} {H6 : Hp} {Q : Shared → Prop}, Inv (X.suite a ((a, oe') :: (X.pn ++ pins))) [] σ6 H6 s6 → (∀ s7, Inv X pins (σ6.set i none) H6 s7 → Q s7) →
        wpAny (model X.prog X.w) X.A (do bindName X.env n .none; unbindBehindTheSuite X.env n pos') (fun _ s7 => Q s7) X.xe s6 := fun {σ6 H6 Q} S6 hq => gone_ok (S6.unsuite h.ok) hN hi hln hq
    cases f with
    | ret u =>
      obtain ⟨v6, σ6, H6, S6, r6, q6⟩ := r
      exact gone S6 fun s7 J7 => ⟨_, _, _, J7, r6, q6⟩
    | next =>
      obtain ⟨σ6, H6, S6, q6⟩ := r
      exact gone S6 fun s7 J7 => ⟨_, _, J7, q6⟩
    | brk =>
      obtain ⟨σ6, H6, S6, q6⟩ := r
      exact gone S6 fun s7 J7 => ⟨_, _, J7, q6⟩
    | cont =>
      obtain ⟨σ6, H6, S6, q6⟩ := r
      exact gone S6 fun s7 J7 => ⟨_, _, J7, q6⟩
theorem Lnd.all {hds : List ExceptHandler} {l : List Hd} (hk : HdAs X hds l) (hN : X.N.Nodup) (tk : Takes X Wout) (h : Lnd X pins σ H a cls d B sI s) (w : wAll X.K Wout D l cls d σ H) : wpAny (model X.prog X.w) X.A (handleBy (.ref a) X.env hds) (SP X pins D) X.xe s := by
  induction hk with
  | nil => exact h.pass tk w
  | cons hi hln hc hsu r ih => exact h.clause hN hi hln hc hsu w ih
theorem pass_flow {f : Flow} {s1 : Shared} {pn' : List (Addr × Obj)} {xe : Value → Shared → Prop} (ok : X.Ok) (h : SP (X.tr (X.pn ++ pins) xe) pn' D f s1) : SP X pins D f s1 := by
  cases f with
  | ret u =>
    obtain ⟨v, σ', H', J, r, q⟩ := h
    exact ⟨v, σ', H', J.ofTry ok, r, q⟩
  | next =>
    obtain ⟨σ', H', J, q⟩ := h
    exact ⟨σ', H', J.ofTry ok, q⟩
  | brk =>
    obtain ⟨σ', H', J, q⟩ := h
    exact ⟨σ', H', J.ofTry ok, q⟩
  | cont =>
    obtain ⟨σ', H', J, q⟩ := h
    exact ⟨σ', H', J.ofTry ok, q⟩
variable {body : List Stmt} {h₀ : ExceptHandler} {hds : List ExceptHandler} {l : List Hd} {pos : Pos} {tb : WX → TS}
def tTryAll (K : PySem.W.Frag) (l : List Hd) (tb : WX → TS) (Wout : WX) : TS := fun D σ H => tb (wAll K Wout D l) D σ H
theorem r_tryAll {K : PySem.W.Frag} (h : tb (wAll K Wout D l) D σ H) : tTryAll K l tb Wout D σ H := h
/-- THE RULE for try: body / except C as n: suite / except C2 as n2: suite2 .. -/
theorem ps_tryAll (hs : X.stack = X.env :: X.outer) (hf : X.env.frame = some X.env.locals) (hN : X.N.Nodup) (tk : Takes X Wout)
    (hb : ∀ (W : WX) (pn : List (Addr × Obj)) (xe : Value → Shared → Prop), Takes (X.tr pn xe) W → PassesOwn (model X.prog X.w) X.A X.env xe → PSs (X.tr pn xe) body (tb W))
    (hk : HdAs X (h₀ :: hds) l) : PS X (.Try body (h₀ :: hds) [] [] pos) (tTryAll X.K l tb Wout) := by
  refine ⟨fun pins s σ H D I h => ?_⟩
  have hfr : X.A.frames = some (X.env :: X.outer) := by rw [I.ok.frames, hs]
  refine wpAny_Try_except (wpAny_mono ((hb (wAll X.K Wout D l) (X.pn ++ pins) (fun e s₁ => wpAny (model X.prog X.w) X.A (noteFrame e X.env) (fun _ s₂ => wpAny (model X.prog X.w) X.A (setFlight e none) (fun _ s₃ =>
    wpAny (model X.prog X.w) X.A (handleBy e X.env (h₀ :: hds)) (SP X pins D) X.xe s₃) X.xe s₂) X.xe s₁) (fun u s' xx => ?_) PassesOwn.looking).run [] s σ H D (I.toTry _) h) (fun f s1 q => ?_) (fun e s1 q => q))
  · obtain ⟨a, B, sI, pins', σ', H', cls, d, rfl, J, nb, up, sky, na, os, ag, w⟩ := xx
    show wpAny (model X.prog X.w) X.A (noteFrame (.ref a) X.env) _ _ _
    refine Sky.land Zc.steady hfr hf (show Sky B (X.env :: X.outer) a (Zc cls d) X.env.locals s'.heap by rw [← hs]; exact sky) fun h3 fl3 up3 => ?_
    exact Lnd.all hk hN tk ⟨I.ok, hs, hf, J.ofTry I.ok, nb, up.trans up3, os, ag, na, fl3⟩ w
  · have q' := pass_flow I.ok q
    cases f with
    | next => exact wpAny_execs_nil q'
    | brk => exact q'
    | cont => exact q'
    | ret u => exact q'
end
end G
set_option Elab.async false
set_option linter.all false
set_option maxRecDepth 100000
set_option maxHeartbeats 4000000
namespace G
open PySem PySem.Spec PyProof.Rows L2
/-! ### try: .. with several clauses 'except C as n: ..' -/
inductive HdAsN (X : Cx) : List ExceptHandler → List Hd → Prop
  | nil : HdAsN X [] []
  | cons {x n : Str} {c : Value} {i : Nat} {ts : Addr → Value → Option Addr → TS} {b₀ : Stmt} {suite : List Stmt} {np pos' : Pos} {hds : List ExceptHandler} {l : List Hd} (hi : X.N[i]? = some n) (hln : X.env.kindOf n = some .local) (hc : Names X x c)
      (hsu : ∀ (a : Addr) (oe : Obj) (cls : Value) (d : Option Addr) (pn : List (Addr × Obj)), L2N.Zn cls d oe → (∃ vs, oe.data = .fields vs) → PSs (X.suite a ((a, oe) :: pn)) (b₀ :: suite) (ts a cls d)) (r : HdAsN X hds l) :
      HdAsN X (.ExceptHandler (some (.Name x np)) (some n) (b₀ :: suite) pos' :: hds) ((c, i, ts) :: l)
section
variable {X : Cx} {pins : List (Addr × Obj)} {Wout : WX} {D : Ends}
/-- an exception of the body, landed in this frame -/
structure LndN (X : Cx) (pins : List (Addr × Obj)) (σ : L2.St) (H : Hp) (a : Addr) (cls : Value) (d : Option Addr) (B : Heap) (sI s : Shared) : Prop where
  ok : X.Ok
  hs : X.stack = X.env :: X.outer
  hf : X.env.frame = some X.env.locals
  J : Inv X pins σ H sI
  nb : ∀ b o, sI.heap.get? b = some o → b ∉ L2.frs X.stack → B.get? b = some o
  up : sI.heap.UpToSlots s.heap
  os : s.os = sI.os
  ag : AllBare s.gens
  na : H a = none
  fl : HandSPX.FlyingZ B (X.env :: X.outer) a (L2N.Zn cls d) s.heap
variable {σ : L2.St} {H : Hp} {a : Addr} {cls : Value} {d : Option Addr} {B : Heap} {sI s : Shared}
theorem hot_of {X : Cx} {a : Addr} {oe : Obj} {cls : Value} {d : Option Addr} {pn : List (Addr × Obj)} (hz : L2N.Zn cls d oe) (hf : ∃ vs, oe.data = .fields vs) : L2H.HotC (X.suite a ((a, oe) :: pn)) := by
  obtain ⟨vs, hd⟩ := hf
  exact ⟨(a, oe), ⟨rfl, vs, hd, hz.2.2 vs hd⟩, List.mem_cons_self⟩
/-- around a body nothing is let out -/
theorem takes0N {X : Cx} : L2N.Takes X (fun _ _ _ _ => False) := fun _ _ x => by
  obtain ⟨_, _, _, _, _, _, _, _, _, _, _, _, _, _, _, _, z⟩ := x
  exact z.elim
theorem passXN {X : Cx} {E : XK} (tk : L2N.Takes X fun c d _ H => E c d H) : Passes (L2N.CX X.prog X.w) X E := fun _ _ _ _ e s' I c => tk e s' (L2N.XE.of_call I (fun _ _ _ h => h) c)
theorem LndN.inv (h : LndN X pins σ H a cls d B sI s) : Inv X pins σ H s := h.J.landed h.nb h.fl.1 h.up h.os h.ag
theorem LndN.move (h : LndN X pins σ H a cls d B sI s) {h' : Heap} (fl : HandSPX.FlyingZ B (X.env :: X.outer) a (L2N.Zn cls d) h') (u : s.heap.UpToSlots h') : LndN X pins σ H a cls d B sI { s with heap := h' } :=
  ⟨h.ok, h.hs, h.hf, h.J, h.nb, h.up.trans u, h.os, h.ag, h.na, fl⟩
theorem LndN.obj (h : LndN X pins σ H a cls d B sI s) : ∃ oe vs, s.heap.get? a = some oe ∧ L2N.Zn cls d oe ∧ oe.data = .fields vs ∧ a ≠ X.env.locals ∧ a ∉ X.fs := by
  obtain ⟨oe, vs, e, z, dd⟩ := h.fl.there
  have out : a ∉ L2.frs (X.env :: X.outer) := fun hm => by
    obtain ⟨_, o', e', hn⟩ := h.fl.2.2.1.mem hm
    rw [e] at e'
    cases e'
    exact hn _ dd
  refine ⟨oe, vs, e, z, dd, fun q => out ?_, fun q => out ?_⟩
  · exact List.mem_filterMap.mpr ⟨X.env, List.mem_cons_self, by rw [h.hf, q]⟩
  · obtain ⟨x, hx, e2⟩ := List.mem_filterMap.mp q
    exact List.mem_filterMap.mpr ⟨x, List.mem_cons_of_mem _ hx, e2⟩
/-- no clause is left: it goes on -/
theorem LndN.pass (h : LndN X pins σ H a cls d B sI s) (tk : L2N.Takes X Wout) (w : Wout cls d σ H) : wpAny (model X.prog X.w) X.A (handleBy (.ref a) X.env []) (SP X pins D) X.xe s := by
  refine wpAny_handleBy_nil ?_
  obtain ⟨_, _, _, oe, vs, T, oT, ts', he, hz, hd, h1, _⟩ := id h.fl
  unfold PySem.passOn
  refine wpAny_bind (wpAny_field he hd h1 ?_)
  rw [if_neg (show ¬ ((Value.ref T == Value.none) = true) from by simp)]
  have up : wpAny (model X.prog X.w) X.A (setFlight (.ref a) X.env.frame) (fun _ s4 => wpAny (model X.prog X.w) X.A (throw (.ref a) : Sem Flow) (SP X pins D) X.xe s4) X.xe s := by
    rw [h.hf]
    refine HandSPX.setFlight_upZ h.fl fun h4 hh u => wpAny_throw (tk _ _ ?_)
    exact ⟨a, B, sI, pins, σ, H, cls, d, rfl, h.J, h.nb, h.up.trans u, .inr (.inr (by rw [h.hs]; exact hh)), h.na, h.os, h.ag, w⟩
  first
    | exact wpAny_bind (wpAny_pure (wpAny_bind up))
    | exact wpAny_bind up
/-- one clause, and what stands behind it -/
theorem LndN.clause {x n : Str} {c : Value} {i : Nat} {ts : Addr → Value → Option Addr → TS} {b₀ : Stmt} {suite : List Stmt} {np pos' : Pos} {hds : List ExceptHandler} {W : WX} (h : LndN X pins σ H a cls d B sI s)
    (hN : X.N.Nodup) (hi : X.N[i]? = some n) (hln : X.env.kindOf n = some .local) (hc : Names X x c)
    (hsu : ∀ (a : Addr) (oe : Obj) (cls : Value) (d : Option Addr) (pn : List (Addr × Obj)), L2N.Zn cls d oe → (∃ vs, oe.data = .fields vs) → PSs (X.suite a ((a, oe) :: pn)) (b₀ :: suite) (ts a cls d))
    (w : wAs X.K c i ts W D cls d σ H) (rest : W cls d σ H → wpAny (model X.prog X.w) X.A (handleBy (.ref a) X.env hds) (SP X pins D) X.xe s) :
    wpAny (model X.prog X.w) X.A (handleBy (.ref a) X.env (.ExceptHandler (some (.Name x np)) (some n) (b₀ :: suite) pos' :: hds)) (SP X pins D) X.xe s := by
  obtain ⟨b, hb, yes, no⟩ := w
  obtain ⟨oe, vs, he, hz, hd, nL, nF⟩ := h.obj
  have S := h.inv.suite he hd h.na nL nF
  have look := PySem.W.exm_one (M := model X.prog X.w) h.inv.kIn (show PySem.W.Looks (model X.prog X.w) s.heap (typeOf (.ref a)) cls from fun A Q E s' k q => wpAny_typeOf_ref (k _ _ he) (by rw [hz.1]; exact q)) hb
  have ask : ∀ {Q : Value → Shared → Prop} {E : Value → Shared → Prop}, Q c s → wpAny (model X.prog X.w) (X.A.mark (some (.ref a))) (eval (.Name x np) X.env) Q E s := fun {Q E} q => by
    obtain ⟨hg, hdb, hm | ⟨hm, hv, hnn⟩⟩ := hc
    · exact ld_glob (X := X.suite a ((a, oe) :: (X.pn ++ pins))) S hg hm q hdb
    · exact ld_blt (X := X.suite a ((a, oe) :: (X.pn ++ pins))) S hg hm hv q hnn hdb
  refine wpAny_handleBy_cons (codeAny_handlers_test ?_) (by intro q; cases q)
  refine ask (look.here ?_)
  cases b with
  | false => exact rest (no rfl)
  | true =>
    refine codeAny_handlers_suite_as (HandSPX.lands_againZ h.fl fun h4 fl4 up4 => ?_)
    have h' := h.move fl4 up4
    obtain ⟨oe', vs', he', hz', hd', nL', nF'⟩ := h'.obj
    refine store_ok (X := X.suite a ((a, oe') :: (X.pn ++ pins))) (v := .ref a) (h'.inv.suite he' hd' h.na nL' nF') hN hi (.inl hln) rfl (fun s5 S5 => ?_) (.inr hln)
    refine wpAny_mono ((hsu a oe' cls d (X.pn ++ pins) hz' ⟨_, hd'⟩).run [] s5 _ H _ S5 (yes rfl a h.na)) (fun f s6 r => ?_) (fun _ _ z => False.elim z)
    have gone : ∀ {σ6 : L2.St} {H6 : Hp} {Q : Shared → Prop}, Inv (X.suite a ((a, oe') :: (X.pn ++ pins))) [] σ6 H6 s6 → (∀ s7, Inv X pins (σ6.set i none) H6 s7 → Q s7) →
        wpAny (model X.prog X.w) X.A (do bindName X.env n .none; unbindBehindTheSuite X.env n pos') (fun _ s7 => Q s7) X.xe s6 := fun {σ6 H6 Q} S6 hq => gone_ok (S6.unsuite h.ok) hN hi hln hq
    cases f with
    | ret u =>
      obtain ⟨v6, σ6, H6, S6, r6, q6⟩ := r
      exact gone S6 fun s7 J7 => ⟨_, _, _, J7, r6, q6⟩
    | next =>
      obtain ⟨σ6, H6, S6, q6⟩ := r
      exact gone S6 fun s7 J7 => ⟨_, _, J7, q6⟩
    | brk =>
      obtain ⟨σ6, H6, S6, q6⟩ := r
      exact gone S6 fun s7 J7 => ⟨_, _, J7, q6⟩
    | cont =>
      obtain ⟨σ6, H6, S6, q6⟩ := r
      exact gone S6 fun s7 J7 => ⟨_, _, J7, q6⟩
theorem LndN.all {hds : List ExceptHandler} {l : List Hd} (hk : HdAsN X hds l) (hN : X.N.Nodup) (tk : L2N.Takes X Wout) (h : LndN X pins σ H a cls d B sI s) (w : wAll X.K Wout D l cls d σ H) : wpAny (model X.prog X.w) X.A (handleBy (.ref a) X.env hds) (SP X pins D) X.xe s := by
  induction hk with
  | nil => exact h.pass tk w
  | cons hi hln hc hsu r ih => exact h.clause hN hi hln hc hsu w ih
theorem pass_flowN {f : Flow} {s1 : Shared} {pn' : List (Addr × Obj)} {xe : Value → Shared → Prop} (ok : X.Ok) (h : SP (X.tr (X.pn ++ pins) xe) pn' D f s1) : SP X pins D f s1 := by
  cases f with
  | ret u =>
    obtain ⟨v, σ', H', J, r, q⟩ := h
    exact ⟨v, σ', H', J.ofTry ok, r, q⟩
  | next =>
    obtain ⟨σ', H', J, q⟩ := h
    exact ⟨σ', H', J.ofTry ok, q⟩
  | brk =>
    obtain ⟨σ', H', J, q⟩ := h
    exact ⟨σ', H', J.ofTry ok, q⟩
  | cont =>
    obtain ⟨σ', H', J, q⟩ := h
    exact ⟨σ', H', J.ofTry ok, q⟩
variable {body : List Stmt} {h₀ : ExceptHandler} {hds : List ExceptHandler} {l : List Hd} {pos : Pos} {tb : WX → TS}


/-- THE RULE for try: body / except C as n: suite / except C2 as n2: suite2 .. -/
theorem ps_tryAllN (hs : X.stack = X.env :: X.outer) (hf : X.env.frame = some X.env.locals) (hN : X.N.Nodup) (tk : L2N.Takes X Wout)
    (hb : ∀ (W : WX) (pn : List (Addr × Obj)) (xe : Value → Shared → Prop), L2N.Takes (X.tr pn xe) W → PassesOwn (model X.prog X.w) X.A X.env xe → PSs (X.tr pn xe) body (tb W))
    (hk : HdAsN X (h₀ :: hds) l) : PS X (.Try body (h₀ :: hds) [] [] pos) (tTryAll X.K l tb Wout) := by
  refine ⟨fun pins s σ H D I h => ?_⟩
  have hfr : X.A.frames = some (X.env :: X.outer) := by rw [I.ok.frames, hs]
  refine wpAny_Try_except (wpAny_mono ((hb (wAll X.K Wout D l) (X.pn ++ pins) (fun e s₁ => wpAny (model X.prog X.w) X.A (noteFrame e X.env) (fun _ s₂ => wpAny (model X.prog X.w) X.A (setFlight e none) (fun _ s₃ =>
    wpAny (model X.prog X.w) X.A (handleBy e X.env (h₀ :: hds)) (SP X pins D) X.xe s₃) X.xe s₂) X.xe s₁) (fun u s' xx => ?_) PassesOwn.looking).run [] s σ H D (I.toTry _) h) (fun f s1 q => ?_) (fun e s1 q => q))
  · obtain ⟨a, B, sI, pins', σ', H', cls, d, rfl, J, nb, up, sky, na, os, ag, w⟩ := xx
    show wpAny (model X.prog X.w) X.A (noteFrame (.ref a) X.env) _ _ _
    refine L2N.Sky.land L2N.Zn.steady hfr hf (show Sky B (X.env :: X.outer) a (L2N.Zn cls d) X.env.locals s'.heap by rw [← hs]; exact sky) fun h3 fl3 up3 => ?_
    exact LndN.all hk hN tk ⟨I.ok, hs, hf, J.ofTry I.ok, nb, up.trans up3, os, ag, na, fl3⟩ w
  · have q' := pass_flowN I.ok q
    cases f with
    | next => exact wpAny_execs_nil q'
    | brk => exact q'
    | cont => exact q'
    | ret u => exact q'
end
end G
set_option Elab.async false
set_option linter.all false
set_option maxRecDepth 100000
set_option maxHeartbeats 4000000
namespace G
open PySem PySem.Spec PyProof.Rows L2
/-! ### own errors with an __init__ that says super().__init__(..) and keeps one field -/
/-- what the two levels of the class tell -/
structure SupC (K : PySem.W.Frag) (D : Addr) : Prop where
  T : OexC K D
  so : PySem.W.ks_superIn K D D "__init__" = some (some (.builtin "ValueError.__init__"))
  me : PySem.W.mroIn K D (.ref D) = some true
  ve : PySem.W.subIn K (.ref D) (.type "ValueError") = some true
  op : PySem.W.nsIn K cStatics "thirdparty.any" = some none
section
variable {prog : Program} {w : World} {M : Model} {A : Around} {E : Value → Shared → Prop} {h : Heap} {g : Array GenState} {d : Drawn} {t : Nat} {os : OsState} {K : PySem.W.Frag} {D u e t0 : Addr} {rest : List Value}
/-- the wrapper of ValueError.__init__, called -/
theorem sup_call {Q : Value → Shared → Prop} (X : K.In h) (S : SupC K D) (he : h.get? e = some (HandSPX.excO D t0)) (hu : h.get? u = some (PySem.W.kxs_mw "ValueError.__init__" e)) (hr : rest.length ≤ sizeLine)
    (hq : ∀ h' t1, (∀ b o, b ≠ e → h.get? b = some o → h'.get? b = some o) → h'.get? e = some (HandSPX.excO D t1) → Q .none ⟨h', g, d, t, os⟩) :
    wpAny (model prog w) A (call (.ref u) rest) Q E ⟨h, g, d, t, os⟩ := by
  obtain ⟨nm, q, N, bs, bm, sn, sub, ab, col, dd, k0, k1, k2, k3, k5, hC, hbm⟩ := S.T.cls
  have hC' := X _ _ hC
  refine wpAny_call (codeAny_of_tree ?_)
  show wpAny _ A.in1 (callAny (.ref u) ⟨rest, []⟩) _ _ _
  simp only [callAny]
  refine wpAny_bind (wpAny_load hu ?_)
  simp only [PySem.W.kxs_mw, show (Value.type "method-wrapper" == Value.type "method" || Value.type "method-wrapper" == Value.type "builtin_function_or_method" || Value.type "method-wrapper" == Value.type "method-wrapper") = true by decide, if_true]
  refine PySem.W.KFB.if_so (by decide) ?_
  refine wpAny_bind (PySem.W.check_bound_init F.excBase_ValueError.toExcCallFacts hC' he rfl ?_)
  refine wpAny_bind (wpAny_pure (wpAny_pure ?_))
  refine ⟨plainId_quiet F.excBase_ValueError.init.plain _, codeAny_builtin F.excBase_ValueError.initEntry ?_⟩
  exact PySem.W.exc_init_tree (cls := .ref D) (t0 := t0) (dv := none) (c2 := .none) (c3 := .none) (b4 := .bool false) he hr fun h' k e' _ => hq h' _ k e'
end
end G
namespace G
open PySem PySem.Spec PyProof.Rows L2
abbrev supBody (fld : Str) (arg : Expr) (p0 p1 p2 p3 p4 p5 p6 p7 p8 : Pos) : List Stmt :=
  [.Expr (.Call (.Attribute (.Call (.Name "super" p0) [] [] p1) "__init__" p2) [arg] [] p3) p4, .Assign [.Attribute (.Name "self" p5) fld p6] (.Name fld p7) p8]
structure SupS (fld : Str) (sc : Scope) : Prop where
  kind : sc.kind = .function
  co : sc.isCoroutine = false
  gen : sc.isGenerator = false
  su : sc.names.lookup ("super" : Str) = some .globalImplicit
  cl : sc.names.lookup ("__class__" : Str) = some .free
  se : sc.names.lookup ("self" : Str) = some .local
  fl : sc.names.lookup fld = some .local
  nc : ∀ x ∈ sc.names, x.2 ≠ .cell
  of : ∀ x ∈ sc.names, x.2 = .free → x.1 = "__class__"
/-- the def of such an __init__ -/
structure SupD (K : PySem.W.Frag) (P : Program) (D f : Addr) (fd : FuncData) (fld : Str) (arg : Expr) : Prop where
  ex : ∃ (oc : Value) (od : Option Addr) (name qual : Str) (sc : Scope) (kV doc pm ct : Value) (an : Option Addr) (osl : Array (Option Value)) (cda cc : Addr) (a0 a1 : Option Expr) (q0 q1 p0 p1 p2 p3 p4 p5 p6 p7 p8 : Pos),
    fd = PySem.W.ksFn name qual ⟨[], [⟨"self", a0, q0⟩, ⟨fld, a1, q1⟩], none, [], [], none, []⟩ (supBody fld arg p0 p1 p2 p3 p4 p5 p6 p7 p8) sc .none kV doc pm an (.ref cda) ct cc ∧
    K.lookup f = some ⟨oc, od, .func fd, osl⟩ ∧ PySem.W.codeIn K (.ref cda) qual = true ∧ SupS fld sc ∧ (p2.endLine == p3.line) = true ∧
    (∃ ccl cdd vs ccs file tf, K.lookup cda = some ⟨ccl, cdd, .fields vs, ccs⟩ ∧ vs[2]? = some (.str file tf) ∧ ((P.main.file : Str) == file) = true) ∧
    (∃ cl cld csl, K.lookup cc = some ⟨cl, cld, .cell (some (.ref D)), csl⟩)
  top : (P.main.scope.names.lookup ("super" : Str)).isSome = false
def spSup (D : Addr) (fld : Str) (Gd : V → Prop) : Sp := fun vs H Q _ => ∃ a x, vs = [.ref a, x] ∧ Gd x ∧ H a = some (exo a D none) ∧ ∀ dx, H dx = none → dx ≠ a → Q .non (upd (upd H dx (exd dx [(fld, x)])) a (exo a D (some dx)))
/-- the context of such a body -/
def cxSup (CX : CXT) (P : Program) (w : World) (K : PySem.W.Frag) (mg : Str → Option Value) (base : Heap) (N : List Str) (env : Env) (A : Around) (outer : List Env) (s : Shared) (H : Hp) (E : XK) : Cx where
  prog := P
  w := w
  K := K
  mg := mg
  base := base
  A := A.deeper env
  N := N
  s_0 := s
  H_0 := H
  env := env
  outer := outer
  stack := env :: outer
  ex := []
  calm := true
  fn := fun _ => false
  pn := []
  xe := fun e s' => wpAny (model P w) (A.deeper env) (leaving env e) (fun _ s'' => CX outer H s E e s'') (fun e' s'' => CX outer H s E e' s'') s'
section
variable {P : Program} {w : World} {K : PySem.W.Frag} {mg : Str → Option Value} {base : Heap} {CX : CXT} {k : Nat} {f D : Addr} {fd : FuncData} {fld : Str} {arg : Expr}
theorem sup_inv {A : Around} {outer : List Env} {s : Shared} {H : Hp} {E : XK} {qual : Str} {sc : Scope} {cda cc : Addr} {u0 u1 : Value} {v0 v1 : V} {h0 : Heap} {tk : Nat} (S : SupS fld sc) (hd : A.handled = none) (e0 : Env0 P w K mg base A outer s H) (r0 : RelV v0 u0) (r1 : RelV v1 u1) (hfs : fld ≠ "self")
    (hcell : ∃ cl cld csl, K.lookup cc = some ⟨cl, cld, .cell (some (.ref D)), csl⟩)
    (hns : h0.Ns s.heap.objs.size (fun x => ((["self", fld] : List Str).zip [u0, u1]).reverse.lookup x)) (hk : ∀ b o, s.heap.get? b = some o → h0.get? b = some o) :
    Inv (cxSup CX P w K mg base ["self", fld] (PySem.W.ksEnv qual sc s.heap.objs.size f (.ref cda) cc) A outer s H E) [] [some v0, some v1] H { s with heap := h0, toks := tk } := by
  obtain ⟨cl, cld, csl, hcc⟩ := hcell
  have hb := e0.mod.kin _ _ hcc
  obtain ⟨hs, hH⟩ := e0.bs _ _ hb
  have noA : ∀ b : Addr, b ∉ (cxSup CX P w K mg base ["self", fld] (PySem.W.ksEnv qual sc s.heap.objs.size f (.ref cda) cc) A outer s H E).ex := fun b z => absurd (show b ∈ ([] : List Addr) from z) (by simp)
  have lk1 : ∀ {x : Str} {c : Addr}, ([("__class__", cc)] : List (Str × Addr)).lookup x = some c → x = "__class__" ∧ c = cc := fun {x c} e => by
    simp only [List.lookup_cons, List.lookup_nil] at e
    split at e
    · rename_i q
      exact ⟨by simpa using q, (Option.some.inj e).symm⟩
    · cases e
  have hmem : ∀ {sc : List (Str × NameKind)} {x : Str} {kd : NameKind}, sc.lookup x = some kd → (x, kd) ∈ sc := fun h => PySem.mem_of_lookup h
  refine ⟨⟨e0.mod, S.kind, rfl, rfl, Nat.le_refl _, fun y z c h1 h2 => ?_, fun y hy => ?_, fun y c h => absurd h Bool.false_ne_true, fun _ => hd, Around.frames_deeper e0.frames, .inr ⟨rfl, rfl⟩, fun b z => absurd z (noA b), e0.bs, e0.bsz, fun b _ _ => noA b, fun b z => absurd z (noA b), e0.funs, e0.frf⟩,
    rfl, e0.bare, Un.kept hk, ⟨_, hns, fun i y v h1 h2 h3 => ?_⟩, fun y c h => ?_, e0.hok.fresh (Nat.le_refl _), fun y c h => ?_, fun p hp => absurd (show p ∈ ([] : List (Addr × Obj)) from hp) (by simp), e0.hok.kept hk, rfl⟩
  · rw [(lk1 h1).1, (lk1 h2).1]
  · have hy : sc.names.lookup y = some .cell ∨ sc.names.lookup y = some .free := hy
    rcases hy with hy | hy
    · exact absurd rfl (S.nc _ (hmem hy))
    · obtain rfl : y = "__class__" := S.of _ (hmem hy) rfl
      exact ⟨cc, rfl⟩
  · match i, h1, h2 with
    | 0, h1, h2 =>
      have e1 : y = "self" := (Option.some.inj h1).symm
      have e2 : v = v0 := (Option.some.inj (Option.some.inj h2)).symm
      subst e1 e2
      refine ⟨u0, r0, .inl ⟨S.se, ?_⟩⟩
      show List.lookup ("self" : Str) ([(fld, u1), ("self", u0)] : List (Str × Value)) = some u0
      rw [List.lookup_cons, show (("self" : Str) == fld) = false from beq_eq_false_iff_ne.mpr (Ne.symm hfs)]
      rfl
    | 1, h1, h2 =>
      have e1 : y = fld := (Option.some.inj h1).symm
      have e2 : v = v1 := (Option.some.inj (Option.some.inj h2)).symm
      subst e1 e2
      refine ⟨u1, r1, .inl ⟨S.fl, ?_⟩⟩
      show List.lookup y ([(y, u1), ("self", u0)] : List (Str × Value)) = some u1
      rw [List.lookup_cons, show (y == y) = true from beq_self_eq_true _]
    | n + 2, h1, h2 => cases h2
  · obtain ⟨_, rfl⟩ := lk1 h
    exact ⟨_, _, hk _ _ hs, rfl⟩
  · obtain ⟨_, rfl⟩ := lk1 h
    exact hH
theorem ok_sup {ta : TA} {Gd : V → Prop} (S : SupC K D) (F : SupD K P D f fd fld arg) (hmg : mg "super" = none) (hno : PySem.W.findIn K (.ref D) fld = some none) (hfs : fld ≠ "self") (hdb : (fld == ("__debug__" : Str)) = false) (hcd : (fld == ("__classdict__" : Str)) = false)
    (harg : ∀ X : Cx, X.K = K → X.N = (["self", fld] : List Str) → X.env.scope.names.lookup fld = some .local → PA X [arg] ta)
    (hst : ∀ env, starEach [arg] env = (false, eval arg env) :: starEach [] env)
    (hta : ∀ a x H (R : List V → Hp → Prop), Gd x → (∀ y, R [.str y] H) → ta [some (.ref a), some x] H R)
    (hmc : ∀ env p0 p1 p2 p3, ((p2 : Pos).endLine == (p3 : Pos).line) = true → ∃ pl, eval (.Call (.Attribute (.Call (.Name "super" p0) [] [] p1) "__init__" p2) [arg] [] p3) env = (do
      let ov ← attributeBase (.Call (.Name "super" p0) [] [] p1) "__init__" env (eval (.Call (.Name "super" p0) [] [] p1) env)
      standAt p2.atName
      let (f, first) ← holding [ov] (getMethod ov "__init__" pl)
      callWith p3 f first (backTo p3 (starEach [arg] env)) []))
    : FnOk P w K mg base CX (k + 1) f fd (["self", fld] : List Str) (spSup D fld Gd) := by
  refine ⟨fun vs H Q E h => by obtain ⟨a, x, rfl, _⟩ := h; rfl, fun A outer s H args us vs Q E hr e0 hb r hsp => ?_⟩
  obtain ⟨a, x, rfl, gx, ea, q⟩ := hsp
  obtain ⟨oc, od, name, qual, sc, kV, doc, pm, ct, an, osl, cda, cc, a0, a1, q0, q1, p0, p1, p2, p3, p4, p5, p6, p7, p8, rfl, lk, hcode, SS, hline, hfile, hcell⟩ := F.ex
  have KX : K.In s.heap := e0.mod.kin.keeps fun b o e => (e0.bs b o e).1
  have lim : s.heap.NoLimit := e0.mod.nolimit.keeps fun b o e => (e0.bs b o e).1
  obtain ⟨w0, u1, rfl, rw0, r1⟩ : ∃ w0 u1, us = [w0, u1] ∧ RelV (.ref a) w0 ∧ RelV x u1 := by
    cases r with
    | @cons _ u0 _ ur ra rb =>
      cases rb with
      | @cons _ u1 _ ur2 rc rd =>
        cases rd
        exact ⟨_, _, rfl, ra, rc⟩
  obtain rfl : w0 = Value.ref a := rw0
  refine PySem.ks_codeAny_call_defAt (fd := PySem.W.ksFn name qual _ (supBody fld arg p0 p1 p2 p3 p4 p5 p6 p7 p8) sc .none kV doc pm an (.ref cda) ct cc) (binds := (["self", fld] : List Str).zip [.ref a, u1]) hr.depth (KX _ _ lk) rfl lim (PySem.W.codeRec_of KX hcode) rfl hb SS.nc (fun y hy => ?_) (fun h0 hns hk => ?_) SS.co SS.gen SS.kind
  · rcases List.mem_cons.mp hy with rfl | hy
    · exact SS.se
    · rcases List.mem_cons.mp hy with rfl | hy
      · exact SS.fl
      · cases hy
  have I : Inv (cxSup CX P w K mg base ["self", fld] (PySem.W.ksEnv qual sc s.heap.objs.size f (.ref cda) cc) A outer s H E) [] [some (.ref a), some x] H { s with heap := h0, toks := s.toks + 2 } :=
    sup_inv SS hr.hd e0 rfl r1 hfs hcell hns hk
  have hX : ∃ X, X = cxSup CX P w K mg base ["self", fld] (PySem.W.ksEnv qual sc s.heap.objs.size f (.ref cda) cc) A outer s H E := ⟨_, rfl⟩
  obtain ⟨X, eX⟩ := hX
  have eenv : X.env = PySem.W.ksEnv qual sc s.heap.objs.size f (.ref cda) cc := by rw [eX]; rfl
  have eA : X.A = A.deeper (PySem.W.ksEnv qual sc s.heap.objs.size f (.ref cda) cc) := by rw [eX]; rfl
  have eK : X.K = K := by rw [eX]; rfl
  have eN : X.N = (["self", fld] : List Str) := by rw [eX]; rfl
  have ep : X.prog = P := by rw [eX]; rfl
  have ew : X.w = w := by rw [eX]; rfl
  have pa : PA X [arg] ta := harg X eK eN (by rw [eenv]; exact SS.fl)
  subst eX
  obtain ⟨ccl, cdd, vs0, ccs, file, tf, hcda, hvs, hfl⟩ := hfile
  obtain ⟨cl, cld, csl, hcc⟩ := hcell
  have KI : K.In h0 := by have z := I.kIn; rw [eK] at z; exact z
  obtain ⟨cdD, hcdD⟩ : ∃ cd, PySem.W.clsIn K D = some cd := by
    obtain ⟨nm, q, N, bs, bm, sn, sub, ab, col, dd, k0, k1, k2, k3, k5, hC, hbm⟩ := S.T.cls
    exact ⟨_, by unfold PySem.W.clsIn; rw [hC]⟩
  obtain ⟨oD, hD1, hD2⟩ : ∃ oD, h0.get? D = some oD ∧ oD.data = .cls cdD := by
    unfold PySem.W.clsIn at hcdD
    split at hcdD
    · rename_i c d cd' sl ho
      cases hcdD
      exact ⟨_, KI _ _ ho, rfl⟩
    · cases hcdD
  obtain ⟨t1, hex⟩ := exo_at I.hok ea
  obtain ⟨pl, hpl⟩ := hmc (PySem.W.ksEnv qual sc s.heap.objs.size f (.ref cda) cc) p0 p1 p2 p3 hline
  refine PySem.ks_wpAt_execs_cons (PySem.ks_wpAt_Expr_any (PySem.ks_wpAt_MethodCall ?_ hpl) I.quiet (by rfl))
  refine PySem.ks_wpAt_super_base (env := PySem.W.ksEnv qual sc s.heap.objs.size f (.ref cda) cc) SS.su SS.cl (by decide) rfl (KI _ _ lk) rfl rfl rfl (KI _ _ hcda) rfl hvs hfl F.top ?_
  obtain ⟨mb, hb1, hb2⟩ := e0.mod.blt
  have bk : ∀ b o, base.get? b = some o → h0.get? b = some o := fun b o e => hk _ _ (e0.bs b o e).1
  refine PySem.W.ks_loadName_global SS.kind SS.su (Calls.loadGlobal_builtin (env := PySem.W.ksEnv qual sc s.heap.objs.size f (.ref cda) cc) (e0.mod.glob.keeps bk) hmg (hb1.keeps bk) ((hb2 "super" (by decide)).trans (show bootBuiltins "super" = some (.type "super") from PyProof.Rows.Boot.super)) ⟨rfl, ?_⟩)
  refine wpAny_loadName_free SS.kind SS.cl rfl ⟨_, KI _ _ hcc, rfl⟩ ?_
  refine wpAny_loadName_local SS.kind SS.se hns (v := .ref a) ?_ ?_
  · show List.lookup ("self" : Str) ([(fld, u1), ("self", .ref a)] : List (Str × Value)) = some (Value.ref a)
    rw [List.lookup_cons, show (("self" : Str) == fld) = false from beq_eq_false_iff_ne.mpr (Ne.symm hfs)]
    rfl
  refine PySem.ks_wpAny_isType_cls hD1 hD2 ⟨rfl, ?_⟩
  refine PySem.ks_wpAny_call_super hD1 hD2 hex rfl (fun c e => nomatch e) (PySem.W.looks_mroIn KI S.me) (fun h1 hso hk1 => ?_)
  have I1 := I.kept (t' := s.toks + 2) hk1
  have K1 : K.In h1 := KI.keeps hk1
  have hI : PySem.W.Looks (model P w) h1 (isInstance (.ref a) (.type "ValueError")) true := (show PySem.W.InstAt h1 a _ D none from ⟨hk1 _ _ hex, rfl, rfl, trivial⟩).type.andThen (PySem.W.looks_subIn K1 S.ve)
  have haD : a ≠ D := fun z => by
    rw [z, hD1] at hex
    cases hex
    cases hD2
  have hsup := S.so
  unfold PySem.W.ks_superIn at hsup
  rw [hcdD] at hsup
  refine PySem.W.kxs_getMethod PySem.W.kxs_ValueError hso (PySem.W.looks_opaque K1 S.op) (l₀ := cdD.mro) (fun A Q E s k q => wpAny_bind ((PySem.W.looks_clsIn K1 hcdD) A _ E s k (wpAny_pure q))) rfl K1 hsup hI haD (by decide) ?_
  have I2 := ClX.pin_new (o := PySem.W.kxs_mw "ValueError.__init__" a) (t' := s.toks + 2 + 1) I1 (fun _ _ z => Heap.get?_push_of_some _ z) (Nat.le_refl _) (Heap.get?_push_size h1 rfl) (fun v z => nomatch z)
  have hrun := pa.run p3 _ _ _ H (fun ws H' => H' = H ∧ ∃ y, ws = [.str y]) I2 (hta a x H _ gx fun y => ⟨rfl, y, rfl⟩)
  refine PySem.W.kxs_callWith (i := "ValueError.__init__") (x := a) (by rw [hst]; rfl) ?_
  rw [hst] at hrun ⊢
  refine Calls.evalArgs_plain (wpAny_mono hrun (fun ws s1 hws => ?_) fun _ _ z => z)
  obtain ⟨vs, H1, I3, rv, eH, y, ev⟩ := hws
  subst eH ev
  refine ⟨ClX.pin_at I3, ?_⟩
  obtain ⟨t2, hex2⟩ := exo_at I3.hok ea
  have hlen : ws.length ≤ sizeLine := by rw [← rv.length, sizeLine_eq]; show (1 : Nat) ≤ _; omega
  obtain ⟨hh, g, dr, tk, os⟩ := s1
  refine sup_call (rest := ws) I3.kIn S hex2 (ClX.pin_at I3) hlen fun h' t3 k3 e3 => ?_
  have J := I3.write (t' := tk) (x := a) (e := a) (o := exo a D none) (by rw [ea]; exact True.intro) (.inl rfl) k3 ⟨_, e3⟩ (exo_ok e3)
  have eu : upd H1 a (exo a D none) = H1 := by
    funext b
    by_cases hb : b = a
    · rw [hb, upd_same, ea]
    · rw [upd_ne hb]
  rw [eu] at J
  have J2 := ClX.unpin J
  refine wpAt_of_wpAny (wpAny_mono ((pss_one (ps_ost (pe_var (i := 0) rfl (.inl SS.se)) (pe_var (i := 1) rfl (.inl SS.fl) hdb hcd) (by rfl))).run [] _ _ H1 { nx := fun _ H' => Q .non H', rt := fun _ _ => False } J2 ?_) (fun fl s' hs => ?_) fun _ _ z => z)
  · refine ⟨_, rfl, _, rfl, a, D, rfl, S.T, hno, .inl ⟨ea, fun dx n1 n2 => ?_⟩⟩
    exact q dx n1 n2
  · cases fl with
    | next =>
      obtain ⟨σ', H', J3, q3⟩ := hs
      exact ⟨.non, H', J3.os, J3.bare, J3.base, J3.hok, rfl, q3⟩
    | ret u =>
      obtain ⟨_, _, _, _, _, z⟩ := hs
      exact z.elim
    | brk =>
      obtain ⟨_, _, _, z⟩ := hs
      exact z.elim
    | cont =>
      obtain ⟨_, _, _, z⟩ := hs
      exact z.elim
end
end G
namespace G
open PySem PySem.Spec PyProof.Rows L2
/-! ### the shape of such a def, read off K -/
def supBodyB (fld : Str) : List Stmt → Option Expr
  | [.Expr (.Call (.Attribute (.Call (.Name su _) [] [] _) ini p2) [arg] [] p3) _, .Assign [.Attribute (.Name se _) f2 _] (.Name f3 _) _] => if (p2.endLine == p3.line) = true ∧ su = "super" ∧ ini = "__init__" ∧ se = "self" ∧ f2 = fld ∧ f3 = fld then some arg else none
  | _ => none
theorem supBodyB_ok {fld : Str} {b : List Stmt} {arg : Expr} (h : supBodyB fld b = some arg) : ∃ p0 p1 p2 p3 p4 p5 p6 p7 p8, b = supBody fld arg p0 p1 p2 p3 p4 p5 p6 p7 p8 ∧ (p2.endLine == p3.line) = true := by
  unfold supBodyB at h
  split at h
  · split at h
    · rename_i hh
      obtain ⟨hl, rfl, rfl, rfl, rfl, rfl⟩ := hh
      cases h
      exact ⟨_, _, _, _, _, _, _, _, _, rfl, hl⟩
    · cases h
  · cases h
def supParB (fld : Str) : Arguments → Bool
  | ⟨[], [⟨se, _, _⟩, ⟨fl, _, _⟩], none, [], [], none, []⟩ => decide (se = "self" ∧ fl = fld)
  | _ => false
theorem supParB_ok {fld : Str} {p : Arguments} (h : supParB fld p = true) : ∃ a0 q0 a1 q1, p = ⟨[], [⟨"self", a0, q0⟩, ⟨fld, a1, q1⟩], none, [], [], none, []⟩ := by
  unfold supParB at h
  split at h
  · obtain ⟨rfl, rfl⟩ := of_decide_eq_true h
    exact ⟨_, _, _, _, rfl⟩
  · cases h
def supScB (fld : Str) (sc : Scope) : Bool := decide (sc.kind = .function) && (!sc.isCoroutine && (!sc.isGenerator && (decide (sc.names.lookup ("super" : Str) = some .globalImplicit) && (decide (sc.names.lookup ("__class__" : Str) = some .free) && (decide (sc.names.lookup ("self" : Str) = some .local) && (decide (sc.names.lookup fld = some .local) &&
  (sc.names.all (fun x => !decide (x.2 = .cell)) && sc.names.all fun x => !decide (x.2 = .free) || decide (x.1 = "__class__"))))))))
theorem supScB_ok {fld : Str} {sc : Scope} (h : supScB fld sc = true) : SupS fld sc := by
  unfold supScB at h
  simp only [Bool.and_eq_true, decide_eq_true_eq, Bool.not_eq_true', List.all_eq_true, Bool.or_eq_true, decide_eq_false_iff_not] at h
  obtain ⟨a1, a2, a3, a4, a5, a6, a7, a8, a9⟩ := h
  exact ⟨a1, a2, a3, a4, a5, a6, a7, a8, fun x hx hf => (a9 x hx).resolve_left fun z => z hf⟩
/-- the argument: a text, or an f-string of a text and the field's number -/
def supArgT : Expr → Bool
  | .Constant (.str _) _ _ => true
  | _ => false
def supArgF (fld : Str) : Expr → Bool
  | .JoinedStr [.Constant (.str s) _ _, .FormattedValue (.Name x _) c none _] _ => decide (x = fld ∧ c = -1 ∧ s.length ≤ 2000)
  | _ => false
def Gnum (x : V) : Prop := ∃ i : Int, x = .int i ∧ i.natAbs < 1000000
def supFdB (pr : Program) (K : PySem.W.Frag) (D : Addr) (fld : Str) (num : Bool) (fd : FuncData) : Bool := match fd with
  | ⟨_, qual, params, .stmts body, sc, gl, [(cn, cc)], .none, _, _, _, _, .ref cda, _, bt⟩ => PySem.W.codeIn K (.ref cda) qual && (supParB fld params && (supScB fld sc && (decide (gl = mainGlobals ∧ bt = builtinsNs ∧ cn = "__class__") &&
    ((match K.lookup cda with
      | some ⟨_, _, .fields vs, _⟩ => (match (vs[2]? : Option Value) with
        | some (.str file _) => (pr.main.file : Str) == file
        | _ => false)
      | _ => false) && ((match K.lookup cc with
      | some ⟨_, _, .cell (some (.ref D')), _⟩ => decide (D' = D)
      | _ => false) && (match supBodyB fld body with
      | some arg => if num then supArgF fld arg else supArgT arg
      | none => false))))))
  | _ => false
theorem supFdB_ok {pr : Program} {K : PySem.W.Frag} {D f : Addr} {fld : Str} {num : Bool} {fd : FuncData} {oc : Value} {od : Option Addr} {osl : Array (Option Value)} (h : supFdB pr K D fld num fd = true) (lk : K.lookup f = some ⟨oc, od, .func fd, osl⟩) (ht : (pr.main.scope.names.lookup ("super" : Str)).isSome = false) :
    ∃ arg, SupD K pr D f fd fld arg ∧ (if num then supArgF fld arg else supArgT arg) = true := by
  unfold supFdB at h
  split at h
  · rename_i name qual params body sc gl cn cc kV doc pm an cda ct bt
    simp only [Bool.and_eq_true] at h
    obtain ⟨c1, c2, c3, c4, c5, c6, c7⟩ := h
    obtain ⟨a0, q0, a1, q1, rfl⟩ := supParB_ok c2
    obtain ⟨rfl, rfl, rfl⟩ := of_decide_eq_true c4
    cases hb : supBodyB fld body with
    | none => rw [hb] at c7; cases c7
    | some arg =>
      rw [hb] at c7
      obtain ⟨p0, p1, p2, p3, p4, p5, p6, p7, p8, rfl, hl⟩ := supBodyB_ok hb
      refine ⟨arg, ⟨⟨_, _, _, _, _, _, _, _, _, _, _, _, _, _, _, _, _, _, _, _, _, _, _, _, _, _, rfl, lk, c1, supScB_ok c3, hl, ?_, ?_⟩, ht⟩, c7⟩
      · split at c5
        · split at c5
          · rename_i h1 _ _ _ h2
            exact ⟨_, _, _, _, _, _, h1, h2, c5⟩
          · cases c5
        · cases c5
      · split at c6
        · rename_i h1
          obtain rfl := of_decide_eq_true c6
          exact ⟨_, _, _, h1⟩
        · cases c6
  · cases h
theorem eval_sup {arg : Expr} {env : Env} {p0 p1 p2 p3 : Pos} (hl : (p2.endLine == p3.line) = true) (hf : starEach [arg] env = [(false, eval arg env)]) : ∃ pl, eval (.Call (.Attribute (.Call (.Name "super" p0) [] [] p1) "__init__" p2) [arg] [] p3) env = (do
      let ov ← attributeBase (.Call (.Name "super" p0) [] [] p1) "__init__" env (eval (.Call (.Name "super" p0) [] [] p1) env)
      standAt p2.atName
      let (f, first) ← holding [ov] (getMethod ov "__init__" pl)
      callWith p3 f first (backTo p3 (starEach [arg] env)) []) := by
  have hform : methodCallForm (([arg] : List Expr).length + ([] : List Keyword).length) (backTo p3 (starEach [arg] env)) (backToKw p3 (keywordEach [] env)) = true := by rw [hf]; rfl
  have hpos : methodCallPos true (.Call (.Name "super" p0) [] [] p1) env p2 p3 = pure p3 := by unfold methodCallPos; simp [hl]
  refine ⟨(do return (← importBound (.Call (.Name "super" p0) [] [] p1) env).getD true), ?_⟩
  rw [arm_eval_Call]
  unfold methodCall
  simp only [hform, calleeOf, if_true, hpos, pure_bind]
  rfl
theorem pe_supT {arg : Expr} (h : supArgT arg = true) : ∃ s : Str, (∀ X : Cx, PA X [arg] (tCons (tC (.str s)) tNil)) ∧ (∀ env, starEach [arg] env = (false, eval arg env) :: starEach [] env) ∧ (∀ env p0 p1 p2 p3, ((p2 : Pos).endLine == (p3 : Pos).line) = true → ∃ pl, eval (.Call (.Attribute (.Call (.Name "super" p0) [] [] p1) "__init__" p2) [arg] [] p3) env = (do
      let ov ← attributeBase (.Call (.Name "super" p0) [] [] p1) "__init__" env (eval (.Call (.Name "super" p0) [] [] p1) env)
      standAt p2.atName
      let (f, first) ← holding [ov] (getMethod ov "__init__" pl)
      callWith p3 f first (backTo p3 (starEach [arg] env)) [])) := by
  unfold supArgT at h
  split at h
  · exact ⟨_, fun X => pa_cons pe_str pa_nil, fun _ => rfl, fun _ _ _ _ _ hl => eval_sup hl rfl⟩
  · cases h
theorem pe_supF {fld : Str} {arg : Expr} (hdb : (fld == ("__debug__" : Str)) = false) (hcd : (fld == ("__classdict__" : Str)) = false) (h : supArgF fld arg = true) : ∃ s : Str, s.length ≤ 2000 ∧ (∀ X : Cx, X.N = (["self", fld] : List Str) → X.env.scope.names.lookup fld = some .local → PA X [arg] (tCons (fun σ H Q => tJs [tC (.str s), tFmt (tVar 1)] Str.empty σ H fun out H1 => Q (.str out) H1) tNil)) ∧ (∀ env, starEach [arg] env = (false, eval arg env) :: starEach [] env) ∧ (∀ env p0 p1 p2 p3, ((p2 : Pos).endLine == (p3 : Pos).line) = true → ∃ pl, eval (.Call (.Attribute (.Call (.Name "super" p0) [] [] p1) "__init__" p2) [arg] [] p3) env = (do
      let ov ← attributeBase (.Call (.Name "super" p0) [] [] p1) "__init__" env (eval (.Call (.Name "super" p0) [] [] p1) env)
      standAt p2.atName
      let (f, first) ← holding [ov] (getMethod ov "__init__" pl)
      callWith p3 f first (backTo p3 (starEach [arg] env)) [])) := by
  unfold supArgF at h
  split at h
  · obtain ⟨rfl, rfl, hl⟩ := of_decide_eq_true h
    exact ⟨_, hl, fun X hN hs => pa_cons (pe_joined (PJ.cons pe_str (PJ.cons (pe_fmt (pe_var (i := 1) (by rw [hN]; rfl) (.inl hs) hdb hcd)) PJ.nil))) pa_nil, fun _ => rfl, fun _ _ _ _ _ hl => eval_sup hl rfl⟩
  · cases h
/-- what is known of such an error class: its name x, the one field that it keeps -/
structure OwnI (K : PySem.W.Frag) (P : Program) (mg : Str → Option Value) (x : Str) (C f : Addr) (fd : FuncData) (fld : Str) (Gd : V → Prop) : Prop where
  g : mg x = some (.ref C)
  S : SupC K C
  iC : PySem.W.findIn K (.ref C) "__init__" = some (some (.ref f))
  tI : PySem.W.typeIn K (.ref f) = some (.type "function")
  b : Binds K fd (["self", fld] : List Str) []
  no : PySem.W.findIn K (.ref C) fld = some none
  e : ExcC K C
  xf : XfC K C
  ok : ∀ (w : World) (base : Heap) (CX : CXT) (k : Nat), FnOk P w K mg base CX (k + 1) f fd (["self", fld] : List Str) (spSup C fld Gd)
def oexB (K : PySem.W.Frag) (C : Addr) : Bool := (match K.lookup C with
    | some ⟨.type "type", _, .cls ⟨_, _, .ref C' :: bm, _, _, true, _, _, _, _, false⟩, ⟨[_, _, _, _, some (.builtin n), _]⟩⟩ => decide (C' = C ∧ n = "ValueError.__new__") && PySem.HandSPX.refsVE bm
    | _ => false) && (decide (PySem.W.findIn K (.ref C) "__setattr__" = some (some (.builtin "object.__setattr__"))) && (decide (PySem.W.subIn K (.ref C) (.type "BaseException") = some true) && (decide (PySem.W.typeIn K (.ref C) = some (.type "type")) && PySem.W.keepIn K (.ref C))))
theorem oexB_ok {K : PySem.W.Frag} {C : Addr} (h : oexB K C = true) : OexC K C := by
  unfold oexB at h
  simp only [Bool.and_eq_true, decide_eq_true_eq] at h
  obtain ⟨c1, c2, c3, c4, c5⟩ := h
  refine ⟨?_, c2, c3, c4, c5⟩
  split at c1
  · rename_i h1
    simp only [Bool.and_eq_true, decide_eq_true_eq] at c1
    obtain ⟨⟨rfl, rfl⟩, c⟩ := c1
    exact ⟨_, _, _, _, _, _, _, _, _, _, _, _, _, _, _, h1, c⟩
  · cases c1
def ownIB (pr : Program) (K : PySem.W.Frag) (C : Addr) (fld : Str) (num : Bool) : Bool := oexB K C && (decide (PySem.W.ks_superIn K C C "__init__" = some (some (.builtin "ValueError.__init__"))) && (decide (PySem.W.mroIn K C (.ref C) = some true) && (decide (PySem.W.subIn K (.ref C) (.type "ValueError") = some true) &&
  (decide (PySem.W.nsIn K cStatics "thirdparty.any" = some none) && (decide (PySem.W.findIn K (.ref C) fld = some none) && (excCB K C && (xfB K C && (decide (PySem.W.nsIn K mainGlobals "super" = some none) && (!(pr.main.scope.names.lookup ("super" : Str)).isSome &&
  (match PySem.W.findIn K (.ref C) "__init__" with
    | some (some (.ref f)) => decide (PySem.W.typeIn K (.ref f) = some (.type "function")) && (match K.lookup f with
      | some ⟨_, _, .func fd, _⟩ => supFdB pr K C fld num fd
      | _ => false)
    | _ => false))))))))))
def iniF (K : PySem.W.Frag) (C : Addr) : Addr := match PySem.W.findIn K (.ref C) "__init__" with
  | some (some (.ref f)) => f
  | _ => 0
def iniD (K : PySem.W.Frag) (C : Addr) : FuncData := match K.lookup (iniF K C) with
  | some ⟨_, _, .func fd, _⟩ => fd
  | _ => default
theorem ownI_ok {K : PySem.W.Frag} {P : Program} {mg : Str → Option Value} {h : Heap} {x : Str} {C : Addr} {fld : Str} {num : Bool} (X : K.In h) (G : h.Ns mainGlobals mg) (c : ownIB P K C fld num = true) (g : mg x = some (.ref C)) (hfs : fld ≠ "self") (hdb : (fld == ("__debug__" : Str)) = false) (hcd : (fld == ("__classdict__" : Str)) = false)
    (hbind : ∀ (name qual : Str) (body : List Stmt) (sc : Scope) (kV doc pm cdv ct : Value) (an : Option Addr) (cc : Addr) (a0 a1 : Option Expr) (q0 q1 : Pos) (u0 u1 : Value), bindArgs (PySem.W.ksFn name qual ⟨[], [⟨"self", a0, q0⟩, ⟨fld, a1, q1⟩], none, [], [], none, []⟩ body sc .none kV doc pm an cdv ct cc) ⟨[u0, u1], []⟩ = pure ([("self", u0), (fld, u1)] : List (Str × Value))) :
    OwnI K P mg x C (iniF K C) (iniD K C) fld (if num then Gnum else fun _ => True) := by
  unfold ownIB at c
  simp only [Bool.and_eq_true, decide_eq_true_eq, Bool.not_eq_true'] at c
  obtain ⟨c1, c2, c3, c4, c5, c6, c7, c8, c9, c10, c11⟩ := c
  have S : SupC K C := ⟨oexB_ok c1, c2, c3, c4, c5⟩
  split at c11
  · rename_i f hf
    simp only [Bool.and_eq_true, decide_eq_true_eq] at c11
    obtain ⟨t1, t2⟩ := c11
    have ef : iniF K C = f := by unfold iniF; rw [hf]
    split at t2
    · rename_i oc od fd osl lk
      have ed : iniD K C = fd := by unfold iniD; rw [ef, lk]
      rw [ef, ed]
      obtain ⟨arg, F, ha⟩ := supFdB_ok t2 lk c10
      have hsu := PySem.W.mg_none_of X G c9
      refine ⟨g, S, hf, t1, ?_, c6, excCB_ok c7, xfB_ok c8, fun w base CX k => ?_⟩
      · obtain ⟨_, _, _, _, _, _, _, _, _, _, _, _, _, _, _, _, _, _, _, _, _, _, _, _, _, _, rfl, _⟩ := F.ex
        intro s us _ hl
        rw [List.append_nil] at hl ⊢
        match us, hl with
        | [u0, u1], _ => exact .of_eq (hbind _ _ _ _ _ _ _ _ _ _ _ _ _ _ _ u0 u1)
      · cases num with
        | true =>
          obtain ⟨s, hs, h1, h2, h3⟩ := pe_supF hdb hcd ha
          refine ok_sup (Gd := Gnum) S F hsu c6 hfs hdb hcd (fun X eK eN hl => h1 X eN hl) h2 (fun a x H R gx hR => ?_) h3
          obtain ⟨i, rfl, hi⟩ := gx
          show tJs _ _ _ _ _
          refine js_ok _ _ (fun t ht => ?_) (by show 0 + 2000 * 2 ≤ 100000; decide) fun y => hR y
          simp only [List.mem_cons, List.not_mem_nil, or_false] at ht
          rcases ht with rfl | rfl
          · exact part_c hs
          · exact part_i (log_lt hi) fun Q q => ⟨_, rfl, q⟩
        | false =>
          obtain ⟨s, h1, h2, h3⟩ := pe_supT ha
          exact ok_sup (Gd := fun _ => True) S F hsu c6 hfs hdb hcd (fun X eK eN hl => h1 X) h2 (fun a x H R gx hR => hR s) h3
    · cases t2
  · cases c11
/-! ### raise C(e) -/
def tRaiseI (C : Addr) (fld : Str) (Gd : V → Prop) (W : WX) (ta : TE) : TS := fun _ σ H => tMkO C (spSup C fld Gd) [] (tCons ta tNil) σ H fun cls d H' => W cls d σ H'
section
variable {X : Cx}
theorem ps_raiseI {K : PySem.W.Frag} {P : Program} {mg : Str → Option Value} {C f : Addr} {fd : FuncData} {x fld : Str} {Gd : V → Prop} {e : Expr} {ta : TE} {W : WX} {p pos pos2 : Pos} {k : Nat} (O : OwnI K P mg x C f fd fld Gd) (hP : X.prog = P) (hK : X.K = K) (hmg : X.mg = mg) (hc : X.calm = true) (tk : Takes X W) (hr : Room (k + 2) X.A) (hg : Gl X x) (he : PE X e ta)
    (hs : starEach [e] X.env = (false, eval e X.env) :: starEach [] X.env := by rfl) (hdb : (x == ("__debug__" : Str)) = false := by decide) :
    PS X (.Raise (some (.Call (.Name x p) [e] [] pos)) none pos2) (tRaiseI C fld Gd W ta) := by
  subst hP hK hmg
  exact ps_raise (X := X) (pos := pos2) hc tk (pmk_oex (p := p) (pos := pos) (es := []) (dvs := []) (ds := []) O.S.T O.iC O.tI (O.ok X.w X.base CX0 0) (hr.mono (by omega)) O.b .nil (fun _ _ _ _ _ _ _ z => z.elim) hg O.g (pa_cons he pa_nil hs) hdb hs)
theorem r_raiseI {C : Addr} {fld : Str} {Gd : V → Prop} {W : WX} {ta : TE} {D : Ends} {σ : L2.St} {H : Hp} (h : tCons ta tNil σ H fun vs H1 => vs.length ≤ 1000 ∧ ∀ a, H1 a = none → spSup C fld Gd (.ref a :: (vs ++ [])) (upd H1 a (exo a C none))
  (fun v H2 => v = .non ∧ ∃ (d : Addr) (fs : List (Str × V)), H2 a = some (exo a C (some d)) ∧ H2 d = some (exd d fs) ∧ H1 d = none ∧ W (.ref C) (some d) σ (upd (del H2 a) d (.xd fs))) (fun _ _ _ => False)) : tRaiseI C fld Gd W ta D σ H := h
/-- behind the argument -/
theorem raiseI_in {C : Addr} {fld : Str} {Gd : V → Prop} {Q : XK} {x : V} {H1 : Hp} {E0 : XK} (g : Gd x) (h : ∀ dx, H1 dx = none → Q (.ref C) (some dx) (upd H1 dx (.xd [(fld, x)]))) : [x].length ≤ 1000 ∧ ∀ a, H1 a = none → spSup C fld Gd (.ref a :: ([x] ++ [])) (upd H1 a (exo a C none))
  (fun v H2 => v = .non ∧ ∃ (d : Addr) (fs : List (Str × V)), H2 a = some (exo a C (some d)) ∧ H2 d = some (exd d fs) ∧ H1 d = none ∧ Q (.ref C) (some d) (upd (del H2 a) d (.xd fs))) E0 := by
  refine ⟨by show (1 : Nat) ≤ 1000; decide, fun a ha => ⟨a, x, rfl, g, upd_same, fun dx hd hne => ⟨rfl, dx, [(fld, x)], upd_same, by rw [upd_ne hne]; exact upd_same, ?_, ?_⟩⟩⟩
  · rw [upd_ne hne] at hd
    exact hd
  · have hd1 : H1 dx = none := by
      rw [upd_ne hne] at hd
      exact hd
    have e : upd (del (upd (upd (upd H1 a (exo a C none)) dx (exd dx [(fld, x)])) a (exo a C (some dx))) a) dx (.xd [(fld, x)]) = upd H1 dx (.xd [(fld, x)]) := by
      funext b
      by_cases hb : b = dx
      · rw [hb, upd_same, upd_same]
      · rw [upd_ne hb, upd_ne hb]
        by_cases hba : b = a
        · rw [hba, del_same, ha]
        · rw [del_ne hba, upd_ne hba, upd_ne hb, upd_ne hba]
    rw [e]
    exact h dx hd1
end
theorem passX {X : Cx} {E : XK} (tk : Takes X fun c d _ H => E c d H) : Passes (L2.CX X.prog X.w) X E := fun _ _ _ _ e s' I c => tk e s' (XE.of_call I (fun _ _ _ h => h) c)
/-! ### isinstance(e, c), e the error that the suite holds, with its dict -/
def rIsI (K : PySem.W.Frag) (a : Addr) (cls : Value) (d : Option Addr) : List V → Hp → VK → Prop := fun xs H Q => ∃ (D dd : Addr) (fs : List (Str × V)) (c : V) (cv : Value) (b : Bool), cls = .ref D ∧ d = some dd ∧ ExcC K D ∧ H dd = some (.xd fs) ∧ xs = [.ref a, c] ∧ (∀ u, RelV c u → u = cv) ∧ PySem.W.kitOne K (.ref D) cv = some b ∧ Q (.bl b) H
theorem call_isI {X : Cx} {a : Addr} {oe : Obj} {cls : Value} {d : Option Addr} {pn : List (Addr × Obj)} (hz : Zc cls d oe) (hf : ∃ vs, oe.data = .fields vs) : CallR (X.suite a ((a, oe) :: pn)) (.builtin "isinstance") (rIsI X.K a cls d) := by
  intro pins s σ H xs us Q I r h
  obtain ⟨D, dd, fs, c, cv, b, rfl, rfl, C, hdd, rfl, hcv, e, q⟩ := h
  obtain ⟨u0, u1, rfl, r0, r1⟩ : ∃ u0 u1, us = [u0, u1] ∧ RelV (.ref a) u0 ∧ RelV c u1 := by
    cases r with
    | cons ra rb => cases rb with
      | cons rc rd =>
        cases rd
        exact ⟨_, _, rfl, ra, rc⟩
  obtain rfl : u0 = Value.ref a := r0
  obtain rfl := hcv _ r1
  have hp := (I.pin (a, oe) (List.mem_append.mpr (.inl List.mem_cons_self))).1
  obtain ⟨vs, hv⟩ := hf
  obtain ⟨mA, hns, _⟩ := (show ObjOk _ _ _ _ dd (.xd fs) from I.hok dd _ hdd)
  obtain ⟨od, ho, _⟩ := lookIn_ns hns
  have J : PySem.W.InstAt s.heap a oe D (some od) := ⟨hp, hz.1, by unfold PySem.W.notCls; rw [hv], by rw [hz.2]; exact ho⟩
  have hcl : (PySem.W.clsIn X.K D).isSome = true := by
    have z := C.hd
    unfold PySem.W.hasDictIn at z
    cases e : PySem.W.clsIn X.K D with
    | none => rw [e] at z; exact nomatch z
    | some cd => rfl
  exact PySem.W.kia_one (PySem.W.kitx_exc hcl C.hg C.hk C.hs C.ha C.hn C.ht C.hm) I.kIn J e (fun z => nomatch z) fun tk => ⟨.bl b, H, I.kept (t' := tk) fun _ _ z => z, rfl, q⟩
theorem r_isI {K : PySem.W.Frag} {a D dd : Addr} {fs : List (Str × V)} {c : V} {cv : Value} {b : Bool} {H : Hp} {Q : VK} (hE : ExcC K D) (hd : H dd = some (.xd fs)) (hc : ∀ u, RelV c u → u = cv) (k : PySem.W.kitOne K (.ref D) cv = some b) (q : Q (.bl b) H) : rIsI K a (.ref D) (some dd) [.ref a, c] H Q :=
  ⟨D, dd, fs, c, cv, b, rfl, rfl, hE, hd, rfl, hc, k, q⟩
end G
set_option Elab.async false
set_option linter.all false
set_option maxRecDepth 100000
set_option maxHeartbeats 4000000
/-! own errors that are raised where nothing is handled: their context is None (the rules of GExc and GSup, with that known behind) -/
namespace G
open PySem PySem.Spec PyProof.Rows L2
section
variable {P : Program} {w : World} {K : PySem.W.Frag} {mg : Str → Option Value} {base : Heap}
theorem okXN {x qual : Str} {st : Stmt} {f : Addr} {fd : FuncData} {N ps : List Str} {k : Nat} {sp : Sp} (F : Fun K x qual st f fd) (S : FnScope N ps (defScope st)) (len : ∀ vs H Q E, sp vs H Q E → vs.length = ps.length)
    (hbody : ∀ (cdv : Value) (A : Around) (outer : List Env) (s : Shared) (H : Hp) (vs : List V) (Q : VK) (E : XK), Room k (A.deeper (envOfC qual (defScope st) s.heap.objs.size f cdv)) → sp vs H Q E →
      ∃ t, PSs (cxOf (L2N.CX P w) P w K mg base N qual (defScope st) f cdv A outer s H E) (defBody st) t ∧ t { nx := fun _ H' => Q .non H', rt := Q } (start N vs) H) : FnOk P w K mg base (L2N.CX P w) (k + 1) f fd ps sp := by
  obtain ⟨_, _, _, _, _, _, _, _, _, rfl, lk, hcd⟩ := F.ex
  exact fn_of lk hcd S len fun A outer s H vs Q E hr h => hbody _ A outer s H vs Q E hr h
end
section
variable {X : Cx}
/-- C(e): the new error's context is None -/
theorem made_own {mg : Str → Option Value} {K : PySem.W.Frag} {C : Addr} {x : Str} {e : Expr} {ta : TE} {p pos : Pos} (O : OwnE K mg x C) (hK : X.K = K) (hmg : X.mg = mg) (hg : Gl X x) (he : PE X e ta)
    (hs : starEach [e] X.env = (false, eval e X.env) :: starEach [] X.env) (hdb : (x == ("__debug__" : Str)) = false) : L2N.PMk X (.Call (.Name x p) [e] [] pos) (fun σ H Q => ta σ H fun _ H1 => Q (.ref C) none H1) := by
  subst hK hmg
  intro pins s σ H Q I h
  have R : Raises X (.ref C) := raises_own O.s O.t
  refine wpAny_Call_Name_kw (ld_glob I hg O.g ?_ hdb)
  refine PySem.W.callWith_K (h₀ := X.base) I.ok.mod.kin O.k ?_ hs (by rfl)
  rw [hs]
  refine Calls.spliced_cons (thn (he.run pins s σ H _ I h) fun u s1 got => ?_)
  obtain ⟨v, H1, J, rv, q⟩ := got
  refine Calls.spliced_nil ⟨J.kIn, ?_⟩
  obtain ⟨_, _, _, _, _, _, _, _, _, _, _, _, _, _, _, _, _, hC, hN, hni, T⟩ := exc_obj J.kIn O.x
  refine wpAny_call_exc_subT PySem.F.excBase_ValueError T hC hN hni (fun h' e' hm => ?_) (by show 1 ≤ sizeLine; rw [sizeLine_eq]; omega)
  exact L2N.mk_of J hm R q (J.hok.gone hm.new)
theorem ps_raise1N {K : PySem.W.Frag} {mg : Str → Option Value} {C : Addr} {x : Str} {e : Expr} {ta : TE} {W : WX} {p pos pos2 : Pos} (O : OwnE K mg x C) (hK : X.K = K) (hmg : X.mg = mg) (hc : X.calm = true) (tk : L2N.Takes X W) (hg : Gl X x) (he : PE X e ta)
    (hs : starEach [e] X.env = (false, eval e X.env) :: starEach [] X.env := by rfl) (hdb : (x == ("__debug__" : Str)) = false := by decide) :
    PS X (.Raise (some (.Call (.Name x p) [e] [] pos)) none pos2) (tRaise1 C W ta) :=
  L2N.ps_raise hc tk (made_own O hK hmg hg he hs hdb)
/-- C(e), C with an __init__ of its own -/
theorem made_ini {CX : CXT} {x : Str} {C fI : Addr} {k : Nat} {fd : FuncData} {ps : List Str} {sp : Sp} {e : Expr} {es : List Expr} {ta : TA} {p pos : Pos} (T : OexC X.K C) (iC : PySem.W.findIn X.K (.ref C) "__init__" = some (some (.ref fI))) (tI : PySem.W.typeIn X.K (.ref fI) = some (.type "function"))
    (F : FnOk X.prog X.w X.K X.mg X.base CX k fI fd ps sp) (hr : Room (k + 1) X.A) (hb : Binds X.K fd ps []) (hx : Passes CX X (fun _ _ _ => False)) (hg : Gl X x) (hm : X.mg x = some (.ref C)) (ha : PA X (e :: es) ta)
    (hdb : (x == ("__debug__" : Str)) = false) (he : starEach (e :: es) X.env = (false, eval e X.env) :: starEach es X.env) (hpl : (backTo pos (starEach es X.env)).any (·.1) = false) :
    L2N.PMk X (.Call (.Name x p) (e :: es) [] pos) (tMkO C sp [] ta) := by
  intro pins s σ H Q I h
  obtain ⟨_, _, _, _, bm, _, _, _, _, _, _, _, _, _, _, hC, hbm⟩ := T.cls
  refine wpAny_Call_Name_kw (ld_glob I hg hm ?_ hdb)
  refine PySem.W.callWith_K (h₀ := X.base) I.ok.mod.kin T.kC (thn (ha.run pos pins s σ H _ I h) fun us s1 got => ?_) he hpl
  obtain ⟨vs, H1, J, rv, hz, q⟩ := got
  refine ⟨J.kIn, ?_⟩
  change wpAny _ _ (call (.ref C) us) _ _ _
  obtain ⟨hp, g, dr, tk, os⟩ := s1
  generalize hA : hp.objs.size + 1 = A
  have leA : hp.objs.size ≤ A := by omega
  have hq := q A (J.hok.fresh leA)
  rw [List.append_nil] at hq
  have grow : ∀ b o, hp.get? b = some o → ((hp.push (PySem.W.kdv_tup us)).push (PySem.HandSPX.excO C hp.objs.size)).get? b = some o := fun b o z => Heap.get?_push_of_some _ (Heap.get?_push_of_some _ z)
  have there : ((hp.push (PySem.W.kdv_tup us)).push (PySem.HandSPX.excO C hp.objs.size)).get? A = some (PySem.HandSPX.excO C hp.objs.size) := by
    rw [← hA]
    heap_get
  have J2 : Inv X pins σ (upd H1 A (exo A C none)) ⟨(hp.push (PySem.W.kdv_tup us)).push (PySem.HandSPX.excO C hp.objs.size), g, dr, tk, os⟩ := J.laid (t' := tk) grow leA (exo_ok there)
  have rv2 : Vals (V.ref A :: vs) (Value.ref A :: us) := .cons rfl rv
  have hlen : (Value.ref A :: us ++ []).length = ps.length := by
    have z := rv2.length
    rw [F.len _ _ _ _ hq] at z
    rw [List.append_nil]
    exact z.symm
  have few : us.length ≤ sizeLine := by
    rw [← Paired.length rv, sizeLine_eq]
    omega
  have hb2 := hb _ (Value.ref A :: us) J2.kIn hlen
  rw [List.append_nil] at hb2
  subst hA
  refine wpAny_call (PySem.HandSPX.call_own PySem.F.excBase_ValueError (fun Y => PySem.HandSPX.refsVE_contains Y bm hbm) (J.kIn _ _ hC) (PySem.W.looks_findIn J.kIn iC) (fun self => PySem.W.bind_fn J.kIn self tI) few
    (codeAny_mono (F.run _ X.stack _ _ ⟨Value.ref (hp.objs.size + 1) :: us, []⟩ (Value.ref (hp.objs.size + 1) :: us) _ _ (fun _ _ _ => False) (hr.make C us []) (J2.env0.make C us []) hb2 rv2 hq) fun r s' done => ?_))
  cases r with
  | error er => exact hx pins σ _ _ er s' J2 done
  | ok fl =>
    cases fl with
    | ret u =>
      obtain ⟨v, H2, os2, bare2, un2, hok2, rv', ev, d, fs, ea, ed, hd1, q2⟩ := done
      subst ev
      obtain ⟨h2, g2, d2, t2, os'⟩ := s'
      obtain ⟨t0, G, J3, kG, ge, hoe, na⟩ := mk_end0 (d2 := d2) (t2 := t2) J leA grow un2 hok2 os2 bare2 ea ed hd1
      exact ⟨rv', _, _, _, ⟨G, g2, d2, t2, os'⟩, _, .ref C, some d, rfl, J3, kG, ge, hoe, ⟨rfl, rfl, fun vs hv => by cases hv; rfl⟩, rfl, rfl, na, rfl, bare2, raises_own T.exC T.tyC, q2⟩
    | next => exact False.elim done
    | brk => exact False.elim done
    | cont => exact False.elim done
theorem ps_raiseIN {K : PySem.W.Frag} {P : Program} {mg : Str → Option Value} {C f : Addr} {fd : FuncData} {x fld : Str} {Gd : V → Prop} {e : Expr} {ta : TE} {W : WX} {p pos pos2 : Pos} {k : Nat} (O : OwnI K P mg x C f fd fld Gd) (hP : X.prog = P) (hK : X.K = K) (hmg : X.mg = mg) (hc : X.calm = true) (tk : L2N.Takes X W) (hr : Room (k + 2) X.A) (hg : Gl X x) (he : PE X e ta)
    (hs : starEach [e] X.env = (false, eval e X.env) :: starEach [] X.env := by rfl) (hdb : (x == ("__debug__" : Str)) = false := by decide) :
    PS X (.Raise (some (.Call (.Name x p) [e] [] pos)) none pos2) (tRaiseI C fld Gd W ta) := by
  subst hP hK hmg
  exact L2N.ps_raise (X := X) (pos := pos2) hc tk (made_ini (p := p) (pos := pos) (es := []) O.S.T O.iC O.tI (O.ok X.w X.base CX0 0) (hr.mono (by omega)) O.b (fun _ _ _ _ _ _ _ z => z.elim) hg O.g (pa_cons he pa_nil hs) hdb hs rfl)
end
end G
set_option Elab.async false
set_option linter.all false
set_option maxRecDepth 100000
set_option maxHeartbeats 4000000
namespace G
open PySem PySem.Spec PyProof.Rows L2 He
/-! ### the hook, with the interpreter's own table in sight -/
/-- the part of the heap that is looked at -/
def frY (n : Nat) (g : Addr → Option Obj) : PySem.W.Frag := frT g (cStatics :: asD g n)
def obsY (n : Nat) (fa : List Fa) (fn : List DefD) (ts : List Tab) (tf : List Defn) (ex : PySem.W.Frag → Bool) (g : Addr → Option Obj) : AlX := (obsT fa fn ts (frY n g), ex (frY n g) && tabsB g tf (frY n g))
theorem tab_at {g : Addr → Option Obj} {a : Addr} (h : (match g a with | some o => emptyTab o | none => false) = true) : ∃ o, g a = some o ∧ emptyTab o = true := by
  cases e : g a with
  | none => rw [e] at h; exact nomatch h
  | some o => rw [e] at h; exact ⟨o, rfl, h⟩
theorem saysY {n : Nat} {fa : List Fa} {fn : List DefD} {ts : List Tab} {tf : List Defn} {ex : PySem.W.Frag → Bool} {w : World} {h : Heap} (e : obsY n fa fn ts tf ex h.get? = valX fn ts w) : SaysX fa fn ts tf ex w h (frY n h.get?) := by
  obtain ⟨e1, e2⟩ := Prod.mk.inj e
  obtain ⟨b1, b2⟩ := ba e2
  have all := fun p hp => ba (List.all_eq_true.mp b2 p hp)
  refine ⟨e1, b1, fun p hp => (all p hp).1, fun p hp => ?_, fun p hp => ?_⟩
  · obtain ⟨o, q, z⟩ := tab_at (all p hp).2
    exact frT_none q z
  · obtain ⟨o, q, z⟩ := tab_at (all p hp).2
    rw [q, emptyTab_eq z]
def hookY (n : Nat) (fa : List Fa) (fn : List DefD) (ts : List Tab) (tf : List Defn) (ex : PySem.W.Frag → Bool) : PySem.W.Hook := {
  α := AlX, obs := fun s => obsY n fa fn ts tf ex s.heap.get?, val := fun w => valX fn ts w
  says := fun w h => ∃ K : PySem.W.Frag, K.In h ∧ SaysX fa fn ts tf ex w h K
  of := fun _ _ e => ⟨_, frT_in, saysY e⟩
  keeps := fun _ _ _ z st => z.elim fun K c => ⟨K, PySem.W.Frag.In.keeps c.1 st, c.2.t, c.2.more, c.2.hd, c.2.out, fun p hp => st _ _ (c.2.empty p hp)⟩ }
theorem obsY_eq {n : Nat} {fa : List Fa} {fn : List DefD} {ts : List Tab} {tf : List Defn} {ex : PySem.W.Frag → Bool} {g : Addr → Option Obj} {s : Shared} (h : ∀ a, g a = s.heap.get? a) : obsY n fa fn ts tf ex g = (hookY n fa fn ts tf ex).obs s :=
  congrArg (obsY n fa fn ts tf ex) (funext h)
end G
set_option Elab.async false
set_option linter.all false
set_option maxRecDepth 100000
set_option maxHeartbeats 4000000
/-! lists walked where an error is handled: for, max (HandS.HotCalls has ranges) -/
namespace G
open PySem PySem.Spec PyProof.Rows L2 HotX
section
variable {prog : Program} {w : World} {A : Around} {E : Value → Shared → Prop} {s : Shared}
/-- the list is at its end: StopIteration is raised, and its context is the handled error -/
theorem list_end_hot {it l x1 : Addr} {i : Nat} {items : Array Value} {Q : Option Value → Shared → Prop} (hot : HotAt A x1 s.heap) (hit : s.heap.IsListIter it l i) (hl : s.heap.IsList l items) (hx : items[i]? = none) (hne : x1 ≠ it)
    (hQ : ∀ h', Heap.ExtBut it s.heap h' → Q none { s with heap := h' }) : wpAny (model prog w) A (pyNext (.ref it)) Q E s := by
  obtain ⟨hh, o1, vs1, h1, d1, c1⟩ := hot
  obtain ⟨o, ho, hc, hd⟩ := id hit
  obtain ⟨ol, hol, _, nl, hdl⟩ := hl
  unfold pyNext
  refine wpAny_bind (wpAny_attempt (wpAny_callSpecial?_slot (name := Str.ofString "__next__") hit.typeIs slot_listiter_next
    (wpAny_call_entry slot_listiter_next hit.typeIs entry_listiter_next ?_ (args_listiter_next _))))
  change wpAny _ _ (field (.ref it) 0 >>= _) _ _ s
  refine wpAny_bind (wpAny_field ho hd (x := .ref l) rfl ?_)
  show wpAny _ _ (if (Value.ref l == Value.none) = true then _ else _) _ _ s
  rw [if_neg (show ¬ ((Value.ref l == Value.none) = true) from Bool.false_ne_true)]
  change wpAny _ _ (field (.ref it) 1 >>= _) _ _ s
  refine wpAny_bind (wpAny_field ho hd (x := .int i 0) rfl ?_)
  change wpAny _ _ (seqItems? (.ref l) >>= _) _ _ s
  refine wpAny_bind (wpAny_seqItems hol hdl ?_)
  simp only [Int.toNat_natCast, hx]
  refine wpAny_bind (wpAny_rule (wpAny_bind (wpAny_setField ho hd (by simp) ?_)))
  change wpAny _ _ (newExc (.type "StopIteration") [] >>= _) _ _ _
  refine wpAny_bind ?_
  simp only [newExc, newTuple]
  refine wpAny_bind (wpAny_newObj_type ?_ (by size_fits))
  refine wpAny_bind (m := firstArgMember _ _) (wpAny_of_eq (a := Value.none) (by first | rfl | (simp only [firstArgMember]; rfl)) ?_)
  refine wpAny_newObj_type ?_ (by size_fits)
  have g1 : (s.heap.update it (Obj.mapFields fun x => x.setIfInBounds 0 Value.none)).get? x1 = some o1 := (Heap.get?_update_other _ _ (Ne.symm hne)).trans h1
  refine raiseNew_hot (x1 := x1) ⟨hh, o1, vs1, Heap.get?_push_of_some _ (Heap.get?_push_of_some _ g1), d1, c1⟩ (Nat.ne_of_lt (Heap.lt_size (Heap.get?_push_of_some _ g1))) (Heap.get?_push_size _ rfl) rfl (by first | (simp; done) | (simp; omega) | (simp only [Array.size_append]; simp; omega)) ?_
  refine wpAny_bind (wpAny_isInstance (T := "StopIteration") (b := true) ⟨_, Heap.get?_update_self _ (Heap.get?_push_size _ rfl) rfl, rfl⟩ isSubtype_stop ?_)
  refine wpAny_pure (hQ _ fun b o hb e => ?_)
  have e1 : (s.heap.update it (Obj.mapFields fun x => x.setIfInBounds 0 Value.none)).get? b = some o := (Heap.get?_update_other _ _ (Ne.symm hb)).trans e
  have e2 : ((s.heap.update it (Obj.mapFields fun x => x.setIfInBounds 0 Value.none)).push { cls := Value.type "tuple", data := Data.seq #[] }).get? b = some o := Heap.get?_push_of_some _ e1
  exact (Heap.get?_update_other _ _ (Nat.ne_of_gt (Heap.lt_size e2))).trans (Heap.get?_push_of_some _ e2)
end
/-- the turns of a list -/
theorem turn_listH {P : Program} {w : World} {K : PySem.W.Frag} {tg : Expr} (a it : Addr) : L2H.TurnH P w K tg (Itl K a) [it] it (fun i h => h.IsListIter it a i) where
  mem := by simp
  obj := (turn_list (P := P) (w := w) (K := K) (tg := tg) a it).obj
  keep := (turn_list (P := P) (w := w) (K := K) (tg := tg) a it).keep
  self := (turn_list (P := P) (w := w) (K := K) (tg := tg) a it).self
  item := by
    intro X hP hw hK hc i pins s σ H E I hf st hg
    subst hP hw hK
    obtain ⟨xs, x, hq, hx⟩ := hg
    obtain ⟨its, rv, p, _⟩ := I.list hq
    obtain ⟨u, hu, ru⟩ := rv.get hx
    obtain ⟨n0, n1, _, n3, n4, n5⟩ := hf it (by simp)
    refine wpAny_pyNext_list_item st p.isList (x := u) (by simpa using hu) fun h' st' sb => ?_
    have J : Inv X pins σ H { s with heap := h' } := I.turned (t' := s.toks) (fun b o hb e => (sb.2 b hb).trans e) n0 n1 n3 n4 n5
    obtain ⟨o, e, c, d⟩ := id st'
    exact ⟨u, rfl, go_of (s := { s with heap := h' }) e c d (by decide) ⟨x, H, J, ru, ⟨rfl, fun ys hy => by rw [I.list_inj hy hq]; exact hx⟩, st', fun b hb => (hf b hb).1⟩⟩
  done := by
    intro X hP hw hK hc i pins s σ H E I hf st hg
    subst hP hw hK
    obtain ⟨xs, hq, hx⟩ := hg
    obtain ⟨its, rv, p, _⟩ := I.list hq
    obtain ⟨n0, n1, _, n3, n4, n5⟩ := hf it (by simp)
    have hl := rv.length
    obtain ⟨q, ⟨hh, vs, dd, c2⟩, hq2⟩ := hc
    exact list_end_hot (x1 := q.1) ⟨hh, q.2, vs, (I.pin q (List.mem_append_left _ hq2)).1, dd, c2⟩ st p.isList (by simp; omega) (n5 q (List.mem_append_left _ hq2))
      fun h' eb => ⟨rfl, I.turned (t' := s.toks) (fun b o hb e => eb b o hb e) n0 n1 n3 n4 n5⟩
section
variable {X : Cx} {tg : Expr}
theorem pi_listH {l : Expr} {tl : TE} {K : PySem.W.Frag} (hK : X.K = K) (hl : PE X l tl) : L2H.PIH X tg l (iList K tl) := by
  subst hK
  refine ⟨fun pins s σ H R I h => thn (hl.run pins s σ H _ I h) fun v s1 got => ?_⟩
  obtain ⟨x, H1, J, rx, a, rfl, ⟨xs, hq⟩, q⟩ := got
  cases rx
  obtain ⟨its, rv, p, _⟩ := J.list hq
  refine wpAny_pyIter_list p.isList ⟨s1.heap.objs.size, [s1.heap.objs.size], _, _, H1, rfl, J.kept (t' := s1.toks) fun b o e => Heap.get?_push_of_some _ e, turn_listH a _, ⟨_, Heap.get?_push_size _ rfl, rfl, rfl⟩, fun b hb => ?_, q⟩
  obtain rfl : b = s1.heap.objs.size := by simpa using hb
  exact J.fpOk (Nat.le_refl _) (J.hok.fresh (Nat.le_refl _))
end
/-- a list's iterator, walked by a builtin -/
theorem walks_hot {prog : Program} {w : World} {A : Around} {x1 : Addr} {o1 : Obj} {vs1 : Array Value} (hh : A.handled = some (.ref x1)) (d1 : o1.data = .fields vs1) (c1 : vs1[2]? = some .none) (I l : Addr) (hne : l ≠ I) (hne1 : x1 ≠ I) (items : Array Value) :
    Walks prog w A I [I, l, x1] [I] items.size (fun i v => items[i]? = some v) (fun i h => (h.IsListIter I l i ∧ h.IsList l items) ∧ h.get? x1 = some o1) where
  sub := fun b hb => by simp at hb; simp [hb]
  frame := fun _ _ _ st hk => ⟨⟨st.1.1.at fun o e => hk I (by simp) o e, st.1.2.at fun o e => hk l (by simp) o e⟩, hk x1 (by simp) _ st.2⟩
  item := fun i s Q E hi st hQ => by
    refine wpAny_pyNext_list_item st.1.1 st.1.2 (x := items[i]) (by simp [hi]) fun h' hit' hs' => ?_
    exact hQ _ h' s.toks (by simp [hi]) ⟨⟨hit', st.1.2.extBut hs'.extBut hne⟩, hs'.extBut x1 _ hne1 st.2⟩ fun b o hb e => hs'.extBut b o (fun h => hb (by simp [h])) e
  done := fun s Q E st hQ => list_end_hot ⟨hh, o1, vs1, st.2, d1, c1⟩ st.1.1 st.1.2 (by simp) hne1 fun h' he' => hQ h' s.toks fun b o hb e => he' b o (fun h => hb (by simp [h])) e
  self := fun _ _ _ _ st hQ => wpAny_pyIter_listiter st.1.1 hQ
theorem cr_maxH {X : Cx} {K : PySem.W.Frag} (hK : X.K = K) (hc : L2H.HotC X) : CallR X (.builtin "max") (rMax K) := by
  subst hK
  intro pins s σ H vs us Q I r h
  obtain ⟨a, ns, rfl, hs, h0, q⟩ := h
  obtain ⟨its, rv, p, _⟩ := I.list hs
  rw [Vals.ref1 r]
  obtain ⟨z, ⟨hh, v1, dd, c2⟩, hz⟩ := hc
  have there := (I.pin z (List.mem_append_left _ hz)).1
  have hi := rv.ints
  obtain ⟨xs, e⟩ := hi.allInts.items
  have hn : numsOf (intItems xs).toList = ns := by rw [← e]; exact hi.numsOf
  rw [nums_intItems] at hn
  subst hn
  have hl := p.isList
  rw [e] at hl
  have hsz : 0 < xs.size := by simpa using h0
  refine call_max_walk (iter_intList hl fun s₂ e2 st hfp hlI => ?_)
  subst e2
  have lt1 := Heap.lt_size there
  refine ⟨_, _, _, _, _, _, _, rfl, walks_hot (A := X.A.in1) hh dd c2 _ a hlI (Nat.ne_of_lt lt1) (intItems xs), ⟨st, Heap.get?_push_of_some _ there⟩, fun b hb => ?_, by simpa [intItems] using hsz, CmpOf.ints_gt (numAt xs) (fun _ _ => intItems_at), fun v h' tk hP hk => ?_⟩
  · simp only [List.mem_cons, List.not_mem_nil, or_false] at hb
    rcases hb with rfl | rfl | rfl
    · exact hfp _ (by simp)
    · exact hfp _ (by simp)
    · exact Heap.lt_size (Heap.get?_push_of_some _ there)
  · have hP' : (intItems xs)[argBest (fun i j => decide (numAt xs i > numAt xs j)) (xs.size - 1)]? = some v := by simpa [intItems] using hP
    obtain ⟨t, rfl⟩ := intItems_at hP'
    obtain ⟨h1, h2⟩ := argBest_gt (numAt xs) (xs.size - 1)
    have kept := old_kept hk
    refine ⟨.int _, H, I.kept (t' := tk) kept, ⟨t, rfl⟩, q _ ?_ fun y hy => ?_⟩
    · rw [numAt_eq]
      exact PySem.getD_mem (by rw [List.length_map, Array.length_toList]; omega)
    · obtain ⟨j, hj, rfl⟩ := mem_getD hy
      rw [List.length_map, Array.length_toList] at hj
      rw [← numAt_eq]
      exact h2 j (by omega)
end G
set_option Elab.async false
set_option linter.all false
set_option maxRecDepth 100000
set_option maxHeartbeats 4000000
/-! [.. for .. in ..] where an error is handled -/
namespace G
open PySem PySem.Spec PyProof.Rows L2
/-- the block of such a comprehension: the handled error stays in sight -/
abbrev blkH (X : Cx) (s : Shared) (H : Hp) (scope : Scope) (ce : Env) (fp : List Addr) : Cx := { X.blk s H scope ce fp with pn := X.pn }
section
variable {X : Cx} {pins : List (Addr × Obj)} {s : Shared} {σ : L2.St} {H : Hp}
theorem blkH_ok {s0 : Shared} {H0 : Hp} {scope : Scope} {ce : Env} {fp : List Addr} (ok : (X.blk s0 H0 scope ce fp).Ok) : (blkH X s0 H0 scope ce fp).Ok :=
  ⟨ok.mod, ok.kind, ok.glob, ok.blt, ok.above, ok.inj, ok.has, ok.cab, ok.hd, ok.frames, ok.stk, ok.exf, ok.bs, ok.bsz, ok.noex, ok.exfs, ok.funs, ok.frf⟩
/-- what is pinned outside is pinned inside -/
theorem blkH_inv {s0 s1 : Shared} {σ1 : L2.St} {scope : Scope} {ce : Env} {fp : List Addr} (I : Inv X pins σ H s0) (J : Inv (X.blk s0 H scope ce fp) [] σ1 H s1) (grow : ∀ b o, s0.heap.get? b = some o → s1.heap.get? b = some o) (fresh : s0.heap.objs.size ≤ ce.locals) : Inv (blkH X s0 H scope ce fp) [] σ1 H s1 := by
  refine ⟨blkH_ok J.ok, J.os, J.bare, J.base, J.loc, J.cell, J.free, J.freeC, fun p hp => ?_, J.hok, J.len⟩
  rw [List.append_nil] at hp
  obtain ⟨a1, a2, a3, a4, a5⟩ := I.pin p (List.mem_append_left _ hp)
  refine ⟨grow _ _ a1, a2, Nat.ne_of_lt (Nat.lt_of_lt_of_le (Heap.lt_size a1) fresh), fun hm => ?_, a5⟩
  exact (List.mem_cons.mp (I.stkSub p.1 hm)).elim a3 a4
theorem lc_coreH {Qv : VK} {elt tg iter : Expr} {ifs : List Expr} {scope : Scope} {own : List (Str × Nat)} {pos pos' : Pos} {wi : TI} {g : TG} {tt : TT} {te : TE} {use : Option (Value → Sem Unit)} {Qf : Value → Shared → Prop}
    (hc : L2H.HotC X) (hN : X.N.Nodup) (I : Inv X pins σ H s) (hi : L2H.PIH X tg iter wi) (ok : BlkOk X.N X.env.scope scope own)
    (hg : ∀ (s : Shared) (H : Hp) (C : Addr) (cl : List (Str × Addr)) (fp : List Addr), PG (blkH X s H scope (compEnvC scope cl C X.env) fp) tg g) (ht : ∀ (s : Shared) (H : Hp) (C : Addr) (cl : List (Str × Addr)) (fp : List Addr), PTs (blkH X s H scope (compEnvC scope cl C X.env) fp) ifs tt)
    (he : ∀ (s : Shared) (H : Hp) (C : Addr) (cl : List (Str × Addr)) (fp : List Addr), PE (blkH X s H scope (compEnvC scope cl C X.env) fp) elt te) (hs : ∀ x, foldedSetIterable iter X.env x = pure x)
    (h : tLc wi g tt te (own.map (·.2)) σ H Qv)
    (after : ∀ D C s' m H', Inv X pins σ H' s' → Qv (.ref D) H' → s'.heap.Ns C m → FpOk X pins H' C → compPost (model X.prog X.w) X.A X.xe use Qf (.ref D) C (.ok .next) s') :
    wpAny (model X.prog X.w) X.A (comprehension (.ListComp elt [⟨tg, iter, ifs, 0⟩] scope pos) scope X.env pos' (newList []) false (eval iter X.env) use) Qf X.xe s := by
  have reach : ∀ y ∈ scope.names, y.2 = .free → ∃ c, X.env.cells.lookup y.1 = some c := fun y hy e => (ok.free y hy e).elim (fun k => I.ok.has _ (.inl k)) fun k => I.ok.has _ (.inr k)
  refine wpAny_comprehension_free (use := use) rfl hs (closure_ok reach) ok.kind (fun y hy e => by rw [ok.uniq y hy, e]) (thn (hi.run pins s σ H _ I h) fun xv s1 hx => thn hx fun itv s2 h2 => ?_)
  obtain ⟨it, fp, tn, J, H2, rfl, I2, T, st2, f2, q⟩ := h2
  refine wpAny_newObj_type (newEnv_comp ?_) (by show 0 ≤ sizeLine; decide)
  -- the list that grows
  have dNew : H2 s2.heap.objs.size = none := I2.hok.fresh (Nat.le_refl _)
  obtain ⟨W, ⟨m0, w0⟩, turn⟩ := q _ dNew
  generalize hD : s2.heap.objs.size = D at dNew w0 turn ⊢
  generalize e3 : ({ s2 with heap := s2.heap.push { cls := .type "list", data := .seq ([] : List Value).toArray } } : Shared) = s3
  have g3 : ∀ b o, s2.heap.get? b = some o → s3.heap.get? b = some o := fun b o e => by rw [← e3]; exact Heap.get?_push_of_some _ e
  have z3 : s3.heap.objs.size = s2.heap.objs.size + 1 := by rw [← e3]; exact Heap.size_push ..
  have I3 : Inv X pins σ (upd H2 D (.lst [])) s3 := by
    rw [← e3]
    refine I2.laid (t' := s2.toks) (fun b o e => Heap.get?_push_of_some _ e) (Nat.le_of_eq hD) ⟨Nat.zero_le _, [], 0, .nil, ?_⟩
    rw [← hD]
    exact Heap.get?_push_size _ rfl
  have f3 : ∀ b ∈ fp, FpOk X pins (upd H2 D (.lst [])) b ∧ b < s3.heap.objs.size := fun b hb => by
    obtain ⟨o, eo, _⟩ := T.obj _ _ st2 b hb
    have lt := Heap.lt_size eo
    exact ⟨⟨(upd_ne (by rw [← hD]; exact Nat.ne_of_lt lt)).trans (f2 b hb).1, (f2 b hb).2⟩, by rw [z3]; exact Nat.lt_succ_of_lt lt⟩
  have st3 : tn 0 s3.heap := T.keep _ _ _ st2 fun b _ o e => g3 b o e
  -- the block
  have I4 := block_start I3 ok hN f3
  have pg := hg s3 (upd H2 D (.lst [])) s3.heap.objs.size (cellsFrom (s3.heap.objs.size + 1) scope.names (cloFrom X.env.cells scope.names [])) fp
  have pt := ht s3 (upd H2 D (.lst [])) s3.heap.objs.size (cellsFrom (s3.heap.objs.size + 1) scope.names (cloFrom X.env.cells scope.names [])) fp
  have pe := he s3 (upd H2 D (.lst [])) s3.heap.objs.size (cellsFrom (s3.heap.objs.size + 1) scope.names (cloFrom X.env.cells scope.names [])) fp
  show codeAny _ _ (.compStart (.ListComp elt [⟨tg, iter, ifs, 0⟩] scope pos) 0 (.ref it) (.ref D) (compEnvC scope (cellsFrom (s3.heap.objs.size + 1) scope.names (cloFrom X.env.cells scope.names [])) s3.heap.objs.size X.env)) (compPost (model X.prog X.w) X.A X.xe use Qf (.ref D) s3.heap.objs.size) { s3 with heap := pushCells (s3.heap.push { cls := .type "dict", data := .dict #[] }) scope.names }
  generalize ece : compEnvC scope (cellsFrom (s3.heap.objs.size + 1) scope.names (cloFrom X.env.cells scope.names [])) s3.heap.objs.size X.env = ce at I4 pg pt pe ⊢
  have cL : ce.locals = s3.heap.objs.size := by subst ece; rfl
  generalize upd H2 D (.lst []) = H3 at I3 I4 pg pt pe w0 f3
  have g4 : ∀ b o, s3.heap.get? b = some o → (pushCells (s3.heap.push { cls := .type "dict", data := .dict #[] }) scope.names).get? b = some o := fun b o e => pushCells_keeps _ _ _ _ (Heap.get?_push_of_some _ e)
  generalize e4 : ({ s3 with heap := pushCells (s3.heap.push { cls := .type "dict", data := .dict #[] }) scope.names } : Shared) = s4 at I4 ⊢
  have g4' : ∀ b o, s3.heap.get? b = some o → s4.heap.get? b = some o := fun b o e => by rw [← e4]; exact g4 b o e
  have B4 := blkH_inv I3 I4 g4' (Nat.le_of_eq cL.symm)
  have st4 : tn 0 s4.heap := T.keep _ _ _ st3 fun b _ o e => g4' b o e
  have stat : ∀ {σ' : L2.St} {H' : Hp} {s' : Shared}, Inv (blkH X s3 H3 scope ce fp) [] σ' H' s' → (∀ b ∈ fp, H' b = none) → ∀ b ∈ fp, FpOk (blkH X s3 H3 scope ce fp) [] H' b := fun {σ' H' s'} J' hn b hb =>
    ⟨hn b hb, (J'.ok.exf b hb).1, J'.ok.exfs b hb, .inl hb, fun x c e => (J'.ok.exf b hb).2 x c e, fun p hp => by
      have hp' : p ∈ X.pn := by simpa using hp
      exact (f3 b hb).1.2.2.2.2.2 p (List.mem_append_left _ hp')⟩
  -- turn after turn
  have loop : codeAny (model X.prog X.w) X.A (.compLoop (.ListComp elt [⟨tg, iter, ifs, 0⟩] scope pos) 0 (.ref it) (.ref D) ce) (compPost (model X.prog X.w) X.A X.xe use Qf (.ref D) s3.heap.objs.size) s4 := by
    refine compLoop_any (fun n s' => ∃ i H', Inv (blkH X s3 H3 scope ce fp) [] (wipe σ (own.map (·.2))) H' s' ∧ tn i s'.heap ∧ (∀ b ∈ fp, H' b = none) ∧ W i n H') ?_ m0 ⟨0, H3, B4, st4, fun b hb => (f3 b hb).1.1, w0⟩
    rintro n s5 ⟨i, H5, B5, st5, n5, w5⟩
    rcases turn i n H5 w5 with ⟨stop, fin⟩ | ⟨go, Nx, less, step⟩
    · refine thnF (T.done (blkH X s3 H3 scope ce fp) rfl rfl rfl hc i [] s5 _ H5 (fun _ _ => False) B5 (stat B5 n5) st5 stop) fun r s6 ⟨hr, B6⟩ => ?_
      subst hr
      have I7 : Inv X pins σ H5 s6 := I3.call' (ch := fp) B6.os B6.base B6.hok B6.bare fun b hb => ⟨(f3 b hb).1.2.2.2.1, (f3 b hb).1.2.1, (f3 b hb).1.2.2.2.2.1, (f3 b hb).1.2.2.2.2.2⟩
      have noC : H5 ce.locals = none := B6.free
      obtain ⟨m, hn, _⟩ := B6.loc
      have hn' : s6.heap.Ns ce.locals m := hn
      rw [cL] at hn' noC
      exact after D s3.heap.objs.size s6 m H5 I7 fin hn' (I3.fpOk (Nat.le_refl _) noC)
    · refine thnF (T.item (blkH X s3 H3 scope ce fp) rfl rfl rfl hc i [] s5 _ H5 (fun _ _ => False) B5 (stat B5 n5) st5 go) fun r s6 ⟨u, hr, h6⟩ => ?_
      subst hr
      refine thnF h6 fun _ s7 ⟨x, H7, B7, r7, y7, st7, n7⟩ => ?_
      refine thnF (pg.run _ s7 _ H7 x u _ (B7.pinned (stat B7 n7) (T.obj _ _ st7)) r7 (step x H7 y7)) fun _ s8 ⟨σ8, H8, B8, hw8, q8⟩ => ?_
      refine thnF (pt.run _ s8 σ8 H8 _ B8 q8) fun b s9 ⟨H9, B9, q9⟩ => ?_
      have turned : ∀ {s' : Shared} {H' : Hp}, Inv (blkH X s3 H3 scope ce fp) ([] ++ pinsAt fp s7.heap) σ8 H' s' → Nx H' → ∃ m, m < n ∧ ∃ i H', Inv (blkH X s3 H3 scope ce fp) [] (wipe σ (own.map (·.2))) H' s' ∧ tn i s'.heap ∧ (∀ b ∈ fp, H' b = none) ∧ W i m H' := fun {s' H'} B' nx => by
        obtain ⟨m', hm, w'⟩ := less H' nx
        have held : ∀ b ∈ fp, ∀ o, s7.heap.get? b = some o → s'.heap.get? b = some o ∧ H' b = none := fun b hb o e => by
          obtain ⟨k1, k2, _⟩ := B'.pin (b, o) (List.mem_append_right _ (List.mem_append_right _ (mem_pinsAt hb e)))
          exact ⟨k1, k2⟩
        have hl : (wipe σ (own.map (·.2))).length = σ8.length := by rw [← hw8, wipe_length]
        refine ⟨m', hm, i + 1, H', (B'.unpinned (pins := [])).weak hl (fun j v e => ?_), T.keep _ _ _ st7 fun b hb o e => (held b hb o e).1, fun b hb => ?_, w'⟩
        · rw [← hw8] at e
          exact (wipe_some e).1
        · obtain ⟨o, e, _⟩ := T.obj _ _ st7 b hb
          exact (held b hb o e).2
      cases b with
      | false => exact turned B9 (by simpa using q9)
      | true =>
        simp only [if_true] at q9 ⊢
        refine thnF (pe.run _ s9 σ8 H9 _ B9 q9) fun z s10 ⟨yv, H10, B10, r10, acc, hD10, hz10, nx⟩ => ?_
        exact app_ok (X := blkH X s3 H3 scope ce fp) B10 hD10 hz10 r10 fun s11 B11 => turned B11 nx
  exact codeAny_compStart_list loop (T.self X.A 0 _ _ _ st4 loop)
/-- as a value -/
theorem pe_lcH {elt tg iter : Expr} {ifs : List Expr} {scope : Scope} {own : List (Str × Nat)} {pos : Pos} {wi : TI} {g : TG} {tt : TT} {te : TE} (hc : L2H.HotC X) (hN : X.N.Nodup) (hi : L2H.PIH X tg iter wi) (ok : BlkOk X.N X.env.scope scope own)
    (hg : ∀ (s : Shared) (H : Hp) (C : Addr) (cl : List (Str × Addr)) (fp : List Addr), PG (blkH X s H scope (compEnvC scope cl C X.env) fp) tg g) (ht : ∀ (s : Shared) (H : Hp) (C : Addr) (cl : List (Str × Addr)) (fp : List Addr), PTs (blkH X s H scope (compEnvC scope cl C X.env) fp) ifs tt)
    (he : ∀ (s : Shared) (H : Hp) (C : Addr) (cl : List (Str × Addr)) (fp : List Addr), PE (blkH X s H scope (compEnvC scope cl C X.env) fp) elt te) (hs : ∀ x, foldedSetIterable iter X.env x = pure x := by intro _; rfl) :
    PE X (.ListComp elt [⟨tg, iter, ifs, 0⟩] scope pos) (tLc wi g tt te (own.map (·.2))) := by
  refine ⟨fun pins s σ H Q I h => ?_⟩
  rw [eval_ListComp]
  refine lc_coreH hc hN I hi ok hg ht he hs h fun D C s' m H' J q hn f => ⟨m, hn, fun h'' sb => ?_⟩
  obtain ⟨n0, n1, _, n3, n4, n5⟩ := f
  exact ⟨.ref D, H', J.turned (t' := s'.toks) (fun b o hb e => (sb.2 b hb).trans e) n0 n1 n3 n4 n5, rfl, q⟩
/-- name = [..] on one line, the name a local -/
theorem ps_setLcH {i : Nat} {y : Str} {py : Pos} {elt tg iter : Expr} {ifs : List Expr} {scope : Scope} {own : List (Str × Nat)} {pos spos : Pos} {wi : TI} {g : TG} {tt : TT} {te : TE} (hc : L2H.HotC X) (hN : X.N.Nodup) (hy : X.N[i]? = some y) (hyl : X.env.scope.names.lookup y = some .local)
    (hsw : swapsWith (.ListComp elt [⟨tg, iter, ifs, 0⟩] scope pos) (some (.Name y py)) spos.line X.env = pure true) (hi : L2H.PIH X tg iter wi) (ok : BlkOk X.N X.env.scope scope own)
    (hg : ∀ (s : Shared) (H : Hp) (C : Addr) (cl : List (Str × Addr)) (fp : List Addr), PG (blkH X s H scope (compEnvC scope cl C X.env) fp) tg g) (ht : ∀ (s : Shared) (H : Hp) (C : Addr) (cl : List (Str × Addr)) (fp : List Addr), PTs (blkH X s H scope (compEnvC scope cl C X.env) fp) ifs tt)
    (he : ∀ (s : Shared) (H : Hp) (C : Addr) (cl : List (Str × Addr)) (fp : List Addr), PE (blkH X s H scope (compEnvC scope cl C X.env) fp) elt te) (hs : ∀ x, foldedSetIterable iter X.env x = pure x := by intro _; rfl) :
    PS X (.Assign [.Name y py] (.ListComp elt [⟨tg, iter, ifs, 0⟩] scope pos) spos) (tAsg (tLc wi g tt te (own.map (·.2))) (gName i)) := by
  refine ⟨fun pins s σ H D I h => ?_⟩
  rw [exec_Assign_Name_used _ _ _ _ hsw]
  have h' : tLc wi g tt te (own.map (·.2)) σ H (fun x H1 => gName i x σ H1 D.nx) := h
  refine wpAny_bind (wpAny_standAt (wpAny_bind ?_))
  change wpAny _ X.A (do let _ ← comprehension (.ListComp elt [⟨tg, iter, ifs, 0⟩] scope pos) scope X.env (firstIterPos [⟨tg, iter, ifs, 0⟩] pos) (newList []) false (eval iter X.env) (some (assign (.Name y py) X.env))) _ _ s
  refine wpAny_bind (thn (lc_coreH (Qf := fun _ s' => SP X pins D .next s') hc hN I hi ok hg ht he hs h' fun L C s' m H' J q hn f => ?_) fun _ s' done => wpAny_pure (wpAny_pure done))
  change wpAny _ _ (assign (.Name y py) X.env (.ref L)) _ _ _
  refine wpAny_assign_Name (store_ok2 (v := V.ref L) J hN hy (.inl hyl) rfl (fun s2 J2 ⟨b, sb, hb⟩ => ?_) (.inr hyl))
  obtain ⟨n0, n1, _, n3, n4, n5⟩ := f
  have far : C ≠ b := hb.elim (fun z => by rw [z]; exact n1) fun z e => n4 y b z e.symm
  exact ⟨m, hn.sameBut sb far, fun h3 sb3 => ⟨_, H', J2.turned (t' := s2.toks) (fun b o hb e => (sb3.2 b hb).trans e) n0 n1 n3 n4 n5, q⟩⟩
theorem hu64H {k : Nat} {A : Around} (r : L2H.RoomH k A) : A.units + 64 < cLine := by
  have := r.un
  omega
theorem passAt0 {X : Cx} {E : L2.St → XK} : ∀ σ, PassesAt CX0 X σ (E σ) := fun _ _ _ _ _ _ _ h => False.elim h
theorem roomM {k : Nat} {A : Around} (r : Room k A) (h : Option Value) : L2H.RoomH k (A.mark h) := ⟨r.dp, r.un⟩
/-- a statement that is never reached -/
theorem ps_no {st : Stmt} : PS X st (fun _ _ _ => False) := ⟨fun _ _ _ _ _ _ h => h.elim⟩
end
section
variable {P : Program} {w : World} {K : PySem.W.Frag} {mg : Str → Option Value} {base : Heap} {CX : CXT}
theorem okH {x qual : Str} {st : Stmt} {f : Addr} {fd : FuncData} {N ps : List Str} {k : Nat} {sp : Sp} (F : Fun K x qual st f fd) (S : FnScope N ps (defScope st)) (len : ∀ vs H Q E, sp vs H Q E → vs.length = ps.length)
    (hbody : ∀ (cdv : Value) (A : Around) (outer : List Env) (s : Shared) (H : Hp) (vs : List V) (Q : VK) (E : XK) (p : Addr × Obj), L2H.HotC (L2H.cxH CX P w K mg base N qual (defScope st) f cdv A outer s H E p) → L2H.RoomH k (A.deeper (envOfC qual (defScope st) s.heap.objs.size f cdv)) → sp vs H Q E →
      ∃ t, PSs (L2H.cxH CX P w K mg base N qual (defScope st) f cdv A outer s H E p) (defBody st) t ∧ t { nx := fun _ H' => Q .non H', rt := Q } (L2.start N vs) H) : L2H.FnH P w K mg base CX (k + 1) f fd ps sp := by
  obtain ⟨_, _, _, _, _, _, _, _, _, rfl, lk, hcd⟩ := F.ex
  exact L2H.fn_ofH lk hcd S len fun A outer s H vs Q E p hot hr h => hbody _ A outer s H vs Q E p ⟨p, hot, List.mem_cons_self⟩ hr h
end
end G
set_option Elab.async false
set_option linter.all false
set_option maxRecDepth 100000
set_option maxHeartbeats 4000000
namespace G
open PySem PySem.Spec PyProof.Rows L2
/-! ### a row in a list of rows -/
theorem hu65 {k : Nat} {A : Around} (hr : Room k A) : A.units + 65 < cLine := by
  have := hr.un
  omega
theorem hu64 {k : Nat} {A : Around} (hr : Room k A) : A.units + 64 < cLine := by
  have := hr.un
  omega
theorem any_rows (rs : List (List Nat)) (r : List Nat) : ((rs.map rowD).any fun z => PyData.eqv z (rowD r)) = decide (r ∈ rs) := by
  rw [List.any_map]
  by_cases h : r ∈ rs
  · rw [decide_eq_true h]
    exact List.any_eq_true.mpr ⟨r, h, by show PyData.eqv (rowD r) (rowD r) = true; rw [eqv_rows]; simp⟩
  · rw [decide_eq_false h]
    refine List.any_eq_false.mpr fun y hy e => h ?_
    have e2 : PyData.eqv (rowD y) (rowD r) = true := e
    rw [eqv_rows] at e2
    rw [← of_decide_eq_true e2]
    exact hy
section
variable {X : Cx} {K : PySem.W.Frag} {H : Hp} {Q : VK}
theorem op_inDK (hK : X.K = K) (hu : X.A.units + 65 < cLine) : OpR X (compareOp .In) (rInD K) := hK ▸ op_inD hu
theorem op_notInDK (hK : X.K = K) (hu : X.A.units + 65 < cLine) : OpR X (compareOp .NotIn) (rNotInD K) := hK ▸ op_notInD hu
theorem r_inRow {b p : Addr} {r : List Nat} {qs : List (Addr × List Nat)} (h1 : SqT K H b (r.map iV)) (h2 : SqL K H p (refsV qs)) (hall : ∀ q ∈ qs, SqT K H q.1 (q.2.map iV)) (q : Q (.bl (decide (r ∈ qs.map (·.2)))) H) : rInD K (.ref b) (.ref p) H Q :=
  ⟨rowD r, (qs.map (·.2)).map rowD, (row_of h1).dp, dp_rows h2 hall, shaped_row r, shaped_rows _, by rw [any_rows]; exact q⟩
theorem r_notInRow {b p : Addr} {r : List Nat} {qs : List (Addr × List Nat)} (h1 : SqT K H b (r.map iV)) (h2 : SqL K H p (refsV qs)) (hall : ∀ q ∈ qs, SqT K H q.1 (q.2.map iV)) (q : Q (.bl (!decide (r ∈ qs.map (·.2)))) H) : rNotInD K (.ref b) (.ref p) H Q :=
  ⟨rowD r, (qs.map (·.2)).map rowD, (row_of h1).dp, dp_rows h2 hall, shaped_row r, shaped_rows _, by rw [any_rows]; exact q⟩
end
end G
set_option Elab.async false
set_option linter.all false
set_option maxRecDepth 100000
set_option maxHeartbeats 4000000
namespace G
open PySem PySem.Spec PyProof.Rows L2
/-! ### max of a tuple of numbers -/
theorem reads_ints {h : Heap} {its : List Value} {ns : List Int} (r : IntsAre its ns) : ReadsAll h its (ns.map PyData.int) [] := by
  induction r with
  | nil => exact .nil
  | cons n t _ ih => exact ReadsAll.cons (as := []) (.int n t) ih
theorem alike_ints (ns : List Int) : PySem.W.AlikeAll (ns.map PyData.int) := by
  refine ⟨fun x hx y hy => ?_, fun x hx => ?_⟩
  · obtain ⟨i, _, rfl⟩ := List.mem_map.mp hx
    obtain ⟨j, _, rfl⟩ := List.mem_map.mp hy
    rfl
  · obtain ⟨i, _, rfl⟩ := List.mem_map.mp hx
    exact fun z => nomatch z
theorem fold_max : ∀ (ns : List Int) (n : Int), (List.foldl max n ns = n ∨ List.foldl max n ns ∈ ns) ∧ n ≤ List.foldl max n ns ∧ ∀ y ∈ ns, y ≤ List.foldl max n ns
  | [], n => ⟨.inl rfl, Int.le_refl _, fun y hy => nomatch hy⟩
  | x :: ns, n => by
    obtain ⟨h1, h2, h3⟩ := fold_max ns (max n x)
    rw [List.foldl_cons]
    refine ⟨?_, by omega, fun y hy => ?_⟩
    · rcases h1 with h1 | h1
      · rw [h1]
        by_cases e : n ≤ x
        · exact .inr (by rw [show max n x = x by omega]; exact List.mem_cons_self)
        · exact .inl (by omega)
      · exact .inr (List.mem_cons_of_mem _ h1)
    · rcases List.mem_cons.mp hy with rfl | hy
      · omega
      · exact h3 y hy
def rMaxT (K : PySem.W.Frag) : List V → Hp → VK → Prop := fun vs H Q => ∃ (a : Addr) (ns : List Int), vs = [V.ref a] ∧ SqT K H a (ns.map V.int) ∧ 0 < ns.length ∧ ∀ m, m ∈ ns → (∀ y, y ∈ ns → y ≤ m) → Q (.int m) H
theorem cr_maxT {X : Cx} {K : PySem.W.Frag} (hK : X.K = K) (hc : X.calm = true) (hu : X.A.units + 64 < cLine) : CallR X (.builtin "max") (rMaxT K) := by
  subst hK
  rintro pins s σ H vs us Q I rs ⟨a, ns, rfl, hs, h0, q⟩
  rw [Vals.ref1 rs]
  obtain ⟨its, rv, pl, hz⟩ := I.tuple hs
  have hi := rv.ints
  obtain ⟨n, ms, rfl⟩ : ∃ n ms, ns = n :: ms := by
    cases ns with
    | nil => exact absurd h0 (Nat.lt_irrefl 0)
    | cons n ms => exact ⟨n, ms, rfl⟩
  have hd : PyData.depthAll ((n :: ms).map PyData.int) = 0 := depth_ints _
  refine PySem.W.max_tuple_data (x := PyData.int n) (xs := ms.map PyData.int) (as := []) (I.ok.hd hc) (show s.heap.IsTuple a its.toArray from pl) (reads_ints hi) (alike_ints (n :: ms)) (by rw [← List.map_cons, hd]; omega) (fun i v h' tk bs hv hr hk => ?_)
  rw [PySem.W.maxD_ints] at hr
  obtain ⟨f1, f2, f3⟩ := fold_max ms n
  cases hr with
  | int j t =>
    refine ⟨.int (List.foldl max n ms), H, I.kept (t' := tk) (fun b o e => hk b o e), ⟨t, rfl⟩, q _ ?_ fun y hy => ?_⟩
    · rcases f1 with f1 | f1
      · rw [f1]; exact List.mem_cons_self
      · exact List.mem_cons_of_mem _ f1
    · rcases List.mem_cons.mp hy with rfl | hy
      · exact f2
      · exact f3 y hy
theorem cr_maxLK {X : Cx} {K : PySem.W.Frag} (hK : X.K = K) (hc : X.calm = true) : CallR X (.builtin "max") (rMax K) := hK ▸ cr_max hc
theorem op_catAK {X : Cx} {K : PySem.W.Frag} (hK : X.K = K) : OpR X (binaryOp .Add) (rCatA K) := hK ▸ op_catA
/-! ### rows of whole numbers, also such below zero -/
def rowZ (z : List Int) : PyData := .tuple (z.map PyData.int)
theorem rowD_Z (r : List Nat) : rowD r = rowZ (r.map fun n : Nat => (n : Int)) := by
  unfold rowD rowZ
  rw [nat_ints]
theorem shaped_rowZ (z : List Int) : SeqAt.shaped (rowZ z) = true := by
  refine Bool.and_eq_true_iff.mpr ⟨lay_ints _, decide_eq_true ?_⟩
  show PyData.depthAll (z.map PyData.int) + 1 ≤ 64
  rw [depth_ints]
  decide
theorem eqv_rowZ (a b : List Int) : PyData.eqv (rowZ a) (rowZ b) = decide (a = b) := by
  unfold rowZ
  rw [PyData.eqv, eqv_ints_all]
theorem dtZ {K : PySem.W.Frag} {H : Hp} {p : Addr} {z : List Int} (h : SqT K H p (z.map V.int)) : Dt K H (.ref p) (rowZ z) := .tup h (DtAll.map (α := Int) (f := V.int) (g := PyData.int) (fun n => .int n) z)
theorem any_rowsZ (rs : List (List Nat)) (z : List Int) : ((rs.map rowD).any fun y => PyData.eqv y (rowZ z)) = decide (∃ r ∈ rs, z = r.map fun n : Nat => (n : Int)) := by
  rw [List.any_map]
  by_cases h : ∃ r ∈ rs, z = r.map fun n : Nat => (n : Int)
  · rw [decide_eq_true h]
    obtain ⟨r, hr, rfl⟩ := h
    exact List.any_eq_true.mpr ⟨r, hr, by show PyData.eqv (rowD r) (rowZ (r.map fun n : Nat => (n : Int))) = true; rw [rowD_Z, eqv_rowZ]; simp⟩
  · rw [decide_eq_false h]
    refine List.any_eq_false.mpr fun y hy e => h ⟨y, hy, ?_⟩
    have e2 : PyData.eqv (rowD y) (rowZ z) = true := e
    rw [rowD_Z, eqv_rowZ] at e2
    exact (of_decide_eq_true e2).symm
theorem r_inZ {K : PySem.W.Frag} {H : Hp} {Q : VK} {b p : Addr} {z : List Int} {qs : List (Addr × List Nat)} (h1 : SqT K H b (z.map V.int)) (h2 : SqL K H p (refsV qs)) (hall : ∀ q ∈ qs, SqT K H q.1 (q.2.map iV)) (q : Q (.bl (decide (∃ r ∈ qs.map (·.2), z = r.map fun n : Nat => (n : Int)))) H) : rInD K (.ref b) (.ref p) H Q :=
  ⟨rowZ z, (qs.map (·.2)).map rowD, (dtZ h1).dp, dp_rows h2 hall, shaped_rowZ z, shaped_rows _, by rw [any_rowsZ]; exact q⟩
/-! ### dicts with numbers as keys -/
theorem r_dsetd {td ty tx : TE} {σ : L2.St} {H : Hp} {Q : VK} (h : td σ H fun x H1 => ∃ a, x = .ref a ∧ IsD H1 a ∧ ty σ H1 fun y H2 => tx σ H2 fun z H3 => ∃ (kvs : List (Key × V)) (k : Key), H3 a = some (.dK kvs) ∧ y = kV k ∧ kvs.length < sizeLine ∧ (∀ v, valV kvs k = some v → Q v H3) ∧ (valV kvs k = none → Q z (upd H3 a (.dK (putK kvs k z))))) : tDSetd td ty tx σ H Q := h
/-- the marks found, each with its number -/
def dictF : Nat → List Int → List (Key × V)
  | _, [] => []
  | k, x :: l => (.inl x, iV k) :: dictF (k + 1) l
theorem dictF_len : ∀ (l : List Int) (k : Nat), (dictF k l).length = l.length
  | [], _ => rfl
  | x :: l, k => by
    show (dictF (k + 1) l).length + 1 = _
    rw [dictF_len l (k + 1), List.length_cons]
theorem dictF_val : ∀ (l : List Int) (k : Nat) (y : Int), valV (dictF k l) (.inl y) = if y ∈ l then some (iV (k + l.idxOf y)) else none
  | [], k, y => by simp [dictF, valV]
  | x :: l, k, y => by
    have ih := dictF_val l (k + 1) y
    by_cases e : x = y
    · subst e
      rw [if_pos List.mem_cons_self, List.idxOf_cons_self]
      simp [dictF, valV]
    · have e2 : y ≠ x := fun z => e z.symm
      have h1 : valV (dictF k (x :: l)) (Sum.inl y) = valV (dictF (k + 1) l) (Sum.inl y) := by
        show Option.map _ (List.find? _ ((Sum.inl x, iV k) :: dictF (k + 1) l)) = _
        rw [List.find?_cons_of_neg (by simp [e])]
        rfl
      have h3 : (x :: l).idxOf y = l.idxOf y + 1 := by rw [List.idxOf_cons, show (x == y) = false from by simp [e]]; rfl
      rw [h1, ih, h3]
      by_cases m : y ∈ l
      · rw [if_pos m, if_pos (List.mem_cons_of_mem _ m), show k + 1 + l.idxOf y = k + (l.idxOf y + 1) by omega]
      · rw [if_neg m, if_neg (fun z => (List.mem_cons.mp z).elim e2 m)]
theorem dictF_snoc : ∀ (l : List Int) (k : Nat) (y : Int), dictF k (l ++ [y]) = dictF k l ++ [(.inl y, iV (k + l.length))]
  | [], k, y => rfl
  | x :: l, k, y => by
    show (Sum.inl x, iV k) :: dictF (k + 1) (l ++ [y]) = (Sum.inl x, iV k) :: (dictF (k + 1) l ++ _)
    rw [dictF_snoc l (k + 1) y, List.length_cons, show k + 1 + l.length = k + (l.length + 1) by omega]
theorem put_new {kvs : List (Key × V)} {k : Key} {v : V} (h : valV kvs k = none) : putK kvs k v = kvs ++ [(k, v)] := by
  unfold putK
  rw [if_neg]
  intro z
  obtain ⟨p, hp, e⟩ := List.any_eq_true.mp z
  unfold valV at h
  rw [Option.map_eq_none_iff, List.find?_eq_none] at h
  exact h p hp e
/-- rows kept by a number -/
def dictL (ls : List (Int × Addr)) : List (Key × V) := ls.map fun p => (.inl p.1, .ref p.2)
theorem dictL_some {ls : List (Int × Addr)} {y : Int} {v : V} (h : valV (dictL ls) (.inl y) = some v) : ∃ p ∈ ls, p.1 = y ∧ v = .ref p.2 := by
  unfold valV at h
  obtain ⟨kv, h1, rfl⟩ := Option.map_eq_some_iff.mp h
  have h2 := List.mem_of_find?_eq_some h1
  have h3 := of_decide_eq_true (List.find?_some (p := fun kv : Key × V => decide (kv.1 = Sum.inl y)) h1)
  obtain ⟨p, hp, rfl⟩ := List.mem_map.mp h2
  exact ⟨p, hp, Sum.inl.inj h3, rfl⟩
theorem dictL_none {ls : List (Int × Addr)} {y : Int} (h : valV (dictL ls) (.inl y) = none) : ∀ p ∈ ls, p.1 ≠ y := fun p hp e => by
  unfold valV at h
  rw [Option.map_eq_none_iff, List.find?_eq_none] at h
  exact h _ (List.mem_map_of_mem hp) (decide_eq_true (by rw [e]))
/-! ### partitions, as the document writes them -/
def numGo : List Int → List Int → List Nat
  | _, [] => []
  | ds, x :: l => ds.idxOf x :: numGo (if x ∈ ds then ds else ds ++ [x]) l
def rgsGo : Nat → List Int → Prop
  | _, [] => True
  | k, x :: l => (0 ≤ x ∧ x ≤ (k : Int)) ∧ rgsGo (if x = (k : Int) then k + 1 else k) l
def topGo : Nat → List Int → Nat
  | k, [] => k
  | k, x :: l => topGo (if x = (k : Int) then k + 1 else k) l
def upZ (k : Nat) : List Int := (List.range k).map fun n : Nat => (n : Int)
theorem upZ_mem {k : Nat} {x : Int} : x ∈ upZ k ↔ 0 ≤ x ∧ x < (k : Int) := by
  unfold upZ
  rw [List.mem_map]
  constructor
  · rintro ⟨n, hn, rfl⟩
    have := List.mem_range.mp hn
    omega
  · rintro ⟨h1, h2⟩
    exact ⟨x.toNat, List.mem_range.mpr (by omega), by omega⟩
theorem upZ_succ (k : Nat) : upZ (k + 1) = upZ k ++ [(k : Int)] := by
  unfold upZ
  rw [List.range_succ, List.map_append]
  rfl
theorem upZ_len (k : Nat) : (upZ k).length = k := by
  unfold upZ
  rw [List.length_map, List.length_range]
theorem upZ_nd (k : Nat) : (upZ k).Nodup := by
  unfold upZ List.Nodup
  rw [List.pairwise_map]
  exact List.Pairwise.imp (fun h e => h (by omega)) (List.nodup_range (n := k))
theorem upZ_idx {k : Nat} {x : Int} (h : x ∈ upZ k) : (((upZ k).idxOf x : Nat) : Int) = x := by
  have h1 := List.idxOf_lt_length_of_mem h
  have h2 : (upZ k)[(upZ k).idxOf x]? = some x := by
    rw [List.getElem?_eq_getElem h1, List.getElem_idxOf h1]
  unfold upZ at h2
  rw [List.getElem?_map] at h2
  obtain ⟨n, e1, e2⟩ := Option.map_eq_some_iff.mp h2
  have e3 := List.getElem?_eq_some_iff.mp e1
  obtain ⟨e4, e5⟩ := e3
  rw [List.getElem_range] at e5
  unfold upZ
  omega
theorem num_rgs : ∀ (l : List Int) (k : Nat), (numGo (upZ k) l).map (fun n : Nat => (n : Int)) = l ↔ rgsGo k l
  | [], k => ⟨fun _ => trivial, fun _ => rfl⟩
  | x :: l, k => by
    show (((upZ k).idxOf x : Nat) : Int) :: (numGo (if x ∈ upZ k then upZ k else upZ k ++ [x]) l).map (fun n : Nat => (n : Int)) = x :: l ↔ (0 ≤ x ∧ x ≤ (k : Int)) ∧ rgsGo (if x = (k : Int) then k + 1 else k) l
    rw [List.cons.injEq]
    by_cases h : x ∈ upZ k
    · have h1 := upZ_mem.mp h
      rw [if_pos h, if_neg (by omega), num_rgs l k]
      exact ⟨fun z => ⟨by omega, z.2⟩, fun z => ⟨upZ_idx h, z.2⟩⟩
    · have h1 : (upZ k).idxOf x = k := by rw [List.idxOf_eq_length h, upZ_len]
      rw [if_neg h, h1]
      by_cases e : x = (k : Int)
      · subst e
        rw [if_pos rfl, ← upZ_succ, num_rgs l (k + 1)]
        exact ⟨fun z => ⟨by omega, z.2⟩, fun z => ⟨rfl, z.2⟩⟩
      · constructor
        · exact fun z => absurd z.1.symm e
        · intro z
          exact absurd (upZ_mem.mpr ⟨z.1.1, by omega⟩) h
theorem rgs_snoc : ∀ (l : List Int) (k : Nat) (b : Int), rgsGo k (l ++ [b]) ↔ rgsGo k l ∧ 0 ≤ b ∧ b ≤ (topGo k l : Int)
  | [], k, b => by
    show (0 ≤ b ∧ b ≤ (k : Int)) ∧ True ↔ True ∧ 0 ≤ b ∧ b ≤ (k : Int)
    simp
  | x :: l, k, b => by
    show (0 ≤ x ∧ x ≤ (k : Int)) ∧ rgsGo _ (l ++ [b]) ↔ ((0 ≤ x ∧ x ≤ (k : Int)) ∧ rgsGo _ l) ∧ 0 ≤ b ∧ b ≤ (topGo _ l : Int)
    rw [rgs_snoc l _ b]
    simp [and_assoc]
/-- one more than the greatest -/
def mxN (r : List Nat) : Nat := r.foldl (fun m x => max m (x + 1)) 0
theorem top_mx : ∀ (r : List Nat) (k : Nat), rgsGo k (r.map fun n : Nat => (n : Int)) → topGo k (r.map fun n : Nat => (n : Int)) = r.foldl (fun m x => max m (x + 1)) k
  | [], k, _ => rfl
  | x :: r, k, h => by
    obtain ⟨h1, h2⟩ := h
    show topGo (if (x : Int) = (k : Int) then k + 1 else k) _ = r.foldl (fun m x => max m (x + 1)) (max k (x + 1))
    rw [top_mx r _ h2]
    congr 1
    have h3 : (0 : Int) ≤ (x : Int) ∧ (x : Int) ≤ (k : Int) := h1
    by_cases e : x = k
    · subst e
      rw [if_pos rfl]
      exact (Nat.max_eq_right (Nat.le_succ _)).symm
    · rw [if_neg (fun z => e (by have z2 : (x : Int) = (k : Int) := z; omega))]
      exact (Nat.max_eq_left (by omega)).symm
def partsN : Nat → List (List Nat)
  | 0 => [[]]
  | n + 1 => (partsN n).flatMap fun r => (List.range (mxN r + 1)).map fun b => r ++ [b]
theorem parts_len : ∀ n, n < 7 → (partsN n).length ≤ 203 := by decide +kernel
theorem parts_mem : ∀ (n : Nat) (r : List Nat), r ∈ partsN n ↔ r.length = n ∧ rgsGo 0 (r.map fun n : Nat => (n : Int))
  | 0, r => by
    constructor
    · intro h
      rw [List.mem_singleton.mp h]
      exact ⟨rfl, trivial⟩
    · rintro ⟨h, _⟩
      rw [List.length_eq_zero_iff.mp h]
      exact List.mem_singleton.mpr rfl
  | n + 1, r => by
    constructor
    · intro h
      obtain ⟨t, ht, h2⟩ := List.mem_flatMap.mp h
      obtain ⟨b, hb, rfl⟩ := List.mem_map.mp h2
      obtain ⟨a1, a2⟩ := (parts_mem n t).mp ht
      have hb := List.mem_range.mp hb
      refine ⟨by rw [List.length_append, a1]; rfl, ?_⟩
      rw [List.map_append]
      refine (rgs_snoc _ 0 (b : Int)).mpr ⟨a2, by omega, ?_⟩
      rw [top_mx t 0 a2]
      unfold mxN at hb
      omega
    · rintro ⟨h1, h2⟩
      obtain ⟨t, b, rfl⟩ : ∃ t b, r = t ++ [b] := by
        have : r ≠ [] := fun e => by rw [e] at h1; exact nomatch h1
        exact ⟨r.dropLast, r.getLast this, (List.dropLast_concat_getLast this).symm⟩
      rw [List.map_append] at h2
      obtain ⟨a1, a2, a3⟩ := (rgs_snoc _ 0 (b : Int)).mp h2
      rw [top_mx t 0 a1] at a3
      refine List.mem_flatMap.mpr ⟨t, (parts_mem n t).mpr ⟨?_, a1⟩, List.mem_map.mpr ⟨b, List.mem_range.mpr ?_, rfl⟩⟩
      · rw [List.length_append] at h1
        exact Nat.succ.inj h1
      · unfold mxN
        omega
theorem rgs_nat {k : Nat} : ∀ {z : List Int}, rgsGo k z → ∃ r : List Nat, z = r.map fun n : Nat => (n : Int)
  | [], _ => ⟨[], rfl⟩
  | x :: z, h => by
    obtain ⟨r, rfl⟩ := rgs_nat h.2
    exact ⟨x.toNat :: r, by rw [List.map_cons]; congr 1; have := h.1.1; omega⟩
theorem rgs_head {n : Nat} {r : List Nat} (h : r ∈ partsN (n + 1)) : ∃ t, r = 0 :: t := by
  obtain ⟨h1, h2⟩ := (parts_mem (n + 1) r).mp h
  cases r with
  | nil => exact nomatch h1
  | cons x t => exact ⟨t, by have h3 : (0 : Int) ≤ (x : Int) ∧ (x : Int) ≤ ((0 : Nat) : Int) := h2.1; congr 1; omega⟩
theorem rgs_lt : ∀ (r : List Nat) (k : Nat), rgsGo k (r.map fun n : Nat => (n : Int)) → ∀ x ∈ r, x < k + r.length
  | [], _, _, x, hx => nomatch hx
  | y :: r, k, h, x, hx => by
    obtain ⟨h1, h2⟩ := h
    have h3 : (0 : Int) ≤ (y : Int) ∧ (y : Int) ≤ (k : Int) := h1
    rw [List.length_cons]
    rcases List.mem_cons.mp hx with rfl | hx
    · omega
    · have := rgs_lt r _ h2 x hx
      split at this <;> omega
end G
set_option Elab.async false
set_option linter.all false
set_option maxRecDepth 100000
set_option maxHeartbeats 4000000
namespace G
open PySem PySem.Spec PyProof.Rows L2
def tLenSetT (K : PySem.W.Frag) (ta : TE) : TE := fun σ H Q => ta σ H fun x H1 =>
  ∃ (l : Addr) (ns : List Int), x = .ref l ∧ SqT K H1 l (ns.map V.int) ∧ ns.length ≤ 4000 ∧
  ∀ ks : List Int, ks.Nodup → (∀ k, k ∈ ks ↔ k ∈ ns) → Q (.int (ks.length : Nat)) H1
theorem pe_lenSetT {X : Cx} {K : PySem.W.Frag} {a : Expr} {ta : TE} {p p2 q pos : Pos} (hK : X.K = K) (hc : X.calm = true)
    (hg : Gl X "len") (hm : X.mg "len" = none) (hg2 : Gl X "set") (hm2 : X.mg "set" = none) (ha : PE X a ta)
    (na : starEach [a] X.env = (false, eval a X.env) :: starEach [] X.env := by rfl) :
    PE X (.Call (.Name "len" p) [.Call (.Name "set" p2) [a] [] q] [] pos) (tLenSetT K ta) := by
  subst hK
  constructor
  intro pins s σ H Q I h
  refine Call_ (ld_blt I hg hm boot_len (callWith_builtin1 (args_cons ?_ rfl) rfl rfl))
  refine Call_ (ld_blt I hg2 hm2 boot_set ?_)
  refine callWith_type1 (args_cons (thn (ha.run pins s σ H _ I h) ?_) na) na rfl
  rintro v s1 ⟨x, H1, I1, r1, l, ns, rfl, hq, hl, q1⟩
  refine args_nil ?_
  cases r1
  obtain ⟨its, r, pl, hz⟩ := I1.tuple hq
  have hi : IntsAre its.toArray.toList ns := ints_of_vals r
  refine call_set_tupI ns (I1.ok.hd hc) (show s1.heap.IsTuple l its.toArray from pl) hi (by unfold scanBound; omega) ?_
  rintro h' tk c ⟨o, es, ep, t, ho, hex, hd, g, nd, hmem, hb, hf, hn, _, _⟩ hcn kk
  refine args_nil ?_
  have I2 : Inv X pins σ H1 { s1 with heap := h', toks := tk } := I1.kept kk
  have e1 : (es.toList.map keyOf).length = es.size := by rw [List.length_map, Array.length_toList]
  have q2 := q1 (es.toList.map keyOf) nd (fun k => ⟨fun hk => of_decide_eq_true ((hmem k).mpr hk), fun hk => (hmem k).mp (decide_eq_true hk)⟩)
  rw [e1] at q2
  exact call_len_set ho hex hd hf (by unfold scanBound at hb; omega) ⟨.int es.size, H1, I2.tok _, ⟨_, rfl⟩, q2⟩
theorem pa_starK {X : Cx} {K : PySem.W.Frag} {e : Expr} {es : List Expr} {te : TE} {t : TA} {p : Pos} (hK : X.K = K) (he : PE X e te) (hr : PA X es t)
    (hs : starEach (.Starred e p :: es) X.env = (true, eval e X.env) :: starEach es X.env := by rfl) : PA X (.Starred e p :: es) (StX.tStar K te t) := hK ▸ StX.pa_star he hr hs
theorem r_star {K : PySem.W.Frag} {σ : L2.St} {H : Hp} {te : TE} {t : TA} {QA : List V → Hp → Prop} (h : te σ H fun x H1 => ∃ p xs, x = V.ref p ∧ (SqT K H1 p xs ∨ SqL K H1 p xs) ∧ t σ H1 fun ys H2 => QA (xs ++ ys) H2) : StX.tStar K te t σ H QA := h
theorem pe_revLK {X : Cx} {K : PySem.W.Frag} {e : Expr} {te : TE} {k : Nat} {p1 p2 p3 pos : Pos} (hK : X.K = K) (he : PE X e te) : PE X (.Subscript e (.Slice none none (some (.UnaryOp .USub (.Constant (.int 1) k p1) p2)) p3) pos) (tRevL K te) := hK ▸ pe_revL he
end G
namespace L76
open PySem PySem.Spec PyProof.Rows L2 G
local macro_rules | `(tactic| walk_at "rd1") => `(tactic| first
  | (with_reducible refine r_seq ?_) | (with_reducible refine r_set ?_)
  | ((with_reducible refine' r_var ?rdh ?_); (case rdh => exact rfl))
  | (with_reducible refine r_c ?_) | (with_reducible refine r_op ?_) | (with_reducible refine r_un ?_) | (with_reducible refine r_cb ?_)
  | (with_reducible refine r_cons ?_) | (with_reducible refine r_nil ?_) | (with_reducible refine r_call ?_)
  | (with_reducible refine r_test ?_) | (with_reducible refine r_tb ?_) | (with_reducible refine r_bl ?_)
  | (with_reducible refine r_if ?_) | (with_reducible refine r_yes ?_) | (with_reducible refine r_ifx ?_) | (with_reducible refine r_and ?_) | (with_reducible refine r_or ?_) | (with_reducible refine r_not ?_)
  | (with_reducible refine r_andV ?_) | (with_reducible refine r_orV ?_) | (with_reducible refine r_notV ?_)
  | (with_reducible refine r_ret ?_) | (with_reducible refine r_retN ?_) | (with_reducible refine r_next ?_) | (with_reducible refine r_drop ?_) | (with_reducible refine r_asg ?_)
  | (with_reducible refine r_tup ?_) | (with_reducible refine r_lst ?_)
  | (with_reducible refine r_I0 ?_) | (with_reducible refine r_U ?_) | (with_reducible refine r_eqI ?_) | (with_reducible refine r_neI ?_) | (with_reducible refine r_eqS ?_) | (with_reducible refine r_neS ?_) | (with_reducible refine r_eqB ?_) | (with_reducible refine r_neB ?_)
  | (with_reducible refine r_int1 ?_) | (with_reducible refine r_isN ?_) | (with_reducible refine r_notN ?_)
  | (with_reducible refine iteT ?_) | (with_reducible refine iteF ?_)
  | (with_reducible refine r_sl ?_) | (with_reducible refine r_noPart ?_) | (with_reducible refine r_part ?_) | (with_reducible refine r_pint ?_)
  | ((with_reducible refine' r_isi (.ty _) ?rdt ?rdk ?_); (case rdt => first | exact .base (.int _) | exact .base (.str _) | exact .base (.bl _) | exact .base .non | exact tyx_sqL (by assumption) | exact tyx_sqT (by assumption)); (case rdk => first | exact kt_NoneType_list | exact kt_NoneType_tuple | exact kt_NoneType_bool | exact kt_NoneType_int | exact kt_NoneType_str | exact kt_bool_list | exact kt_bool_tuple | exact kt_bool_bool | exact kt_bool_int | exact kt_bool_str | exact kt_int_list | exact kt_int_tuple | exact kt_int_bool | exact kt_int_int | exact kt_int_str | exact kt_str_list | exact kt_str_tuple | exact kt_str_bool | exact kt_str_int | exact kt_str_str | exact kt_list_list | exact kt_list_tuple | exact kt_list_bool | exact kt_list_int | exact kt_list_str | exact kt_tuple_list | exact kt_tuple_tuple | exact kt_tuple_bool | exact kt_tuple_int | exact kt_tuple_str))
  | (with_reducible refine r_gn ?_) | (with_reducible refine r_gsub ?_) | (with_reducible refine r_chain ?_) | (with_reducible refine r_inSg ?_) | (with_reducible refine r_notInSg ?_) | (with_reducible refine r_bmS ?_) | ((with_reducible show tLc _ _ _ _ _ _ _ _); (first | show iStr _ _ _ _ | show iList _ _ _ _ _ | show iTup _ _ _ _ _ | show iRng1 _ _ _ _ | show iRng2 _ _ _ _)) | (with_reducible refine r_iStr ?_) | (with_reducible refine r_iList ?_) | (with_reducible refine r_iTup ?_) | (with_reducible refine r_str1 ?_) | (with_reducible refine r_ref1 ?_)
  | (with_reducible refine iteNT ?_) | (with_reducible refine iteNF ?_)
  | (with_reducible refine r_fdiv ⟨by decide, by decide⟩ ?_) | (with_reducible refine r_mod (by first | decide | assumption) ?_) | (with_reducible refine r_mul (.inr ⟨by decide, by decide⟩) ?_) | (with_reducible refine r_mul (.inl ⟨by decide, by decide⟩) ?_) | (with_reducible refine r_pow ⟨by decide, by decide, by decide⟩ ?_)
  | ((with_reducible show tFor _ _ _ _ _ _); (first | show iStr _ _ _ _ | show iList _ _ _ _ _ | show iTup _ _ _ _ _ | show iRng1 _ _ _ _ | show iRng2 _ _ _ _)) | (with_reducible refine r_rng1 ?_) | (with_reducible refine r_bmL ?_) | (with_reducible refine r_break ?_) | (with_reducible refine r_cont ?_))
local macro_rules | `(tactic| walk_at "rd") => `(tactic| repeat walk_at "rd1")
local macro_rules | `(tactic| walk_at "rdn") => `(tactic| repeat ((fail_if_success (with_reducible refine r_if ?_)); walk_at "rd1"))
section
def topS (i : Nat) : Stmt := PySem.Challenge.pw_turnsandthrows_k76_faults_of_a_machine_t.main.body.getD i (.Pass ⟨0, 0, 0, 0⟩)
abbrev s_make_machine : Stmt := topS 7
abbrev N_make_machine : List Str := ["steps", "start", "good", "row"]
theorem sc_make_machine : FnScope N_make_machine ["steps", "start", "good"] (defScope s_make_machine) := ⟨rfl, rfl, rfl, by decide +kernel, rfl, by decide +kernel, by decide +kernel⟩
abbrev s_check_shape : Stmt := topS 8
abbrev N_check_shape : List Str := ["steps", "width", "state", "row"]
theorem sc_check_shape : FnScope N_check_shape ["steps"] (defScope s_check_shape) := ⟨rfl, rfl, rfl, by decide +kernel, rfl, by decide +kernel, by decide +kernel⟩
abbrev s_check_states : Stmt := topS 9
abbrev N_check_states : List Str := ["states", "count", "state"]
theorem sc_check_states : FnScope N_check_states ["states", "count"] (defScope s_check_states) := ⟨rfl, rfl, rfl, by decide +kernel, rfl, by decide +kernel, by decide +kernel⟩
abbrev s_read_machine : Stmt := topS 11
abbrev N_read_machine : List Str := ["text"]
theorem sc_read_machine : FnScope N_read_machine ["text"] (defScope s_read_machine) := ⟨rfl, rfl, rfl, by decide +kernel, rfl, by decide +kernel, by decide +kernel⟩
abbrev s_read_machine_at : Stmt := topS 12
abbrev N_read_machine_at : List Str := ["text", "at", "row", "steps", "start", "good"]
theorem sc_read_machine_at : FnScope N_read_machine_at ["text", "at"] (defScope s_read_machine_at) := ⟨rfl, rfl, rfl, by decide +kernel, rfl, by decide +kernel, by decide +kernel⟩
abbrev s_read_numbers : Stmt := topS 13
abbrev N_read_numbers : List Str := ["text", "at", "number", "numbers"]
theorem sc_read_numbers : FnScope N_read_numbers ["text", "at"] (defScope s_read_numbers) := ⟨rfl, rfl, rfl, by decide +kernel, rfl, by decide +kernel, by decide +kernel⟩
abbrev s_read_number : Stmt := topS 14
abbrev N_read_number : List Str := ["text", "at", "end"]
theorem sc_read_number : FnScope N_read_number ["text", "at"] (defScope s_read_number) := ⟨rfl, rfl, rfl, by decide +kernel, rfl, by decide +kernel, by decide +kernel⟩
abbrev s_behind : Stmt := topS 15
abbrev N_behind : List Str := ["text", "at", "sign"]
theorem sc_behind : FnScope N_behind ["text", "at", "sign"] (defScope s_behind) := ⟨rfl, rfl, rfl, by decide +kernel, rfl, by decide +kernel, by decide +kernel⟩
abbrev s_sign_at : Stmt := topS 16
abbrev N_sign_at : List Str := ["text", "at"]
theorem sc_sign_at : FnScope N_sign_at ["text", "at"] (defScope s_sign_at) := ⟨rfl, rfl, rfl, by decide +kernel, rfl, by decide +kernel, by decide +kernel⟩
abbrev s_is_digit : Stmt := topS 17
abbrev N_is_digit : List Str := ["sign"]
theorem sc_is_digit : FnScope N_is_digit ["sign"] (defScope s_is_digit) := ⟨rfl, rfl, rfl, by decide +kernel, rfl, by decide +kernel, by decide +kernel⟩
abbrev s_l_cell : Stmt := topS 19
abbrev N_l_cell : List Str := ["script", "k"]
theorem sc_l_cell : FnScope N_l_cell ["script", "k"] (defScope s_l_cell) := ⟨rfl, rfl, rfl, by decide +kernel, rfl, by decide +kernel, by decide +kernel⟩
abbrev s_l_numbers : Stmt := topS 20
abbrev N_l_numbers : List Str := ["cell", "count", "numbers", "k", "mixed"]
theorem sc_l_numbers : FnScope N_l_numbers ["cell", "count"] (defScope s_l_numbers) := ⟨rfl, rfl, rfl, by decide +kernel, rfl, by decide +kernel, by decide +kernel⟩
abbrev s_l_same : Stmt := topS 21
abbrev N_l_same : List Str := ["actual", "due", "k"]
theorem sc_l_same : FnScope N_l_same ["actual", "due"] (defScope s_l_same) := ⟨rfl, rfl, rfl, by decide +kernel, rfl, by decide +kernel, by decide +kernel⟩
abbrev s_l_action : Stmt := topS 22
abbrev N_l_action : List Str := ["numbers", "count", "sort", "action", "k", "j", "held"]
theorem sc_l_action : FnScope N_l_action ["numbers", "count"] (defScope s_l_action) := ⟨rfl, rfl, rfl, by decide +kernel, rfl, by decide +kernel, by decide +kernel⟩
abbrev s_l_machine : Stmt := topS 23
abbrev N_l_machine : List Str := ["cell", "count", "letters", "numbers", "actions", "steps", "good", "k", "state", "action"]
theorem sc_l_machine : FnScope N_l_machine ["cell", "count", "letters"] (defScope s_l_machine) := ⟨rfl, rfl, rfl, by decide +kernel, rfl, by decide +kernel, by decide +kernel⟩
abbrev s_l_spoilt : Stmt := topS 26
abbrev N_l_spoilt : List Str := ["text", "numbers", "at", "char", "sort"]
theorem sc_l_spoilt : FnScope N_l_spoilt ["text", "numbers"] (defScope s_l_spoilt) := ⟨rfl, rfl, rfl, by decide +kernel, rfl, by decide +kernel, by decide +kernel⟩
abbrev s_l_column : Stmt := topS 27
abbrev N_l_column : List Str := ["text", "part", "number", "k", "char"]
theorem sc_l_column : FnScope N_l_column ["text"] (defScope s_l_column) := ⟨rfl, rfl, rfl, by decide +kernel, rfl, by decide +kernel, by decide +kernel⟩
abbrev s_l_due : Stmt := topS 28
abbrev N_l_due : List Str := ["text", "parts", "steps", "good", "count", "told", "entry", "number"]
theorem sc_l_due : FnScope N_l_due ["text"] (defScope s_l_due) := ⟨rfl, rfl, rfl, by decide +kernel, rfl, by decide +kernel, by decide +kernel⟩
abbrev s_law : Stmt := topS 29
abbrev N_law : List Str := ["script", "numbers", "machine", "rows", "text", "k", "column", "told", "e", "due", "entry", "target", "state"]
theorem sc_law : FnScope N_law ["script"] (defScope s_law) := ⟨rfl, rfl, rfl, by decide +kernel, rfl, by decide +kernel, by decide +kernel⟩
structure Ad where
  f_make_machine : Addr
  d_make_machine : FuncData
  f_check_shape : Addr
  d_check_shape : FuncData
  f_check_states : Addr
  d_check_states : FuncData
  f_read_machine : Addr
  d_read_machine : FuncData
  f_read_machine_at : Addr
  d_read_machine_at : FuncData
  f_read_numbers : Addr
  d_read_numbers : FuncData
  f_read_number : Addr
  d_read_number : FuncData
  f_behind : Addr
  d_behind : FuncData
  f_sign_at : Addr
  d_sign_at : FuncData
  f_is_digit : Addr
  d_is_digit : FuncData
  f_l_cell : Addr
  d_l_cell : FuncData
  f_l_numbers : Addr
  d_l_numbers : FuncData
  f_l_same : Addr
  d_l_same : FuncData
  f_l_action : Addr
  d_l_action : FuncData
  f_l_machine : Addr
  d_l_machine : FuncData
  f_l_spoilt : Addr
  d_l_spoilt : FuncData
  f_l_column : Addr
  d_l_column : FuncData
  f_l_due : Addr
  d_l_due : FuncData
  f_law : Addr
  d_law : FuncData
  k_MachineError : Addr
  k_InvalidMachine : Addr
  k_SyntaxFault : Addr
  pg : Program
  i_SyntaxFault : Addr
  j_SyntaxFault : FuncData
structure Txt (K : PySem.W.Frag) (mg : Str → Option Value) (a : Ad) : Prop where
  F_make_machine : Fun K "make_machine" "make_machine" s_make_machine a.f_make_machine a.d_make_machine
  b_make_machine : Binds K a.d_make_machine ["steps", "start", "good"] []
  g_make_machine : mg "make_machine" = some (.ref a.f_make_machine)
  F_check_shape : Fun K "check_shape" "check_shape" s_check_shape a.f_check_shape a.d_check_shape
  b_check_shape : Binds K a.d_check_shape ["steps"] []
  g_check_shape : mg "check_shape" = some (.ref a.f_check_shape)
  F_check_states : Fun K "check_states" "check_states" s_check_states a.f_check_states a.d_check_states
  b_check_states : Binds K a.d_check_states ["states", "count"] []
  g_check_states : mg "check_states" = some (.ref a.f_check_states)
  F_read_machine : Fun K "read_machine" "read_machine" s_read_machine a.f_read_machine a.d_read_machine
  b_read_machine : Binds K a.d_read_machine ["text"] []
  g_read_machine : mg "read_machine" = some (.ref a.f_read_machine)
  F_read_machine_at : Fun K "read_machine_at" "read_machine_at" s_read_machine_at a.f_read_machine_at a.d_read_machine_at
  b_read_machine_at : Binds K a.d_read_machine_at ["text", "at"] []
  g_read_machine_at : mg "read_machine_at" = some (.ref a.f_read_machine_at)
  F_read_numbers : Fun K "read_numbers" "read_numbers" s_read_numbers a.f_read_numbers a.d_read_numbers
  b_read_numbers : Binds K a.d_read_numbers ["text", "at"] []
  g_read_numbers : mg "read_numbers" = some (.ref a.f_read_numbers)
  F_read_number : Fun K "read_number" "read_number" s_read_number a.f_read_number a.d_read_number
  b_read_number : Binds K a.d_read_number ["text", "at"] []
  g_read_number : mg "read_number" = some (.ref a.f_read_number)
  F_behind : Fun K "behind" "behind" s_behind a.f_behind a.d_behind
  b_behind : Binds K a.d_behind ["text", "at", "sign"] []
  g_behind : mg "behind" = some (.ref a.f_behind)
  F_sign_at : Fun K "sign_at" "sign_at" s_sign_at a.f_sign_at a.d_sign_at
  b_sign_at : Binds K a.d_sign_at ["text", "at"] []
  g_sign_at : mg "sign_at" = some (.ref a.f_sign_at)
  F_is_digit : Fun K "is_digit" "is_digit" s_is_digit a.f_is_digit a.d_is_digit
  b_is_digit : Binds K a.d_is_digit ["sign"] []
  g_is_digit : mg "is_digit" = some (.ref a.f_is_digit)
  F_l_cell : Fun K "_law_cell" "_law_cell" s_l_cell a.f_l_cell a.d_l_cell
  b_l_cell : Binds K a.d_l_cell ["script", "k"] []
  g_l_cell : mg "_law_cell" = some (.ref a.f_l_cell)
  F_l_numbers : Fun K "_law_numbers" "_law_numbers" s_l_numbers a.f_l_numbers a.d_l_numbers
  b_l_numbers : Binds K a.d_l_numbers ["cell", "count"] []
  g_l_numbers : mg "_law_numbers" = some (.ref a.f_l_numbers)
  F_l_same : Fun K "_law_same" "_law_same" s_l_same a.f_l_same a.d_l_same
  b_l_same : Binds K a.d_l_same ["actual", "due"] []
  g_l_same : mg "_law_same" = some (.ref a.f_l_same)
  F_l_action : Fun K "_law_action" "_law_action" s_l_action a.f_l_action a.d_l_action
  b_l_action : Binds K a.d_l_action ["numbers", "count"] []
  g_l_action : mg "_law_action" = some (.ref a.f_l_action)
  F_l_machine : Fun K "_law_machine" "_law_machine" s_l_machine a.f_l_machine a.d_l_machine
  b_l_machine : Binds K a.d_l_machine ["cell", "count", "letters"] []
  g_l_machine : mg "_law_machine" = some (.ref a.f_l_machine)
  F_l_spoilt : Fun K "_law_spoilt" "_law_spoilt" s_l_spoilt a.f_l_spoilt a.d_l_spoilt
  b_l_spoilt : Binds K a.d_l_spoilt ["text", "numbers"] []
  g_l_spoilt : mg "_law_spoilt" = some (.ref a.f_l_spoilt)
  F_l_column : Fun K "_law_column" "_law_column" s_l_column a.f_l_column a.d_l_column
  b_l_column : Binds K a.d_l_column ["text"] []
  g_l_column : mg "_law_column" = some (.ref a.f_l_column)
  F_l_due : Fun K "_law_due" "_law_due" s_l_due a.f_l_due a.d_l_due
  b_l_due : Binds K a.d_l_due ["text"] []
  g_l_due : mg "_law_due" = some (.ref a.f_l_due)
  F_law : Fun K "law" "law" s_law a.f_law a.d_law
  b_law : Binds K a.d_law ["script"] []
  g_law : mg "law" = some (.ref a.f_law)
  z_bool : mg "bool" = none
  z_enumerate : mg "enumerate" = none
  z_int : mg "int" = none
  z_isinstance : mg "isinstance" = none
  z_len : mg "len" = none
  z_list : mg "list" = none
  z_max : mg "max" = none
  z_range : mg "range" = none
  z_set : mg "set" = none
  z_sorted : mg "sorted" = none
  z_str : mg "str" = none
  z_tuple : mg "tuple" = none
  c_LETTERS : ∃ t, mg "LETTERS" = some (Value.str "abcd" t)
  c_MOST_STATES : ∃ t, mg "MOST_STATES" = some (Value.int 40 t)
  gk_MachineError : mg "MachineError" = some (.ref a.k_MachineError)
  gk_InvalidMachine : mg "InvalidMachine" = some (.ref a.k_InvalidMachine)
  gk_SyntaxFault : mg "SyntaxFault" = some (.ref a.k_SyntaxFault)
  x_InvalidMachine : OwnE K mg "InvalidMachine" a.k_InvalidMachine
  x_SyntaxFault : OwnI K a.pg mg "SyntaxFault" a.k_SyntaxFault a.i_SyntaxFault a.j_SyntaxFault "column" Gnum
  em_InvalidMachine_InvalidMachine : PySem.W.exmOne K (.ref a.k_InvalidMachine) (.ref a.k_InvalidMachine) = some true
  em_InvalidMachine_SyntaxFault : PySem.W.exmOne K (.ref a.k_InvalidMachine) (.ref a.k_SyntaxFault) = some false
  ki_InvalidMachine_MachineError : PySem.W.kitOne K (.ref a.k_InvalidMachine) (.ref a.k_MachineError) = some true
  em_SyntaxFault_InvalidMachine : PySem.W.exmOne K (.ref a.k_SyntaxFault) (.ref a.k_InvalidMachine) = some false
  em_SyntaxFault_SyntaxFault : PySem.W.exmOne K (.ref a.k_SyntaxFault) (.ref a.k_SyntaxFault) = some true
  ki_SyntaxFault_MachineError : PySem.W.kitOne K (.ref a.k_SyntaxFault) (.ref a.k_MachineError) = some true
def tabsOf (a : Ad) : List (Addr × Str) := []
structure Tbl (mg : Str → Option Value) (base : Heap) (a : Ad) : Prop where
  nd : ((tabsOf a).map (·.1)).Nodup
end

/-- the integers are states of a machine with so many -/
def okSt (n : Nat) (xs : List Int) : Prop := ∀ x ∈ xs, 0 ≤ x ∧ x < (n : Int)
/-- the steps have the form of those of a machine -/
def okSh (rs : List (List Int)) : Prop := (1 ≤ rs.length ∧ rs.length ≤ 40) ∧ (1 ≤ (rs.getD 0 []).length ∧ (rs.getD 0 []).length ≤ 4) ∧ ∀ r ∈ rs, r.length = (rs.getD 0 []).length
section
variable {P : Program} {w : World} {K : PySem.W.Frag} {mg : Str → Option Value} {base : Heap} {a : Ad}
def spStates (K : PySem.W.Frag) (a : Ad) : Sp := fun vs H Q E => ∃ (pl : Addr) (xs : List Int) (n : Nat), vs = [.ref pl, iV n] ∧ SqL K H pl (xs.map V.int) ∧ (∀ x ∈ xs, x.natAbs < 1000000) ∧ n ≤ 1000 ∧
  (okSt n xs → Q .non H) ∧ (¬ okSt n xs → E (.ref a.k_InvalidMachine) none H)
theorem ok_check_states (T : Txt K mg a) : FnOk P w K mg base (L2N.CX P w) 1 a.f_check_states a.d_check_states ["states", "count"] (spStates K a) := by
  refine okXN T.F_check_states sc_check_states (fun vs H Q E h => ?_) (fun cdv A outer s H vs Q E hr h => ?_)
  · obtain ⟨pl, xs, n, rfl, _⟩ := h
    rfl
  · obtain ⟨pl, xs, n, rfl, hS, hab, n1, q, qe⟩ := h
    have zl : (sizeLine : Nat) = 16777216 := by decide
    refine ⟨_, (pss_one (ps_for (passes_of rfl) rfl (pi_listK (K := K) rfl (pv 0)) (pg_name (i := 2) sc_check_states.nd rfl (Or.inl rfl)) (pss_one (ps_if (pt_not (pt_chain op_le op_lt pe_int (pv 2) (pv 1))) (pss_one (ps_raise1N T.x_InvalidMachine rfl rfl rfl (L2N.takes_of rfl rfl rfl rfl) (by rfl) (pe_joined (PJ.cons pe_str (PJ.cons (pe_fmt (pv 1)) (PJ.cons pe_str PJ.nil)))))) pss_nil)))), ?_⟩
    walk_at "rd"
    refine ⟨⟨_, hS⟩, ?_⟩
    refine for_list (xs := xs.map V.int) (fun i σ G => (∃ y, σ = [some (.ref pl), some (iV n), y]) ∧ G = H ∧ okSt n (xs.take i)) ⟨⟨none, rfl⟩, rfl, fun x hx => nomatch hx⟩ (fun i σ G _ hP => ?_) (fun i x σ G hx hP => ?_) (fun σ G hP => ?_)
    · obtain ⟨_, rfl, _⟩ := hP
      exact hS
    · obtain ⟨⟨y, rfl⟩, rfl, hok⟩ := hP
      walk_at "rd"
      obtain ⟨z, hz, rfl⟩ : ∃ z, xs[i]? = some z ∧ V.int z = x := by
        rw [List.getElem?_map] at hx
        exact Option.map_eq_some_iff.mp hx
      have hzm := List.mem_of_getElem? hz
      refine r_I0 ⟨_, rfl, r_iteD (fun h0 => ?_) (fun h0 => ?_)⟩
      · walk_at "rd"
        refine r_I0 (j := (n : Int)) ⟨_, rfl, r_iteN (fun h1 => ?_) (fun h1 => ?_)⟩
        · refine r_raise1 (js_ok _ _ (fun t ht => ?_) (by decide) fun _ => qe fun hk => h1 (hk z hzm).2)
          simp only [List.mem_cons, List.not_mem_nil, or_false] at ht
          rcases ht with rfl | rfl | rfl
          · exact part_c (by decide)
          · exact part_i (i := (n : Int)) (log_lt (by omega)) fun Q q => r_var rfl q
          · exact part_c (by decide)
        · refine r_next ⟨⟨_, rfl⟩, rfl, fun x hx => ?_⟩
          rw [List.take_add_one, hz] at hx
          rcases List.mem_append.mp hx with hx | hx
          · exact hok x hx
          · rw [List.mem_singleton.mp hx]; exact ⟨h0, h1⟩
      · refine ⟨_, rfl, iteNF ?_⟩
        refine r_raise1 (js_ok _ _ (fun t ht => ?_) (by decide) fun _ => qe fun hk => h0 (hk z hzm).1)
        simp only [List.mem_cons, List.not_mem_nil, or_false] at ht
        rcases ht with rfl | rfl | rfl
        · exact part_c (by decide)
        · exact part_i (i := (n : Int)) (log_lt (by omega)) fun Q q => r_var rfl q
        · exact part_c (by decide)
    · obtain ⟨⟨y, rfl⟩, rfl, hok⟩ := hP
      rw [List.length_map, List.take_length] at hok
      exact q hok
def spShape (K : PySem.W.Frag) (a : Ad) : Sp := fun vs H Q E => ∃ (pl : Addr) (ps : List (Addr × List Int)), vs = [.ref pl] ∧ SqL K H pl (refsI ps) ∧ (∀ p ∈ ps, SqL K H p.1 (p.2.map V.int) ∧ p.2.length ≤ 1000) ∧ ps.length ≤ 1000 ∧
  (okSh (ps.map (·.2)) → ∀ H', Same H H' → Q .non H') ∧ (¬ okSh (ps.map (·.2)) → ∀ H', Same H H' → E (.ref a.k_InvalidMachine) none H')
theorem ok_check_shape (T : Txt K mg a) : FnOk P w K mg base (L2N.CX P w) 1 a.f_check_shape a.d_check_shape ["steps"] (spShape K a) := by
  refine okXN T.F_check_shape sc_check_shape (fun vs H Q E h => ?_) (fun cdv A outer s H vs Q E hr h => ?_)
  · obtain ⟨pl, ps, rfl, _⟩ := h
    rfl
  · obtain ⟨pl, ps, rfl, hS, hps, big, q, qe⟩ := h
    have zl : (sizeLine : Nat) = 16777216 := by decide
    have lr := refsI_len ps
    have l1 : ((ps.map (·.2))).length = ps.length := List.length_map _
    have raise1 : ∀ (D : Ends) (σ : L2.St) (G : Hp) (ts : List TE), Same H G → (∀ t ∈ ts, Part σ G t) → ts.length ≤ 10 → ¬ okSh (ps.map (·.2)) → tRaise1 a.k_InvalidMachine (fun cls d x H => E cls d H) (fun σ H Q => tJs ts Str.empty σ H fun out H1 => Q (V.str out) H1) D σ G := fun D σ G ts sG ht hl hn =>
      r_raise1 (js_ok _ _ ht (by show 0 + _ ≤ _; omega) fun _ => qe hn G sG)
    have plen : ∀ (σ : L2.St) (G : Hp), Same H G → σ[0]? = some (some (.ref pl)) → Part σ G (tFmt (tCB (rLenQ K) (tCons (tVar 0) tNil))) := fun σ G sG h0 => by
      refine part_i (i := ((refsI ps).length : Int)) (log_lt (by rw [lr]; omega)) fun Q q => ?_
      refine r_cb (r_cons (r_var h0 (r_nil (r_lenL (sG.seq hS) q))))
    refine ⟨_, (pss_cons (ps_if (pt_not (pt_chain op_le op_le pe_int (pe_callB (call_lenQK (K := K) rfl) (by rfl) T.z_len (by decide +kernel) (pa_cons (pv 0) pa_nil)) (pe_glob (v := V.int 40) (by rfl) T.c_MOST_STATES.choose_spec ⟨_, rfl⟩))) (pss_one (ps_raise1N T.x_InvalidMachine rfl rfl rfl (L2N.takes_of rfl rfl rfl rfl) (by rfl) (pe_joined (PJ.cons (pe_fmt (pe_callB (call_lenQK (K := K) rfl) (by rfl) T.z_len (by decide +kernel) (pa_cons (pv 0) pa_nil))) (PJ.cons pe_str (PJ.cons (pe_fmt (pe_glob (v := V.int 40) (by rfl) T.c_MOST_STATES.choose_spec ⟨_, rfl⟩)) PJ.nil)))))) pss_nil)
      (pss_cons (ps_set (i := 1) sc_check_shape.nd rfl (Or.inl rfl) (pe_callB (call_lenQK (K := K) rfl) (by rfl) T.z_len (by decide +kernel) (pa_cons (pe_ix (ix_listK (K := K) rfl) (pv 0) pe_int (fun _ _ => rfl)) pa_nil)))
      (pss_cons (ps_if (pt_not (pt_chain op_le op_le pe_int (pv 1) (pe_callB call_lenS1 (by rfl) T.z_len (by decide +kernel) (pa_cons (pe_glob (v := V.str "abcd") (by rfl) T.c_LETTERS.choose_spec ⟨_, rfl⟩) pa_nil)))) (pss_one (ps_raise1N T.x_InvalidMachine rfl rfl rfl (L2N.takes_of rfl rfl rfl rfl) (by rfl) (pe_joined (PJ.cons (pe_fmt (pv 1)) (PJ.cons pe_str (PJ.cons (pe_fmt (pe_callB call_lenS1 (by rfl) T.z_len (by decide +kernel) (pa_cons (pe_glob (v := V.str "abcd") (by rfl) T.c_LETTERS.choose_spec ⟨_, rfl⟩) pa_nil))) PJ.nil)))))) pss_nil)
      (pss_one (ps_for (passes_of rfl) rfl (pi_enumK (K := K) rfl (by rfl) T.z_enumerate (pa_cons (pv 0) pa_nil)) (pg_tupK (K := K) rfl rfl (pgs_cons (pg_name (i := 2) sc_check_shape.nd rfl (Or.inl rfl)) (pgs_cons (pg_name (i := 3) sc_check_shape.nd rfl (Or.inl rfl)) pgs_nil))) (pss_one (ps_if (pt_cmpR op_ne (pe_callB (call_lenQK (K := K) rfl) (by rfl) T.z_len (by decide +kernel) (pa_cons (pv 3) pa_nil)) (pv 1) (nomark _)) (pss_one (ps_raise1N T.x_InvalidMachine rfl rfl rfl (L2N.takes_of rfl rfl rfl rfl) (by rfl) (pe_joined (PJ.cons pe_str (PJ.cons (pe_fmt (pv 2)) (PJ.cons pe_str (PJ.cons (pe_fmt (pe_callB (call_lenQK (K := K) rfl) (by rfl) T.z_len (by decide +kernel) (pa_cons (pv 3) pa_nil))) (PJ.cons pe_str (PJ.cons (pe_fmt (pv 1)) PJ.nil))))))))) pss_nil))))))), ?_⟩
    walk_at "rd"
    refine r_lenL hS ?_
    walk_at "rd"
    have three : ∀ {σ : L2.St} {G : Hp} {t1 t2 t3 : TE}, Part σ G t1 → Part σ G t2 → Part σ G t3 → ∀ t ∈ [t1, t2, t3], Part σ G t := fun h1 h2 h3 t ht => by
      simp only [List.mem_cons, List.not_mem_nil, or_false] at ht
      rcases ht with rfl | rfl | rfl
      · exact h1
      · exact h2
      · exact h3
    have p40 : ∀ (σ : L2.St) (G : Hp), Part σ G (tFmt (tC (.int 40))) := fun σ G => part_i (i := 40) (by decide) fun Q q => r_c q
    have p4 : ∀ (σ : L2.St) (G : Hp), Part σ G (tFmt (tCB rLenS1 (tCons (tC (V.str (Str.ofString "abcd"))) tNil))) := fun σ G => part_i (i := 4) (by decide) fun Q q => r_cb (r_cons (r_c (r_nil (r_lenS (by decide) q))))
    refine r_iteD (fun h1 => ?_) (fun h1 => ?_)
    rotate_left
    · refine ⟨_, rfl, iteNF ?_⟩
      refine raise1 _ _ _ _ (fun _ _ z => z) (three (plen _ _ (fun _ _ z => z) rfl) (part_c (by decide)) (p40 _ _)) (by show 3 ≤ 10; decide) fun hk => ?_
      have := hk.1.1
      omega
    walk_at "rd"
    refine r_iteN (fun h2 => ?_) (fun h2 => ?_)
    · refine raise1 _ _ _ _ (fun _ _ z => z) (three (plen _ _ (fun _ _ z => z) rfl) (part_c (by decide)) (p40 _ _)) (by show 3 ≤ 10; decide) fun hk => ?_
      have := hk.1.2
      omega
    rw [lr] at h1 h2
    obtain ⟨p0, hp0⟩ : ∃ p0, ps[0]? = some p0 := ⟨_, List.getElem?_eq_getElem (by omega)⟩
    obtain ⟨hS0, b0⟩ := hps p0 (List.mem_of_getElem? hp0)
    have e0 : ((ps.map (·.2)).getD 0 []) = p0.2 := by
      rw [List.getD_eq_getElem?_getD, List.getElem?_map, hp0]
      rfl
    refine r_next ?_
    walk_at "rd"
    refine r_ixL hS (at_refsI (i := 0) rfl hp0) ?_
    walk_at "rd"
    refine r_lenL hS0 ?_
    rw [List.length_map]
    walk_at "rd"
    have pw : ∀ (σ : L2.St) (G : Hp), σ[1]? = some (some (.int (p0.2.length : Int))) → Part σ G (tFmt (tVar 1)) := fun σ G hv => part_i (i := (p0.2.length : Int)) (log_lt (by omega)) fun Q q => r_var hv q
    refine r_iteD (fun h3 => ?_) (fun h3 => ?_)
    rotate_left
    · refine ⟨_, rfl, iteNF ?_⟩
      refine raise1 _ _ _ _ (fun _ _ z => z) (three (pw _ _ rfl) (part_c (by decide)) (p4 _ _)) (by show 3 ≤ 10; decide) fun hk => ?_
      have := hk.2.1.1
      rw [e0] at this
      omega
    walk_at "rd"
    refine r_lenS (by decide) ?_
    refine r_I0 (j := 4) ⟨_, rfl, r_iteN (fun h4 => ?_) (fun h4 => ?_)⟩
    · refine raise1 _ _ _ _ (fun _ _ z => z) (three (pw _ _ rfl) (part_c (by decide)) (p4 _ _)) (by show 3 ≤ 10; decide) fun hk => ?_
      have := hk.2.1.2
      rw [e0] at this
      omega
    walk_at "rd"
    with_reducible show tFor _ _ _ _ _ _
    refine r_iEnum ?_
    refine r_cons (r_var rfl (r_nil ⟨_, _, rfl, hS, ?_⟩))
    refine for_enL (xs := refsI ps) (fun i σ G => (∃ y2 y3, σ = [some (.ref pl), some (.int (p0.2.length : Int)), y2, y3]) ∧ Same H G ∧ ∀ p ∈ ps.take i, p.2.length = p0.2.length)
      ⟨⟨none, none, rfl⟩, fun _ _ z => z, fun p hp => nomatch hp⟩ (fun i σ G _ hP => hP.2.1.seq hS) (fun i x σ G t hx hP hT => ?_) (fun σ G hP => ?_)
    rotate_left
    · obtain ⟨_, sG, hall⟩ := hP
      rw [lr, List.take_length] at hall
      refine q ⟨by rw [l1]; omega, by rw [e0]; omega, fun r hr => ?_⟩ G sG
      obtain ⟨p, hp, rfl⟩ := List.mem_map.mp hr
      rw [e0]
      exact hall p hp
    obtain ⟨⟨y2, y3, rfl⟩, sG, hall⟩ := hP
    obtain ⟨p, hp, rfl⟩ := refsI_at hx
    have hpm := List.mem_of_getElem? hp
    have hi : i < ps.length := (List.getElem?_eq_some_iff.mp hp).1
    obtain ⟨hSp, bp⟩ := hps p hpm
    have sT := sG.trans (same_new (o := .tup [V.int (i : Nat), V.ref p.1]) hT)
    refine ⟨t, _, rfl, SqT.of upd_same, rfl, _, _, rfl, _, _, rfl, rfl, ?_⟩
    show tIfS _ _ _ _ _ _
    walk_at "rd"
    refine r_lenL (sT.seq hSp) ?_
    rw [List.length_map]
    walk_at "rd"
    refine r_iteN (fun h5 => ?_) (fun h5 => ?_)
    · refine raise1 _ _ _ _ sT (fun t ht => ?_) (by show 6 ≤ 10; decide) fun hk => ?_
      · simp only [List.mem_cons, List.not_mem_nil, or_false] at ht
        rcases ht with rfl | rfl | rfl | rfl | rfl | rfl
        · exact part_c (by decide)
        · exact part_i (i := (i : Int)) (log_lt (by omega)) fun Q q => r_var rfl q
        · exact part_c (by decide)
        · refine part_i (i := ((p.2.map V.int).length : Int)) (log_lt (by rw [List.length_map]; omega)) fun Q q => ?_
          exact r_cb (r_cons (r_var rfl (r_nil (r_lenL (sT.seq hSp) q))))
        · exact part_c (by decide)
        · exact pw _ _ rfl
      · have := hk.2.2 p.2 (List.mem_map_of_mem hpm)
        rw [e0] at this
        exact h5 (by rw [this])
    · refine r_next ⟨⟨_, _, rfl⟩, sT, fun r hr => ?_⟩
      rw [List.take_add_one, hp] at hr
      rcases List.mem_append.mp hr with hr | hr
      · exact hall r hr
      · rw [List.mem_singleton.mp hr]
        omega
end

def rowI (r : List Int) : PyData := .tuple (r.map .int)
def macI (ss : List (List Int)) (st : Int) (g : List Nat) : PyData := .tuple [.tuple (ss.map rowI), .int st, rowD g]
/-- what the document asks of a machine -/
def okMac (ss : List (List Int)) (st : Int) (gs : List Int) : Prop := okSh ss ∧ (∀ r ∈ ss, okSt ss.length r) ∧ (0 ≤ st ∧ st < (ss.length : Int)) ∧ okSt ss.length gs
def goodOf (n : Nat) (gs : List Int) : List Nat := normL n (gs.map Int.toNat)
section
variable {P : Program} {w : World} {K : PySem.W.Frag} {mg : Str → Option Value} {base : Heap} {a : Ad}
/-- the lists of a machine that is yet to be made -/
structure Lists (K : PySem.W.Frag) (H : Hp) (pl : Addr) (ps : List (Addr × List Int)) (pg : Addr) (gs : List Int) : Prop where
  s : SqL K H pl (refsI ps)
  r : ∀ p ∈ ps, SqL K H p.1 (p.2.map V.int) ∧ p.2.length ≤ 1000 ∧ ∀ x ∈ p.2, x.natAbs < 1000000
  n : ps.length ≤ 1000
  g : H pg = some (.lst (gs.map V.int))
  b : ∀ x ∈ gs, x.natAbs < 1000000
  l : gs.length ≤ 60
theorem Lists.same {H H' : Hp} {pl pg : Addr} {ps : List (Addr × List Int)} {gs : List Int} (L : Lists K H pl ps pg gs) (e : Same H H') : Lists K H' pl ps pg gs :=
  ⟨e.seq L.s, fun p hp => ⟨e.seq (L.r p hp).1, (L.r p hp).2⟩, L.n, e _ _ L.g, L.b, L.l⟩
theorem Lists.gq {H : Hp} {pl pg : Addr} {ps : List (Addr × List Int)} {gs : List Int} (L : Lists K H pl ps pg gs) : SqL K H pg (gs.map V.int) := SqL.of L.g
/-- tuple(sorted(set(gs))) -/
theorem good_tup {n : Nat} {gs : List Int} (h : okSt n gs) {ns : List Int} (pw : ns.Pairwise (· < ·)) (hm : ∀ k, k ∈ ns ↔ decide (k ∈ gs) = true) : ns.map V.int = (goodOf n gs).map iV := by
  refine norm_ints (xs := gs.map Int.toNat) pw (fun k => (hm k).trans ?_) (fun y hy => ?_)
  · rw [decide_eq_true_eq]
    refine ⟨fun hk => ⟨k.toNat, List.mem_map_of_mem hk, ?_⟩, fun ⟨y, hy, e⟩ => ?_⟩
    · have := h k hk
      omega
    · obtain ⟨x, hx, rfl⟩ := List.mem_map.mp hy
      have := h x hx
      rw [e, show ((x.toNat : Nat) : Int) = x by omega]
      exact hx
  · obtain ⟨x, hx, rfl⟩ := List.mem_map.mp hy
    have := h x hx
    omega
def spMake (K : PySem.W.Frag) (a : Ad) : Sp := fun vs H Q E => ∃ (pl pg : Addr) (ps : List (Addr × List Int)) (st : Int) (gs : List Int), vs = [.ref pl, .int st, .ref pg] ∧ Lists K H pl ps pg gs ∧ st.natAbs < 1000000 ∧
  (okMac (ps.map (·.2)) st gs → ∀ H' v, Same H H' → Dt K H' v (macI (ps.map (·.2)) st (goodOf ps.length gs)) → Q v H') ∧ (¬ okMac (ps.map (·.2)) st gs → ∀ H', Same H H' → E (.ref a.k_InvalidMachine) none H')
theorem ok_make_machine (T : Txt K mg a) : FnOk P w K mg base (L2N.CX P w) 2 a.f_make_machine a.d_make_machine ["steps", "start", "good"] (spMake K a) := by
  have G_check_shape := ok_check_shape (P := P) (w := w) (base := base) T
  have G_check_states := ok_check_states (P := P) (w := w) (base := base) T
  refine okXN T.F_make_machine sc_make_machine (fun vs H Q E h => ?_) (fun cdv A outer s H vs Q E hr h => ?_)
  · obtain ⟨pl, pg, ps, st, gs, rfl, _⟩ := h
    rfl
  · obtain ⟨pl, pg, ps, st, gs, rfl, L, bst, q, qe⟩ := h
    have zl : (sizeLine : Nat) = 16777216 := by decide
    have lr := refsI_len ps
    have l1 : ((ps.map (·.2))).length = ps.length := List.length_map _
    refine ⟨_, (pss_cons (ps_expr (pe_callS (G_check_shape) (hr.mono (by first | decide | omega)) (by rfl) T.g_check_shape T.F_check_shape.kp T.b_check_shape (fun σ => L2N.passAt (L2N.takes_of rfl rfl rfl rfl) σ) (pa_cons (pv 0) pa_nil)))
      (pss_cons (ps_for (passes_of rfl) rfl (pi_listK (K := K) rfl (pv 0)) (pg_name (i := 3) sc_make_machine.nd rfl (Or.inl rfl)) (pss_one (ps_expr (pe_callS (G_check_states) (hr.mono (by first | decide | omega)) (by rfl) T.g_check_states T.F_check_states.kp T.b_check_states (fun σ => L2N.passAt (L2N.takes_of rfl rfl rfl rfl) σ) (pa_cons (pv 3) (pa_cons (pe_callB (call_lenQK (K := K) rfl) (by rfl) T.z_len (by decide +kernel) (pa_cons (pv 0) pa_nil)) pa_nil))))))
      (pss_cons (ps_expr (pe_callS (G_check_states) (hr.mono (by first | decide | omega)) (by rfl) T.g_check_states T.F_check_states.kp T.b_check_states (fun σ => L2N.passAt (L2N.takes_of rfl rfl rfl rfl) σ) (pa_cons (pe_lst (pa_cons (pv 1) pa_nil)) (pa_cons (pe_callB (call_lenQK (K := K) rfl) (by rfl) T.z_len (by decide +kernel) (pa_cons (pv 0) pa_nil)) pa_nil))))
      (pss_cons (ps_expr (pe_callS (G_check_states) (hr.mono (by first | decide | omega)) (by rfl) T.g_check_states T.F_check_states.kp T.b_check_states (fun σ => L2N.passAt (L2N.takes_of rfl rfl rfl rfl) σ) (pa_cons (pv 2) (pa_cons (pe_callB (call_lenQK (K := K) rfl) (by rfl) T.z_len (by decide +kernel) (pa_cons (pv 0) pa_nil)) pa_nil))))
      (pss_one (ps_ret (pe_tup (pa_cons (pe_callTy (call_tupOfK (K := K) rfl) (by rfl) T.z_tuple (by decide +kernel) (pa_cons (pe_lc (own := [("row", 3)]) (g := gName 3) (tt := tYes) rfl sc_make_machine.nd (pi_listK (K := K) rfl (pv 0)) (blkOk_by (N := N_make_machine) (sc := (defScope s_make_machine)) (by decide +kernel)) (fun _ _ _ _ _ => pg_name (i := 3) sc_make_machine.nd rfl (by first | exact Or.inl rfl | exact Or.inr rfl)) (fun _ _ _ _ _ => pts_nil) (fun _ _ _ _ _ => (pe_callTy (call_tupOfK (K := K) rfl) (by rfl) T.z_tuple (by decide +kernel) (pa_cons (pv 3) pa_nil)))) pa_nil)) (pa_cons (pv 1) (pa_cons (pe_callTy (call_tupOfK (K := K) rfl) (by rfl) T.z_tuple (by decide +kernel) (pa_cons (pe_callB (cr_sortedSetW (w := w) rfl rfl) (by rfl) T.z_sorted (by decide +kernel) (pa_cons (pe_callTy (cr_setLw (K := K) (w := w) rfl rfl rfl) (by rfl) T.z_set (by decide +kernel) (pa_cons (pv 2) pa_nil)) pa_nil)) pa_nil)) pa_nil)))))))))), ?_⟩
    walk_at "rd"
    refine r_callS ?_
    walk_at "rd"
    refine ⟨pl, ps, rfl, L.s, fun p hp => ⟨(L.r p hp).1, (L.r p hp).2.1⟩, L.n, fun hsh H1 s1 => ?_, fun hn H1 s1 => qe (fun hk => hn hk.1) H1 s1⟩
    walk_at "rd"
    refine ⟨⟨_, s1.seq L.s⟩, ?_⟩
    refine for_list (xs := refsI ps) (fun i σ G => (∃ y, σ = [some (.ref pl), some (.int st), some (.ref pg), y]) ∧ Same H G ∧ ∀ p ∈ ps.take i, okSt ps.length p.2) ⟨⟨none, rfl⟩, s1, fun x hx => nomatch hx⟩ (fun i σ G _ hP => hP.2.1.seq L.s) (fun i x σ G hx hP => ?_) (fun σ G hP => ?_)
    · obtain ⟨⟨y, rfl⟩, sG, hall⟩ := hP
      obtain ⟨p, hp, rfl⟩ := refsI_at hx
      obtain ⟨r1, r2, r3⟩ := L.r p (List.mem_of_getElem? hp)
      walk_at "rd"
      refine r_callS ?_
      walk_at "rd"
      refine r_lenL (sG.seq L.s) ?_
      walk_at "rd"
      rw [lr]
      refine ⟨p.1, p.2, ps.length, rfl, sG.seq r1, r3, L.n, fun hk => ?_, fun hk => qe (fun z => hk ?_) _ sG⟩
      · refine ⟨⟨_, rfl⟩, sG, fun p' hp' => ?_⟩
        rw [List.take_add_one, hp] at hp'
        rcases List.mem_append.mp hp' with hp' | hp'
        · exact hall p' hp'
        · rw [List.mem_singleton.mp hp']
          exact hk
      · have := z.2.1 p.2 (List.mem_map_of_mem (List.mem_of_getElem? hp))
        rw [l1] at this
        exact this
    obtain ⟨⟨y, rfl⟩, sG, hall⟩ := hP
    rw [lr, List.take_length] at hall
    walk_at "rd"
    refine r_callS ?_
    walk_at "rd"
    refine ⟨ln1, fun p1 hp1 => ?_⟩
    have sG1 := sG.trans (same_new (o := .lst [V.int st]) hp1)
    walk_at "rd"
    refine r_lenL (sG1.seq L.s) ?_
    walk_at "rd"
    rw [lr]
    refine ⟨p1, [st], ps.length, rfl, SqL.of upd_same, fun x hx => by rw [List.mem_singleton.mp hx]; exact bst, L.n, fun hst => ?_, fun hk => qe (fun z => hk fun x hx => ?_) _ sG1⟩
    rotate_left
    · rw [List.mem_singleton.mp hx]
      have := z.2.2.1
      rw [l1] at this
      exact this
    generalize upd G p1 (.lst [V.int st]) = G1 at *
    walk_at "rd"
    refine r_callS ?_
    walk_at "rd"
    refine r_lenL (sG1.seq L.s) ?_
    walk_at "rd"
    rw [lr]
    refine ⟨pg, gs, ps.length, rfl, sG1.seq L.gq, L.b, L.n, fun hgs => ?_, fun hk => qe (fun z => hk ?_) _ sG1⟩
    rotate_left
    · have := z.2.2.2
      rw [l1] at this
      exact this
    walk_at "rd"
    refine ⟨⟨_, sG1.seq L.s⟩, fun D hD => ?_⟩
    refine lc_list (xs := refsI ps) (fun j G3 => Same G1 G3 ∧ ∃ vs : List V, G3 D = some (.lst vs) ∧ DtAll K G3 vs ((ps.take j).map fun p => rowI p.2)) ⟨same_new hD, [], upd_same, .nil⟩ (fun j G3 _ hP => (sG1.trans hP.1).seq L.s) (fun j x G3 hx hP => ?_) (fun G3 hP => ?_)
    · obtain ⟨sG3, vs, hG3, hdt⟩ := hP
      obtain ⟨p, hp, rfl⟩ := refsI_at hx
      have hj := (List.getElem?_eq_some_iff.mp hp).1
      refine ⟨rfl, r_yes (iteT ?_)⟩
      walk_at "rd"
      refine r_tupL ((sG1.trans sG3).seq (L.r p (List.mem_of_getElem? hp)).1) (fun t ht => ?_)
      have s4 := same_new (o := .tup (p.2.map V.int)) ht
      refine ⟨vs, s4 _ _ hG3, ?_, same_mut (sG3.trans s4) hD, vs ++ [.ref t], upd_same, ?_⟩
      · have := hdt.len
        have := L.n
        rw [List.length_map, List.length_take] at *
        omega
      · rw [List.take_add_one, hp, List.map_append]
        have sT : SameT (upd G3 t (.tup (p.2.map V.int))) (upd (upd G3 t (.tup (p.2.map V.int))) D (.lst (vs ++ [.ref t]))) := SameT.lst (s4 _ _ hG3)
        exact (hdt.k ((sT_of s4).trans sT)).snoc (.tup (sT.sq (SqT.of upd_same)) (DtAll.map (fun i => .int i) p.2))
    · obtain ⟨sG3, vs, hG3, hdt⟩ := hP
      rw [lr, List.take_length] at hdt
      walk_at "rd"
      refine r_tupL (SqL.of hG3) (fun ts hts => ?_)
      have s4 := sG1.trans (sG3.trans (same_new (o := .tup vs) hts))
      have hdt4 := hdt.k (sT_of (same_new (o := .tup vs) hts))
      have hts4 : (upd G3 ts (.tup vs)) ts = some (.tup vs) := upd_same
      generalize upd G3 ts (.tup vs) = G4 at *
      walk_at "rd"
      refine ⟨pg, gs, rfl, s4.seq L.gq, by have := L.l; omega, fun p c0 hc0 hp => ?_⟩
      walk_at "rd"
      have := L.l
      refine ⟨p, _, c0, rfl, upd_same, by omega, fun ns p2 pw hm hl hp2 => ?_⟩
      rw [good_tup hgs pw hm]
      walk_at "rd"
      refine r_tupL (SqL.of upd_same) (fun t2 ht2 => ?_)
      walk_at "rd"
      refine ⟨ln3, fun t ht => ?_⟩
      have s5 := same_new (o := SetO w p (fun j => decide (j ∈ gs)) c0) hp
      have s6 := same_new (o := .lst ((goodOf ps.length gs).map iV)) hp2
      have s7 := same_new (o := .tup ((goodOf ps.length gs).map iV)) ht2
      have s8 := same_new (o := .tup [V.ref ts, V.int st, V.ref t2]) ht
      have h7 := s8 _ _ (upd_same (H := upd (upd G4 p (SetO w p (fun j => decide (j ∈ gs)) c0)) p2 (.lst ((goodOf ps.length gs).map iV))) (a := t2) (o := .tup ((goodOf ps.length gs).map iV)))
      refine q ⟨hsh, ?_, ?_, ?_⟩ _ _ (s4.trans (s5.trans (s6.trans (s7.trans s8)))) ?_
      · intro r hr
        obtain ⟨p, hp, rfl⟩ := List.mem_map.mp hr
        rw [l1]
        exact hall p hp
      · rw [l1]
        exact hst st (List.mem_singleton.mpr rfl)
      · rw [l1]
        exact hgs
      · unfold macI
        rw [List.map_map]
        refine .tup (SqT.of upd_same) (.cons (.tup (SqT.of ((s5.trans (s6.trans (s7.trans s8))) _ _ hts4)) (hdt4.k (sT_of (s5.trans (s6.trans (s7.trans s8)))))) (.cons (.int st) (.cons (.tup (SqT.of h7) (ofNats _)) .nil)))
end

section
variable {P : Program} {w : World} {K : PySem.W.Frag} {mg : Str → Option Value} {base : Heap} {a : Ad}
open TL
def txV (L : List Nat) : V := .str ⟨L.toArray⟩
def spDigit : Sp := fun vs H Q _ => ∃ l : List Nat, vs = [.str ⟨l.toArray⟩] ∧ l.length ≤ 1 ∧ Q (.bl (isDg l)) H
theorem lt48 (c : Nat) : decide (([c] : List Nat) < [48]) = decide (c < 48) := by
  rw [decide_eq_decide, List.cons_lt_cons_iff]
  simp
theorem lt57 (c : Nat) : decide (([57] : List Nat) < [c]) = decide (57 < c) := by
  rw [decide_eq_decide, List.cons_lt_cons_iff]
  simp
theorem ok_is_digit (T : Txt K mg a) : FnOk P w K mg base CX0 1 a.f_is_digit a.d_is_digit ["sign"] spDigit := by
  refine T.F_is_digit.ok sc_is_digit (fun vs H Q E h => ?_) (fun cdv A outer s H vs Q E hr h => ?_)
  · obtain ⟨l, rfl, _⟩ := h
    rfl
  · obtain ⟨l, rfl, hl, q⟩ := h
    refine ⟨_, (pss_one (ps_ret (pe_chain op_leS op_leS pe_str (pv 0) pe_str))), ?_⟩
    walk_at "rd"
    refine ⟨_, _, rfl, rfl, _, rfl, ?_⟩
    match l, hl with
    | [], _ =>
      exact q
    | [c], _ =>
      have e1 : (!decide (([c] : List Nat) < [48])) = decide (48 ≤ c) := by
        rw [lt48]
        by_cases h : c < 48
        · rw [decide_eq_true h, decide_eq_false (show ¬ 48 ≤ c by omega)]; rfl
        · rw [decide_eq_false h, decide_eq_true (show 48 ≤ c by omega)]; rfl
      show if (!decide (([c] : List Nat) < [48])) = true then _ else _
      rw [e1]
      refine r_iteD (fun h1 => ?_) (fun h1 => ?_)
      · walk_at "rd"
        refine ⟨_, _, rfl, rfl, ?_⟩
        have e2 : (!decide (([57] : List Nat) < [c])) = isDg [c] := by
          rw [lt57]
          show _ = decide (48 ≤ c ∧ c ≤ 57)
          by_cases h : 57 < c
          · rw [decide_eq_true h, decide_eq_false (show ¬ (48 ≤ c ∧ c ≤ 57) by omega)]; rfl
          · rw [decide_eq_false h, decide_eq_true (show 48 ≤ c ∧ c ≤ 57 by omega)]; rfl
        show Q (.bl (!decide (([57] : List Nat) < [c]))) H
        rw [e2]
        exact q
      · have e3 : isDg [c] = false := decide_eq_false (by omega)
        rw [← e3]
        exact q
def spSignAt : Sp := fun vs H Q _ => ∃ (L : List Nat) (k : Nat), vs = [.str ⟨L.toArray⟩, .int (k : Int)] ∧ L.length ≤ 100000 ∧ Q (.str ⟨((L.drop k).take 1).toArray⟩) H
theorem ok_sign_at (T : Txt K mg a) : FnOk P w K mg base CX0 1 a.f_sign_at a.d_sign_at ["text", "at"] spSignAt := by
  refine T.F_sign_at.ok sc_sign_at (fun vs H Q E h => ?_) (fun cdv A outer s H vs Q E hr h => ?_)
  · obtain ⟨L, k, rfl, _⟩ := h
    rfl
  · obtain ⟨L, k, rfl, hl, q⟩ := h
    have zl : (sizeLine : Nat) = 16777216 := by decide
    refine ⟨_, (pss_one (ps_ret (pe_slice sl_str (pv 0) (po_some (pv 1)) (po_some (pe_op op_add (pv 1) pe_int))))), ?_⟩
    walk_at "rd"
    refine r_slS (by rw [str_len]; omega) ?_
    rw [cutS_one]
    exact q
/-- SyntaxFault with that column -/
def ErrC (a : Ad) (E : XK) (col : Nat) : Prop := ∀ (H' : Hp) (dx : Addr), H' dx = some (.xd [("column", .int (col : Int))]) → E (.ref a.k_SyntaxFault) (some dx) H'
theorem hd_dg (r : List Nat) : isDg (r.take 1) = hdD r := by
  cases r with
  | nil => rfl
  | cons c r =>
    have t : (c :: r).take 1 = [c] := by cases r <;> rfl
    rw [t]
    rfl
def spBehind (a : Ad) : Sp := fun vs H Q E => ∃ (L : List Nat) (k : Nat) (c : List Nat), vs = [.str ⟨L.toArray⟩, .int (k : Int), .str ⟨c.toArray⟩] ∧ L.length ≤ 1000 ∧ k ≤ 1000 ∧ ((L.drop k).take 1 = c → Q (.int ((k + 1 : Nat) : Int)) H) ∧ ((L.drop k).take 1 ≠ c → ErrC a E (k + 1))
theorem str_ne {l c : List Nat} (h : l ≠ c) : (⟨l.toArray⟩ : Str) ≠ ⟨c.toArray⟩ := fun e => h (by
  have h2 : l.toArray = c.toArray := congrArg Str.cps e
  have h3 := congrArg Array.toList h2
  simpa using h3)
theorem ok_behind (T : Txt K mg a) (hp : P = a.pg) : FnOk P w K mg base (L2N.CX P w) 3 a.f_behind a.d_behind ["text", "at", "sign"] (spBehind a) := by
  have G_sign_at := ok_sign_at (P := P) (w := w) (base := base) T
  refine okXN T.F_behind sc_behind (fun vs H Q E h => ?_) (fun cdv A outer s H vs Q E hr h => ?_)
  · obtain ⟨L, k, c, rfl, _⟩ := h
    rfl
  · obtain ⟨L, k, c, rfl, hl, hk, q, qe⟩ := h
    refine ⟨_, (pss_cons (ps_if (pt_cmpR op_ne (pe_call (G_sign_at) (hr.mono (by first | decide | omega)) (by rfl) T.g_sign_at T.F_sign_at.kp T.b_sign_at .nil pass0 (pa_cons (pv 0) (pa_cons (pv 1) pa_nil))) (pv 2) (nomark _)) (pss_one (ps_raiseIN (k := 0) T.x_SyntaxFault hp rfl rfl rfl (L2N.takes_of rfl rfl rfl rfl) (hr.mono (by omega)) (by rfl) (pe_op op_add (pv 1) pe_int))) pss_nil)
      (pss_one (ps_ret (pe_op op_add (pv 1) pe_int)))), ?_⟩
    walk_at "rd"
    refine ⟨L, k, rfl, by omega, ?_⟩
    walk_at "rd"
    by_cases e : (L.drop k).take 1 = c
    · rw [e]
      refine r_iteN (fun h => absurd rfl h) (fun _ => ?_)
      walk_at "rd"
      exact q e
    · refine r_iteN (fun _ => ?_) (fun h => absurd h (str_ne e))
      refine r_raiseI ?_
      walk_at "rd"
      exact raiseI_in (Gd := Gnum) ⟨_, rfl, by omega⟩ fun dx hdx => qe e _ dx upd_same
def spRNum (a : Ad) : Sp := fun vs H Q E => ∃ (L : List Nat) (k : Nat), vs = [.str ⟨L.toArray⟩, .int (k : Int)] ∧ L.length ≤ 1000 ∧ k ≤ 1000 ∧ (hdD (L.drop k) = false → ErrC a E (k + 1)) ∧
  (∀ (n : Nat) (rest : List Nat), n < 100 → L.drop k = numL n ++ rest → (n < 10 → n = 0 ∨ hdD rest = false) → ∀ (H' : Hp) (t : Addr), Same H H' → H' t = some (.tup [iV n, iV (k + (numL n).length)]) → Q (.ref t) H')
theorem drop_more {L A B : List Nat} {k : Nat} (h : L.drop k = A ++ B) : L.drop (k + A.length) = B := by
  rw [← List.drop_drop, h, List.drop_left]
theorem drop_le {L A : List Nat} {k : Nat} (h : L.drop k = A) (hA : A ≠ []) : k + A.length = L.length := by
  have := congrArg List.length h
  rw [List.length_drop] at this
  have : 0 < A.length := List.length_pos_iff.mpr hA
  omega
theorem ok_read_number (T : Txt K mg a) (hp : P = a.pg) : FnOk P w K mg base (L2N.CX P w) 3 a.f_read_number a.d_read_number ["text", "at"] (spRNum a) := by
  have G_is_digit := ok_is_digit (P := P) (w := w) (base := base) T
  have G_sign_at := ok_sign_at (P := P) (w := w) (base := base) T
  refine okXN T.F_read_number sc_read_number (fun vs H Q E h => ?_) (fun cdv A outer s H vs Q E hr h => ?_)
  · obtain ⟨L, k, rfl, _⟩ := h
    rfl
  · obtain ⟨L, k, rfl, hl, hk, qe, q⟩ := h
    have zl : (sizeLine : Nat) = 16777216 := by decide
    refine ⟨_, (pss_cons (ps_if (pt_not (pt_val (pe_call (G_is_digit) (hr.mono (by first | decide | omega)) (by rfl) T.g_is_digit T.F_is_digit.kp T.b_is_digit .nil pass0 (pa_cons (pe_call (G_sign_at) (hr.mono (by first | decide | omega)) (by rfl) T.g_sign_at T.F_sign_at.kp T.b_sign_at .nil pass0 (pa_cons (pv 0) (pa_cons (pv 1) pa_nil))) pa_nil)))) (pss_one (ps_raiseIN (k := 0) T.x_SyntaxFault hp rfl rfl rfl (L2N.takes_of rfl rfl rfl rfl) (hr.mono (by omega)) (by rfl) (pe_op op_add (pv 1) pe_int))) pss_nil)
      (pss_cons (ps_set (i := 2) sc_read_number.nd rfl (Or.inl rfl) (pe_op op_add (pv 1) pe_int))
      (pss_cons (ps_if (PW.pt (pw_and (pt_cmpR op_ne (pe_ix ix_str (pv 0) (pv 1) (fun _ _ => rfl)) pe_str (nomark _)) (pw_and1 (pt_val (pe_call (G_is_digit) (hr.mono (by first | decide | omega)) (by rfl) T.g_is_digit T.F_is_digit.kp T.b_is_digit .nil pass0 (pa_cons (pe_call (G_sign_at) (hr.mono (by first | decide | omega)) (by rfl) T.g_sign_at T.F_sign_at.kp T.b_sign_at .nil pass0 (pa_cons (pv 0) (pa_cons (pv 2) pa_nil))) pa_nil)))))) (pss_one (ps_aug (i := 2) sc_read_number.nd rfl (Or.inl rfl) pe_int ip_add)) pss_nil)
      (pss_one (ps_ret (pe_tup (pa_cons (pe_callTy call_intT (by rfl) T.z_int (by decide +kernel) (pa_cons (pe_slice sl_str (pv 0) (po_some (pv 1)) (po_some (pv 2))) pa_nil)) (pa_cons (pv 2) pa_nil)))))))), ?_⟩
    walk_at "rd"
    refine ⟨L, k, rfl, by omega, ?_⟩
    walk_at "rd"
    refine ⟨(L.drop k).take 1, rfl, by rw [List.length_take]; omega, ?_⟩
    rw [hd_dg]
    rcases num_split (L.drop k) with h0 | ⟨n, rest, hn, hd, hr0⟩
    · rw [h0]
      refine ⟨_, rfl, iteNF ?_⟩
      refine r_raiseI ?_
      walk_at "rd"
      exact raiseI_in (Gd := Gnum) ⟨_, rfl, by omega⟩ fun dx hdx => qe h0 _ dx upd_same
    have q := q n rest hn hd hr0
    clear qe
    have hd2 := drop_more hd
    have one : ∀ {c : Nat} {r : List Nat}, L.drop k = c :: r → atI (⟨L.toArray⟩ : Str).cps.toList (k : Int) = some c := fun {c r} h => by
      refine atI_nat ?_
      show L[k]? = some c
      have : (L.drop k)[0]? = some c := by rw [h]; rfl
      rw [List.getElem?_drop] at this
      exact this
    have fin : ∀ (e : Nat), e = k + (numL n).length → cutS ⟨L.toArray⟩ (some (k : Int)) (some (e : Int)) = ⟨(numL n).toArray⟩ := fun e he => by
      have hle : e ≤ L.length := by
        have := congrArg List.length hd
        rw [List.length_drop, List.length_append] at this
        have hp : 0 < (numL n).length := by
          rcases numL_small n hn with ⟨_, e⟩ | ⟨_, e⟩ <;> rw [e]
          · show 0 < 1; decide
          · show 0 < 2; decide
        omega
      rw [cutS_in (by omega) hle, hd, he, show k + (numL n).length - k = (numL n).length by omega, List.take_left]
    have ends : ∀ (e : Nat), e = k + (numL n).length → ∀ (D : Ends), D.rt = Q → tRet (tTup (tCons (tCB rIntT (tCons (tSl rSlS (tVar 0) (tPart (tVar 1)) (tPart (tVar 2))) tNil)) (tCons (tVar 2) tNil))) D [some (.str ⟨L.toArray⟩), some (.int (k : Int)), some (.int (e : Int))] H := fun e he D hD => by
      walk_at "rd"
      refine r_slS (by rw [str_len]; omega) ?_
      rw [fin e he]
      walk_at "rd"
      refine ⟨_, (n : Int), rfl, intText_num hn, ?_, ?_⟩
      · rw [str_len]
        rcases numL_small n hn with ⟨_, e⟩ | ⟨_, e⟩ <;> rw [e]
        · show 1 ≤ 640; decide
        · show 2 ≤ 640; decide
      walk_at "rd"
      refine ⟨ln2, fun t ht => ?_⟩
      rw [hD]
      refine q _ t (same_new ht) ?_
      rw [upd_same, he]
      rfl
    rcases numL_small n hn with ⟨h10, en⟩ | ⟨h10, en⟩
    · rw [en] at hd hd2
      have hd : L.drop k = (48 + n) :: rest := hd
      have hd2 : L.drop (k + 1) = rest := hd2
      have dg : hdD (L.drop k) = true := by rw [hd]; exact decide_eq_true ⟨by omega, by omega⟩
      rw [dg]
      walk_at "rd"
      refine r_ixS (by rw [str_len]; omega) (one hd) ?_
      walk_at "rd"
      refine r_iteN (fun h1 => ?_) (fun h1 => ?_)
      · walk_at "rd"
        refine ⟨L, k + 1, rfl, by omega, ?_⟩
        walk_at "rd"
        rw [hd2]
        refine ⟨rest.take 1, rfl, by rw [List.length_take]; omega, ?_⟩
        have hr1 : hdD rest = false := (hr0 h10).resolve_left fun z => h1 (by rw [z]; rfl)
        rw [hd_dg, hr1]
        refine r_bl (iteF (r_next ?_))
        exact ends (k + 1) (by rw [en]; rfl) _ rfl
      · exact iteF (r_next (ends (k + 1) (by rw [en]; rfl) _ rfl))
    · rw [en] at hd hd2
      have hd : L.drop k = (48 + n / 10) :: (48 + n % 10) :: rest := hd
      have hd1 : L.drop (k + 1) = (48 + n % 10) :: rest := drop_more (A := [48 + n / 10]) hd
      have dg : hdD (L.drop k) = true := by rw [hd]; exact decide_eq_true ⟨by omega, by omega⟩
      rw [dg]
      walk_at "rd"
      refine r_ixS (by rw [str_len]; omega) (one hd) ?_
      walk_at "rd"
      refine r_iteN (fun h1 => ?_) (fun h1 => ?_)
      · walk_at "rd"
        refine ⟨L, k + 1, rfl, by omega, ?_⟩
        walk_at "rd"
        rw [hd1]
        refine ⟨[48 + n % 10], rfl, Nat.le_refl _, ?_⟩
        have dg : isDg [48 + n % 10] = true := decide_eq_true ⟨by omega, by omega⟩
        rw [dg]
        refine r_bl (iteT ?_)
        refine ⟨_, rfl, r_c ⟨_, _, rfl, rfl, ?_⟩⟩
        exact ends (k + 2) (by rw [en]; rfl) _ rfl
      · have h2 : (48 + n / 10) = 48 := by
          have := congrArg Str.cps h1
          have h3 : #[48 + n / 10] = #[48] := this
          simpa using h3
        omega
def spRNums (a : Ad) : Sp := fun vs H Q E => ∃ (L : List Nat) (k p col : Nat) (ls : Bool), vs = [.str ⟨L.toArray⟩, .int (k : Int)] ∧ L.length ≤ 900 ∧ k ≤ L.length ∧ (p < 2 ∨ ls = false) ∧ p ≠ 1 ∧ colF (L.drop k) k p [] ls = col ∧ (0 < col → ErrC a E col) ∧
  ∀ (n : Nat) (ns rest : List Nat), (∀ x ∈ n :: ns, x < 100) → L.drop k = numsL (n :: ns) ++ rest → rest.take 1 ≠ [32] → aftF rest (k + (numsL (n :: ns)).length) p = col →
    ∀ (H' : Hp) (t l : Addr), Same H H' → H l = none → H' t = some (.tup [V.ref l, iV (k + (numsL (n :: ns)).length)]) → H' l = some (.lst ((n :: ns).map iV)) → Q (.ref t) H'
theorem str_list {l : List Nat} {c : Nat} (h : (⟨l.toArray⟩ : Str) = ⟨#[c]⟩) : l = [c] := by
  have h2 : l.toArray = #[c] := congrArg Str.cps h
  have h3 := congrArg Array.toList h2
  simpa using h3
theorem take_cons {r : List Nat} {c : Nat} (h : r.take 1 = [c]) : ∃ r', r = c :: r' := by
  cases r with
  | nil => exact nomatch h
  | cons d r =>
    have t : (d :: r).take 1 = [d] := by cases r <;> rfl
    rw [t] at h
    exact ⟨r, by rw [(List.cons.inj h).1]⟩
theorem nums_pos (n : Nat) (ns : List Nat) (h : n < 100) : 0 < (numsL (n :: ns)).length := by
  rw [numsL_cons, List.length_append]
  rcases numL_small n h with ⟨_, e⟩ | ⟨_, e⟩ <;> rw [e]
  · exact Nat.lt_of_lt_of_le (show 0 < 1 by decide) (Nat.le_add_right _ _)
  · exact Nat.lt_of_lt_of_le (show 0 < 2 by decide) (Nat.le_add_right _ _)
theorem drop_lt {L A B : List Nat} {k : Nat} (h : L.drop k = A ++ B) (hA : A ≠ []) : k + A.length + B.length = L.length := by
  have := congrArg List.length h
  rw [List.length_drop, List.length_append] at this
  have : 0 < A.length := List.length_pos_iff.mpr hA
  omega
theorem numL_len {n : Nat} (h : n < 100) : 1 ≤ (numL n).length ∧ (numL n).length ≤ 2 := by
  rcases numL_small n h with ⟨_, e⟩ | ⟨_, e⟩ <;> rw [e]
  · exact ⟨Nat.le_refl _, by show 1 ≤ 2; decide⟩
  · exact ⟨by show 1 ≤ 2; decide, Nat.le_refl _⟩
theorem nums_len : ∀ (ns : List Nat), (∀ x ∈ ns, x < 100) → ns.length ≤ (numsL ns).length
  | [], _ => Nat.zero_le _
  | n :: ns, h => by
    rw [numsL_cons, List.length_append, List.length_cons]
    have h1 := (numL_len (h n List.mem_cons_self)).1
    have h2 : ∀ l : List Nat, l.length ≤ (rstJ 32 (l.map numL)).length := by
      intro l
      induction l with
      | nil => exact Nat.zero_le _
      | cons m l ih =>
        rw [List.map_cons, rstJ_cons, List.length_cons, List.length_cons, List.length_append]
        omega
    have := h2 ns
    omega
theorem ok_read_numbers (T : Txt K mg a) (hp : P = a.pg) : FnOk P w K mg base (L2N.CX P w) 4 a.f_read_numbers a.d_read_numbers ["text", "at"] (spRNums a) := by
  have G_read_number := ok_read_number (P := P) (w := w) (base := base) T hp
  have G_sign_at := ok_sign_at (P := P) (w := w) (base := base) T
  refine okXN T.F_read_numbers sc_read_numbers (fun vs H Q E h => ?_) (fun cdv A outer s H vs Q E hr h => ?_)
  · obtain ⟨L, k, p, col, ls, rfl, _⟩ := h
    rfl
  · obtain ⟨L, k, p, col, ls, rfl, hl, hkl, hpl, hp1, hcol, qe, q⟩ := h
    have zl : (sizeLine : Nat) = 16777216 := by decide
    refine ⟨_, (pss_cons (ps_asg (pe_callS (G_read_number) (hr.mono (by first | decide | omega)) (by rfl) T.g_read_number T.F_read_number.kp T.b_read_number (fun σ => L2N.passAt (L2N.takes_of rfl rfl rfl rfl) σ) (pa_cons (pv 0) (pa_cons (pv 1) pa_nil))) (pg_tupK (K := K) rfl rfl (pgs_cons (pg_name (i := 2) sc_read_numbers.nd rfl (Or.inl rfl)) (pgs_cons (pg_name (i := 1) sc_read_numbers.nd rfl (Or.inl rfl)) pgs_nil))))
      (pss_cons (ps_set (i := 3) sc_read_numbers.nd rfl (Or.inl rfl) (pe_lst (pa_cons (pv 2) pa_nil)))
      (pss_cons (ps_while (passes_of rfl) (pt_cmpR op_eq (pe_call (G_sign_at) (hr.mono (by first | decide | omega)) (by rfl) T.g_sign_at T.F_sign_at.kp T.b_sign_at .nil pass0 (pa_cons (pv 0) (pa_cons (pv 1) pa_nil))) pe_str (nomark _)) (pss_cons (ps_asg (pe_callS (G_read_number) (hr.mono (by first | decide | omega)) (by rfl) T.g_read_number T.F_read_number.kp T.b_read_number (fun σ => L2N.passAt (L2N.takes_of rfl rfl rfl rfl) σ) (pa_cons (pv 0) (pa_cons (pe_op op_add (pv 1) pe_int) pa_nil))) (pg_tupK (K := K) rfl rfl (pgs_cons (pg_name (i := 2) sc_read_numbers.nd rfl (Or.inl rfl)) (pgs_cons (pg_name (i := 1) sc_read_numbers.nd rfl (Or.inl rfl)) pgs_nil))))
      (pss_one (ps_expr (bmK (K := K) rfl (pe_bm PySem.F.plainAttrs_list PySem.F.slot_list_append PySem.F.type_list_append mt_append (pv 3) (pa_cons (pv 2) pa_nil)))))))
      (pss_one (ps_ret (pe_tup (pa_cons (pv 3) (pa_cons (pv 1) pa_nil)))))))), ?_⟩
    walk_at "rd"
    refine r_callS ?_
    walk_at "rd"
    refine ⟨L, k, rfl, by omega, by omega, fun h0 => ?_, fun n rest hn hd hr0 H1 t1 s1 h1 => ?_⟩
    · rw [colF_bad hpl h0] at hcol
      rw [hcol]
      exact qe (by omega)
    rw [hd, colF_num hn hr0] at hcol
    walk_at "rd"
    refine ⟨t1, _, rfl, SqT.of h1, rfl, _, _, rfl, _, _, rfl, rfl, ?_⟩
    walk_at "rd"
    refine ⟨ln1, fun l hnl => ?_⟩
    walk_at "rd"
    refine ⟨fun m σ G => ∃ (ns rest : List Nat) (e : Nat) (y2 : V), σ = [some (.str ⟨L.toArray⟩), some (.int (e : Int)), some y2, some (.ref l)] ∧ m = rest.length ∧ Same H G ∧ (∀ x ∈ n :: ns, x < 100) ∧ L.drop k = numsL (n :: ns) ++ rest ∧ e = k + (numsL (n :: ns)).length ∧ aftF rest e p = col ∧ G l = some (.lst ((n :: ns).map iV)),
      ⟨_, [], rest, k + (numL n).length, .int n, rfl, rfl, s1.trans (same_new hnl), fun x hx => by rw [List.mem_singleton.mp hx]; exact hn, hd, rfl, hcol, upd_same⟩, ?_⟩
    have hlH : H l = none := s1.free hnl
    clear hd hcol h1 s1 hnl hr0
    rintro m σ G ⟨ns, rest, e, y2, rfl, rfl, sG, h100, hd, he, hcol, hG⟩
    have hde : L.drop e = rest := by rw [he]; exact drop_more hd
    have hlen := drop_lt hd (List.length_pos_iff.mp (nums_pos n ns hn))
    walk_at "rd"
    refine ⟨L, e, rfl, by omega, ?_⟩
    walk_at "rd"
    refine r_iteD (fun h1 => ?_) (fun h1 => ?_)
    · have e32 : (L.drop e).take 1 = [32] := str_list h1
      rw [hde] at e32
      obtain ⟨r2, rfl⟩ := take_cons e32
      have hd1 : L.drop (e + 1) = r2 := drop_more (A := [32]) hde
      rw [List.length_cons] at hlen
      have hcol : colF r2 (e + 1) p [] false = col := by
        unfold aftF at hcol
        dsimp only at hcol
        rw [if_pos rfl, if_neg hp1] at hcol
        exact hcol
      refine ⟨_, fun σ' H' h => h, ?_⟩
      walk_at "rd"
      refine r_callS ?_
      walk_at "rd"
      refine ⟨L, e + 1, rfl, by omega, by omega, fun h0 => ?_, fun n2 rest2 hn2 hd2 hr2 H2 t2 s2 h2 => ?_⟩
      · rw [hd1] at h0
        rw [colF_bad (.inr rfl) h0] at hcol
        rw [hcol]
        exact qe (by omega)
      rw [hd1] at hd2
      rw [hd2, colF_num hn2 hr2] at hcol
      walk_at "rd"
      refine ⟨t2, _, rfl, SqT.of h2, rfl, _, _, rfl, _, _, rfl, rfl, ?_⟩
      walk_at "rd"
      refine ⟨ty_l (SqL.of (s2 _ _ hG)), ?_⟩
      walk_at "rd"
      have hnl := nums_len (n :: ns) h100
      refine r_append (s2 _ _ hG) (by rw [List.length_map]; omega) ?_
      have l2 := congrArg List.length hd2
      rw [List.length_append] at l2
      refine ⟨rest2.length, ?_, ns ++ [n2], rest2, e + 1 + (numL n2).length, _, rfl, rfl, same_mut (sG.trans s2) hlH, fun x hx => ?_, ?_, ?_, hcol, ?_⟩
      · have := (numL_len hn2).1
        rw [List.length_cons]
        omega
      · rw [← List.cons_append] at hx
        rcases List.mem_append.mp hx with hx | hx
        · exact h100 x hx
        · rw [List.mem_singleton.mp hx]
          exact hn2
      · rw [numsL_snoc, hd, hd2, List.append_assoc]
        rfl
      · rw [numsL_snoc, List.length_append, List.length_cons]
        omega
      · rw [upd_same, ← List.cons_append, List.map_append]
        rfl
    · have n32 : (L.drop e).take 1 ≠ [32] := fun h => h1 (by rw [h]; rfl)
      walk_at "rd"
      refine ⟨ln2, fun t ht => ?_⟩
      rw [hde] at n32
      refine q n ns rest h100 hd n32 (by rw [← he]; exact hcol) _ t l (sG.trans (same_new ht)) hlH ?_ ((same_new ht) _ _ hG)
      rw [upd_same, he]
      rfl

end

section
variable {P : Program} {w : World} {K : PySem.W.Frag} {mg : Str → Option Value} {base : Heap} {a : Ad}
open TL
def intsN (r : List Nat) : List Int := r.map fun n : Nat => (n : Int)
theorem intsN_V (r : List Nat) : (intsN r).map V.int = r.map iV := by
  unfold intsN
  rw [List.map_map]
  rfl
/-- the text of a machine -/
def macL (rs : List (List Nat)) (st : Nat) (gs : List Nat) : List Nat := joinL [47] (rs.map numsL) ++ 59 :: (numL st ++ 59 :: numsL gs)
/-- numbers of one or two digits, in rows that are not empty -/
structure GrOk (rs : List (List Nat)) (st : Nat) (gs : List Nat) : Prop where
  ne : rs ≠ []
  rows : ∀ r ∈ rs, r ≠ [] ∧ ∀ x ∈ r, x < 100
  s : st < 100
  g : ∀ x ∈ gs, x < 100
theorem colF_ls {r num : List Nat} {k p : Nat} (h : r ≠ []) : colF r k p num true = colF r k p num false := by
  cases r with
  | nil => exact absurd rfl h
  | cons c r => rfl
theorem aft47 {r : List Nat} {k : Nat} : aftF (47 :: r) k 0 = colF r (k + 1) 0 [] false := rfl
theorem aft59 {r : List Nat} {k p : Nat} (h : p ≤ 1) : aftF (59 :: r) k p = colF r (k + 1) (p + 1) [] true := by
  unfold aftF
  dsimp only
  rw [if_neg (by decide), if_neg (by decide), if_pos rfl, if_neg (by omega)]
theorem rowsL_snoc (r0 : List Nat) (rt : List (List Nat)) (r : List Nat) : joinL [47] ((r0 :: (rt ++ [r])).map numsL) = joinL [47] ((r0 :: rt).map numsL) ++ 47 :: numsL r := by
  rw [List.map_cons, List.map_cons, joinL_rst, joinL_rst, List.map_append, List.append_assoc]
  congr 1
  unfold rstJ
  rw [List.map_append, List.flatten_append]
  simp
theorem rows_len : ∀ (r0 : List Nat) (rt : List (List Nat)), (∀ r ∈ r0 :: rt, r ≠ [] ∧ ∀ x ∈ r, x < 100) → (r0 :: rt).length ≤ (joinL [47] ((r0 :: rt).map numsL)).length ∧ ∀ r ∈ r0 :: rt, r.length ≤ (joinL [47] ((r0 :: rt).map numsL)).length := by
  intro r0 rt h
  rw [List.map_cons, joinL_rst, List.length_append]
  obtain ⟨n, ns, rfl⟩ : ∃ n ns, r0 = n :: ns := by
    cases r0 with
    | nil => exact absurd rfl (h _ List.mem_cons_self).1
    | cons n ns => exact ⟨n, ns, rfl⟩
  have h0 := nums_pos n ns ((h _ List.mem_cons_self).2 n List.mem_cons_self)
  have h0' := nums_len (n :: ns) (h _ List.mem_cons_self).2
  have hr : ∀ l : List (List Nat), (∀ r ∈ l, ∀ x ∈ r, x < 100) → l.length ≤ (rstJ 47 (l.map numsL)).length ∧ ∀ r ∈ l, r.length ≤ (rstJ 47 (l.map numsL)).length := by
    intro l
    induction l with
    | nil => exact fun _ => ⟨Nat.zero_le _, fun _ z => nomatch z⟩
    | cons m l ih =>
      intro h
      obtain ⟨i1, i2⟩ := ih fun r hr => h r (List.mem_cons_of_mem _ hr)
      have := nums_len m (h m List.mem_cons_self)
      rw [List.map_cons, rstJ_cons, List.length_cons, List.length_cons, List.length_append]
      refine ⟨by omega, fun r hr => ?_⟩
      rcases List.mem_cons.mp hr with rfl | hr
      · omega
      · have := i2 r hr
        omega
  obtain ⟨i1, i2⟩ := hr rt fun r hr => (h r (List.mem_cons_of_mem _ hr)).2
  refine ⟨by rw [List.length_cons]; omega, fun r hr => ?_⟩
  rcases List.mem_cons.mp hr with rfl | hr
  · omega
  · have := i2 r hr
    omega
def spRMach (K : PySem.W.Frag) (a : Ad) : Sp := fun vs H Q E => ∃ (L : List Nat) (k col : Nat), vs = [.str ⟨L.toArray⟩, .int (k : Int)] ∧ L.length ≤ k + 59 ∧ k ≤ 500 ∧ k ≤ L.length ∧ colF (L.drop k) k 0 [] false = col ∧ (0 < col → ErrC a E col) ∧
  ∀ (rs : List (List Nat)) (st : Nat) (gs : List Nat), GrOk rs st gs → L.drop k = macL rs st gs → col = 0 →
    (okMac (rs.map intsN) (st : Int) (intsN gs) → ∀ (H' : Hp) (v : V), Same H H' → Dt K H' v (macI (rs.map intsN) (st : Int) (goodOf rs.length (intsN gs))) → Q v H') ∧
    (¬ okMac (rs.map intsN) (st : Int) (intsN gs) → ∀ H' : Hp, E (.ref a.k_InvalidMachine) none H')
theorem ok_read_machine_at (T : Txt K mg a) (hp : P = a.pg) : FnOk P w K mg base (L2N.CX P w) 5 a.f_read_machine_at a.d_read_machine_at ["text", "at"] (spRMach K a) := by
  have G_behind := ok_behind (P := P) (w := w) (base := base) T hp
  have G_make_machine := ok_make_machine (P := P) (w := w) (base := base) T
  have G_read_number := ok_read_number (P := P) (w := w) (base := base) T hp
  have G_read_numbers := ok_read_numbers (P := P) (w := w) (base := base) T hp
  have G_sign_at := ok_sign_at (P := P) (w := w) (base := base) T
  refine okXN T.F_read_machine_at sc_read_machine_at (fun vs H Q E h => ?_) (fun cdv A outer s H vs Q E hr h => ?_)
  · obtain ⟨L, k, col, rfl, _⟩ := h
    rfl
  · obtain ⟨L, k, col, rfl, hl, hk5, hkl, hcol, qe, q⟩ := h
    have zl : (sizeLine : Nat) = 16777216 := by decide
    refine ⟨_, (pss_cons (ps_asg (pe_callS (G_read_numbers) (hr.mono (by first | decide | omega)) (by rfl) T.g_read_numbers T.F_read_numbers.kp T.b_read_numbers (fun σ => L2N.passAt (L2N.takes_of rfl rfl rfl rfl) σ) (pa_cons (pv 0) (pa_cons (pv 1) pa_nil))) (pg_tupK (K := K) rfl rfl (pgs_cons (pg_name (i := 2) sc_read_machine_at.nd rfl (Or.inl rfl)) (pgs_cons (pg_name (i := 1) sc_read_machine_at.nd rfl (Or.inl rfl)) pgs_nil))))
      (pss_cons (ps_set (i := 3) sc_read_machine_at.nd rfl (Or.inl rfl) (pe_lst (pa_cons (pv 2) pa_nil)))
      (pss_cons (ps_while (passes_of rfl) (pt_cmpR op_eq (pe_call (G_sign_at) (hr.mono (by first | decide | omega)) (by rfl) T.g_sign_at T.F_sign_at.kp T.b_sign_at .nil pass0 (pa_cons (pv 0) (pa_cons (pv 1) pa_nil))) pe_str (nomark _)) (pss_cons (ps_asg (pe_callS (G_read_numbers) (hr.mono (by first | decide | omega)) (by rfl) T.g_read_numbers T.F_read_numbers.kp T.b_read_numbers (fun σ => L2N.passAt (L2N.takes_of rfl rfl rfl rfl) σ) (pa_cons (pv 0) (pa_cons (pe_op op_add (pv 1) pe_int) pa_nil))) (pg_tupK (K := K) rfl rfl (pgs_cons (pg_name (i := 2) sc_read_machine_at.nd rfl (Or.inl rfl)) (pgs_cons (pg_name (i := 1) sc_read_machine_at.nd rfl (Or.inl rfl)) pgs_nil))))
      (pss_one (ps_expr (bmK (K := K) rfl (pe_bm PySem.F.plainAttrs_list PySem.F.slot_list_append PySem.F.type_list_append mt_append (pv 3) (pa_cons (pv 2) pa_nil)))))))
      (pss_cons (ps_asg (pe_callS (G_read_number) (hr.mono (by first | decide | omega)) (by rfl) T.g_read_number T.F_read_number.kp T.b_read_number (fun σ => L2N.passAt (L2N.takes_of rfl rfl rfl rfl) σ) (pa_cons (pv 0) (pa_cons (pe_callS (G_behind) (hr.mono (by first | decide | omega)) (by rfl) T.g_behind T.F_behind.kp T.b_behind (fun σ => L2N.passAt (L2N.takes_of rfl rfl rfl rfl) σ) (pa_cons (pv 0) (pa_cons (pv 1) (pa_cons pe_str pa_nil)))) pa_nil))) (pg_tupK (K := K) rfl rfl (pgs_cons (pg_name (i := 4) sc_read_machine_at.nd rfl (Or.inl rfl)) (pgs_cons (pg_name (i := 1) sc_read_machine_at.nd rfl (Or.inl rfl)) pgs_nil))))
      (pss_cons (ps_set (i := 1) sc_read_machine_at.nd rfl (Or.inl rfl) (pe_callS (G_behind) (hr.mono (by first | decide | omega)) (by rfl) T.g_behind T.F_behind.kp T.b_behind (fun σ => L2N.passAt (L2N.takes_of rfl rfl rfl rfl) σ) (pa_cons (pv 0) (pa_cons (pv 1) (pa_cons pe_str pa_nil)))))
      (pss_cons (ps_set (i := 5) sc_read_machine_at.nd rfl (Or.inl rfl) (pe_lst pa_nil))
      (pss_cons (ps_if (pt_cmpR op_lt (pv 1) (pe_callB call_lenS1 (by rfl) T.z_len (by decide +kernel) (pa_cons (pv 0) pa_nil)) (nomark _)) (pss_one (ps_asg (pe_callS (G_read_numbers) (hr.mono (by first | decide | omega)) (by rfl) T.g_read_numbers T.F_read_numbers.kp T.b_read_numbers (fun σ => L2N.passAt (L2N.takes_of rfl rfl rfl rfl) σ) (pa_cons (pv 0) (pa_cons (pv 1) pa_nil))) (pg_tupK (K := K) rfl rfl (pgs_cons (pg_name (i := 5) sc_read_machine_at.nd rfl (Or.inl rfl)) (pgs_cons (pg_name (i := 1) sc_read_machine_at.nd rfl (Or.inl rfl)) pgs_nil))))) pss_nil)
      (pss_cons (ps_expr (pe_callS (G_behind) (hr.mono (by first | decide | omega)) (by rfl) T.g_behind T.F_behind.kp T.b_behind (fun σ => L2N.passAt (L2N.takes_of rfl rfl rfl rfl) σ) (pa_cons (pv 0) (pa_cons (pv 1) (pa_cons pe_str pa_nil)))))
      (pss_one (ps_ret (pe_callS (G_make_machine) (hr.mono (by first | decide | omega)) (by rfl) T.g_make_machine T.F_make_machine.kp T.b_make_machine (fun σ => L2N.passAt (L2N.takes_of rfl rfl rfl rfl) σ) (pa_cons (pv 3) (pa_cons (pv 4) (pa_cons (pv 5) pa_nil)))))))))))))), ?_⟩
    walk_at "rd"
    refine r_callS ?_
    walk_at "rd"
    refine ⟨L, k, 0, col, false, rfl, by omega, hkl, .inl (by decide), by decide, hcol, qe, fun n0 ns0 rest0 h100 hd0 hr0 ha0 H1 t1 l1 s1 fl1 h1 hl1 => ?_⟩
    walk_at "rd"
    refine ⟨t1, _, rfl, SqT.of h1, rfl, _, _, rfl, _, _, rfl, rfl, ?_⟩
    walk_at "rd"
    refine ⟨ln1, fun D hD => ?_⟩
    walk_at "rd"
    have lD : l1 ≠ D := fun e => by rw [e, hD] at hl1; exact nomatch hl1
    have hDH : H D = none := s1.free hD
    refine ⟨fun m σ G => ∃ (r0 : List Nat) (rt : List (List Nat)) (rest : List Nat) (e : Nat) (y2 : V) (ps : List (Addr × List Int)), σ = [some (.str ⟨L.toArray⟩), some (.int (e : Int)), some y2, some (.ref D), none, none] ∧ m = rest.length ∧ Same H G ∧ (∀ r ∈ r0 :: rt, r ≠ [] ∧ ∀ x ∈ r, x < 100) ∧ L.drop k = joinL [47] ((r0 :: rt).map numsL) ++ rest ∧ e = k + (joinL [47] ((r0 :: rt).map numsL)).length ∧ rest.take 1 ≠ [32] ∧ aftF rest e 0 = col ∧
      G D = some (.lst (refsI ps)) ∧ (∀ p ∈ ps, G p.1 = some (.lst (p.2.map V.int)) ∧ p.1 ≠ D) ∧ ps.map (·.2) = (r0 :: rt).map intsN,
      ⟨_, n0 :: ns0, [], rest0, k + (numsL (n0 :: ns0)).length, .ref l1, [(l1, intsN (n0 :: ns0))], rfl, rfl, s1.trans (same_new hD), fun r hr => ?_, hd0, rfl, hr0, ha0, upd_same, fun p hp => ?_, rfl⟩, ?_⟩
    · rw [List.mem_singleton.mp hr]
      exact ⟨fun z => (nomatch z), h100⟩
    · rw [List.mem_singleton.mp hp]
      refine ⟨?_, lD⟩
      rw [upd_ne lD, intsN_V]
      exact hl1
    clear hl1 h1 s1 fl1 hD lD hcol h100 hd0 hr0 ha0
    rintro m σ G ⟨r0, rt, rest, e, y2, ps, rfl, rfl, sG, hrows, hd, he, hr32, hcol, hG, hps, eps⟩
    have hde : L.drop e = rest := by rw [he]; exact drop_more hd
    obtain ⟨rl1, rl2⟩ := rows_len r0 rt hrows
    have hlen := drop_lt hd (List.length_pos_iff.mp (by rw [List.length_cons] at rl1; omega))
    have lps : ps.length = (r0 :: rt).length := by
      have := congrArg List.length eps
      rw [List.length_map, List.length_map] at this
      exact this
    walk_at "rd"
    refine ⟨L, e, rfl, by omega, ?_⟩
    walk_at "rd"
    refine r_iteD (fun h1 => ?_) (fun h1 => ?_)
    · have e47 : (L.drop e).take 1 = [47] := str_list h1
      rw [hde] at e47
      obtain ⟨r2, rfl⟩ := take_cons e47
      have hd1 : L.drop (e + 1) = r2 := drop_more (A := [47]) hde
      rw [List.length_cons] at hlen
      rw [aft47] at hcol
      refine ⟨_, fun σ' H' h => h, ?_⟩
      walk_at "rd"
      refine r_callS ?_
      walk_at "rd"
      refine ⟨L, e + 1, 0, col, false, rfl, by omega, by omega, .inl (by decide), by decide, by rw [hd1]; exact hcol, qe, fun n ns rest2 h100 hd2 hr2 ha2 H2 t2 l2 s2 fl2 h2 hl2 => ?_⟩
      rw [hd1] at hd2
      walk_at "rd"
      refine ⟨t2, _, rfl, SqT.of h2, rfl, _, _, rfl, _, _, rfl, rfl, ?_⟩
      walk_at "rd"
      refine ⟨ty_l (SqL.of (s2 _ _ hG)), ?_⟩
      walk_at "rd"
      refine r_append (s2 _ _ hG) (by rw [refsI_len]; omega) ?_
      have nD : l2 ≠ D := fun e => by rw [e, hG] at fl2; exact nomatch fl2
      have l2' := congrArg List.length hd2
      rw [List.length_append] at l2'
      refine ⟨rest2.length, ?_, r0, rt ++ [n :: ns], rest2, e + 1 + (numsL (n :: ns)).length, _, ps ++ [(l2, intsN (n :: ns))], rfl, rfl, same_mut (sG.trans s2) hDH, fun r hr => ?_, ?_, ?_, hr2, ha2, ?_, fun p hp => ?_, ?_⟩
      · rw [List.length_cons]
        omega
      · rw [← List.cons_append] at hr
        rcases List.mem_append.mp hr with hr | hr
        · exact hrows r hr
        · rw [List.mem_singleton.mp hr]
          exact ⟨fun z => (nomatch z), h100⟩
      · rw [rowsL_snoc, hd, hd2, List.append_assoc]
        rfl
      · rw [rowsL_snoc, List.length_append, List.length_cons]
        omega
      · rw [upd_same]
        unfold refsI
        rw [List.map_append]
        rfl
      · rcases List.mem_append.mp hp with hp | hp
        · rw [upd_ne (hps p hp).2]
          exact ⟨s2 _ _ (hps p hp).1, (hps p hp).2⟩
        · rw [List.mem_singleton.mp hp, upd_ne nD, intsN_V]
          exact ⟨hl2, nD⟩
      · rw [List.map_append, eps, ← List.cons_append, List.map_append]
        rfl
    · have n47 : (L.drop e).take 1 ≠ [47] := fun h => h1 (by rw [h]; rfl)
      rw [hde] at n47
      walk_at "rd"
      refine r_callS ?_
      walk_at "rd"
      refine r_callS ?_
      walk_at "rd"
      refine ⟨L, e, [59], rfl, by omega, by omega, fun h59 => ?_, fun h59 => ?_⟩
      rotate_left
      · rw [hde] at h59
        rw [aftF_bad (by decide) (fun _ => hr32) (fun _ => n47) h59] at hcol
        rw [hcol]
        exact qe (by omega)
      rw [hde] at h59
      obtain ⟨r2, rfl⟩ := take_cons h59
      have hd1 : L.drop (e + 1) = r2 := drop_more (A := [59]) hde
      rw [List.length_cons] at hlen
      rw [aft59 (by decide)] at hcol
      refine ⟨L, e + 1, rfl, by omega, by omega, fun h0 => ?_, fun st rest3 hst hd2 hr3 H2 t2 s2 h2 => ?_⟩
      · rw [hd1] at h0
        rw [colF_bad (.inl (by decide)) h0] at hcol
        rw [hcol]
        exact qe (by omega)
      rw [hd1] at hd2
      rw [hd2, colF_num hst hr3] at hcol
      have l3 := congrArg List.length hd2
      rw [List.length_append] at l3
      walk_at "rd"
      refine ⟨t2, _, rfl, SqT.of h2, rfl, _, _, rfl, _, _, rfl, rfl, ?_⟩
      walk_at "rd"
      refine r_callS ?_
      walk_at "rd"
      obtain ⟨e2, he2⟩ : ∃ e2, e + 1 + (numL st).length = e2 := ⟨_, rfl⟩
      have hde2 : L.drop e2 = rest3 := by rw [← he2]; exact drop_more (hd1.trans hd2)
      rw [he2] at hcol ⊢
      refine ⟨L, e2, [59], rfl, by omega, by omega, fun h59 => ?_, fun h59 => ?_⟩
      rotate_left
      · rw [hde2] at h59
        rw [aftF_bad (by decide) (fun z => absurd rfl z) (fun z => (nomatch z)) h59] at hcol
        rw [hcol]
        exact qe (by omega)
      rw [hde2] at h59
      obtain ⟨r4, rfl⟩ := take_cons h59
      have hd3 : L.drop (e2 + 1) = r4 := drop_more (A := [59]) hde2
      rw [List.length_cons] at l3
      rw [aft59 (by decide)] at hcol
      walk_at "rd"
      refine ⟨by show 0 ≤ sizeLine; decide, fun pg hpg => ?_⟩
      have s3 := sG.trans (s2.trans (same_new (o := .lst []) hpg))
      have hpsG : ∀ p ∈ ps, (upd H2 pg (.lst [])) p.1 = some (.lst (p.2.map V.int)) := fun p hp => (same_new hpg) _ _ (s2 _ _ (hps p hp).1)
      have hG3 := (same_new (o := .lst []) hpg) _ _ (s2 _ _ hG)
      have hE3 : (upd H2 pg (.lst [])) pg = some (.lst []) := upd_same
      generalize upd H2 pg (.lst []) = H3 at *
      clear hG hps s2 sG h2 hpg
      with_reducible refine r_cutJ (fun σ G2 => ∃ (gs rest5 : List Nat) (e5 : Nat) (y2 : V) (pg : Addr), σ = [some (.str ⟨L.toArray⟩), some (.int (e5 : Int)), some y2, some (.ref D), some (iV st), some (.ref pg)] ∧ Same H3 G2 ∧ (∀ x ∈ gs, x < 100) ∧ r4 = numsL gs ++ rest5 ∧ e5 = e2 + 1 + (numsL gs).length ∧ (rest5 = [] → col = 0) ∧ (rest5 ≠ [] → col = e5 + 1) ∧ G2 pg = some (.lst ((intsN gs).map V.int))) (fun σ G2 hJ => ?_) (fun key => ?_)
      rotate_left
      · walk_at "rd"
        refine r_lenS (by rw [str_len]; omega) ?_
        rw [str_len]
        walk_at "rd"
        refine r_iteD (fun h1 => ?_) (fun h1 => ?_)
        · have hne : r4 ≠ [] := fun z => by
            rw [z] at l3
            have e0 : ([] : List Nat).length = 0 := rfl
            omega
          rw [colF_ls hne] at hcol
          with_reducible refine r_asg ?_
          refine r_callS ?_
          walk_at "rd"
          refine ⟨L, e2 + 1, 2, col, false, rfl, by omega, by omega, .inr rfl, by decide, by rw [hd3]; exact hcol, qe, fun g gt rest5 h100 hd5 hr5 ha5 H4 t4 l4 s4 fl4 h4 hl4 => ?_⟩
          rw [hd3] at hd5
          walk_at "rd"
          refine ⟨t4, _, rfl, SqT.of h4, rfl, _, _, rfl, _, _, rfl, rfl, ?_⟩
          refine key _ _ ⟨g :: gt, rest5, e2 + 1 + (numsL (g :: gt)).length, _, l4, rfl, s4, h100, hd5, rfl, fun z => ?_, fun z => ?_, by rw [intsN_V]; exact hl4⟩
          · rw [← ha5, z]
            rfl
          · rw [← ha5]
            exact aftF_end hr5 z
        · have e4 : r4 = [] := by
            cases r4 with
            | nil => rfl
            | cons c r => rw [List.length_cons] at l3; omega
          rw [e4] at hcol
          refine r_next (key _ _ ⟨[], [], e2 + 1, _, pg, rfl, (fun _ _ z => z), (fun _ z => (nomatch z)), e4, rfl, fun _ => ?_, fun z => absurd rfl z, hE3⟩)
          rw [← hcol]
          rfl
      clear hE3
      obtain ⟨gs, rest5, e5, y5, pg, rfl, s4, hg100, hd4, he5, hc0, hc1, hE⟩ := hJ
      have l4 := congrArg List.length hd4
      rw [List.length_append] at l4
      have hde5 : L.drop e5 = rest5 := by rw [he5]; exact drop_more (hd3.trans hd4)
      walk_at "rd"
      refine r_callS ?_
      walk_at "rd"
      refine ⟨L, e5, [], rfl, by omega, by omega, fun h5 => ?_, fun h5 => ?_⟩
      rotate_left
      · rw [hde5] at h5
        have c1 := hc1 fun z => h5 (by rw [z]; rfl)
        rw [← c1]
        exact qe (by omega)
      have e50 : rest5 = [] := by
        rw [hde5] at h5
        cases rest5 with
        | nil => rfl
        | cons c r => exact nomatch h5
      have c0 := hc0 e50
      rw [e50, List.append_nil] at hd4
      walk_at "rd"
      refine r_callS ?_
      walk_at "rd"
      have lgs := nums_len gs hg100
      obtain ⟨q1, q2⟩ := q (r0 :: rt) st gs ⟨(fun z => nomatch z), hrows, hst, hg100⟩ (by rw [hd]; unfold macL; rw [hd2, hd4]) c0
      refine ⟨D, pg, ps, (st : Int), intsN gs, rfl, ⟨SqL.of (s4 _ _ hG3), fun p hp => ⟨SqL.of (s4 _ _ (hpsG p hp)), ?_⟩, by omega, hE, fun x hx => ?_, by show (gs.map _).length ≤ 60; rw [List.length_map]; omega⟩, by omega, fun hok G5 v s5 hv => ?_, fun hn G5 s5 => ?_⟩
      · obtain ⟨qr, hqr, e1⟩ := List.mem_map.mp (eps ▸ List.mem_map_of_mem hp : p.2 ∈ (r0 :: rt).map intsN)
        have hx := (hrows qr hqr).2
        have hlq := rl2 qr hqr
        rw [← e1]
        refine ⟨by show (qr.map _).length ≤ 1000; rw [List.length_map]; omega, fun z hz => ?_⟩
        obtain ⟨y, hy, rfl⟩ := List.mem_map.mp hz
        have := hx y hy
        omega
      · obtain ⟨y, hy, rfl⟩ := List.mem_map.mp hx
        have := hg100 y hy
        omega
      · rw [eps] at hok hv
        rw [lps] at hv
        exact q1 hok G5 v (s3.trans (s4.trans s5)) hv
      · rw [eps] at hn
        exact q2 hn G5
def spRead (K : PySem.W.Frag) (a : Ad) : Sp := fun vs H Q E => ∃ (L : List Nat) (col : Nat), vs = [.str ⟨L.toArray⟩] ∧ L.length ≤ 59 ∧ colF L 0 0 [] false = col ∧ (0 < col → ErrC a E col) ∧
  ∀ (rs : List (List Nat)) (st : Nat) (gs : List Nat), GrOk rs st gs → L = macL rs st gs → col = 0 →
    (okMac (rs.map intsN) (st : Int) (intsN gs) → ∀ (H' : Hp) (v : V), Same H H' → Dt K H' v (macI (rs.map intsN) (st : Int) (goodOf rs.length (intsN gs))) → Q v H') ∧
    (¬ okMac (rs.map intsN) (st : Int) (intsN gs) → ∀ H' : Hp, E (.ref a.k_InvalidMachine) none H')
theorem ok_read_machine (T : Txt K mg a) (hp : P = a.pg) : FnOk P w K mg base (L2N.CX P w) 6 a.f_read_machine a.d_read_machine ["text"] (spRead K a) := by
  have G_read_machine_at := ok_read_machine_at (P := P) (w := w) (base := base) T hp
  refine okXN T.F_read_machine sc_read_machine (fun vs H Q E h => ?_) (fun cdv A outer s H vs Q E hr h => ?_)
  · obtain ⟨L, col, rfl, _⟩ := h
    rfl
  · obtain ⟨L, col, rfl, hl, hcol, qe, q⟩ := h
    refine ⟨_, (pss_one (ps_ret (pe_callS (G_read_machine_at) (hr.mono (by first | decide | omega)) (by rfl) T.g_read_machine_at T.F_read_machine_at.kp T.b_read_machine_at (fun σ => L2N.passAt (L2N.takes_of rfl rfl rfl rfl) σ) (pa_cons (pv 0) (pa_cons pe_int pa_nil))))), ?_⟩
    walk_at "rd"
    refine r_callS ?_
    walk_at "rd"
    exact ⟨L, 0, col, rfl, by omega, by decide, Nat.zero_le _, hcol, qe, q⟩

end

section
variable {P : Program} {w : World} {K : PySem.W.Frag} {mg : Str → Option Value} {base : Heap} {a : Ad}
open TL
theorem cutL_to (L : List Nat) (n : Nat) : cutS ⟨L.toArray⟩ none (some (n : Int)) = ⟨(L.take n).toArray⟩ := by
  have e : (⟨L.toArray⟩ : Str).length = L.length := str_len L
  unfold cutS
  rw [six_nat, HT.sIx_none, e, Nat.sub_zero, List.drop_zero]
  by_cases h : n ≤ L.length
  · rw [Nat.min_eq_left h]
  · rw [Nat.min_eq_right (by omega), List.take_of_length_le (Nat.le_refl _), List.take_of_length_le (by omega)]
theorem cutL_from (L : List Nat) (n : Nat) : cutS ⟨L.toArray⟩ (some (n : Int)) none = ⟨(L.drop n).toArray⟩ := by
  have e : (⟨L.toArray⟩ : Str).length = L.length := str_len L
  unfold cutS
  rw [six_nat, HT.sIx_none, e]
  by_cases h : n ≤ L.length
  · rw [Nat.min_eq_left h, List.take_of_length_le (by rw [List.length_drop]; exact Nat.le_refl _)]
  · rw [Nat.min_eq_right (by omega), List.drop_eq_nil_of_le (Nat.le_refl _), List.drop_eq_nil_of_le (show L.length ≤ n by omega), List.take_nil]
theorem cutL_mid (L : List Nat) (n : Nat) (h : n ≤ L.length) : cutS ⟨L.toArray⟩ (some (n : Int)) (some ((n : Int) + 1)) = ⟨((L.drop n).take 1).toArray⟩ := cutS_one
/-- an expression that makes a text of so many characters at most -/
def Tx (σ : L2.St) (H : Hp) (te : TE) (k : Nat) : Prop := ∀ Q : VK, (∀ L : List Nat, L.length ≤ k → Q (.str ⟨L.toArray⟩) H) → te σ H Q
theorem Tx.cat {σ : L2.St} {H : Hp} {ta tb : TE} {k1 k2 : Nat} (h1 : Tx σ H ta k1) (h2 : Tx σ H tb k2) (hk : k1 + k2 ≤ 100000) : Tx σ H (tOp rAddS1 ta tb) (k1 + k2) := by
  have zl : (sizeLine : Nat) = 16777216 := by decide
  intro Q q
  refine r_op (h1 _ fun L1 l1 => h2 _ fun L2 l2 => ?_)
  have e1 : (⟨L1.toArray⟩ : Str).length = L1.length := str_len L1
  have e2 : (⟨L2.toArray⟩ : Str).length = L2.length := str_len L2
  refine r_addS (by rw [e1, e2]; omega) ?_
  rw [str_app]
  exact q _ (by rw [List.length_append]; omega)
section
variable {σ : L2.St} {H : Hp} {te tl th : TE} {L : List Nat} {n : Nat}
theorem Tx.to (hl : L.length ≤ 1000) (h0 : ∀ Q : VK, Q (.str ⟨L.toArray⟩) H → te σ H Q) (h1 : ∀ Q : VK, Q (.int (n : Int)) H → th σ H Q) : Tx σ H (tSl rSlS te tNoPart (tPart th)) (min n L.length) := fun Q q => by
  have zl : (sizeLine : Nat) = 16777216 := by decide
  refine r_sl (h0 _ (r_noPart (r_part (h1 _ (r_pint (r_slS (by rw [str_len]; omega) ?_))))))
  rw [cutL_to]
  exact q _ (by rw [List.length_take]; omega)
theorem Tx.from (hl : L.length ≤ 1000) (h0 : ∀ Q : VK, Q (.str ⟨L.toArray⟩) H → te σ H Q) (h1 : ∀ Q : VK, Q (.int (n : Int)) H → tl σ H Q) : Tx σ H (tSl rSlS te (tPart tl) tNoPart) (L.length - n) := fun Q q => by
  have zl : (sizeLine : Nat) = 16777216 := by decide
  refine r_sl (h0 _ (r_part (h1 _ (r_pint (r_noPart (r_slS (by rw [str_len]; omega) ?_))))))
  rw [cutL_from]
  exact q _ (by rw [List.length_drop]; exact Nat.le_refl _)
theorem Tx.mid (hl : L.length ≤ 1000) (hn : n ≤ L.length) (h0 : ∀ Q : VK, Q (.str ⟨L.toArray⟩) H → te σ H Q) (h1 : ∀ Q : VK, Q (.int (n : Int)) H → tl σ H Q) (h2 : ∀ Q : VK, Q (.int ((n : Int) + 1)) H → th σ H Q) : Tx σ H (tSl rSlS te (tPart tl) (tPart th)) 1 := fun Q q => by
  have zl : (sizeLine : Nat) = 16777216 := by decide
  refine r_sl (h0 _ (r_part (h1 _ (r_pint (r_part (h2 _ (r_pint (r_slS (by rw [str_len]; omega) ?_))))))))
  rw [cutL_mid L n hn]
  exact q _ (by rw [List.length_take]; omega)
theorem Tx.var {k i : Nat} {L : List Nat} (h : σ[i]? = some (some (.str ⟨L.toArray⟩))) (hl : L.length ≤ k) : Tx σ H (tVar i) k := fun Q q => r_var h (q L hl)
end
def spLSpoilt (K : PySem.W.Frag) : Sp := fun vs H Q _ => ∃ (L : List Nat) (pn : Addr) (ns : List Int), vs = [.str ⟨L.toArray⟩, .ref pn] ∧ L.length ≤ 900 ∧ SqL K H pn (ns.map V.int) ∧ 3 ≤ ns.length ∧ ∀ L' : List Nat, L'.length ≤ L.length + 1 → Q (.str ⟨L'.toArray⟩) H
theorem ok_l_spoilt (T : Txt K mg a) : FnOk P w K mg base CX0 1 a.f_l_spoilt a.d_l_spoilt ["text", "numbers"] (spLSpoilt K) := by
  refine T.F_l_spoilt.ok sc_l_spoilt (fun vs H Q E h => ?_) (fun cdv A outer s H vs Q E hr h => ?_)
  · obtain ⟨L, pn, ns, rfl, _⟩ := h
    rfl
  · obtain ⟨L, pn, ns, rfl, hl, hN, hn3, q⟩ := h
    have zl : (sizeLine : Nat) = 16777216 := by decide
    refine ⟨_, (pss_cons (ps_set (i := 2) sc_l_spoilt.nd rfl (Or.inl rfl) (pe_op op_mod (pe_ix (ix_listK (K := K) rfl) (pv 1) pe_int (fun _ _ => rfl)) (pe_op op_add (pe_callB call_lenS1 (by rfl) T.z_len (by decide +kernel) (pa_cons (pv 0) pa_nil)) pe_int)))
      (pss_cons (ps_set (i := 3) sc_l_spoilt.nd rfl (Or.inl rfl) (pe_ix ix_str pe_str (pe_op op_mod (pe_ix (ix_listK (K := K) rfl) (pv 1) pe_int (fun _ _ => rfl)) pe_int) (fun _ _ => rfl)))
      (pss_cons (ps_set (i := 4) sc_l_spoilt.nd rfl (Or.inl rfl) (pe_op op_mod (pe_ix (ix_listK (K := K) rfl) (pv 1) pe_int (fun _ _ => rfl)) pe_int))
      (pss_cons (ps_if (pt_cmpR op_eq (pv 4) pe_int (nomark _)) (pss_one (ps_ret (pe_op op_addS (pe_slice sl_str (pv 0) po_none (po_some (pv 2))) (pe_slice sl_str (pv 0) (po_some (pe_op op_add (pv 2) pe_int)) po_none)))) pss_nil)
      (pss_cons (ps_if (pt_cmpR op_eq (pv 4) pe_int (nomark _)) (pss_one (ps_ret (pe_op op_addS (pe_op op_addS (pe_slice sl_str (pv 0) po_none (po_some (pv 2))) (pe_slice sl_str (pv 0) (po_some (pv 2)) (po_some (pe_op op_add (pv 2) pe_int)))) (pe_slice sl_str (pv 0) (po_some (pv 2)) po_none)))) pss_nil)
      (pss_cons (ps_if (pt_cmpR op_eq (pv 4) pe_int (nomark _)) (pss_one (ps_ret (pe_op op_addS (pe_op op_addS (pe_slice sl_str (pv 0) po_none (po_some (pv 2))) (pv 3)) (pe_slice sl_str (pv 0) (po_some (pe_op op_add (pv 2) pe_int)) po_none)))) pss_nil)
      (pss_cons (ps_if (pt_cmpR op_eq (pv 4) pe_int (nomark _)) (pss_one (ps_ret (pe_op op_addS (pe_op op_addS (pe_slice sl_str (pv 0) po_none (po_some (pv 2))) (pv 3)) (pe_slice sl_str (pv 0) (po_some (pv 2)) po_none)))) pss_nil)
      (pss_cons (ps_if (pt_cmpR op_eq (pv 4) pe_int (nomark _)) (pss_one (ps_ret (pe_slice sl_str (pv 0) po_none (po_some (pv 2))))) pss_nil)
      (pss_one (ps_ret (pe_op op_addS (pv 0) (pv 3)))))))))))), ?_⟩
    walk_at "rd"
    refine r_ixL hN (at_int (by decide) (by omega)) ?_
    walk_at "rd"
    refine r_lenS (by rw [str_len]; omega) ?_
    rw [str_len]
    walk_at "rd"
    refine r_mod (by omega) ?_
    obtain ⟨n, en, hnl⟩ : ∃ n : Nat, ns.getD (0 : Int).toNat 0 % ((L.length : Nat) + 1 : Int) = (n : Int) ∧ n ≤ L.length := by
      have g := emod_rng (ns.getD (0 : Int).toNat 0) (b := (L.length : Int) + 1) (by omega)
      exact ⟨(ns.getD (0 : Int).toNat 0 % ((L.length : Nat) + 1 : Int)).toNat, by omega, by omega⟩
    rw [en]
    walk_at "rd"
    refine r_ixL hN (at_int (by decide) (by omega)) ?_
    walk_at "rd"
    have m16 := emod_rng (ns.getD (1 : Int).toNat 0) (b := 16) (by decide)
    obtain ⟨ch, hch⟩ : ∃ c : Nat, atI (Str.ofString "0123456789 ;/a-9").cps.toList (ns.getD (1 : Int).toNat 0 % 16) = some c := by
      generalize ns.getD (1 : Int).toNat 0 % 16 = z at m16
      have k : ∀ i : Nat, i < 16 → (atI (Str.ofString "0123456789 ;/a-9").cps.toList (i : Int)).isSome = true := by decide +kernel
      have := k z.toNat (by omega)
      rw [show ((z.toNat : Nat) : Int) = z by omega] at this
      exact Option.isSome_iff_exists.mp this
    refine r_ixS (by decide) hch ?_
    walk_at "rd"
    refine r_ixL hN (at_int (by decide) (by omega)) ?_
    walk_at "rd"
    have v0 : ∀ {σ : L2.St}, σ[0]? = some (some (.str ⟨L.toArray⟩)) → ∀ Q : VK, Q (.str ⟨L.toArray⟩) H → tVar 0 σ H Q := fun h Q q => r_var h q
    have vc : ∀ {σ : L2.St}, σ[3]? = some (some (.str ⟨#[ch]⟩)) → Tx σ H (tVar 3) 1 := fun h => Tx.var (L := [ch]) h (Nat.le_refl _)
    refine r_iteD (fun _ => ?_) (fun _ => ?_)
    · refine r_ret ?_
      exact (Tx.cat (Tx.to (n := n) (by omega) (v0 rfl) (fun Q q => r_var rfl q)) (Tx.from (n := n + 1) (by omega) (v0 rfl) (fun Q q => r_op (r_var rfl (r_c (r_I0 q))))) (by omega)) _ (fun L' h => q L' (by omega))
    refine r_next ?_
    walk_at "rdn"
    walk_at "rd"
    refine r_iteD (fun _ => ?_) (fun _ => ?_)
    · refine r_ret ?_
      exact (Tx.cat (Tx.cat (Tx.to (n := n) (by omega) (v0 rfl) (fun Q q => r_var rfl q)) (Tx.mid (n := n) (by omega) hnl (v0 rfl) (fun Q q => r_var rfl q) (fun Q q => r_op (r_var rfl (r_c (r_I0 q))))) (by omega)) (Tx.from (n := n) (by omega) (v0 rfl) (fun Q q => r_var rfl q)) (by omega)) _ (fun L' h => q L' (by omega))
    refine r_next ?_
    walk_at "rdn"
    walk_at "rd"
    refine r_iteD (fun _ => ?_) (fun _ => ?_)
    · refine r_ret ?_
      exact (Tx.cat (Tx.cat (Tx.to (n := n) (by omega) (v0 rfl) (fun Q q => r_var rfl q)) (vc rfl) (by omega)) (Tx.from (n := n + 1) (by omega) (v0 rfl) (fun Q q => r_op (r_var rfl (r_c (r_I0 q))))) (by omega)) _ (fun L' h => q L' (by omega))
    refine r_next ?_
    walk_at "rdn"
    walk_at "rd"
    refine r_iteD (fun _ => ?_) (fun _ => ?_)
    · refine r_ret ?_
      exact (Tx.cat (Tx.cat (Tx.to (n := n) (by omega) (v0 rfl) (fun Q q => r_var rfl q)) (vc rfl) (by omega)) (Tx.from (n := n) (by omega) (v0 rfl) (fun Q q => r_var rfl q)) (by omega)) _ (fun L' h => q L' (by omega))
    refine r_next ?_
    walk_at "rdn"
    walk_at "rd"
    refine r_iteD (fun _ => ?_) (fun _ => ?_)
    · refine r_ret ?_
      exact (Tx.to (n := n) (by omega) (v0 rfl) (fun Q q => r_var rfl q)) _ (fun L' h => q L' (by omega))
    refine r_next ?_
    dsimp only
    refine r_ret ?_
    exact (Tx.cat (Tx.var (k := L.length) rfl (Nat.le_refl _)) (vc rfl) (by omega)) _ (fun L' h => q L' (by omega))

end

section
variable {P : Program} {w : World} {K : PySem.W.Frag} {mg : Str → Option Value} {base : Heap} {a : Ad}
open TL
def spLCol : Sp := fun vs H Q _ => ∃ L : List Nat, vs = [.str ⟨L.toArray⟩] ∧ L.length ≤ 1000 ∧ Q (.int (colF L 0 0 [] false : Int)) H
theorem ok_l_column (T : Txt K mg a) : FnOk P w K mg base CX0 1 a.f_l_column a.d_l_column ["text"] spLCol := by
  refine T.F_l_column.ok sc_l_column (fun vs H Q E h => ?_) (fun cdv A outer s H vs Q E hr h => ?_)
  · obtain ⟨L, rfl, _⟩ := h
    rfl
  · obtain ⟨L, rfl, hl, q⟩ := h
    have zl : (sizeLine : Nat) = 16777216 := by decide
    refine ⟨_, (pss_cons (ps_set (i := 1) sc_l_column.nd rfl (Or.inl rfl) pe_int)
      (pss_cons (ps_set (i := 2) sc_l_column.nd rfl (Or.inl rfl) pe_str)
      (pss_cons (ps_for PassesOwn.never rfl (pi_range1 (by rfl) T.z_range (pa_cons (pe_callB call_lenS1 (by rfl) T.z_len (by decide +kernel) (pa_cons (pv 0) pa_nil)) pa_nil)) (pg_name (i := 3) sc_l_column.nd rfl (Or.inl rfl)) (pss_cons (ps_set (i := 4) sc_l_column.nd rfl (Or.inl rfl) (pe_ix ix_str (pv 0) (pv 3) (fun _ _ => rfl)))
      (pss_one (ps_if (pt_cmpR op_inSg (pv 4) pe_str (by rfl)) (pss_cons (ps_if (PW.pt (pw_or (pt_cmpR op_eq (pv 2) pe_str (nomark _)) (pw_or1 (pt_cmpR op_eq (pe_callB call_lenS1 (by rfl) T.z_len (by decide +kernel) (pa_cons (pv 2) pa_nil)) pe_int (nomark _))))) (pss_one (ps_ret (pe_op op_add (pv 3) pe_int))) pss_nil)
      (pss_one (ps_set (i := 2) sc_l_column.nd rfl (Or.inl rfl) (pe_op op_addS (pv 2) (pv 4))))) (pss_one (ps_if (PW.pt (pw_or (pt_cmpR op_eq (pv 2) pe_str (nomark _)) (pw_or1 (pt_cmpR op_notInSg (pv 4) pe_str (by rfl))))) (pss_one (ps_ret (pe_op op_add (pv 3) pe_int))) (pss_one (ps_if (PW.pt (pw_or (PW.pt (pw_and (pt_cmpR op_eq (pv 4) pe_str (nomark _)) (pw_and1 (pt_cmpR op_gt (pv 1) pe_int (nomark _))))) (pw_or (PW.pt (pw_and (pt_cmpR op_eq (pv 4) pe_str (nomark _)) (pw_and1 (pt_cmpR op_gt (pv 1) pe_int (nomark _))))) (pw_or1 (PW.pt (pw_and (pt_cmpR op_eq (pv 4) pe_str (nomark _)) (pw_and1 (pt_cmpR op_eq (pv 1) pe_int (nomark _))))))))) (pss_one (ps_ret (pe_op op_add (pv 3) pe_int))) (pss_cons (ps_set (i := 2) sc_l_column.nd rfl (Or.inl rfl) pe_str)
      (pss_one (ps_set (i := 1) sc_l_column.nd rfl (Or.inl rfl) (pe_op op_add (pv 1) (pe_callTy call_int1' (by rfl) T.z_int (by decide +kernel) (pa_cons (pe_cmpR op_eq (pv 4) pe_str (nomark _)) pa_nil))))))))))))))
      (pss_cons (ps_if (PW.pt (pw_or (pt_cmpR op_lt (pv 1) pe_int (nomark _)) (pw_or1 (PW.pt (pw_and (pt_cmpR op_eq (pv 2) pe_str (nomark _)) (pw_and1 (pt_cmpR op_ne (pe_slice sl_str (pv 0) (po_some (pe_un un_neg pe_int)) po_none) pe_str (nomark _)))))))) (pss_one (ps_ret (pe_op op_add (pe_callB call_lenS1 (by rfl) T.z_len (by decide +kernel) (pa_cons (pv 0) pa_nil)) pe_int))) pss_nil)
      (pss_one (ps_ret pe_int)))))), ?_⟩
    walk_at "rd"
    refine r_lenS (by rw [str_len]; omega) ?_
    rw [str_len]
    walk_at "rd"
    refine r_rng1' (by omega) (by omega) ?_
    rw [Int.toNat_natCast]
    refine for_range (lo := 0) (n := L.length) (fun i σ G => ∃ (p : Nat) (num : List Nat) (y3 y4 : Option V), σ = [some (.str ⟨L.toArray⟩), some (.int (p : Int)), some (.str ⟨num.toArray⟩), y3, y4] ∧ G = H ∧ num.length ≤ 2 ∧ colF (L.drop i) i p num (decide ((L.take i).getLast? = some 59)) = colF L 0 0 [] false)
      ⟨0, [], none, none, rfl, rfl, Nat.zero_le _, rfl⟩ (fun i σ G hi hP => ?_) (fun σ G hP => ?_)
    · obtain ⟨p, num, y3, y4, rfl, rfl, hn2, hc⟩ := hP
      have hL : L[i]? = some L[i] := List.getElem?_eq_getElem hi
      have hdrop : L.drop i = L[i] :: L.drop (i + 1) := List.drop_eq_getElem_cons hi
      generalize L[i] = c at hL hdrop
      have hlast : (L.take (i + 1)).getLast? = some c := by
        rw [List.take_add_one, hL]
        show (L.take i ++ [c]).getLast? = some c
        rw [List.getLast?_append]
        rfl
      have ei : (0 : Int) + (i : Int) = ((i : Nat) : Int) := by omega
      rw [hdrop] at hc
      have sN : ∀ {l : List Nat}, (⟨num.toArray⟩ : Str) = ⟨l.toArray⟩ ↔ num = l := fun {l} => ⟨fun e => by
        have h2 : num.toArray = l.toArray := congrArg Str.cps e
        have h3 := congrArg Array.toList h2
        simpa using h3, fun e => by rw [e]⟩
      have sC : ∀ {d : Nat}, (⟨#[c]⟩ : Str) = ⟨#[d]⟩ ↔ c = d := fun {d} => ⟨fun e => by
        have h2 : #[c] = #[d] := congrArg Str.cps e
        have h3 := congrArg Array.toList h2
        simpa using h3, fun e => by rw [e]⟩
      walk_at "rd"
      refine r_ixS (c := c) (by rw [str_len]; omega) (by rw [ei]; exact atI_nat hL) ?_
      dsimp only
      have m10 : (Str.ofString "0123456789").1.toList = [48, 49, 50, 51, 52, 53, 54, 55, 56, 57] := by decide +kernel
      have m3 : (Str.ofString " ;/").1.toList = [32, 59, 47] := by decide +kernel
      have hdm : decide (c ∈ (Str.ofString "0123456789").1.toList) = isD c := by
        rw [m10]
        unfold isD
        rw [decide_eq_decide]
        simp only [List.mem_cons, List.not_mem_nil, or_false]
        omega
      have e0 : Str.ofString "0" = ⟨([48] : List Nat).toArray⟩ := rfl
      have en : Str.ofString "" = ⟨([] : List Nat).toArray⟩ := rfl
      by_cases hd : isD c = true
      · rw [colF, hd, if_pos rfl] at hc
        refine r_ifT (fun F => F = G) (fun QB hQ => ?_) (fun F e => ?_)
        · walk_at "rd"
          rw [hdm, hd]
          exact hQ _ rfl
        cases e
        refine r_seq ?_
        by_cases h2 : num = [48] ∨ num.length = 2
        · rw [if_pos h2] at hc
          refine r_ifT (fun F => F = G) (fun QB hQ => ?_) (fun F e => ?_)
          · walk_at "rd"
            by_cases hz : num = [48]
            · rw [show decide ((⟨num.toArray⟩ : Str) = Str.ofString "0") = true from decide_eq_true (by rw [hz]; rfl)]
              walk_at "rd"
              exact hQ _ rfl
            · rw [show decide ((⟨num.toArray⟩ : Str) = Str.ofString "0") = false from decide_eq_false (fun z => hz (sN.mp z))]
              walk_at "rd"
              refine r_lenS (by rw [str_len]; omega) ?_
              rw [str_len, h2.resolve_left hz]
              walk_at "rd"
              exact hQ _ rfl
          · cases e
            walk_at "rd"
            rw [ei, show ((i : Nat) : Int) + 1 = ((i + 1 : Nat) : Int) by omega, hc]
            exact q
        · rw [if_neg h2] at hc
          refine r_ifF (fun F => F = G) (fun QB hQ => ?_) (fun F e => ?_)
          · walk_at "rd"
            rw [show decide ((⟨num.toArray⟩ : Str) = Str.ofString "0") = false from decide_eq_false (fun z => h2 (.inl (sN.mp z)))]
            walk_at "rd"
            refine r_lenS (by rw [str_len]; omega) ?_
            rw [str_len]
            walk_at "rd"
            rw [show decide ((num.length : Int) = 2) = false from decide_eq_false (fun z => h2 (.inr (by omega)))]
            exact hQ _ rfl
          · cases e
            refine r_next ?_
            walk_at "rd"
            refine r_addS (by rw [str_len]; show _ + 1 ≤ _; omega) ?_
            rw [show (⟨#[c]⟩ : Str) = ⟨([c] : List Nat).toArray⟩ from rfl, str_app]
            have h1 : (num ++ [c]).length ≤ 2 := by
              have : num.length ≠ 2 := fun z => h2 (.inr z)
              rw [List.length_append, List.length_singleton]
              omega
            refine ⟨p, num ++ [c], _, _, rfl, rfl, h1, ?_⟩
            have hc59 : c ≠ 59 := fun z => by rw [z] at hd; exact absurd hd (by decide)
            rw [hlast, show decide (some c = some 59) = false from decide_eq_false (fun z => hc59 (Option.some.inj z))]
            exact hc
      · have hdf : isD c = false := by
          cases h : isD c with
          | false => rfl
          | true => exact absurd h hd
        rw [colF, hdf, if_neg Bool.false_ne_true] at hc
        refine r_ifF (fun F => F = G) (fun QB hQ => ?_) (fun F e => ?_)
        · walk_at "rd"
          rw [hdm, hdf]
          exact hQ _ rfl
        cases e
        by_cases h2 : num = [] ∨ c ∉ ([32, 59, 47] : List Nat)
        · rw [if_pos h2] at hc
          refine r_ifT (fun F => F = G) (fun QB hQ => ?_) (fun F e => ?_)
          · walk_at "rd"
            by_cases hz : num = []
            · rw [show decide ((⟨num.toArray⟩ : Str) = Str.ofString "") = true from decide_eq_true (by rw [hz]; rfl)]
              walk_at "rd"
              exact hQ _ rfl
            · rw [show decide ((⟨num.toArray⟩ : Str) = Str.ofString "") = false from decide_eq_false (fun z => hz (sN.mp z))]
              walk_at "rd"
              rw [m3, decide_eq_false (h2.resolve_left hz)]
              exact hQ _ rfl
          · cases e
            walk_at "rd"
            rw [ei, show ((i : Nat) : Int) + 1 = ((i + 1 : Nat) : Int) by omega, hc]
            exact q
        rw [if_neg h2] at hc
        have hne : num ≠ [] := fun z => h2 (.inl z)
        have hmem : c ∈ ([32, 59, 47] : List Nat) := Decidable.byContradiction fun z => h2 (.inr z)
        refine r_ifF (fun F => F = G) (fun QB hQ => ?_) (fun F e => ?_)
        · walk_at "rd"
          rw [show decide ((⟨num.toArray⟩ : Str) = Str.ofString "") = false from decide_eq_false (fun z => hne (sN.mp z))]
          walk_at "rd"
          rw [m3, decide_eq_true hmem]
          exact hQ _ rfl
        cases e
        have t3 : ∀ (σ : L2.St) (QB : Bool → Hp → Prop), σ[1]? = some (some (.int (p : Int))) → σ[4]? = some (some (.str ⟨#[c]⟩)) → QB (decide ((c = 47 ∧ 0 < p) ∨ (c = 59 ∧ 1 < p) ∨ (c = 32 ∧ p = 1))) G → tOr
                  (tAnd (tTest (tOp rEq (tVar 4) (tC (V.str (Str.ofString "/")))))
                    (tTest (tOp (rI0 fun i j => V.bl (decide (j < i))) (tVar 1) (tC (V.int 0)))))
                  (tOr
                    (tAnd (tTest (tOp rEq (tVar 4) (tC (V.str (Str.ofString ";")))))
                      (tTest (tOp (rI0 fun i j => V.bl (decide (j < i))) (tVar 1) (tC (V.int 1)))))
                    (tAnd (tTest (tOp rEq (tVar 4) (tC (V.str (Str.ofString " ")))))
                      (tTest (tOp rEq (tVar 1) (tC (V.int 1)))))) σ G QB := fun σ QB h1 h4 hq => by
          have d47 : decide ((⟨#[c]⟩ : Str) = Str.ofString "/") = decide (c = 47) := decide_eq_decide.mpr sC
          have d59 : decide ((⟨#[c]⟩ : Str) = Str.ofString ";") = decide (c = 59) := decide_eq_decide.mpr sC
          have d32 : decide ((⟨#[c]⟩ : Str) = Str.ofString " ") = decide (c = 32) := decide_eq_decide.mpr sC
          have dp : ∀ (b : Bool), (p = 1 ↔ b = true) → decide ((p : Int) = 1) = b := fun b h => by
            cases b with
            | true => exact decide_eq_true (by have := h.mpr rfl; omega)
            | false => exact decide_eq_false (fun z => Bool.false_ne_true (h.mp (by omega)))
          simp only [List.mem_cons, List.not_mem_nil, or_false] at hmem
          refine r_or ?_
          refine r_and ?_
          refine r_test (r_op (r_var h4 (r_c (r_eqS ⟨_, rfl, ?_⟩))))
          rw [d47]
          by_cases c47 : c = 47
          · rw [decide_eq_true c47]
            refine iteT (r_test (r_op (r_var h1 (r_c (r_I0 ⟨_, rfl, ?_⟩)))))
            by_cases hp : 0 < p
            · rw [decide_eq_true (show (0 : Int) < (p : Int) by omega)]
              refine iteT ?_
              rw [decide_eq_true (.inl ⟨c47, hp⟩)] at hq
              exact hq
            · rw [decide_eq_false (show ¬ (0 : Int) < (p : Int) by omega)]
              refine iteF ?_
              refine r_or (r_and (r_test (r_op (r_var h4 (r_c (r_eqS ⟨_, rfl, ?_⟩))))))
              rw [d59, decide_eq_false (by omega)]
              refine iteF (iteF ?_)
              refine r_and (r_test (r_op (r_var h4 (r_c (r_eqS ⟨_, rfl, ?_⟩)))))
              rw [d32, decide_eq_false (by omega)]
              refine iteF ?_
              rw [decide_eq_false (by omega)] at hq
              exact hq
          · rw [decide_eq_false c47]
            refine iteF (iteF ?_)
            refine r_or (r_and (r_test (r_op (r_var h4 (r_c (r_eqS ⟨_, rfl, ?_⟩))))))
            rw [d59]
            by_cases c59 : c = 59
            · rw [decide_eq_true c59]
              refine iteT (r_test (r_op (r_var h1 (r_c (r_I0 ⟨_, rfl, ?_⟩)))))
              by_cases hp : 1 < p
              · rw [decide_eq_true (show (1 : Int) < (p : Int) by omega)]
                refine iteT ?_
                rw [decide_eq_true (.inr (.inl ⟨c59, hp⟩))] at hq
                exact hq
              · rw [decide_eq_false (show ¬ (1 : Int) < (p : Int) by omega)]
                refine iteF ?_
                refine r_and (r_test (r_op (r_var h4 (r_c (r_eqS ⟨_, rfl, ?_⟩)))))
                rw [d32, decide_eq_false (by omega)]
                refine iteF ?_
                rw [decide_eq_false (by omega)] at hq
                exact hq
            · rw [decide_eq_false c59]
              refine iteF (iteF ?_)
              refine r_and (r_test (r_op (r_var h4 (r_c (r_eqS ⟨_, rfl, ?_⟩)))))
              have c32 : c = 32 := by omega
              rw [d32, decide_eq_true c32]
              refine iteT (r_test (r_op (r_var h1 (r_c (r_eqI ⟨_, rfl, ?_⟩)))))
              by_cases hp : p = 1
              · rw [dp true ⟨fun _ => rfl, fun _ => hp⟩]
                rw [decide_eq_true (.inr (.inr ⟨c32, hp⟩))] at hq
                exact hq
              · rw [dp false ⟨fun z => absurd z hp, fun z => nomatch z⟩]
                rw [decide_eq_false (by omega)] at hq
                exact hq
        by_cases h3 : (c = 47 ∧ 0 < p) ∨ (c = 59 ∧ 1 < p) ∨ (c = 32 ∧ p = 1)
        · rw [if_pos h3] at hc
          refine r_ifT (fun F => F = G) (fun QB hQ => ?_) (fun F e => ?_)
          · refine t3 _ _ rfl rfl ?_
            rw [decide_eq_true h3]
            exact hQ _ rfl
          · cases e
            walk_at "rd"
            rw [ei, show ((i : Nat) : Int) + 1 = ((i + 1 : Nat) : Int) by omega, hc]
            exact q
        rw [if_neg h3] at hc
        refine r_ifF (fun F => F = G) (fun QB hQ => ?_) (fun F e => ?_)
        · refine t3 _ _ rfl rfl ?_
          rw [decide_eq_false h3]
          exact hQ _ rfl
        cases e
        walk_at "rd"
        have d59 : decide ((⟨#[c]⟩ : Str) = Str.ofString ";") = decide (c = 59) := decide_eq_decide.mpr sC
        refine .inr ⟨_, rfl, ?_⟩
        rw [d59]
        refine r_I0 ?_
        have ep : (p : Int) + (if decide (c = 59) = true then 1 else 0) = (((if c = 59 then p + 1 else p) : Nat) : Int) := by
          by_cases h : c = 59
          · rw [decide_eq_true h, if_pos rfl, if_pos h]; omega
          · rw [decide_eq_false h, if_neg Bool.false_ne_true, if_neg h]; omega
        rw [ep]
        refine ⟨if c = 59 then p + 1 else p, [], _, _, rfl, rfl, Nat.zero_le _, ?_⟩
        rw [hlast, show decide (some c = some 59) = decide (c = 59) from decide_eq_decide.mpr ⟨fun z => Option.some.inj z, fun z => by rw [z]⟩]
        exact hc
    · obtain ⟨p, num, y3, y4, rfl, rfl, hn2, hc⟩ := hP
      rw [List.drop_length, List.take_length] at hc
      rw [colF] at hc
      have sN : ∀ {l : List Nat}, (⟨num.toArray⟩ : Str) = ⟨l.toArray⟩ ↔ num = l := fun {l} => ⟨fun e => by
        have h2 : num.toArray = l.toArray := congrArg Str.cps e
        have h3 := congrArg Array.toList h2
        simpa using h3, fun e => by rw [e]⟩
      have dN : decide ((⟨num.toArray⟩ : Str) = Str.ofString "") = decide (num = []) := decide_eq_decide.mpr sN
      have last1 : cutS ⟨L.toArray⟩ (some (-1)) none = ⟨(L.drop (L.length - 1)).toArray⟩ := by
        have e : (⟨L.toArray⟩ : Str).length = L.length := str_len L
        unfold cutS
        rw [HT.sIx_none, e]
        have e1 : HT.sIx L.length 0 (some (-1)) = L.length - 1 := by
          unfold HT.sIx
          dsimp only
          rw [if_pos (show (-1 : Int) < 0 by decide)]
          omega
        rw [e1, List.take_of_length_le (by rw [List.length_drop]; exact Nat.le_refl _)]
      have dl : decide ((⟨(L.drop (L.length - 1)).toArray⟩ : Str) = Str.ofString ";") = decide (L.getLast? = some 59) := by
        rw [decide_eq_decide]
        rcases List.eq_nil_or_concat L with rfl | ⟨M, d, rfl⟩
        · exact ⟨fun z => (by
            have h2 : ([] : List Nat).toArray = #[59] := congrArg Str.cps z
            have h3 := congrArg Array.toList h2
            exact nomatch h3), fun z => nomatch z⟩
        · have ed : (M ++ [d]).drop ((M ++ [d]).length - 1) = [d] := by
            rw [List.length_append, List.length_singleton, Nat.add_sub_cancel, List.drop_left]
          rw [List.concat_eq_append, ed, List.getLast?_append]
          constructor
          · intro z
            have h2 : ([d] : List Nat).toArray = #[59] := congrArg Str.cps z
            have h3 := congrArg Array.toList h2
            have h4 : d = 59 := (List.cons.inj h3).1
            rw [h4]
            rfl
          · intro z
            have h4 : d = 59 := Option.some.inj z
            rw [h4]
            rfl
      have test : ∀ QB : Bool → Hp → Prop, QB (decide (p < 2 ∨ (num = [] ∧ decide (L.getLast? = some 59) = false))) G → tOr (tTest (tOp (rI0 fun i j => V.bl (decide (i < j))) (tVar 1) (tC (V.int 2))))
                    (tAnd (tTest (tOp rEq (tVar 2) (tC (V.str (Str.ofString "")))))
                      (tTest
                        (tOp rNe (tSl rSlS (tVar 0) (tPart (tUn (rU fun i => V.int (-i)) (tC (V.int 1)))) tNoPart)
                          (tC (V.str (Str.ofString ";")))))) [some (.str ⟨L.toArray⟩), some (.int (p : Int)), some (.str ⟨num.toArray⟩), y3, y4] G QB := fun QB hq => by
        refine r_or (r_test (r_op (r_var rfl (r_c (r_I0 ⟨_, rfl, ?_⟩)))))
        by_cases hp : p < 2
        · rw [decide_eq_true (show (p : Int) < 2 by omega)]
          rw [decide_eq_true (.inl hp)] at hq
          exact iteT hq
        rw [decide_eq_false (show ¬ (p : Int) < 2 by omega)]
        refine iteF (r_and (r_test (r_op (r_var rfl (r_c (r_eqS ⟨_, rfl, ?_⟩))))))
        rw [dN]
        by_cases hn : num = []
        · rw [decide_eq_true hn]
          refine iteT ?_
          walk_at "rd"
          refine r_slS (by rw [str_len]; omega) ?_
          rw [show (-(1 : Int)) = -1 from rfl, last1]
          walk_at "rd"
          rw [dl]
          cases hl2 : decide (L.getLast? = some 59) with
          | true =>
            rw [hl2, decide_eq_false (fun z => z.elim hp fun z => nomatch z.2)] at hq
            exact hq
          | false =>
            rw [hl2, decide_eq_true (.inr ⟨hn, rfl⟩)] at hq
            exact hq
        · rw [decide_eq_false hn]
          refine iteF ?_
          rw [decide_eq_false (fun z => z.elim hp fun z => hn z.1)] at hq
          exact hq
      refine r_seq ?_
      by_cases h : p < 2 ∨ (num = [] ∧ decide (L.getLast? = some 59) = false)
      · rw [if_pos h] at hc
        refine r_ifT (fun F => F = G) (fun QB hQ => test QB ?_) (fun F e => ?_)
        · rw [decide_eq_true h]
          exact hQ _ rfl
        · cases e
          walk_at "rd"
          refine r_lenS (by rw [str_len]; omega) ?_
          rw [str_len]
          walk_at "rd"
          rw [show ((L.length : Nat) : Int) + 1 = ((L.length + 1 : Nat) : Int) by omega, hc]
          exact q
      · rw [if_neg h] at hc
        refine r_ifF (fun F => F = G) (fun QB hQ => test QB ?_) (fun F e => ?_)
        · rw [decide_eq_false h]
          exact hQ _ rfl
        · cases e
          walk_at "rd"
          rw [← hc] at q
          exact q

end

section
variable {P : Program} {w : World} {K : PySem.W.Frag} {mg : Str → Option Value} {base : Heap} {a : Ad}
open TL
theorem split_at {s : Nat} {ls : List (List Nat)} {L : List Nat} {z : Str} (ez : z = ⟨#[s]⟩) (hs : s < 256) (hne : ls ≠ []) (h : ∀ l ∈ ls, s ∉ l) (e : L = joinL [s] ls) : Txt.split ⟨L.toArray⟩ z = ls.map fun l => (⟨l.toArray⟩ : Str) := by
  rw [ez, e]
  exact split_L hs hne h
/-- the three parts of the text -/
theorem mac_parts {rs : List (List Nat)} {st : Nat} {gs : List Nat} : macL rs st gs = joinL [59] [joinL [47] (rs.map numsL), numL st, numsL gs] := rfl
theorem numsL_ne {ns : List Nat} (h : ns ≠ []) : numsL ns = joinL [32] (ns.map numL) := rfl
theorem len_joinL {s : Nat} {l : List Nat} {ls : List (List Nat)} (h : l ∈ ls) : l.length ≤ (joinL [s] ls).length := by
  have hr : ∀ ls : List (List Nat), l ∈ ls → l.length ≤ (rstJ s ls).length := by
    intro ls
    induction ls with
    | nil => exact fun z => nomatch z
    | cons m ls ih =>
      intro h
      rw [rstJ_cons, List.length_cons, List.length_append]
      rcases List.mem_cons.mp h with rfl | h
      · omega
      · have := ih h
        omega
  cases ls with
  | nil => exact nomatch h
  | cons m ls =>
    rw [joinL_rst, List.length_append]
    rcases List.mem_cons.mp h with rfl | h
    · omega
    · have := hr ls h
      omega
theorem filt_take {α : Type} {f : α → Bool} {ps : List α} {j : Nat} {p : α} (hp : ps[j]? = some p) : (f p = true → (ps.take (j + 1)).filter f = (ps.take j).filter f ++ [p]) ∧ (f p = false → (ps.take (j + 1)).filter f = (ps.take j).filter f) := by
  rw [List.take_add_one, hp, List.filter_append]
  constructor
  · intro h
    show _ ++ [p].filter f = _
    rw [List.filter_cons_of_pos h]
    rfl
  · intro h
    show _ ++ [p].filter f = _
    rw [List.filter_cons_of_neg (by rw [h]; decide)]
    exact List.append_nil _
def listsD (rs : List (List Int)) : PyData := .list (rs.map fun r => .list (r.map .int))
theorem shaped_lists (rs : List (List Int)) : SeqAt.shaped (listsD rs) = true := by
  have lay : ∀ rs : List (List Int), PyData.canLayAll0 (rs.map fun r => .list (r.map .int)) = true := by
    intro rs
    induction rs with
    | nil => rfl
    | cons r rs ih => exact Bool.and_eq_true_iff.mpr ⟨by show PyData.canLayAll0 (r.map .int) = true; exact lay_ints r, ih⟩
  have dep : ∀ rs : List (List Int), PyData.depthAll (rs.map fun r => .list (r.map .int)) ≤ 1 := by
    intro rs
    induction rs with
    | nil => decide
    | cons r rs ih =>
      show max (PyData.depthAll (r.map .int) + 1) (PyData.depthAll (rs.map fun r => .list (r.map .int))) ≤ 1
      rw [depth_ints]
      omega
  refine Bool.and_eq_true_iff.mpr ⟨lay rs, decide_eq_true ?_⟩
  show PyData.depthAll _ + 1 ≤ 64
  have := dep rs
  omega
theorem dp_lists {K : PySem.W.Frag} {H : Hp} {p : Addr} {ps : List (Addr × List Int)} (h : SqL K H p (refsI ps)) (hall : ∀ q ∈ ps, SqL K H q.1 (q.2.map V.int)) : Dp K H (.ref p) (listsD (ps.map (·.2))) := by
  refine .lst h ?_
  clear h
  induction ps with
  | nil => exact .nil
  | cons q ps ih => exact .cons (dp_ints (hall q List.mem_cons_self)) (ih fun q' hq => hall q' (List.mem_cons_of_mem _ hq))
theorem eqv_nil_lists (rs : List (List Int)) : PyData.eqv (listsD rs) (.list []) = decide (rs = []) := by
  cases rs with
  | nil => rfl
  | cons r rs => rfl
theorem r_ifB {c : TT} {t u : TS} {D : Ends} {σ : L2.St} {H : Hp} (J : Hp → Prop) (b : Bool) (h1 : ∀ QB : Bool → Hp → Prop, (∀ H', J H' → QB b H') → c σ H QB) (hT : b = true → ∀ H', J H' → t D σ H') (hF : b = false → ∀ H', J H' → u D σ H') : tIfS c t u D σ H := by
  cases b with
  | true => exact r_ifT J h1 (hT rfl)
  | false => exact r_ifF J h1 (hF rfl)
theorem numsL_nil {gs : List Nat} (h : ∀ x ∈ gs, x < 100) : (⟨(numsL gs).toArray⟩ : Str) = Str.ofString "" ↔ gs = [] := by
  constructor
  · intro e
    cases gs with
    | nil => rfl
    | cons n ns =>
      have h0 := nums_pos n ns (h n List.mem_cons_self)
      have h2 : (numsL (n :: ns)).toArray = #[] := congrArg Str.cps e
      have h3 : numsL (n :: ns) = [] := by simpa using h2
      rw [h3] at h0
      exact absurd h0 (by decide)
  · rintro rfl
    rfl
/-- told, in the words of the law -/
def allN (rs : List (List Nat)) (st : Nat) (gs : List Nat) : List Nat := [st] ++ gs ++ rs.flatten
theorem okMac_iff {rs : List (List Nat)} {st : Nat} {gs : List Nat} (g : GrOk rs st gs) : okMac (rs.map intsN) (st : Int) (intsN gs) ↔ (rs.length ≤ 40 ∧ (∀ r ∈ rs, r.length = (rs.getD 0 []).length) ∧ (rs.getD 0 []).length ≤ 4) ∧ ∀ x ∈ allN rs st gs, x < rs.length := by
  have e0 : ((rs.map intsN).getD 0 []) = intsN (rs.getD 0 []) := by
    cases rs <;> rfl
  have el : (rs.map intsN).length = rs.length := List.length_map _
  have li : ∀ r : List Nat, (intsN r).length = r.length := fun r => List.length_map _
  have okI : ∀ (n : Nat) (r : List Nat), okSt n (intsN r) ↔ ∀ x ∈ r, x < n := fun n r => ⟨fun h x hx => by
    have := h (x : Int) (List.mem_map_of_mem hx)
    omega, fun h y hy => by
    obtain ⟨x, hx, rfl⟩ := List.mem_map.mp hy
    have := h x hx
    omega⟩
  have h0 : 1 ≤ rs.length ∧ 1 ≤ (rs.getD 0 []).length := by
    cases hrs : rs with
    | nil => exact absurd hrs g.ne
    | cons r rt =>
      have := (g.rows r (by rw [hrs]; exact List.mem_cons_self)).1
      exact ⟨by rw [List.length_cons]; omega, List.length_pos_iff.mpr this⟩
  unfold okMac okSh
  rw [e0, el, li, okI]
  constructor
  · rintro ⟨⟨⟨_, a2⟩, ⟨_, a4⟩, a5⟩, b, ⟨_, c2⟩, d⟩
    refine ⟨⟨a2, fun r hr => ?_, a4⟩, fun x hx => ?_⟩
    · have := a5 (intsN r) (List.mem_map_of_mem hr)
      rw [li] at this
      exact this
    · unfold allN at hx
      rcases List.mem_append.mp hx with hx | hx
      · rcases List.mem_append.mp hx with hx | hx
        · rw [List.mem_singleton.mp hx]; omega
        · exact d x hx
      · obtain ⟨r, hr, hx⟩ := List.mem_flatten.mp hx
        exact (okI _ _).mp (b (intsN r) (List.mem_map_of_mem hr)) x hx
  · rintro ⟨⟨a2, a5, a4⟩, h⟩
    have hst := h st (by unfold allN; simp)
    refine ⟨⟨⟨h0.1, a2⟩, ⟨h0.2, a4⟩, fun r hr => ?_⟩, fun r hr => ?_, ⟨by omega, by omega⟩, fun x hx => h x (by unfold allN; simp [hx])⟩
    · obtain ⟨q, hq, rfl⟩ := List.mem_map.mp hr
      rw [li]
      exact a5 q hq
    · obtain ⟨q, hq, rfl⟩ := List.mem_map.mp hr
      exact (okI _ _).mpr fun x hx => h x (by
        unfold allN
        exact List.mem_append_right _ (List.mem_flatten.mpr ⟨q, hq, hx⟩))
def spLDue (K : PySem.W.Frag) : Sp := fun vs H Q _ => ∃ (L : List Nat) (rs : List (List Nat)) (st : Nat) (gs : List Nat), vs = [.str ⟨L.toArray⟩] ∧ GrOk rs st gs ∧ L = macL rs st gs ∧ L.length ≤ 59 ∧
  (okMac (rs.map intsN) (st : Int) (intsN gs) → ∀ (H' : Hp) (v : V), Same H H' → Dt K H' v (macI (rs.map intsN) (st : Int) (goodOf rs.length (intsN gs))) → Q v H') ∧ (¬ okMac (rs.map intsN) (st : Int) (intsN gs) → ∀ H', Same H H' → Q .non H')
theorem ok_l_due (T : Txt K mg a) : FnOk P w K mg base CX0 1 a.f_l_due a.d_l_due ["text"] (spLDue K) := by
  refine T.F_l_due.ok sc_l_due (fun vs H Q E h => ?_) (fun cdv A outer s H vs Q E hr h => ?_)
  · obtain ⟨L, rs, st, gs, rfl, _⟩ := h
    rfl
  · obtain ⟨L, rs, st, gs, rfl, g, eL, hl, q1, q2⟩ := h
    have zl : (sizeLine : Nat) = 16777216 := by decide
    refine ⟨_, (pss_cons (ps_set (i := 1) sc_l_due.nd rfl (Or.inl rfl) (bmK (K := K) rfl (pe_bm PySem.F.plainAttrs_str PySem.F.slot_str_split PySem.F.type_str_split mt_split (pv 0) (pa_cons pe_str pa_nil))))
      (pss_cons (ps_set (i := 2) sc_l_due.nd rfl (Or.inr rfl) (pe_lc (own := [("entry", 6)]) (g := gName 6) (tt := tYes) rfl sc_l_due.nd (pi_listK (K := K) rfl (bmK (K := K) rfl (pe_bm PySem.F.plainAttrs_str PySem.F.slot_str_split PySem.F.type_str_split mt_split (pe_ix (ix_listK (K := K) rfl) (pv 1) pe_int (fun _ _ => rfl)) (pa_cons pe_str pa_nil)))) (blkOk_by (N := N_l_due) (sc := (defScope s_l_due)) (by decide +kernel)) (fun _ _ _ _ _ => pg_name (i := 6) sc_l_due.nd rfl (by first | exact Or.inl rfl | exact Or.inr rfl)) (fun _ _ _ _ _ => pts_nil) (fun _ _ _ _ _ => (pe_lc (own := [("number", 7)]) (g := gName 7) (tt := tYes) rfl sc_l_due.nd (pi_listK (K := K) rfl (bmK (K := K) rfl (pe_bm PySem.F.plainAttrs_str PySem.F.slot_str_split PySem.F.type_str_split mt_split (pv 6) (pa_cons pe_str pa_nil)))) (blkOk_by (N := N_l_due) (sc := (relS (eScope (sE (sIn 1 s_l_due))) (defScope s_l_due))) (by decide +kernel)) (fun _ _ _ _ _ => pg_name (i := 7) sc_l_due.nd rfl (by first | exact Or.inl rfl | exact Or.inr rfl)) (fun _ _ _ _ _ => pts_nil) (fun _ _ _ _ _ => (pe_callTy call_intT (by rfl) T.z_int (by decide +kernel) (pa_cons (pv 7) pa_nil)))))))
      (pss_cons (ps_set (i := 3) sc_l_due.nd rfl (Or.inl rfl) (pe_lst pa_nil))
      (pss_cons (ps_if (pt_cmpR op_ne (pe_ix (ix_listK (K := K) rfl) (pv 1) pe_int (fun _ _ => rfl)) pe_str (nomark _)) (pss_one (ps_setLc (i := 3) (own := [("number", 7)]) (g := gName 7) (tt := tYes) rfl sc_l_due.nd rfl rfl (sw_true rfl rfl rfl (by decide +kernel)) (pi_listK (K := K) rfl (bmK (K := K) rfl (pe_bm PySem.F.plainAttrs_str PySem.F.slot_str_split PySem.F.type_str_split mt_split (pe_ix (ix_listK (K := K) rfl) (pv 1) pe_int (fun _ _ => rfl)) (pa_cons pe_str pa_nil)))) (blkOk_by (N := N_l_due) (sc := (defScope s_l_due)) (by decide +kernel)) (fun _ _ _ _ _ => pg_name (i := 7) sc_l_due.nd rfl (by first | exact Or.inl rfl | exact Or.inr rfl)) (fun _ _ _ _ _ => pts_nil) (fun _ _ _ _ _ => (pe_callTy call_intT (by rfl) T.z_int (by decide +kernel) (pa_cons (pv 7) pa_nil))))) pss_nil)
      (pss_cons (ps_set (i := 4) sc_l_due.nd rfl (Or.inl rfl) (pe_callB (call_lenQK (K := K) rfl) (by rfl) T.z_len (by decide +kernel) (pa_cons (pv 2) pa_nil)))
      (pss_cons (ps_if (PW.pt (pw_or (pt_cmpR op_gt (pv 4) pe_int (nomark _)) (pw_or (pt_cmpR (op_neDK (K := K) rfl hr.units) (pe_lc (own := [("entry", 6)]) (g := gName 6) rfl sc_l_due.nd (pi_listK (K := K) rfl (pv 2)) (blkOk_by (N := N_l_due) (sc := (defScope s_l_due)) (by decide +kernel)) (fun _ _ _ _ _ => pg_name (i := 6) sc_l_due.nd rfl (by first | exact Or.inl rfl | exact Or.inr rfl)) (fun _ _ _ _ _ => (pts_one (pt_cmpR op_ne (pe_callB (call_lenQK (K := K) rfl) (by rfl) T.z_len (by decide +kernel) (pa_cons (pv 6) pa_nil)) (pe_callB (call_lenQK (K := K) rfl) (by rfl) T.z_len (by decide +kernel) (pa_cons (pe_ix (ix_listK (K := K) rfl) (pv 2) pe_int (fun _ _ => rfl)) pa_nil)) (nomark _)))) (fun _ _ _ _ _ => (pv 6))) (pe_lst pa_nil) (nomark _)) (pw_or1 (pt_cmpR op_gt (pe_callB (call_lenQK (K := K) rfl) (by rfl) T.z_len (by decide +kernel) (pa_cons (pe_ix (ix_listK (K := K) rfl) (pv 2) pe_int (fun _ _ => rfl)) pa_nil)) pe_int (nomark _)))))) (pss_one (ps_ret pe_non)) pss_nil)
      (pss_cons (ps_set (i := 5) sc_l_due.nd rfl (Or.inl rfl) (pe_op op_cat (pe_lst (pa_cons (pe_callTy call_intT (by rfl) T.z_int (by decide +kernel) (pa_cons (pe_ix (ix_listK (K := K) rfl) (pv 1) pe_int (fun _ _ => rfl)) pa_nil)) pa_nil)) (pv 3)))
      (pss_cons (ps_for PassesOwn.never rfl (pi_listK (K := K) rfl (pv 2)) (pg_name (i := 6) sc_l_due.nd rfl (Or.inl rfl)) (pss_one (ps_set (i := 5) sc_l_due.nd rfl (Or.inl rfl) (pe_op op_cat (pv 5) (pv 6)))))
      (pss_cons (ps_if (pt_cmpR op_ge (pe_callB (cr_maxLK (K := K) rfl rfl) (by rfl) T.z_max (by decide +kernel) (pa_cons (pv 5) pa_nil)) (pv 4) (nomark _)) (pss_one (ps_ret pe_non)) pss_nil)
      (pss_one (ps_ret (pe_tup (pa_cons (pe_callTy (call_tupOfK (K := K) rfl) (by rfl) T.z_tuple (by decide +kernel) (pa_cons (pe_lc (own := [("entry", 6)]) (g := gName 6) (tt := tYes) rfl sc_l_due.nd (pi_listK (K := K) rfl (pv 2)) (blkOk_by (N := N_l_due) (sc := (defScope s_l_due)) (by decide +kernel)) (fun _ _ _ _ _ => pg_name (i := 6) sc_l_due.nd rfl (by first | exact Or.inl rfl | exact Or.inr rfl)) (fun _ _ _ _ _ => pts_nil) (fun _ _ _ _ _ => (pe_callTy (call_tupOfK (K := K) rfl) (by rfl) T.z_tuple (by decide +kernel) (pa_cons (pv 6) pa_nil)))) pa_nil)) (pa_cons (pe_callTy call_intT (by rfl) T.z_int (by decide +kernel) (pa_cons (pe_ix (ix_listK (K := K) rfl) (pv 1) pe_int (fun _ _ => rfl)) pa_nil)) (pa_cons (pe_callTy (call_tupOfK (K := K) rfl) (by rfl) T.z_tuple (by decide +kernel) (pa_cons (pe_callB (cr_sortedSetW (w := w) rfl rfl) (by rfl) T.z_sorted (by decide +kernel) (pa_cons (pe_callTy (cr_setLw (K := K) (w := w) rfl rfl rfl) (by rfl) T.z_set (by decide +kernel) (pa_cons (pv 3) pa_nil)) pa_nil)) pa_nil)) pa_nil))))))))))))))), ?_⟩
    walk_at "rd"
    have hrows : ∀ r ∈ rs, ∀ x ∈ r, x < 100 := fun r hr => (g.rows r hr).2
    have hparts : Txt.split ⟨L.toArray⟩ (Str.ofString ";") = [(⟨(joinL [47] (rs.map numsL)).toArray⟩ : Str), ⟨(numL st).toArray⟩, ⟨(numsL gs).toArray⟩] := by
      refine split_at (s := 59) (ls := [joinL [47] (rs.map numsL), numL st, numsL gs]) rfl (by decide) (fun z => nomatch z) (fun l hl => ?_) (eL.trans mac_parts)
      simp only [List.mem_cons, List.not_mem_nil, or_false] at hl
      rcases hl with rfl | rfl | rfl
      · intro h
        have := rowsL_mem hrows h
        omega
      · intro h
        have := numL_dig g.s 59 h
        omega
      · intro h
        have := numsL_mem g.g h
        omega
    have hrowsS : Txt.split ⟨(joinL [47] (rs.map numsL)).toArray⟩ (Str.ofString "/") = (rs.map numsL).map fun l => (⟨l.toArray⟩ : Str) := by
      refine split_at (s := 47) (ls := rs.map numsL) rfl (by decide) (fun z => g.ne (List.map_eq_nil_iff.mp z)) (fun l hl => ?_) rfl
      obtain ⟨r, hr, rfl⟩ := List.mem_map.mp hl
      intro h
      have := numsL_mem (hrows r hr) h
      omega
    have hnumsS : ∀ ns : List Nat, ns ≠ [] → (∀ x ∈ ns, x < 100) → Txt.split ⟨(numsL ns).toArray⟩ (Str.ofString " ") = (ns.map numL).map fun l => (⟨l.toArray⟩ : Str) := fun ns hne h100 => by
      refine split_at (s := 32) (ls := ns.map numL) rfl (by decide) (fun z => hne (List.map_eq_nil_iff.mp z)) (fun l hl => ?_) rfl
      obtain ⟨n, hn, rfl⟩ := List.mem_map.mp hl
      intro h
      have := numL_dig (h100 n hn) 32 h
      omega
    have hLl : L.length = (joinL [47] (rs.map numsL)).length + (1 + ((numL st).length + (1 + (numsL gs).length))) := by
      rw [eL]
      unfold macL
      rw [List.length_append, List.length_cons, List.length_append, List.length_cons]
      omega
    obtain ⟨rl1, rl2⟩ : rs.length ≤ (joinL [47] (rs.map numsL)).length ∧ ∀ r ∈ rs, r.length ≤ (joinL [47] (rs.map numsL)).length := by
      cases hrs : rs with
      | nil => exact absurd hrs g.ne
      | cons r rt => exact rows_len r rt (by rw [← hrs]; exact g.rows)
    have lgs := nums_len gs g.g
    have toI : ∀ {n : Nat} {G : Hp} {R : VK}, n < 100 → R (.int (n : Int)) G → rIntT [.str ⟨(numL n).toArray⟩] G R := fun {n G R} hn h => by
      refine ⟨_, (n : Int), rfl, intText_num hn, ?_, h⟩
      rw [str_len]
      have := (numL_len hn).2
      omega
    refine ⟨rfl, ?_⟩
    walk_at "rd"
    refine ⟨_, _, rfl, rfl, by decide +kernel, by rw [str_len]; omega, fun pp hpp => ?_⟩
    rw [hparts]
    have s1 := same_new (o := .lst (([(⟨(joinL [47] (rs.map numsL)).toArray⟩ : Str), ⟨(numL st).toArray⟩, ⟨(numsL gs).toArray⟩]).map V.str)) hpp
    have hP : (upd H pp (.lst (([(⟨(joinL [47] (rs.map numsL)).toArray⟩ : Str), ⟨(numL st).toArray⟩, ⟨(numsL gs).toArray⟩]).map V.str))) pp = some (.lst [.str ⟨(joinL [47] (rs.map numsL)).toArray⟩, .str ⟨(numL st).toArray⟩, .str ⟨(numsL gs).toArray⟩]) := upd_same
    generalize upd H pp (.lst (([(⟨(joinL [47] (rs.map numsL)).toArray⟩ : Str), ⟨(numL st).toArray⟩, ⟨(numsL gs).toArray⟩]).map V.str)) = H1 at *
    walk_at "rd"
    refine r_ixL (SqL.of hP) (at_of (j := 0) rfl rfl) ?_
    refine ⟨rfl, ?_⟩
    walk_at "rd"
    refine ⟨_, _, rfl, rfl, by decide +kernel, by rw [str_len]; omega, fun pr hpr => ?_⟩
    rw [hrowsS]
    have s2 := same_new (o := .lst (((rs.map numsL).map fun l => (⟨l.toArray⟩ : Str)).map V.str)) hpr
    have hR : (upd H1 pr (.lst (((rs.map numsL).map fun l => (⟨l.toArray⟩ : Str)).map V.str))) pr = some (.lst (((rs.map numsL).map fun l => (⟨l.toArray⟩ : Str)).map V.str)) := upd_same
    generalize upd H1 pr (.lst (((rs.map numsL).map fun l => (⟨l.toArray⟩ : Str)).map V.str)) = H2 at *
    have lR : (((rs.map numsL).map fun l => (⟨l.toArray⟩ : Str)).map V.str).length = rs.length := by rw [List.length_map, List.length_map, List.length_map]
    walk_at "rd"
    refine ⟨⟨_, SqL.of hR⟩, fun D hD => ?_⟩
    refine lc_list (xs := ((rs.map numsL).map fun l => (⟨l.toArray⟩ : Str)).map V.str) (fun j G => Same H2 G ∧ ∃ ps : List (Addr × List Int), G D = some (.lst (refsI ps)) ∧ (∀ p ∈ ps, G p.1 = some (.lst (p.2.map V.int)) ∧ p.1 ≠ D) ∧ ps.map (·.2) = (rs.take j).map intsN) ⟨same_new hD, [], upd_same, (fun _ z => nomatch z), rfl⟩ (fun j G _ hQ => hQ.1.seq (SqL.of hR)) (fun j x G hx hQ => ?_) (fun G hQ => ?_)
    · obtain ⟨sG, ps, hG, hps, eps⟩ := hQ
      have hj := (List.getElem?_eq_some_iff.mp hx).1
      rw [lR] at hj
      have hr := List.getElem?_eq_getElem (l := rs) (i := j) (by omega)
      have hrm := List.getElem_mem (l := rs) (n := j) (by omega)
      generalize rs[j] = r at hr hrm
      rw [List.getElem?_map, List.getElem?_map, List.getElem?_map, hr] at hx
      obtain rfl := Option.some.inj hx
      obtain ⟨gr1, gr2⟩ := g.rows r hrm
      have lps : ps.length = j := by
        have := congrArg List.length eps
        rw [List.length_map, List.length_map, List.length_take] at this
        omega
      have hlr := rl2 r hrm
      refine ⟨rfl, r_yes (iteT ?_)⟩
      walk_at "rd"
      refine ⟨rfl, ?_⟩
      walk_at "rd"
      have lnr : (numsL r).length ≤ (joinL [47] (rs.map numsL)).length := len_joinL (List.mem_map_of_mem hrm)
      refine ⟨_, _, rfl, rfl, by decide +kernel, by rw [str_len]; omega, fun pn hpn => ?_⟩
      rw [hnumsS r gr1 gr2]
      have s3 := same_new (o := .lst (((r.map numL).map fun l => (⟨l.toArray⟩ : Str)).map V.str)) hpn
      have hN : (upd G pn (.lst (((r.map numL).map fun l => (⟨l.toArray⟩ : Str)).map V.str))) pn = some (.lst (((r.map numL).map fun l => (⟨l.toArray⟩ : Str)).map V.str)) := upd_same
      have sG3 := sG.trans s3
      have hG3 := s3 _ _ hG
      have hps3 : ∀ p ∈ ps, (upd G pn (.lst (((r.map numL).map fun l => (⟨l.toArray⟩ : Str)).map V.str))) p.1 = some (.lst (p.2.map V.int)) := fun p hp => s3 _ _ (hps p hp).1
      generalize upd G pn (.lst (((r.map numL).map fun l => (⟨l.toArray⟩ : Str)).map V.str)) = G3 at *
      walk_at "rd"
      refine ⟨⟨_, SqL.of hN⟩, fun D2 hD2 => ?_⟩
      refine lc_list (xs := ((r.map numL).map fun l => (⟨l.toArray⟩ : Str)).map V.str) (fun k F => Same G3 F ∧ F D2 = some (.lst ((intsN (r.take k)).map V.int))) ⟨same_new hD2, upd_same⟩ (fun k F _ hQ => hQ.1.seq (SqL.of hN)) (fun k x F hx hQ => ?_) (fun F hQ => ?_)
      · obtain ⟨sF, hF⟩ := hQ
        have hk := (List.getElem?_eq_some_iff.mp hx).1
        rw [List.length_map, List.length_map, List.length_map] at hk
        have hn := List.getElem?_eq_getElem (l := r) (i := k) (by omega)
        have hnm := List.getElem_mem (l := r) (n := k) (by omega)
        generalize r[k] = n at hn hnm
        rw [List.getElem?_map, List.getElem?_map, List.getElem?_map, hn] at hx
        obtain rfl := Option.some.inj hx
        refine ⟨rfl, r_yes (iteT ?_)⟩
        walk_at "rd"
        refine toI (gr2 n hnm) ?_
        refine ⟨_, hF, ?_, same_mut sF hD2, ?_⟩
        · unfold intsN
          rw [List.length_map, List.length_map, List.length_take]
          omega
        · rw [upd_same, List.take_add_one, hn]
          unfold intsN
          rw [List.map_append, List.map_append]
          rfl
      · obtain ⟨sF, hF⟩ := hQ
        rw [List.length_map, List.length_map, List.length_map, List.take_length] at hF
        have nD : D2 ≠ D := fun e => by rw [e, hG3] at hD2; exact nomatch hD2
        refine ⟨_, sF _ _ hG3, by rw [refsI_len]; omega, same_mut (sG3.trans sF) hD, ps ++ [(D2, intsN r)], ?_, fun p hp => ?_, ?_⟩
        · rw [upd_same]
          unfold refsI
          rw [List.map_append]
          rfl
        · rcases List.mem_append.mp hp with hp | hp
          · rw [upd_ne (hps p hp).2]
            exact ⟨sF _ _ (hps3 p hp), (hps p hp).2⟩
          · rw [List.mem_singleton.mp hp, upd_ne nD]
            exact ⟨hF, nD⟩
        · rw [List.map_append, eps, List.take_add_one, hr, List.map_append]
          rfl
    obtain ⟨sG, ps, hG, hps, eps⟩ := hQ
    rw [lR, List.take_length] at eps
    clear hD
    walk_at "rd"
    refine ⟨Nat.zero_le _, fun pg hpg => ?_⟩
    have s4 := same_new (o := .lst []) hpg
    have hE : (upd G pg (.lst [])) pg = some (.lst []) := upd_same
    have sG4 := sG.trans s4
    have hG4 := s4 _ _ hG
    have hps4 : ∀ p ∈ ps, (upd G pg (.lst [])) p.1 = some (.lst (p.2.map V.int)) := fun p hp => s4 _ _ (hps p hp).1
    generalize upd G pg (.lst []) = G4 at *
    clear hpg s4 hG hps
    with_reducible refine r_cutJ (fun σ F => ∃ pg, σ = [some (.str ⟨L.toArray⟩), some (.ref pp), some (.ref D), some (.ref pg), none, none, none, none] ∧ Same G4 F ∧ F pg = some (.lst ((intsN gs).map V.int))) (fun σ F hJ => ?_) (fun key => ?_)
    rotate_left
    · have hP4 := (s2.trans sG4) _ _ hP
      refine r_ifB (fun F => F = G4) (!decide (gs = [])) (fun QB hQ => ?_) (fun hb F e => ?_) (fun hb F e => ?_)
      · walk_at "rd"
        refine r_ixL (SqL.of hP4) (at_of (j := 2) rfl rfl) ?_
        walk_at "rd"
        rw [decide_eq_decide.mpr (numsL_nil g.g)]
        exact hQ _ rfl
      · cases e
        have hne : gs ≠ [] := fun z => by rw [z] at hb; exact nomatch hb
        walk_at "rd"
        refine r_ixL (SqL.of hP4) (at_of (j := 2) rfl rfl) ?_
        refine ⟨rfl, ?_⟩
        walk_at "rd"
        refine ⟨_, _, rfl, rfl, by decide +kernel, by rw [str_len]; omega, fun pn hpn => ?_⟩
        rw [hnumsS gs hne g.g]
        have s5 := same_new (o := .lst (((gs.map numL).map fun l => (⟨l.toArray⟩ : Str)).map V.str)) hpn
        have hN : (upd G4 pn (.lst (((gs.map numL).map fun l => (⟨l.toArray⟩ : Str)).map V.str))) pn = some (.lst (((gs.map numL).map fun l => (⟨l.toArray⟩ : Str)).map V.str)) := upd_same
        generalize upd G4 pn (.lst (((gs.map numL).map fun l => (⟨l.toArray⟩ : Str)).map V.str)) = G5 at *
        walk_at "rd"
        refine ⟨⟨_, SqL.of hN⟩, fun D2 hD2 => ?_⟩
        refine lc_list (xs := ((gs.map numL).map fun l => (⟨l.toArray⟩ : Str)).map V.str) (fun k F => Same G5 F ∧ F D2 = some (.lst ((intsN (gs.take k)).map V.int))) ⟨same_new hD2, upd_same⟩ (fun k F _ hQ => hQ.1.seq (SqL.of hN)) (fun k x F hx hQ => ?_) (fun F hQ => ?_)
        · obtain ⟨sF, hF⟩ := hQ
          have hk := (List.getElem?_eq_some_iff.mp hx).1
          rw [List.length_map, List.length_map, List.length_map] at hk
          have hn := List.getElem?_eq_getElem (l := gs) (i := k) (by omega)
          have hnm := List.getElem_mem (l := gs) (n := k) (by omega)
          generalize gs[k] = n at hn hnm
          rw [List.getElem?_map, List.getElem?_map, List.getElem?_map, hn] at hx
          obtain rfl := Option.some.inj hx
          refine ⟨rfl, r_yes (iteT ?_)⟩
          walk_at "rd"
          refine toI (g.g n hnm) ?_
          refine ⟨_, hF, ?_, same_mut sF hD2, ?_⟩
          · unfold intsN
            rw [List.length_map, List.length_map, List.length_take]
            omega
          · rw [upd_same, List.take_add_one, hn]
            unfold intsN
            rw [List.map_append, List.map_append]
            rfl
        · obtain ⟨sF, hF⟩ := hQ
          rw [List.length_map, List.length_map, List.length_map, List.take_length] at hF
          exact key _ _ ⟨D2, rfl, s5.trans sF, hF⟩
      · cases e
        have hne : gs = [] := of_decide_eq_true (by simpa using hb)
        exact r_next (key _ _ ⟨pg, rfl, Same.refl G4, by rw [hE, hne]; rfl⟩)
    clear hE
    obtain ⟨pg, rfl, s5, hE⟩ := hJ
    have sF := sG4.trans s5
    have hGF := s5 _ _ hG4
    have hpsF : ∀ p ∈ ps, F p.1 = some (.lst (p.2.map V.int)) := fun p hp => s5 _ _ (hps4 p hp)
    have hPF := (s2.trans sF) _ _ hP
    clear hG4 hps4 s5
    have lps : ps.length = rs.length := by
      have := congrArg List.length eps
      rw [List.length_map, List.length_map] at this
      exact this
    walk_at "rd"
    refine r_lenL (SqL.of hGF) ?_
    rw [refsI_len, lps]
    obtain ⟨r0, hr0, h0l⟩ : ∃ r0, rs[0]? = some r0 ∧ rs.getD 0 [] = r0 := by
      cases hrs : rs with
      | nil => exact absurd hrs g.ne
      | cons r rt => exact ⟨r, rfl, rfl⟩
    have hp0 : ∃ p0, ps[0]? = some p0 ∧ p0.2.length = r0.length := by
      have := congrArg (·[0]?) eps
      simp only [List.getElem?_map, hr0] at this
      cases hp : ps[0]? with
      | none => rw [hp] at this; exact nomatch this
      | some p0 =>
        rw [hp] at this
        have e : p0.2 = intsN r0 := Option.some.inj this
        refine ⟨p0, rfl, ?_⟩
        rw [e]
        exact List.length_map _
    obtain ⟨p0, hp0, lp0⟩ := hp0
    have hp0m := List.mem_of_getElem? hp0
    obtain ⟨b, hb⟩ : ∃ b, (!decide (rs.length ≤ 40 ∧ (∀ r ∈ rs, r.length = r0.length) ∧ r0.length ≤ 4)) = b := ⟨_, rfl⟩
    have alls : (∀ r ∈ rs, r.length = r0.length) ↔ (ps.filter fun p => decide (p.2.length ≠ r0.length)).map (·.2) = [] := by
      rw [List.map_eq_nil_iff, List.filter_eq_nil_iff]
      constructor
      · intro h p hp z
        have hm : p.2 ∈ rs.map intsN := eps ▸ List.mem_map_of_mem hp
        obtain ⟨r, hr, e⟩ := List.mem_map.mp hm
        refine of_decide_eq_true z ?_
        rw [← e, ← h r hr]
        exact List.length_map _
      · intro h r hr
        have hm : intsN r ∈ ps.map (·.2) := eps ▸ List.mem_map_of_mem hr
        obtain ⟨p, hp, e⟩ := List.mem_map.mp hm
        have h1 := h p hp
        rw [decide_eq_true_eq] at h1
        have h2 : (intsN r).length = r.length := List.length_map _
        have e2 : p.2.length = r.length := (congrArg List.length e).trans h2
        omega
    with_reducible refine r_seq ?_
    refine r_ifB (fun G => Same F G) b (fun QB hQ => ?_) (fun hb2 G s6 => ?_) (fun hb2 G s6 => ?_)
    · refine r_or (r_test (r_op (r_var rfl (r_c (r_I0 ⟨_, rfl, ?_⟩)))))
      by_cases h40 : rs.length ≤ 40
      rotate_left
      · rw [decide_eq_true (by omega)]
        rw [decide_eq_false (fun z => h40 z.1)] at hb
        rw [← hb] at hQ
        exact iteT (hQ _ (Same.refl F))
      rw [decide_eq_false (show ¬ (40 : Int) < (rs.length : Int) by omega)]
      refine iteF (r_or (r_test ?_))
      walk_at "rdn"
      refine ⟨⟨_, SqL.of hGF⟩, fun D3 hD3 => ?_⟩
      refine lc_list (xs := refsI ps) (fun j G => Same F G ∧ G D3 = some (.lst (refsI ((ps.take j).filter fun p => decide (p.2.length ≠ r0.length))))) ⟨same_new hD3, upd_same⟩ (fun j G _ hQ => hQ.1.seq (SqL.of hGF)) (fun j x G hx hQ => ?_) (fun G hQ => ?_)
      · obtain ⟨s6, hG⟩ := hQ
        obtain ⟨p, hp, rfl⟩ := refsI_at hx
        have hj := (List.getElem?_eq_some_iff.mp hp).1
        have lf : ((ps.take j).filter fun p => decide (p.2.length ≠ r0.length)).length ≤ j := Nat.le_trans (List.length_filter_le _ _) (by rw [List.length_take]; omega)
        refine ⟨rfl, ?_⟩
        walk_at "rdn"
        refine r_lenL (SqL.of (s6 _ _ (hpsF p (List.mem_of_getElem? hp)))) ?_
        walk_at "rdn"
        refine r_ixL (SqL.of (s6 _ _ hGF)) (at_refsI rfl hp0) ?_
        walk_at "rdn"
        refine r_lenL (SqL.of (s6 _ _ (hpsF p0 hp0m))) ?_
        rw [List.length_map, List.length_map, lp0]
        refine r_neI ⟨_, rfl, ?_⟩
        by_cases hq : p.2.length = r0.length
        · rw [decide_eq_true (show (p.2.length : Int) = (r0.length : Int) by omega)]
          refine iteF ⟨s6, ?_⟩
          rw [hG, (filt_take (f := fun p => decide (p.2.length ≠ r0.length)) hp).2 (decide_eq_false fun z => z hq)]
        · rw [decide_eq_false (show ¬ (p.2.length : Int) = (r0.length : Int) by omega)]
          refine iteT ?_
          walk_at "rdn"
          refine ⟨_, hG, by rw [refsI_len]; omega, same_mut s6 hD3, ?_⟩
          rw [upd_same, (filt_take (f := fun p => decide (p.2.length ≠ r0.length)) hp).1 (decide_eq_true hq)]
          unfold refsI
          rw [List.map_append]
          rfl
      · obtain ⟨s6, hG⟩ := hQ
        rw [refsI_len, List.take_length] at hG
        walk_at "rdn"
        refine ⟨Nat.zero_le _, fun pe hpe => ?_⟩
        have s7 := s6.trans (same_new (o := .lst []) hpe)
        refine r_neD (dp_lists (SqL.of ((same_new hpe) _ _ hG)) fun q hq => SqL.of (s7 _ _ (hpsF q (List.mem_filter.mp hq).1))) (.lst (SqL.of upd_same) .nil) (shaped_lists _) rfl ?_
        rw [eqv_nil_lists]
        generalize upd G pe (.lst []) = G7 at *
        refine ⟨_, rfl, ?_⟩
        by_cases ha : ∀ r ∈ rs, r.length = r0.length
        rotate_left
        · rw [decide_eq_false (fun z => ha (alls.mpr z))]
          rw [decide_eq_false (fun z => ha z.2.1)] at hb
          rw [← hb] at hQ
          exact iteT (hQ _ s7)
        rw [decide_eq_true (alls.mp ha)]
        refine iteF ?_
        walk_at "rdn"
        refine r_ixL (SqL.of (s7 _ _ hGF)) (at_refsI rfl hp0) ?_
        walk_at "rdn"
        refine r_lenL (SqL.of (s7 _ _ (hpsF p0 hp0m))) ?_
        rw [List.length_map, lp0]
        walk_at "rdn"
        by_cases h4 : r0.length ≤ 4
        · rw [decide_eq_false (show ¬ (4 : Int) < (r0.length : Int) by omega)]
          rw [decide_eq_true ⟨h40, ha, h4⟩] at hb
          rw [← hb] at hQ
          exact hQ _ s7
        · rw [decide_eq_true (show (4 : Int) < (r0.length : Int) by omega)]
          rw [decide_eq_false (fun z => h4 z.2.2)] at hb
          rw [← hb] at hQ
          exact hQ _ s7
    · walk_at "rd"
      refine q2 (fun z => ?_) _ (s1.trans (s2.trans (sF.trans s6)))
      have z1 := ((okMac_iff g).mp z).1
      rw [h0l] at z1
      rw [decide_eq_true z1, hb2] at hb
      exact nomatch hb
    · have shp : rs.length ≤ 40 ∧ (∀ r ∈ rs, r.length = r0.length) ∧ r0.length ≤ 4 := by
        rw [hb2] at hb
        simpa using hb
      have s8 := sF.trans s6
      have hGG := s6 _ _ hGF
      have hpsG : ∀ p ∈ ps, G p.1 = some (.lst (p.2.map V.int)) := fun p hp => s6 _ _ (hpsF p hp)
      have hPG := s6 _ _ hPF
      have hEG := s6 _ _ hE
      clear sF s6 hGF hpsF hPF hE
      refine r_next ?_
      walk_at "rd"
      refine r_ixL (SqL.of hPG) (at_of (j := 1) rfl rfl) ?_
      walk_at "rd"
      refine toI g.s ?_
      walk_at "rd"
      refine ⟨by show 1 ≤ sizeLine; decide, fun p1 hp1 => ?_⟩
      walk_at "rd"
      have lI : ∀ ns : List Nat, ((intsN ns).map V.int).length = ns.length := fun ns => by rw [List.length_map]; exact List.length_map _
      refine r_cat upd_same ((same_new hp1) _ _ hEG) (by rw [lI]; show 1 + _ ≤ _; omega) (fun p2 hp2 => ?_)
      have s9 := (same_new (o := .lst [V.int (st : Int)]) hp1).trans (same_new (o := .lst ([V.int (st : Int)] ++ (intsN gs).map V.int)) hp2)
      have hT0 : (upd (upd G p1 (.lst [V.int (st : Int)])) p2 (.lst ([V.int (st : Int)] ++ (intsN gs).map V.int))) p2 = some (.lst ((intsN (st :: gs)).map V.int)) := upd_same
      generalize upd (upd G p1 (.lst [V.int (st : Int)])) p2 (.lst ([V.int (st : Int)] ++ (intsN gs).map V.int)) = G9 at *
      clear hp1 hp2
      have r4 : ∀ r ∈ rs, r.length ≤ 4 := fun r hr => by
        have := shp.2.1 r hr
        have := shp.2.2
        omega
      have fl4 : ∀ ls : List (List Nat), (∀ r ∈ ls, r.length ≤ 4) → ls.flatten.length ≤ 4 * ls.length := by
        intro ls
        induction ls with
        | nil => exact fun _ => Nat.le_refl _
        | cons r ls ih =>
          intro h
          have := ih fun r hr => h r (List.mem_cons_of_mem _ hr)
          have := h r List.mem_cons_self
          rw [List.flatten_cons, List.length_append, List.length_cons]
          omega
      have lall : ∀ i, (st :: gs ++ (rs.take i).flatten).length ≤ 250 := fun i => by
        have h1 := fl4 (rs.take i) fun r hr => r4 r (List.mem_of_mem_take hr)
        have h2 : (rs.take i).length ≤ 40 := by rw [List.length_take]; have := shp.1; omega
        rw [List.cons_append, List.length_cons, List.length_append]
        omega
      walk_at "rd"
      refine ⟨⟨_, SqL.of (s9 _ _ hGG)⟩, ?_⟩
      refine for_list (xs := refsI ps) (fun i σ F => ∃ (pt : Addr) (y : Option V), σ = [some (.str ⟨L.toArray⟩), some (.ref pp), some (.ref D), some (.ref pg), some (.int (rs.length : Int)), some (.ref pt), y, none] ∧ Same G9 F ∧ F pt = some (.lst ((intsN (st :: gs ++ (rs.take i).flatten)).map V.int))) ⟨p2, none, rfl, Same.refl G9, by rw [hT0, List.take_zero, List.flatten_nil, List.append_nil]⟩ (fun i σ F _ hP => ?_) (fun i x σ F hx hP => ?_) (fun σ F hP => ?_)
      · obtain ⟨pt, y, rfl, sF, hF⟩ := hP
        exact SqL.of (sF _ _ (s9 _ _ hGG))
      · obtain ⟨pt, y, rfl, sF, hF⟩ := hP
        obtain ⟨p, hp, rfl⟩ := refsI_at hx
        have hpm := List.mem_of_getElem? hp
        have hr : (rs.map intsN)[i]? = some p.2 := by rw [← eps, List.getElem?_map, hp]; rfl
        rw [List.getElem?_map] at hr
        obtain ⟨r, hr, e⟩ := Option.map_eq_some_iff.mp hr
        have h1 := lall (i + 1)
        rw [List.take_add_one, hr, List.flatten_append, ← List.append_assoc] at h1
        walk_at "rd"
        have hp9 := sF _ _ (s9 _ _ (hpsG p hpm))
        rw [← e] at hp9
        refine r_cat hF hp9 (by rw [lI, lI]; rw [List.length_append] at h1; have : [r].flatten.length = r.length := by simp
                                have h2 : (some r).toList.flatten.length = r.length := this
                                omega) (fun p3 hp3 => ?_)
        walk_at "rd"
        refine ⟨p3, _, rfl, sF.trans (same_new hp3), ?_⟩
        rw [upd_same, List.take_add_one, hr, List.flatten_append, ← List.append_assoc]
        rw [show (some r).toList.flatten = r from by show [r].flatten = r; simp]
        unfold intsN
        rw [List.map_append (l₁ := st :: gs ++ (rs.take i).flatten), List.map_append (f := V.int)]
      · obtain ⟨pt, y, rfl, sF, hF⟩ := hP
        rw [refsI_len, lps, List.take_length] at hF
        have lal := lall rs.length
        rw [List.take_length] at lal
        walk_at "rd"
        refine ⟨pt, _, rfl, SqL.of hF, ?_, fun m hm hle => ?_⟩
        · unfold intsN
          rw [List.length_map]
          exact Nat.succ_pos _
        walk_at "rd"
        have sT := s1.trans (s2.trans (s8.trans (s9.trans sF)))
        obtain ⟨x, hx, rfl⟩ := List.mem_map.mp hm
        refine r_iteD (fun h1 => ?_) (fun h1 => ?_)
        · walk_at "rd"
          refine q2 (fun z => ?_) _ sT
          have z2 := ((okMac_iff g).mp z).2 x hx
          omega
        have hok := (okMac_iff g).mpr ⟨by rw [h0l]; exact shp, fun y hy => by
          have := hle (y : Int) (List.mem_map_of_mem hy)
          omega⟩
        have sX := s9.trans sF
        have hGX := sX _ _ hGG
        have hPX := sX _ _ hPG
        have hEX := sX _ _ hEG
        have hpsX : ∀ p ∈ ps, F p.1 = some (.lst (p.2.map V.int)) := fun p hp => sX _ _ (hpsG p hp)
        clear hGG hPG hEG hpsG s8 s9 sF sX hT0 hle hm h1
        walk_at "rd"
        refine ⟨⟨_, SqL.of hGX⟩, fun D4 hD4 => ?_⟩
        refine lc_list (xs := refsI ps) (fun j G3 => Same F G3 ∧ ∃ vs : List V, G3 D4 = some (.lst vs) ∧ DtAll K G3 vs ((ps.take j).map fun p => rowI p.2)) ⟨same_new hD4, [], upd_same, .nil⟩ (fun j G3 _ hP => hP.1.seq (SqL.of hGX)) (fun j x G3 hx hP => ?_) (fun G3 hP => ?_)
        · obtain ⟨sG3, vs, hG3, hdt⟩ := hP
          obtain ⟨p, hp, rfl⟩ := refsI_at hx
          have hj := (List.getElem?_eq_some_iff.mp hp).1
          refine ⟨rfl, r_yes (iteT ?_)⟩
          walk_at "rd"
          refine r_tupL (SqL.of (sG3 _ _ (hpsX p (List.mem_of_getElem? hp)))) (fun t ht => ?_)
          have s4 := same_new (o := .tup (p.2.map V.int)) ht
          refine ⟨vs, s4 _ _ hG3, ?_, same_mut (sG3.trans s4) hD4, vs ++ [.ref t], upd_same, ?_⟩
          · have := hdt.len
            rw [List.length_map, List.length_take] at this
            have := shp.1
            omega
          · rw [List.take_add_one, hp, List.map_append]
            have sT : SameT (upd G3 t (.tup (p.2.map V.int))) (upd (upd G3 t (.tup (p.2.map V.int))) D4 (.lst (vs ++ [.ref t]))) := SameT.lst (s4 _ _ hG3)
            exact (hdt.k ((sT_of s4).trans sT)).snoc (.tup (sT.sq (SqT.of upd_same)) (DtAll.map (fun i => .int i) p.2))
        · obtain ⟨sG3, vs, hG3, hdt⟩ := hP
          rw [refsI_len, List.take_length] at hdt
          walk_at "rd"
          refine r_tupL (SqL.of hG3) (fun ts hts => ?_)
          have s4 := sG3.trans (same_new (o := .tup vs) hts)
          have hdt4 := hdt.k (sT_of (same_new (o := .tup vs) hts))
          have hts4 : (upd G3 ts (.tup vs)) ts = some (.tup vs) := upd_same
          generalize upd G3 ts (.tup vs) = G4 at *
          walk_at "rd"
          refine r_ixL (SqL.of (s4 _ _ hPX)) (at_of (j := 1) rfl rfl) ?_
          walk_at "rd"
          refine toI g.s ?_
          walk_at "rd"
          refine ⟨pg, intsN gs, rfl, SqL.of (s4 _ _ hEX), by show (gs.map _).length ≤ _; rw [List.length_map]; omega, fun p c0 hc0 hp => ?_⟩
          walk_at "rd"
          have lgI : (intsN gs).length = gs.length := List.length_map _
          refine ⟨p, _, c0, rfl, upd_same, by omega, fun ns p2 pw hm hl hp2 => ?_⟩
          rw [good_tup (n := rs.length) (by have := hok.2.2.2; rw [List.length_map] at this; exact this) pw hm]
          walk_at "rd"
          refine r_tupL (SqL.of upd_same) (fun t2 ht2 => ?_)
          walk_at "rd"
          refine ⟨ln3, fun t ht => ?_⟩
          have s5 := same_new (o := SetO w p (fun j => decide (j ∈ intsN gs)) c0) hp
          have s6 := same_new (o := .lst ((goodOf rs.length (intsN gs)).map iV)) hp2
          have s7 := same_new (o := .tup ((goodOf rs.length (intsN gs)).map iV)) ht2
          have s8 := same_new (o := .tup [V.ref ts, V.int (st : Int), V.ref t2]) ht
          have h7 := s8 _ _ (upd_same (H := upd (upd G4 p (SetO w p (fun j => decide (j ∈ intsN gs)) c0)) p2 (.lst ((goodOf rs.length (intsN gs)).map iV))) (a := t2) (o := .tup ((goodOf rs.length (intsN gs)).map iV)))
          refine q1 hok _ _ (sT.trans (s4.trans (s5.trans (s6.trans (s7.trans s8))))) ?_
          unfold macI
          rw [← eps, List.map_map]
          refine .tup (SqT.of upd_same) (.cons (.tup (SqT.of ((s5.trans (s6.trans (s7.trans s8))) _ _ hts4)) (hdt4.k (sT_of (s5.trans (s6.trans (s7.trans s8)))))) (.cons (.int _) (.cons (.tup (SqT.of h7) (ofNats _)) .nil)))

end

section
variable {P : Program} {w : World} {K : PySem.W.Frag} {mg : Str → Option Value} {base : Heap} {a : Ad}
open TL
def spLDueH (K : PySem.W.Frag) : Sp := fun vs H Q _ => ∃ (L : List Nat) (rs : List (List Nat)) (st : Nat) (gs : List Nat), vs = [.str ⟨L.toArray⟩] ∧ GrOk rs st gs ∧ L = macL rs st gs ∧ L.length ≤ 59 ∧
  ¬ okMac (rs.map intsN) (st : Int) (intsN gs) ∧ ∀ H', Same H H' → Q .non H'
theorem ok_l_dueH (T : Txt K mg a) : L2H.FnH P w K mg base CX0 1 a.f_l_due a.d_l_due ["text"] (spLDueH K) := by
  refine okH T.F_l_due sc_l_due (fun vs H Q E h => ?_) (fun cdv A outer s H vs Q E p hc hr h => ?_)
  · obtain ⟨L, rs, st, gs, rfl, _⟩ := h
    rfl
  · obtain ⟨L, rs, st, gs, rfl, g, eL, hl, qn, q0⟩ := h
    have q2 : ¬ okMac (rs.map intsN) (st : Int) (intsN gs) → ∀ H', Same H H' → Q .non H' := fun _ => q0
    have zl : (sizeLine : Nat) = 16777216 := by decide
    refine ⟨_, (pss_cons (ps_set (i := 1) sc_l_due.nd rfl (Or.inl rfl) (bmK (K := K) rfl (pe_bm PySem.F.plainAttrs_str PySem.F.slot_str_split PySem.F.type_str_split mt_split (pv 0) (pa_cons pe_str pa_nil))))
      (pss_cons (ps_set (i := 2) sc_l_due.nd rfl (Or.inr rfl) (pe_lcH (own := [("entry", 6)]) (g := gName 6) (tt := tYes) hc sc_l_due.nd (pi_listH (K := K) rfl (bmK (K := K) rfl (pe_bm PySem.F.plainAttrs_str PySem.F.slot_str_split PySem.F.type_str_split mt_split (pe_ix (ix_listK (K := K) rfl) (pv 1) pe_int (fun _ _ => rfl)) (pa_cons pe_str pa_nil)))) (blkOk_by (N := N_l_due) (sc := (defScope s_l_due)) (by decide +kernel)) (fun _ _ _ _ _ => pg_name (i := 6) sc_l_due.nd rfl (by first | exact Or.inl rfl | exact Or.inr rfl)) (fun _ _ _ _ _ => pts_nil) (fun _ _ _ _ _ => (pe_lcH (own := [("number", 7)]) (g := gName 7) (tt := tYes) hc sc_l_due.nd (pi_listH (K := K) rfl (bmK (K := K) rfl (pe_bm PySem.F.plainAttrs_str PySem.F.slot_str_split PySem.F.type_str_split mt_split (pv 6) (pa_cons pe_str pa_nil)))) (blkOk_by (N := N_l_due) (sc := (relS (eScope (sE (sIn 1 s_l_due))) (defScope s_l_due))) (by decide +kernel)) (fun _ _ _ _ _ => pg_name (i := 7) sc_l_due.nd rfl (by first | exact Or.inl rfl | exact Or.inr rfl)) (fun _ _ _ _ _ => pts_nil) (fun _ _ _ _ _ => (pe_callTy call_intT (by rfl) T.z_int (by decide +kernel) (pa_cons (pv 7) pa_nil)))))))
      (pss_cons (ps_set (i := 3) sc_l_due.nd rfl (Or.inl rfl) (pe_lst pa_nil))
      (pss_cons (ps_if (pt_cmpR op_ne (pe_ix (ix_listK (K := K) rfl) (pv 1) pe_int (fun _ _ => rfl)) pe_str (nomark _)) (pss_one (ps_setLcH (i := 3) (own := [("number", 7)]) (g := gName 7) (tt := tYes) hc sc_l_due.nd rfl rfl (sw_true rfl rfl rfl (by decide +kernel)) (pi_listH (K := K) rfl (bmK (K := K) rfl (pe_bm PySem.F.plainAttrs_str PySem.F.slot_str_split PySem.F.type_str_split mt_split (pe_ix (ix_listK (K := K) rfl) (pv 1) pe_int (fun _ _ => rfl)) (pa_cons pe_str pa_nil)))) (blkOk_by (N := N_l_due) (sc := (defScope s_l_due)) (by decide +kernel)) (fun _ _ _ _ _ => pg_name (i := 7) sc_l_due.nd rfl (by first | exact Or.inl rfl | exact Or.inr rfl)) (fun _ _ _ _ _ => pts_nil) (fun _ _ _ _ _ => (pe_callTy call_intT (by rfl) T.z_int (by decide +kernel) (pa_cons (pv 7) pa_nil))))) pss_nil)
      (pss_cons (ps_set (i := 4) sc_l_due.nd rfl (Or.inl rfl) (pe_callB (call_lenQK (K := K) rfl) (by rfl) T.z_len (by decide +kernel) (pa_cons (pv 2) pa_nil)))
      (pss_cons (ps_if (PW.pt (pw_or (pt_cmpR op_gt (pv 4) pe_int (nomark _)) (pw_or (pt_cmpR (op_neDK (K := K) rfl (hu64H hr)) (pe_lcH (own := [("entry", 6)]) (g := gName 6) hc sc_l_due.nd (pi_listH (K := K) rfl (pv 2)) (blkOk_by (N := N_l_due) (sc := (defScope s_l_due)) (by decide +kernel)) (fun _ _ _ _ _ => pg_name (i := 6) sc_l_due.nd rfl (by first | exact Or.inl rfl | exact Or.inr rfl)) (fun _ _ _ _ _ => (pts_one (pt_cmpR op_ne (pe_callB (call_lenQK (K := K) rfl) (by rfl) T.z_len (by decide +kernel) (pa_cons (pv 6) pa_nil)) (pe_callB (call_lenQK (K := K) rfl) (by rfl) T.z_len (by decide +kernel) (pa_cons (pe_ix (ix_listK (K := K) rfl) (pv 2) pe_int (fun _ _ => rfl)) pa_nil)) (nomark _)))) (fun _ _ _ _ _ => (pv 6))) (pe_lst pa_nil) (nomark _)) (pw_or1 (pt_cmpR op_gt (pe_callB (call_lenQK (K := K) rfl) (by rfl) T.z_len (by decide +kernel) (pa_cons (pe_ix (ix_listK (K := K) rfl) (pv 2) pe_int (fun _ _ => rfl)) pa_nil)) pe_int (nomark _)))))) (pss_one (ps_ret pe_non)) pss_nil)
      (pss_cons (ps_set (i := 5) sc_l_due.nd rfl (Or.inl rfl) (pe_op op_cat (pe_lst (pa_cons (pe_callTy call_intT (by rfl) T.z_int (by decide +kernel) (pa_cons (pe_ix (ix_listK (K := K) rfl) (pv 1) pe_int (fun _ _ => rfl)) pa_nil)) pa_nil)) (pv 3)))
      (pss_cons (L2H.ps_forH PassesOwn.leaving hc (pi_listH (K := K) rfl (pv 2)) (pg_name (i := 6) sc_l_due.nd rfl (Or.inl rfl)) (pss_one (ps_set (i := 5) sc_l_due.nd rfl (Or.inl rfl) (pe_op op_cat (pv 5) (pv 6)))))
      (pss_cons (ps_if (pt_cmpR op_ge (pe_callB (cr_maxH (K := K) rfl hc) (by rfl) T.z_max (by decide +kernel) (pa_cons (pv 5) pa_nil)) (pv 4) (nomark _)) (pss_one (ps_ret pe_non)) pss_nil)
      (pss_one ps_no)))))))))), ?_⟩
    walk_at "rd"
    have hrows : ∀ r ∈ rs, ∀ x ∈ r, x < 100 := fun r hr => (g.rows r hr).2
    have hparts : Txt.split ⟨L.toArray⟩ (Str.ofString ";") = [(⟨(joinL [47] (rs.map numsL)).toArray⟩ : Str), ⟨(numL st).toArray⟩, ⟨(numsL gs).toArray⟩] := by
      refine split_at (s := 59) (ls := [joinL [47] (rs.map numsL), numL st, numsL gs]) rfl (by decide) (fun z => nomatch z) (fun l hl => ?_) (eL.trans mac_parts)
      simp only [List.mem_cons, List.not_mem_nil, or_false] at hl
      rcases hl with rfl | rfl | rfl
      · intro h
        have := rowsL_mem hrows h
        omega
      · intro h
        have := numL_dig g.s 59 h
        omega
      · intro h
        have := numsL_mem g.g h
        omega
    have hrowsS : Txt.split ⟨(joinL [47] (rs.map numsL)).toArray⟩ (Str.ofString "/") = (rs.map numsL).map fun l => (⟨l.toArray⟩ : Str) := by
      refine split_at (s := 47) (ls := rs.map numsL) rfl (by decide) (fun z => g.ne (List.map_eq_nil_iff.mp z)) (fun l hl => ?_) rfl
      obtain ⟨r, hr, rfl⟩ := List.mem_map.mp hl
      intro h
      have := numsL_mem (hrows r hr) h
      omega
    have hnumsS : ∀ ns : List Nat, ns ≠ [] → (∀ x ∈ ns, x < 100) → Txt.split ⟨(numsL ns).toArray⟩ (Str.ofString " ") = (ns.map numL).map fun l => (⟨l.toArray⟩ : Str) := fun ns hne h100 => by
      refine split_at (s := 32) (ls := ns.map numL) rfl (by decide) (fun z => hne (List.map_eq_nil_iff.mp z)) (fun l hl => ?_) rfl
      obtain ⟨n, hn, rfl⟩ := List.mem_map.mp hl
      intro h
      have := numL_dig (h100 n hn) 32 h
      omega
    have hLl : L.length = (joinL [47] (rs.map numsL)).length + (1 + ((numL st).length + (1 + (numsL gs).length))) := by
      rw [eL]
      unfold macL
      rw [List.length_append, List.length_cons, List.length_append, List.length_cons]
      omega
    obtain ⟨rl1, rl2⟩ : rs.length ≤ (joinL [47] (rs.map numsL)).length ∧ ∀ r ∈ rs, r.length ≤ (joinL [47] (rs.map numsL)).length := by
      cases hrs : rs with
      | nil => exact absurd hrs g.ne
      | cons r rt => exact rows_len r rt (by rw [← hrs]; exact g.rows)
    have lgs := nums_len gs g.g
    have toI : ∀ {n : Nat} {G : Hp} {R : VK}, n < 100 → R (.int (n : Int)) G → rIntT [.str ⟨(numL n).toArray⟩] G R := fun {n G R} hn h => by
      refine ⟨_, (n : Int), rfl, intText_num hn, ?_, h⟩
      rw [str_len]
      have := (numL_len hn).2
      omega
    refine ⟨rfl, ?_⟩
    walk_at "rd"
    refine ⟨_, _, rfl, rfl, by decide +kernel, by rw [str_len]; omega, fun pp hpp => ?_⟩
    rw [hparts]
    have s1 := same_new (o := .lst (([(⟨(joinL [47] (rs.map numsL)).toArray⟩ : Str), ⟨(numL st).toArray⟩, ⟨(numsL gs).toArray⟩]).map V.str)) hpp
    have hP : (upd H pp (.lst (([(⟨(joinL [47] (rs.map numsL)).toArray⟩ : Str), ⟨(numL st).toArray⟩, ⟨(numsL gs).toArray⟩]).map V.str))) pp = some (.lst [.str ⟨(joinL [47] (rs.map numsL)).toArray⟩, .str ⟨(numL st).toArray⟩, .str ⟨(numsL gs).toArray⟩]) := upd_same
    generalize upd H pp (.lst (([(⟨(joinL [47] (rs.map numsL)).toArray⟩ : Str), ⟨(numL st).toArray⟩, ⟨(numsL gs).toArray⟩]).map V.str)) = H1 at *
    walk_at "rd"
    refine r_ixL (SqL.of hP) (at_of (j := 0) rfl rfl) ?_
    refine ⟨rfl, ?_⟩
    walk_at "rd"
    refine ⟨_, _, rfl, rfl, by decide +kernel, by rw [str_len]; omega, fun pr hpr => ?_⟩
    rw [hrowsS]
    have s2 := same_new (o := .lst (((rs.map numsL).map fun l => (⟨l.toArray⟩ : Str)).map V.str)) hpr
    have hR : (upd H1 pr (.lst (((rs.map numsL).map fun l => (⟨l.toArray⟩ : Str)).map V.str))) pr = some (.lst (((rs.map numsL).map fun l => (⟨l.toArray⟩ : Str)).map V.str)) := upd_same
    generalize upd H1 pr (.lst (((rs.map numsL).map fun l => (⟨l.toArray⟩ : Str)).map V.str)) = H2 at *
    have lR : (((rs.map numsL).map fun l => (⟨l.toArray⟩ : Str)).map V.str).length = rs.length := by rw [List.length_map, List.length_map, List.length_map]
    walk_at "rd"
    refine ⟨⟨_, SqL.of hR⟩, fun D hD => ?_⟩
    refine lc_list (xs := ((rs.map numsL).map fun l => (⟨l.toArray⟩ : Str)).map V.str) (fun j G => Same H2 G ∧ ∃ ps : List (Addr × List Int), G D = some (.lst (refsI ps)) ∧ (∀ p ∈ ps, G p.1 = some (.lst (p.2.map V.int)) ∧ p.1 ≠ D) ∧ ps.map (·.2) = (rs.take j).map intsN) ⟨same_new hD, [], upd_same, (fun _ z => nomatch z), rfl⟩ (fun j G _ hQ => hQ.1.seq (SqL.of hR)) (fun j x G hx hQ => ?_) (fun G hQ => ?_)
    · obtain ⟨sG, ps, hG, hps, eps⟩ := hQ
      have hj := (List.getElem?_eq_some_iff.mp hx).1
      rw [lR] at hj
      have hr := List.getElem?_eq_getElem (l := rs) (i := j) (by omega)
      have hrm := List.getElem_mem (l := rs) (n := j) (by omega)
      generalize rs[j] = r at hr hrm
      rw [List.getElem?_map, List.getElem?_map, List.getElem?_map, hr] at hx
      obtain rfl := Option.some.inj hx
      obtain ⟨gr1, gr2⟩ := g.rows r hrm
      have lps : ps.length = j := by
        have := congrArg List.length eps
        rw [List.length_map, List.length_map, List.length_take] at this
        omega
      have hlr := rl2 r hrm
      refine ⟨rfl, r_yes (iteT ?_)⟩
      walk_at "rd"
      refine ⟨rfl, ?_⟩
      walk_at "rd"
      have lnr : (numsL r).length ≤ (joinL [47] (rs.map numsL)).length := len_joinL (List.mem_map_of_mem hrm)
      refine ⟨_, _, rfl, rfl, by decide +kernel, by rw [str_len]; omega, fun pn hpn => ?_⟩
      rw [hnumsS r gr1 gr2]
      have s3 := same_new (o := .lst (((r.map numL).map fun l => (⟨l.toArray⟩ : Str)).map V.str)) hpn
      have hN : (upd G pn (.lst (((r.map numL).map fun l => (⟨l.toArray⟩ : Str)).map V.str))) pn = some (.lst (((r.map numL).map fun l => (⟨l.toArray⟩ : Str)).map V.str)) := upd_same
      have sG3 := sG.trans s3
      have hG3 := s3 _ _ hG
      have hps3 : ∀ p ∈ ps, (upd G pn (.lst (((r.map numL).map fun l => (⟨l.toArray⟩ : Str)).map V.str))) p.1 = some (.lst (p.2.map V.int)) := fun p hp => s3 _ _ (hps p hp).1
      generalize upd G pn (.lst (((r.map numL).map fun l => (⟨l.toArray⟩ : Str)).map V.str)) = G3 at *
      walk_at "rd"
      refine ⟨⟨_, SqL.of hN⟩, fun D2 hD2 => ?_⟩
      refine lc_list (xs := ((r.map numL).map fun l => (⟨l.toArray⟩ : Str)).map V.str) (fun k F => Same G3 F ∧ F D2 = some (.lst ((intsN (r.take k)).map V.int))) ⟨same_new hD2, upd_same⟩ (fun k F _ hQ => hQ.1.seq (SqL.of hN)) (fun k x F hx hQ => ?_) (fun F hQ => ?_)
      · obtain ⟨sF, hF⟩ := hQ
        have hk := (List.getElem?_eq_some_iff.mp hx).1
        rw [List.length_map, List.length_map, List.length_map] at hk
        have hn := List.getElem?_eq_getElem (l := r) (i := k) (by omega)
        have hnm := List.getElem_mem (l := r) (n := k) (by omega)
        generalize r[k] = n at hn hnm
        rw [List.getElem?_map, List.getElem?_map, List.getElem?_map, hn] at hx
        obtain rfl := Option.some.inj hx
        refine ⟨rfl, r_yes (iteT ?_)⟩
        walk_at "rd"
        refine toI (gr2 n hnm) ?_
        refine ⟨_, hF, ?_, same_mut sF hD2, ?_⟩
        · unfold intsN
          rw [List.length_map, List.length_map, List.length_take]
          omega
        · rw [upd_same, List.take_add_one, hn]
          unfold intsN
          rw [List.map_append, List.map_append]
          rfl
      · obtain ⟨sF, hF⟩ := hQ
        rw [List.length_map, List.length_map, List.length_map, List.take_length] at hF
        have nD : D2 ≠ D := fun e => by rw [e, hG3] at hD2; exact nomatch hD2
        refine ⟨_, sF _ _ hG3, by rw [refsI_len]; omega, same_mut (sG3.trans sF) hD, ps ++ [(D2, intsN r)], ?_, fun p hp => ?_, ?_⟩
        · rw [upd_same]
          unfold refsI
          rw [List.map_append]
          rfl
        · rcases List.mem_append.mp hp with hp | hp
          · rw [upd_ne (hps p hp).2]
            exact ⟨sF _ _ (hps3 p hp), (hps p hp).2⟩
          · rw [List.mem_singleton.mp hp, upd_ne nD]
            exact ⟨hF, nD⟩
        · rw [List.map_append, eps, List.take_add_one, hr, List.map_append]
          rfl
    obtain ⟨sG, ps, hG, hps, eps⟩ := hQ
    rw [lR, List.take_length] at eps
    clear hD
    walk_at "rd"
    refine ⟨Nat.zero_le _, fun pg hpg => ?_⟩
    have s4 := same_new (o := .lst []) hpg
    have hE : (upd G pg (.lst [])) pg = some (.lst []) := upd_same
    have sG4 := sG.trans s4
    have hG4 := s4 _ _ hG
    have hps4 : ∀ p ∈ ps, (upd G pg (.lst [])) p.1 = some (.lst (p.2.map V.int)) := fun p hp => s4 _ _ (hps p hp).1
    generalize upd G pg (.lst []) = G4 at *
    clear hpg s4 hG hps
    with_reducible refine r_cutJ (fun σ F => ∃ pg, σ = [some (.str ⟨L.toArray⟩), some (.ref pp), some (.ref D), some (.ref pg), none, none, none, none] ∧ Same G4 F ∧ F pg = some (.lst ((intsN gs).map V.int))) (fun σ F hJ => ?_) (fun key => ?_)
    rotate_left
    · have hP4 := (s2.trans sG4) _ _ hP
      refine r_ifB (fun F => F = G4) (!decide (gs = [])) (fun QB hQ => ?_) (fun hb F e => ?_) (fun hb F e => ?_)
      · walk_at "rd"
        refine r_ixL (SqL.of hP4) (at_of (j := 2) rfl rfl) ?_
        walk_at "rd"
        rw [decide_eq_decide.mpr (numsL_nil g.g)]
        exact hQ _ rfl
      · cases e
        have hne : gs ≠ [] := fun z => by rw [z] at hb; exact nomatch hb
        walk_at "rd"
        refine r_ixL (SqL.of hP4) (at_of (j := 2) rfl rfl) ?_
        refine ⟨rfl, ?_⟩
        walk_at "rd"
        refine ⟨_, _, rfl, rfl, by decide +kernel, by rw [str_len]; omega, fun pn hpn => ?_⟩
        rw [hnumsS gs hne g.g]
        have s5 := same_new (o := .lst (((gs.map numL).map fun l => (⟨l.toArray⟩ : Str)).map V.str)) hpn
        have hN : (upd G4 pn (.lst (((gs.map numL).map fun l => (⟨l.toArray⟩ : Str)).map V.str))) pn = some (.lst (((gs.map numL).map fun l => (⟨l.toArray⟩ : Str)).map V.str)) := upd_same
        generalize upd G4 pn (.lst (((gs.map numL).map fun l => (⟨l.toArray⟩ : Str)).map V.str)) = G5 at *
        walk_at "rd"
        refine ⟨⟨_, SqL.of hN⟩, fun D2 hD2 => ?_⟩
        refine lc_list (xs := ((gs.map numL).map fun l => (⟨l.toArray⟩ : Str)).map V.str) (fun k F => Same G5 F ∧ F D2 = some (.lst ((intsN (gs.take k)).map V.int))) ⟨same_new hD2, upd_same⟩ (fun k F _ hQ => hQ.1.seq (SqL.of hN)) (fun k x F hx hQ => ?_) (fun F hQ => ?_)
        · obtain ⟨sF, hF⟩ := hQ
          have hk := (List.getElem?_eq_some_iff.mp hx).1
          rw [List.length_map, List.length_map, List.length_map] at hk
          have hn := List.getElem?_eq_getElem (l := gs) (i := k) (by omega)
          have hnm := List.getElem_mem (l := gs) (n := k) (by omega)
          generalize gs[k] = n at hn hnm
          rw [List.getElem?_map, List.getElem?_map, List.getElem?_map, hn] at hx
          obtain rfl := Option.some.inj hx
          refine ⟨rfl, r_yes (iteT ?_)⟩
          walk_at "rd"
          refine toI (g.g n hnm) ?_
          refine ⟨_, hF, ?_, same_mut sF hD2, ?_⟩
          · unfold intsN
            rw [List.length_map, List.length_map, List.length_take]
            omega
          · rw [upd_same, List.take_add_one, hn]
            unfold intsN
            rw [List.map_append, List.map_append]
            rfl
        · obtain ⟨sF, hF⟩ := hQ
          rw [List.length_map, List.length_map, List.length_map, List.take_length] at hF
          exact key _ _ ⟨D2, rfl, s5.trans sF, hF⟩
      · cases e
        have hne : gs = [] := of_decide_eq_true (by simpa using hb)
        exact r_next (key _ _ ⟨pg, rfl, Same.refl G4, by rw [hE, hne]; rfl⟩)
    clear hE
    obtain ⟨pg, rfl, s5, hE⟩ := hJ
    have sF := sG4.trans s5
    have hGF := s5 _ _ hG4
    have hpsF : ∀ p ∈ ps, F p.1 = some (.lst (p.2.map V.int)) := fun p hp => s5 _ _ (hps4 p hp)
    have hPF := (s2.trans sF) _ _ hP
    clear hG4 hps4 s5
    have lps : ps.length = rs.length := by
      have := congrArg List.length eps
      rw [List.length_map, List.length_map] at this
      exact this
    walk_at "rd"
    refine r_lenL (SqL.of hGF) ?_
    rw [refsI_len, lps]
    obtain ⟨r0, hr0, h0l⟩ : ∃ r0, rs[0]? = some r0 ∧ rs.getD 0 [] = r0 := by
      cases hrs : rs with
      | nil => exact absurd hrs g.ne
      | cons r rt => exact ⟨r, rfl, rfl⟩
    have hp0 : ∃ p0, ps[0]? = some p0 ∧ p0.2.length = r0.length := by
      have := congrArg (·[0]?) eps
      simp only [List.getElem?_map, hr0] at this
      cases hp : ps[0]? with
      | none => rw [hp] at this; exact nomatch this
      | some p0 =>
        rw [hp] at this
        have e : p0.2 = intsN r0 := Option.some.inj this
        refine ⟨p0, rfl, ?_⟩
        rw [e]
        exact List.length_map _
    obtain ⟨p0, hp0, lp0⟩ := hp0
    have hp0m := List.mem_of_getElem? hp0
    obtain ⟨b, hb⟩ : ∃ b, (!decide (rs.length ≤ 40 ∧ (∀ r ∈ rs, r.length = r0.length) ∧ r0.length ≤ 4)) = b := ⟨_, rfl⟩
    have alls : (∀ r ∈ rs, r.length = r0.length) ↔ (ps.filter fun p => decide (p.2.length ≠ r0.length)).map (·.2) = [] := by
      rw [List.map_eq_nil_iff, List.filter_eq_nil_iff]
      constructor
      · intro h p hp z
        have hm : p.2 ∈ rs.map intsN := eps ▸ List.mem_map_of_mem hp
        obtain ⟨r, hr, e⟩ := List.mem_map.mp hm
        refine of_decide_eq_true z ?_
        rw [← e, ← h r hr]
        exact List.length_map _
      · intro h r hr
        have hm : intsN r ∈ ps.map (·.2) := eps ▸ List.mem_map_of_mem hr
        obtain ⟨p, hp, e⟩ := List.mem_map.mp hm
        have h1 := h p hp
        rw [decide_eq_true_eq] at h1
        have h2 : (intsN r).length = r.length := List.length_map _
        have e2 : p.2.length = r.length := (congrArg List.length e).trans h2
        omega
    with_reducible refine r_seq ?_
    refine r_ifB (fun G => Same F G) b (fun QB hQ => ?_) (fun hb2 G s6 => ?_) (fun hb2 G s6 => ?_)
    · refine r_or (r_test (r_op (r_var rfl (r_c (r_I0 ⟨_, rfl, ?_⟩)))))
      by_cases h40 : rs.length ≤ 40
      rotate_left
      · rw [decide_eq_true (by omega)]
        rw [decide_eq_false (fun z => h40 z.1)] at hb
        rw [← hb] at hQ
        exact iteT (hQ _ (Same.refl F))
      rw [decide_eq_false (show ¬ (40 : Int) < (rs.length : Int) by omega)]
      refine iteF (r_or (r_test ?_))
      walk_at "rdn"
      refine ⟨⟨_, SqL.of hGF⟩, fun D3 hD3 => ?_⟩
      refine lc_list (xs := refsI ps) (fun j G => Same F G ∧ G D3 = some (.lst (refsI ((ps.take j).filter fun p => decide (p.2.length ≠ r0.length))))) ⟨same_new hD3, upd_same⟩ (fun j G _ hQ => hQ.1.seq (SqL.of hGF)) (fun j x G hx hQ => ?_) (fun G hQ => ?_)
      · obtain ⟨s6, hG⟩ := hQ
        obtain ⟨p, hp, rfl⟩ := refsI_at hx
        have hj := (List.getElem?_eq_some_iff.mp hp).1
        have lf : ((ps.take j).filter fun p => decide (p.2.length ≠ r0.length)).length ≤ j := Nat.le_trans (List.length_filter_le _ _) (by rw [List.length_take]; omega)
        refine ⟨rfl, ?_⟩
        walk_at "rdn"
        refine r_lenL (SqL.of (s6 _ _ (hpsF p (List.mem_of_getElem? hp)))) ?_
        walk_at "rdn"
        refine r_ixL (SqL.of (s6 _ _ hGF)) (at_refsI rfl hp0) ?_
        walk_at "rdn"
        refine r_lenL (SqL.of (s6 _ _ (hpsF p0 hp0m))) ?_
        rw [List.length_map, List.length_map, lp0]
        refine r_neI ⟨_, rfl, ?_⟩
        by_cases hq : p.2.length = r0.length
        · rw [decide_eq_true (show (p.2.length : Int) = (r0.length : Int) by omega)]
          refine iteF ⟨s6, ?_⟩
          rw [hG, (filt_take (f := fun p => decide (p.2.length ≠ r0.length)) hp).2 (decide_eq_false fun z => z hq)]
        · rw [decide_eq_false (show ¬ (p.2.length : Int) = (r0.length : Int) by omega)]
          refine iteT ?_
          walk_at "rdn"
          refine ⟨_, hG, by rw [refsI_len]; omega, same_mut s6 hD3, ?_⟩
          rw [upd_same, (filt_take (f := fun p => decide (p.2.length ≠ r0.length)) hp).1 (decide_eq_true hq)]
          unfold refsI
          rw [List.map_append]
          rfl
      · obtain ⟨s6, hG⟩ := hQ
        rw [refsI_len, List.take_length] at hG
        walk_at "rdn"
        refine ⟨Nat.zero_le _, fun pe hpe => ?_⟩
        have s7 := s6.trans (same_new (o := .lst []) hpe)
        refine r_neD (dp_lists (SqL.of ((same_new hpe) _ _ hG)) fun q hq => SqL.of (s7 _ _ (hpsF q (List.mem_filter.mp hq).1))) (.lst (SqL.of upd_same) .nil) (shaped_lists _) rfl ?_
        rw [eqv_nil_lists]
        generalize upd G pe (.lst []) = G7 at *
        refine ⟨_, rfl, ?_⟩
        by_cases ha : ∀ r ∈ rs, r.length = r0.length
        rotate_left
        · rw [decide_eq_false (fun z => ha (alls.mpr z))]
          rw [decide_eq_false (fun z => ha z.2.1)] at hb
          rw [← hb] at hQ
          exact iteT (hQ _ s7)
        rw [decide_eq_true (alls.mp ha)]
        refine iteF ?_
        walk_at "rdn"
        refine r_ixL (SqL.of (s7 _ _ hGF)) (at_refsI rfl hp0) ?_
        walk_at "rdn"
        refine r_lenL (SqL.of (s7 _ _ (hpsF p0 hp0m))) ?_
        rw [List.length_map, lp0]
        walk_at "rdn"
        by_cases h4 : r0.length ≤ 4
        · rw [decide_eq_false (show ¬ (4 : Int) < (r0.length : Int) by omega)]
          rw [decide_eq_true ⟨h40, ha, h4⟩] at hb
          rw [← hb] at hQ
          exact hQ _ s7
        · rw [decide_eq_true (show (4 : Int) < (r0.length : Int) by omega)]
          rw [decide_eq_false (fun z => h4 z.2.2)] at hb
          rw [← hb] at hQ
          exact hQ _ s7
    · walk_at "rd"
      refine q2 (fun z => ?_) _ (s1.trans (s2.trans (sF.trans s6)))
      have z1 := ((okMac_iff g).mp z).1
      rw [h0l] at z1
      rw [decide_eq_true z1, hb2] at hb
      exact nomatch hb
    · have shp : rs.length ≤ 40 ∧ (∀ r ∈ rs, r.length = r0.length) ∧ r0.length ≤ 4 := by
        rw [hb2] at hb
        simpa using hb
      have s8 := sF.trans s6
      have hGG := s6 _ _ hGF
      have hpsG : ∀ p ∈ ps, G p.1 = some (.lst (p.2.map V.int)) := fun p hp => s6 _ _ (hpsF p hp)
      have hPG := s6 _ _ hPF
      have hEG := s6 _ _ hE
      clear sF s6 hGF hpsF hPF hE
      refine r_next ?_
      walk_at "rd"
      refine r_ixL (SqL.of hPG) (at_of (j := 1) rfl rfl) ?_
      walk_at "rd"
      refine toI g.s ?_
      walk_at "rd"
      refine ⟨by show 1 ≤ sizeLine; decide, fun p1 hp1 => ?_⟩
      walk_at "rd"
      have lI : ∀ ns : List Nat, ((intsN ns).map V.int).length = ns.length := fun ns => by rw [List.length_map]; exact List.length_map _
      refine r_cat upd_same ((same_new hp1) _ _ hEG) (by rw [lI]; show 1 + _ ≤ _; omega) (fun p2 hp2 => ?_)
      have s9 := (same_new (o := .lst [V.int (st : Int)]) hp1).trans (same_new (o := .lst ([V.int (st : Int)] ++ (intsN gs).map V.int)) hp2)
      have hT0 : (upd (upd G p1 (.lst [V.int (st : Int)])) p2 (.lst ([V.int (st : Int)] ++ (intsN gs).map V.int))) p2 = some (.lst ((intsN (st :: gs)).map V.int)) := upd_same
      generalize upd (upd G p1 (.lst [V.int (st : Int)])) p2 (.lst ([V.int (st : Int)] ++ (intsN gs).map V.int)) = G9 at *
      clear hp1 hp2
      have r4 : ∀ r ∈ rs, r.length ≤ 4 := fun r hr => by
        have := shp.2.1 r hr
        have := shp.2.2
        omega
      have fl4 : ∀ ls : List (List Nat), (∀ r ∈ ls, r.length ≤ 4) → ls.flatten.length ≤ 4 * ls.length := by
        intro ls
        induction ls with
        | nil => exact fun _ => Nat.le_refl _
        | cons r ls ih =>
          intro h
          have := ih fun r hr => h r (List.mem_cons_of_mem _ hr)
          have := h r List.mem_cons_self
          rw [List.flatten_cons, List.length_append, List.length_cons]
          omega
      have lall : ∀ i, (st :: gs ++ (rs.take i).flatten).length ≤ 250 := fun i => by
        have h1 := fl4 (rs.take i) fun r hr => r4 r (List.mem_of_mem_take hr)
        have h2 : (rs.take i).length ≤ 40 := by rw [List.length_take]; have := shp.1; omega
        rw [List.cons_append, List.length_cons, List.length_append]
        omega
      walk_at "rd"
      refine ⟨⟨_, SqL.of (s9 _ _ hGG)⟩, ?_⟩
      refine for_list (xs := refsI ps) (fun i σ F => ∃ (pt : Addr) (y : Option V), σ = [some (.str ⟨L.toArray⟩), some (.ref pp), some (.ref D), some (.ref pg), some (.int (rs.length : Int)), some (.ref pt), y, none] ∧ Same G9 F ∧ F pt = some (.lst ((intsN (st :: gs ++ (rs.take i).flatten)).map V.int))) ⟨p2, none, rfl, Same.refl G9, by rw [hT0, List.take_zero, List.flatten_nil, List.append_nil]⟩ (fun i σ F _ hP => ?_) (fun i x σ F hx hP => ?_) (fun σ F hP => ?_)
      · obtain ⟨pt, y, rfl, sF, hF⟩ := hP
        exact SqL.of (sF _ _ (s9 _ _ hGG))
      · obtain ⟨pt, y, rfl, sF, hF⟩ := hP
        obtain ⟨p, hp, rfl⟩ := refsI_at hx
        have hpm := List.mem_of_getElem? hp
        have hr : (rs.map intsN)[i]? = some p.2 := by rw [← eps, List.getElem?_map, hp]; rfl
        rw [List.getElem?_map] at hr
        obtain ⟨r, hr, e⟩ := Option.map_eq_some_iff.mp hr
        have h1 := lall (i + 1)
        rw [List.take_add_one, hr, List.flatten_append, ← List.append_assoc] at h1
        walk_at "rd"
        have hp9 := sF _ _ (s9 _ _ (hpsG p hpm))
        rw [← e] at hp9
        refine r_cat hF hp9 (by rw [lI, lI]; rw [List.length_append] at h1; have : [r].flatten.length = r.length := by simp
                                have h2 : (some r).toList.flatten.length = r.length := this
                                omega) (fun p3 hp3 => ?_)
        walk_at "rd"
        refine ⟨p3, _, rfl, sF.trans (same_new hp3), ?_⟩
        rw [upd_same, List.take_add_one, hr, List.flatten_append, ← List.append_assoc]
        rw [show (some r).toList.flatten = r from by show [r].flatten = r; simp]
        unfold intsN
        rw [List.map_append (l₁ := st :: gs ++ (rs.take i).flatten), List.map_append (f := V.int)]
      · obtain ⟨pt, y, rfl, sF, hF⟩ := hP
        rw [refsI_len, lps, List.take_length] at hF
        have lal := lall rs.length
        rw [List.take_length] at lal
        walk_at "rd"
        refine ⟨pt, _, rfl, SqL.of hF, ?_, fun m hm hle => ?_⟩
        · unfold intsN
          rw [List.length_map]
          exact Nat.succ_pos _
        walk_at "rd"
        have sT := s1.trans (s2.trans (s8.trans (s9.trans sF)))
        obtain ⟨x, hx, rfl⟩ := List.mem_map.mp hm
        refine r_iteD (fun h1 => ?_) (fun h1 => ?_)
        · walk_at "rd"
          refine q2 (fun z => ?_) _ sT
          have z2 := ((okMac_iff g).mp z).2 x hx
          omega
        have hok := (okMac_iff g).mpr ⟨by rw [h0l]; exact shp, fun y hy => by
          have := hle (y : Int) (List.mem_map_of_mem hy)
          omega⟩
        exact absurd hok qn

end

section
variable {P : Program} {w : World} {K : PySem.W.Frag} {mg : Str → Option Value} {base : Heap} {a : Ad}
theorem ok_l_cell (T : Txt K mg a) : FnOk P w K mg base CX0 1 a.f_l_cell a.d_l_cell ["script", "k"] (spCellG K) := by
  refine T.F_l_cell.ok sc_l_cell (fun vs H Q E h => ?_) (fun cdv A outer s H vs Q E hr h => ?_)
  · obtain ⟨l, ns, k, rfl, _⟩ := h
    rfl
  · obtain ⟨l, ns, k, rfl, hS, h0, q⟩ := h
    refine ⟨_, (pss_cons (ps_if (pt_cmpR op_lt (pv 1) (pe_callB (call_lenQK (K := K) rfl) (by rfl) T.z_len (by decide +kernel) (pa_cons (pv 0) pa_nil)) (nomark _)) (pss_one (ps_ret (pe_ix (ix_listK (K := K) rfl) (pv 0) (pv 1) (fun _ _ => rfl)))) pss_nil)
      (pss_one (ps_ret pe_int))), ?_⟩
    walk_at "rd"
    refine r_lenL hS ?_
    walk_at "rd"
    rw [List.length_map]
    refine r_iteD (fun hk => ?_) (fun hk => ?_)
    · walk_at "rd"
      have hk' : k.toNat < ns.length := by omega
      refine r_ixL hS (at_of (j := k.toNat) (by omega) (by rw [List.getElem?_map, List.getElem?_eq_getElem hk']; rfl)) ?_
      have e : cellV ns k = ns[k.toNat] := by unfold cellV; rw [List.getD_eq_getElem?_getD, List.getElem?_eq_getElem hk']; rfl
      rw [e] at q
      exact q
    · walk_at "rd"
      have e : cellV ns k = 0 := by unfold cellV; rw [List.getD_eq_getElem?_getD, List.getElem?_eq_none (by omega)]; rfl
      rw [e] at q
      exact q

theorem ok_l_numbers (T : Txt K mg a) : FnOk P w K mg base CX0 1 a.f_l_numbers a.d_l_numbers ["cell", "count"] (spNums K) := by
  refine T.F_l_numbers.ok sc_l_numbers (fun vs H Q E h => ?_) (fun cdv A outer s H vs Q E hr h => ?_)
  · obtain ⟨c, n, rfl, _⟩ := h
    rfl
  · obtain ⟨c, n, rfl, hn, q⟩ := h
    refine ⟨_, (pss_cons (ps_set (i := 2) sc_l_numbers.nd rfl (Or.inl rfl) (pe_lst pa_nil))
      (pss_cons (ps_if (pt_cmpR op_ge (pv 0) (pe_op op_pow pe_int pe_int) (nomark _)) (pss_cons (ps_for PassesOwn.never rfl (pi_range1 (by rfl) T.z_range (pa_cons (pv 1) pa_nil)) (pg_name (i := 3) sc_l_numbers.nd rfl (Or.inl rfl)) (pss_cons (ps_expr (bmK (K := K) rfl (pe_bm PySem.F.plainAttrs_list PySem.F.slot_list_append PySem.F.type_list_append mt_append (pv 2) (pa_cons (pe_op op_mod (pe_callTy call_int1' (by rfl) T.z_int (by decide +kernel) (pa_cons (pv 0) pa_nil)) pe_int) pa_nil))))
      (pss_one (ps_set (i := 0) sc_l_numbers.nd rfl (Or.inl rfl) (pe_op op_fdiv (pv 0) pe_int)))))
      (pss_one (ps_ret (pv 2)))) pss_nil)
      (pss_cons (ps_set (i := 4) sc_l_numbers.nd rfl (Or.inl rfl) (pe_op op_mod (pe_callTy call_int1' (by rfl) T.z_int (by decide +kernel) (pa_cons (pv 0) pa_nil)) pe_int))
      (pss_cons (ps_for PassesOwn.never rfl (pi_range1 (by rfl) T.z_range (pa_cons (pv 1) pa_nil)) (pg_name (i := 3) sc_l_numbers.nd rfl (Or.inl rfl)) (pss_cons (ps_set (i := 4) sc_l_numbers.nd rfl (Or.inl rfl) (pe_op op_mod (pe_callTy call_int1' (by rfl) T.z_int (by decide +kernel) (pa_cons (pe_op op_add (pe_op op_mul (pv 4) pe_int) (pe_op op_mul pe_int (pe_op op_add (pv 3) pe_int))) pa_nil)) pe_int))
      (pss_one (ps_expr (bmK (K := K) rfl (pe_bm PySem.F.plainAttrs_list PySem.F.slot_list_append PySem.F.type_list_append mt_append (pv 2) (pa_cons (pe_op op_mod (pe_op op_fdiv (pv 4) pe_int) pe_int) pa_nil)))))))
      (pss_one (ps_ret (pv 2))))))), ?_⟩
    have zl : (sizeLine : Nat) = 16777216 := by decide
    walk_at "rd"
    refine ⟨by decide, fun p hp => ?_⟩
    walk_at "rd"
    refine r_iteD (fun _ => ?_) (fun _ => ?_)
    · walk_at "rd"
      refine r_rng1' (by omega) (by omega) ?_
      rw [Int.toNat_natCast]
      refine for_range (lo := 0) (n := n) (fun i σ H' => ∃ c' ns y3, σ = [some (.int c'), some (.int (n : Int)), some (.ref p), y3, none] ∧ Same H H' ∧ H' p = some (.lst (ns.map V.int)) ∧ ns.length = i ∧ ∀ z ∈ ns, 0 ≤ z ∧ z < 1000)
        ⟨c, [], none, rfl, same_new hp, upd_same, rfl, fun z hz => nomatch hz⟩ (fun i σ H' hi hP => ?_) (fun σ H' hP => ?_)
      · obtain ⟨c', ns, y3, rfl, sm, hN, hl, hz⟩ := hP
        walk_at "rd"
        refine ⟨ty_l (SqL.of hN), ?_⟩
        walk_at "rd"
        refine r_append hN (by rw [List.length_map]; omega) ?_
        walk_at "rd"
        refine ⟨_, ns ++ [c' % 1000], _, rfl, same_mut sm hp, by rw [upd_same, List.map_append]; rfl, by rw [List.length_append, hl]; rfl, fun z h => ?_⟩
        rcases List.mem_append.mp h with h | h
        · exact hz z h
        · rw [List.mem_singleton.mp h]; exact emod_rng _ (by decide)
      · obtain ⟨c', ns, y3, rfl, sm, hN, hl, hz⟩ := hP
        walk_at "rd"
        exact q H' p ns sm hp hN hl hz
    · walk_at "rd"
      refine r_rng1' (by omega) (by omega) ?_
      rw [Int.toNat_natCast]
      refine for_range (lo := 0) (n := n) (fun i σ H' => ∃ m ns y3, σ = [some (.int c), some (.int (n : Int)), some (.ref p), y3, some (.int m)] ∧ Same H H' ∧ H' p = some (.lst (ns.map V.int)) ∧ ns.length = i ∧ ∀ z ∈ ns, 0 ≤ z ∧ z < 1000)
        ⟨_, [], none, rfl, same_new hp, upd_same, rfl, fun z hz => nomatch hz⟩ (fun i σ H' hi hP => ?_) (fun σ H' hP => ?_)
      · obtain ⟨m, ns, y3, rfl, sm, hN, hl, hz⟩ := hP
        walk_at "rd"
        refine ⟨ty_l (SqL.of hN), ?_⟩
        walk_at "rd"
        refine r_append hN (by rw [List.length_map]; omega) ?_
        refine ⟨_, ns ++ [_ / 7 % 1000], _, rfl, same_mut sm hp, by rw [upd_same, List.map_append]; rfl, by rw [List.length_append, hl]; rfl, fun z h => ?_⟩
        rcases List.mem_append.mp h with h | h
        · exact hz z h
        · rw [List.mem_singleton.mp h]; exact emod_rng _ (by decide)
      · obtain ⟨m, ns, y3, rfl, sm, hN, hl, hz⟩ := hP
        walk_at "rd"
        exact q H' p ns sm hp hN hl hz

end

section
variable {P : Program} {w : World} {K : PySem.W.Frag} {mg : Str → Option Value} {base : Heap} {a : Ad}
theorem ok_l_action (T : Txt K mg a) : FnOk P w K mg base CX0 1 a.f_l_action a.d_l_action ["numbers", "count"] (spAction K) := by
  refine T.F_l_action.ok sc_l_action (fun vs H Q E h => ?_) (fun cdv A outer s H vs Q E hr h => ?_)
  · obtain ⟨p, ns, n, rfl, _⟩ := h
    rfl
  · obtain ⟨pn, ns, n, rfl, hS, h12, h1, h10, q⟩ := h
    have zl : (sizeLine : Nat) = 16777216 := by decide
    have hn0 : (0 : Int) < (n : Int) := by omega
    refine ⟨_, (pss_cons (ps_set (i := 2) sc_l_action.nd rfl (Or.inl rfl) (pe_op op_mod (pe_ix (ix_listK (K := K) rfl) (pv 0) pe_int (fun _ _ => rfl)) pe_int))
      (pss_cons (ps_if (pt_cmpR op_eq (pv 2) pe_int (nomark _)) (pss_one (ps_ret (pe_op op_rep (pe_lst (pa_cons (pe_op op_mod (pe_ix (ix_listK (K := K) rfl) (pv 0) pe_int (fun _ _ => rfl)) (pv 1)) pa_nil)) (pv 1)))) pss_nil)
      (pss_cons (ps_if (pt_cmpR op_eq (pv 2) pe_int (nomark _)) (pss_one (ps_ret (pe_lc (own := [("k", 4)]) (g := gName 4) (tt := tYes) rfl sc_l_action.nd (pi_range1 (by rfl) T.z_range (pa_cons (pv 1) pa_nil)) (blkOk_by (N := N_l_action) (sc := (defScope s_l_action)) (by decide +kernel)) (fun _ _ _ _ _ => pg_name (i := 4) sc_l_action.nd rfl (by first | exact Or.inl rfl | exact Or.inr rfl)) (fun _ _ _ _ _ => pts_nil) (fun _ _ _ _ _ => (pe_op op_mod (pe_ix (ix_listK (K := K) rfl) (pv 0) (pe_op op_add pe_int (pv 4)) (fun _ _ => rfl)) (pv 1)))))) pss_nil)
      (pss_cons (ps_if (pt_cmpR op_eq (pv 2) pe_int (nomark _)) (pss_one (ps_ret (pe_callB (cr_sortedK (K := K) rfl) (by rfl) T.z_sorted (by decide +kernel) (pa_cons (pe_lc (own := [("k", 4)]) (g := gName 4) (tt := tYes) rfl sc_l_action.nd (pi_range1 (by rfl) T.z_range (pa_cons (pv 1) pa_nil)) (blkOk_by (N := N_l_action) (sc := (defScope s_l_action)) (by decide +kernel)) (fun _ _ _ _ _ => pg_name (i := 4) sc_l_action.nd rfl (by first | exact Or.inl rfl | exact Or.inr rfl)) (fun _ _ _ _ _ => pts_nil) (fun _ _ _ _ _ => (pe_op op_mod (pe_ix (ix_listK (K := K) rfl) (pv 0) (pe_op op_add pe_int (pv 4)) (fun _ _ => rfl)) (pv 1)))) pa_nil)))) pss_nil)
      (pss_cons (ps_set (i := 3) sc_l_action.nd rfl (Or.inl rfl) (pe_listRg rfl (by rfl) T.z_list (prg_1 (by rfl) T.z_range (pv 1))))
      (pss_cons (ps_for PassesOwn.never rfl (pi_range1 (by rfl) T.z_range (pa_cons (pv 1) pa_nil)) (pg_name (i := 4) sc_l_action.nd rfl (Or.inl rfl)) (pss_cons (ps_set (i := 5) sc_l_action.nd rfl (Or.inl rfl) (pe_op op_mod (pe_ix (ix_listK (K := K) rfl) (pv 0) (pe_op op_add pe_int (pv 4)) (fun _ _ => rfl)) (pv 1)))
      (pss_cons (ps_set (i := 6) sc_l_action.nd rfl (Or.inl rfl) (pe_ix (ix_listK (K := K) rfl) (pv 3) (pv 4) (fun _ _ => rfl)))
      (pss_cons (ps_asg (pe_ix (ix_listK (K := K) rfl) (pv 3) (pv 5) (fun _ _ => rfl)) (pg_sub (pv 3) (pv 4) set_list))
      (pss_one (ps_asg (pv 6) (pg_sub (pv 3) (pv 5) set_list)))))))
      (pss_cons (ps_if (pt_cmpR op_eq (pv 2) pe_int (nomark _)) (pss_one (ps_asg (pe_ix (ix_listK (K := K) rfl) (pv 3) (pe_op op_mod (pe_ix (ix_listK (K := K) rfl) (pv 0) pe_int (fun _ _ => rfl)) (pv 1)) (fun _ _ => rfl)) (pg_sub (pv 3) (pe_op op_mod (pe_ix (ix_listK (K := K) rfl) (pv 0) pe_int (fun _ _ => rfl)) (pv 1)) set_list))) pss_nil)
      (pss_one (ps_ret (pv 3)))))))))), ?_⟩
    walk_at "rd"
    refine r_ixL hS (at_int (by decide) (by omega)) ?_
    walk_at "rd"
    refine r_iteD (fun _ => ?_) (fun _ => ?_)
    · walk_at "rd"
      refine r_ixL hS (at_int (by decide) (by omega)) ?_
      walk_at "rd"
      refine ⟨ln1, fun p hp => ?_⟩
      walk_at "rd"
      refine ⟨p, (n : Int), _, rfl, rfl, upd_same, by omega, by omega, ?_, fun p2 hp2 => ?_⟩
      · show 1 * (n : Int).toNat ≤ sizeLine
        omega
      · refine q _ p2 (List.replicate n _) ((same_new hp).trans (same_new hp2)) ((same_new hp).free hp2) ?_ (Dr.rep (emod_rng (ns.getD 1 0) hn0).1 (emod_rng _ hn0).2)
        rw [upd_same, Int.toNat_natCast, rep_flat]
        rfl
    walk_at "rd"
    refine r_iteD (fun _ => ?_) (fun _ => ?_)
    · walk_at "rd"
      refine r_rng1' (by omega) (by omega) ?_
      rw [Int.toNat_natCast]
      intro D hD
      refine lc_range (lo := 0) (n := n) (fun i G => Same H G ∧ ∃ ms, G D = some (.lst (ms.map V.int)) ∧ Dr i n ms) ⟨same_new hD, [], upd_same, .nil⟩ (fun i G hi hP => ?_) (fun G hP => ?_)
      · obtain ⟨sG, ms, hG, hd⟩ := hP
        refine ⟨rfl, r_yes (iteT ?_)⟩
        walk_at "rd"
        refine r_ixL (sG.seq hS) (at_int (by omega) (by omega)) ?_
        walk_at "rd"
        refine ⟨_, hG, by rw [List.length_map, hd.1]; omega, same_mut sG hD, ms ++ [ns.getD (2 + (0 + (i : Int))).toNat 0 % (n : Int)], ?_, hd.app (emod_rng _ hn0).1 (emod_rng _ hn0).2⟩
        rw [upd_same, List.map_append]
        rfl
      · obtain ⟨sG, ms, hG, hd⟩ := hP
        exact q G D ms sG hD hG hd
    walk_at "rd"
    refine r_iteD (fun _ => ?_) (fun _ => ?_)
    · walk_at "rd"
      refine r_rng1' (by omega) (by omega) ?_
      rw [Int.toNat_natCast]
      intro D hD
      refine lc_range (lo := 0) (n := n) (fun i G => Same H G ∧ ∃ ms, G D = some (.lst (ms.map V.int)) ∧ Dr i n ms) ⟨same_new hD, [], upd_same, .nil⟩ (fun i G hi hP => ?_) (fun G hP => ?_)
      · obtain ⟨sG, ms, hG, hd⟩ := hP
        refine ⟨rfl, r_yes (iteT ?_)⟩
        walk_at "rd"
        refine r_ixL (sG.seq hS) (at_int (by omega) (by omega)) ?_
        walk_at "rd"
        refine ⟨_, hG, by rw [List.length_map, hd.1]; omega, same_mut sG hD, ms ++ [ns.getD (2 + (0 + (i : Int))).toNat 0 % (n : Int)], ?_, hd.app (emod_rng _ hn0).1 (emod_rng _ hn0).2⟩
        rw [upd_same, List.map_append]
        rfl
      · obtain ⟨sG, ms, hG, hd⟩ := hP
        walk_at "rd"
        refine ⟨D, ms, rfl, SqL.of hG, by rw [hd.1]; omega, fun ms' p2 hpm _ hp2 => ?_⟩
        exact q _ p2 ms' (sG.trans (same_new hp2)) (sG.free hp2) upd_same (hd.perm hpm)
    walk_at "rd"
    refine r_lstRg1 (j := (n : Int)) (by omega) (by omega) (fun pa hpa => ?_) ⟨_, rfl, rfl, rfl⟩ (fun R R' h1 h2 => ?_)
    rotate_left
    · obtain ⟨v, e, h3⟩ := h2
      exact ⟨v, e, h1 _ _ h3⟩
    rw [Int.toNat_natCast]
    walk_at "rd"
    refine r_rng1' (by omega) (by omega) ?_
    rw [Int.toNat_natCast]
    refine for_range (lo := 0) (n := n) (fun i σ G => ∃ sv y4 y5 y6 ms, σ = [some (.ref pn), some (.int (n : Int)), some (.int sv), some (.ref pa), y4, y5, y6] ∧ Same H G ∧ G pa = some (.lst (ms.map V.int)) ∧ Dr n n ms)
      ⟨_, none, none, none, _, rfl, same_new hpa, upd_same, .range n⟩ (fun i σ G hi hP => ?_) (fun σ G hP => ?_)
    · obtain ⟨sv, y4, y5, y6, ms, rfl, sG, hG, hd⟩ := hP
      have hl := hd.1
      walk_at "rd"
      refine r_ixL (sG.seq hS) (at_int (by omega) (by omega)) ?_
      walk_at "rd"
      refine r_ixL (SqL.of hG) (at_int (by omega) (by omega)) ?_
      walk_at "rd"
      have hj := emod_rng (ns.getD (2 + (0 + (i : Int))).toNat 0) hn0
      refine r_ixL (SqL.of hG) (at_int hj.1 (by omega)) ?_
      walk_at "rd"
      refine r_setL hG (by omega) (by rw [List.length_map]; omega) ?_
      walk_at "rd"
      refine r_setL upd_same hj.1 (by rw [List.length_set, List.length_map]; omega) ?_
      rw [upd_upd, map_set_int, map_set_int]
      have g1 := hd.getD (j := (0 + (i : Int)).toNat) (by omega)
      have g2 := hd.getD (j := (ns.getD (2 + (0 + (i : Int))).toNat 0 % (n : Int)).toNat) (by omega)
      exact ⟨_, _, _, _, _, rfl, same_mut sG hpa, upd_same, (hd.set g2.1 g2.2).set g1.1 g1.2⟩
    · obtain ⟨sv, y4, y5, y6, ms, rfl, sG, hG, hd⟩ := hP
      have hl := hd.1
      walk_at "rd"
      refine r_iteD (fun _ => ?_) (fun _ => ?_)
      · walk_at "rd"
        refine r_ixL (sG.seq hS) (at_int (by decide) (by omega)) ?_
        walk_at "rd"
        have hj := emod_rng (ns.getD (9 : Int).toNat 0) hn0
        refine r_ixL (SqL.of hG) (at_int hj.1 (by omega)) ?_
        walk_at "rd"
        refine r_ixL (sG.seq hS) (at_int (by decide) (by omega)) ?_
        walk_at "rd"
        have hk := emod_rng (ns.getD (1 : Int).toNat 0) hn0
        refine r_setL hG hk.1 (by rw [List.length_map]; omega) ?_
        rw [map_set_int]
        walk_at "rd"
        have g2 := hd.getD (j := (ns.getD (9 : Int).toNat 0 % (n : Int)).toNat) (by omega)
        exact q _ pa _ (same_mut sG hpa) hpa upd_same (hd.set g2.1 g2.2)
      · walk_at "rd"
        exact q _ pa _ sG hpa hG hd

end

section
variable {P : Program} {w : World} {K : PySem.W.Frag} {mg : Str → Option Value} {base : Heap} {a : Ad}
theorem ok_l_machine (T : Txt K mg a) : FnOk P w K mg base CX0 2 a.f_l_machine a.d_l_machine ["cell", "count", "letters"] (spMachine K) := by
  have G_l_action := ok_l_action (P := P) (w := w) (base := base) T
  have G_l_numbers := ok_l_numbers (P := P) (w := w) (base := base) T
  refine T.F_l_machine.ok sc_l_machine (fun vs H Q E h => ?_) (fun cdv A outer s H vs Q E hr h => ?_)
  · obtain ⟨c, n, m, rfl, _⟩ := h
    rfl
  · obtain ⟨c, n, m, rfl, h1, h10, m1, m4, q⟩ := h
    have zl : (sizeLine : Nat) = 16777216 := by decide
    have hn0 : (0 : Int) < (n : Int) := by omega
    refine ⟨_, (pss_cons (ps_set (i := 3) sc_l_machine.nd rfl (Or.inr rfl) (pe_call (G_l_numbers) (hr.mono (by first | decide | omega)) (by rfl) T.g_l_numbers T.F_l_numbers.kp T.b_l_numbers .nil pass0 (pa_cons (pv 0) (pa_cons (pe_op op_add pe_int (pe_op op_mul pe_int (pv 2))) pa_nil))))
      (pss_cons (ps_set (i := 4) sc_l_machine.nd rfl (Or.inr rfl) (pe_lc (own := [("k", 7)]) (g := gName 7) (tt := tYes) rfl sc_l_machine.nd (pi_range1 (by rfl) T.z_range (pa_cons (pv 2) pa_nil)) (blkOk_by (N := N_l_machine) (sc := (defScope s_l_machine)) (by decide +kernel)) (fun _ _ _ _ _ => pg_name (i := 7) sc_l_machine.nd rfl (by first | exact Or.inl rfl | exact Or.inr rfl)) (fun _ _ _ _ _ => pts_nil) (fun _ _ _ _ _ => (pe_call (G_l_action) (hr.mono (by first | decide | omega)) (by rfl) T.g_l_action T.F_l_action.kp T.b_l_action .nil pass0 (pa_cons (pe_slice (sl_listK (K := K) rfl) (pv 3) (po_some (pe_op op_add pe_int (pe_op op_mul pe_int (pv 7)))) po_none) (pa_cons (pv 1) pa_nil))))))
      (pss_cons (ps_set (i := 5) sc_l_machine.nd rfl (Or.inl rfl) (pe_callTy (call_tupOfK (K := K) rfl) (by rfl) T.z_tuple (by decide +kernel) (pa_cons (pe_lc (own := [("state", 8)]) (g := gName 8) (tt := tYes) rfl sc_l_machine.nd (pi_range1 (by rfl) T.z_range (pa_cons (pv 1) pa_nil)) (blkOk_by (N := N_l_machine) (sc := (defScope s_l_machine)) (by decide +kernel)) (fun _ _ _ _ _ => pg_name (i := 8) sc_l_machine.nd rfl (by first | exact Or.inl rfl | exact Or.inr rfl)) (fun _ _ _ _ _ => pts_nil) (fun _ _ _ _ _ => (pe_callTy (call_tupOfK (K := K) rfl) (by rfl) T.z_tuple (by decide +kernel) (pa_cons (pe_lc (own := [("action", 9)]) (g := gName 9) (tt := tYes) rfl sc_l_machine.nd (pi_listK (K := K) rfl (pv 4)) (blkOk_by (N := N_l_machine) (sc := (relS (eScope (eArg 0 (sE (sIn 2 s_l_machine)))) (defScope s_l_machine))) (by decide +kernel)) (fun _ _ _ _ _ => pg_name (i := 9) sc_l_machine.nd rfl (by first | exact Or.inl rfl | exact Or.inr rfl)) (fun _ _ _ _ _ => pts_nil) (fun _ _ _ _ _ => (pe_ix (ix_listK (K := K) rfl) (pv 9) (pv 8) (fun _ _ => rfl)))) pa_nil)))) pa_nil)))
      (pss_cons (ps_set (i := 6) sc_l_machine.nd rfl (Or.inl rfl) (pe_callTy (call_tupOfK (K := K) rfl) (by rfl) T.z_tuple (by decide +kernel) (pa_cons (pe_lc (own := [("state", 8)]) (g := gName 8) rfl sc_l_machine.nd (pi_range1 (by rfl) T.z_range (pa_cons (pv 1) pa_nil)) (blkOk_by (N := N_l_machine) (sc := (defScope s_l_machine)) (by decide +kernel)) (fun _ _ _ _ _ => pg_name (i := 8) sc_l_machine.nd rfl (by first | exact Or.inl rfl | exact Or.inr rfl)) (fun _ _ _ _ _ => (pts_one (pt_cmpR op_eq (pe_op op_mod (pe_op op_fdiv (pe_ix (ix_listK (K := K) rfl) (pv 3) pe_int (fun _ _ => rfl)) (pe_ix (ix_listK (K := K) rfl) (pe_lst (pa_cons pe_int (pa_cons pe_int (pa_cons pe_int (pa_cons pe_int (pa_cons pe_int (pa_cons pe_int (pa_cons pe_int (pa_cons pe_int pa_nil))))))))) (pe_op op_mod (pv 8) pe_int) (fun _ _ => rfl))) pe_int) pe_int (nomark _)))) (fun _ _ _ _ _ => (pv 8))) pa_nil)))
      (pss_one (ps_ret (pe_tup (pa_cons (pv 5) (pa_cons (pe_op op_mod (pe_ix (ix_listK (K := K) rfl) (pv 3) pe_int (fun _ _ => rfl)) (pv 1)) (pa_cons (pv 6) pa_nil)))))))))), ?_⟩
    walk_at "rd"
    refine ⟨c, 4 + 12 * m, congrArg (fun z : Int => [V.int c, V.int z]) (by omega), by omega, fun H1 pn ns s1 hpn hN hlen hz => ?_⟩
    walk_at "rd"
    refine r_rng1' (by omega) (by omega) ?_
    rw [Int.toNat_natCast]
    intro D hD
    have nDp : D ≠ pn := fun e => by rw [e, hN] at hD; cases hD
    refine lc_range (lo := 0) (n := m) (fun i G => Same H1 G ∧ ∃ as : List Addr, G D = some (.lst (as.map V.ref)) ∧ as.length = i ∧ ∀ b ∈ as, b ≠ D ∧ ∃ ms, G b = some (.lst (ms.map V.int)) ∧ Dr n n ms) ⟨same_new hD, [], upd_same, rfl, fun b hb => nomatch hb⟩ (fun i G hi hP => ?_) (fun G hP => ?_)
    · obtain ⟨sG, as, hG, hal, has⟩ := hP
      refine ⟨rfl, r_yes (iteT ?_)⟩
      walk_at "rd"
      refine r_slL (SqL.of (sG _ _ hN)) (fun l hl => ?_)
      walk_at "rd"
      have e1 : (4 : Int) + 12 * (0 + (i : Int)) = ((4 + 12 * i : Nat) : Int) := by omega
      rw [e1, cut_drop, ← List.map_drop]
      refine ⟨l, ns.drop (4 + 12 * i), n, rfl, SqL.of upd_same, by rw [List.length_drop]; omega, h1, h10, fun H4 q4 ms s4 hq4 hm hd => ?_⟩
      have s5 : Same G H4 := (same_new hl).trans s4
      have hnG : G q4 = none := (same_new hl).free hq4
      have nq : q4 ≠ D := fun e => by rw [e, hG] at hnG; cases hnG
      refine ⟨_, s5 _ _ hG, by rw [List.length_map]; omega, same_mut (sG.trans s5) hD, as ++ [q4], ?_, by rw [List.length_append, hal]; rfl, fun b hb => ?_⟩
      · rw [upd_same, List.map_append]
        rfl
      · rcases List.mem_append.mp hb with hb | hb
        · obtain ⟨nb, ms', g1, g2⟩ := has b hb
          exact ⟨nb, ms', by rw [upd_ne nb]; exact s5 _ _ g1, g2⟩
        · rw [List.mem_singleton.mp hb]
          exact ⟨nq, ms, by rw [upd_ne nq]; exact hm, hd⟩
    · obtain ⟨sG, as, hG, hal, has⟩ := hP
      walk_at "rd"
      refine r_rng1' (by omega) (by omega) ?_
      rw [Int.toNat_natCast]
      intro D2 hD2
      refine lc_range (lo := 0) (n := n) (fun i G2 => Same G G2 ∧ ∃ (vs : List V) (rows : List (List Nat)), G2 D2 = some (.lst vs) ∧ DtAll K G2 vs (rows.map rowD) ∧ rows.length = i ∧ ∀ r ∈ rows, r.length = m ∧ ∀ s ∈ r, s < n) ⟨same_new hD2, [], [], upd_same, .nil, rfl, fun r hr => nomatch hr⟩ (fun i G2 hi hP => ?_) (fun G2 hP => ?_)
      · obtain ⟨sG2, vs, rows, hG2, hdt, hrl, hrw⟩ := hP
        refine ⟨rfl, r_yes (iteT ?_)⟩
        walk_at "rd"
        refine ⟨⟨_, SqL.of (sG2 _ _ hG)⟩, fun D3 hD3 => ?_⟩
        refine lc_list (xs := as.map V.ref) (fun j G3 => Same G2 G3 ∧ ∃ r : List Nat, G3 D3 = some (.lst (r.map iV)) ∧ r.length = j ∧ ∀ s ∈ r, s < n) ⟨same_new hD3, [], upd_same, rfl, fun s hs => nomatch hs⟩ (fun j G3 _ hP => ?_) (fun j x G3 hx hP => ?_) (fun G3 hP => ?_)
        · exact SqL.of (hP.1 _ _ (sG2 _ _ hG))
        · obtain ⟨sG3, r, hG3, hrl3, hr3⟩ := hP
          obtain ⟨b, hb, rfl⟩ : ∃ b ∈ as, V.ref b = x := List.mem_map.mp (List.mem_of_getElem? hx)
          obtain ⟨_, ms, g1, hd⟩ := has b hb
          have hl := hd.1
          have hjl : j < as.length := by
            have := (List.getElem?_eq_some_iff.mp hx).1
            rw [List.length_map] at this
            exact this
          refine ⟨rfl, r_yes (iteT ?_)⟩
          walk_at "rd"
          refine r_ixL (SqL.of (sG3 _ _ (sG2 _ _ g1))) (at_int (by omega) (by omega)) ?_
          have g := hd.getD (j := (0 + (i : Int)).toNat) (by omega)
          obtain ⟨k, ek, hk⟩ := nat_of g.1 g.2
          rw [ek]
          refine ⟨_, hG3, by rw [List.length_map]; omega, same_mut sG3 hD3, r ++ [k], by rw [upd_same, List.map_append]; rfl, by rw [List.length_append, hrl3]; rfl, fun s hs => ?_⟩
          rcases List.mem_append.mp hs with hs | hs
          · exact hr3 s hs
          · rw [List.mem_singleton.mp hs]; omega
        · obtain ⟨sG3, r, hG3, hrl3, hr3⟩ := hP
          rw [List.length_map] at hrl3
          walk_at "rd"
          refine r_tupL (SqL.of hG3) (fun t ht => ?_)
          have s4 : Same G2 (upd G3 t (.tup (r.map iV))) := sG3.trans (same_new ht)
          refine ⟨vs, s4 _ _ hG2, ?_, same_mut (sG2.trans s4) hD2, vs ++ [.ref t], rows ++ [r], upd_same, ?_, by rw [List.length_append, hrl]; rfl, fun r' hr' => ?_⟩
          · have := hdt.len
            rw [List.length_map] at this
            omega
          · rw [List.map_append]
            have sT : SameT (upd G3 t (.tup (r.map iV))) (upd (upd G3 t (.tup (r.map iV))) D2 (.lst (vs ++ [.ref t]))) := SameT.lst (s4 _ _ hG2)
            refine (hdt.k ((sT_of s4).trans sT)).snoc (.tup (sT.sq (SqT.of upd_same)) (ofNats r))
          · rcases List.mem_append.mp hr' with hr' | hr'
            · exact hrw r' hr'
            · rw [List.mem_singleton.mp hr']; exact ⟨by omega, hr3⟩
      · obtain ⟨sG2, vs, rows, hG2, hdt, hrl, hrw⟩ := hP
        walk_at "rd"
        refine r_tupL (SqL.of hG2) (fun ts hts => ?_)
        walk_at "rd"
        refine r_rng1' (by omega) (by omega) ?_
        rw [Int.toNat_natCast]
        intro D4 hD4
        have s3 : Same G2 (upd G2 ts (.tup vs)) := same_new hts
        have hN4 : (upd G2 ts (.tup vs)) pn = some (.lst (ns.map V.int)) := s3 _ _ (sG2 _ _ (sG _ _ hN))
        refine lc_range (lo := 0) (n := n) (fun i G4 => Same (upd G2 ts (.tup vs)) G4 ∧ ∃ r : List Nat, G4 D4 = some (.lst (r.map iV)) ∧ r.length ≤ i ∧ r.Pairwise (· < ·) ∧ ∀ s ∈ r, s < i) ⟨same_new hD4, [], upd_same, Nat.le_refl _, .nil, fun s hs => nomatch hs⟩ (fun i G4 hi hP => ?_) (fun G4 hP => ?_)
        · obtain ⟨sG4, r, hG4, hrl4, hpw, hr4⟩ := hP
          refine ⟨rfl, ?_⟩
          walk_at "rd"
          refine r_ixL (SqL.of (sG4 _ _ hN4)) (at_int (by decide) (by omega)) ?_
          walk_at "rd"
          refine ⟨ln8, fun p hp => ?_⟩
          walk_at "rd"
          obtain ⟨d, gd, d0, d1⟩ := menu8 (j := i % 8) (by omega)
          refine r_ixL (SqL.of upd_same) (at_of (j := i % 8) (by omega) gd) ?_
          refine r_fdiv ⟨d0, d1⟩ ?_
          walk_at "rd"
          have s5 := sG4.trans (same_new (o := .lst [V.int 1, V.int 2, V.int 4, V.int 8, V.int 16, V.int 32, V.int 64, V.int 125]) hp)
          have nDp : D4 ≠ p := ne_of_none hG4 hp
          have hG5 : (upd G4 p (.lst [V.int 1, V.int 2, V.int 4, V.int 8, V.int 16, V.int 32, V.int 64, V.int 125])) D4 = some (.lst (r.map iV)) := by rw [upd_ne nDp]; exact hG4
          refine r_iteD (fun _ => ?_) (fun _ => ?_)
          · walk_at "rd"
            refine ⟨_, hG5, by rw [List.length_map]; omega, same_mut s5 hD4, r ++ [i], ?_, ?_, ?_, fun s hs => ?_⟩
            · rw [upd_same, List.map_append, Int.zero_add]
              rfl
            · rw [List.length_append]
              exact Nat.succ_le_succ hrl4
            · refine List.pairwise_append.mpr ⟨hpw, List.pairwise_singleton _ _, fun x hx y hy => ?_⟩
              rw [List.mem_singleton.mp hy]
              exact hr4 x hx
            · rcases List.mem_append.mp hs with hs | hs
              · exact Nat.lt_succ_of_lt (hr4 s hs)
              · rw [List.mem_singleton.mp hs]; exact Nat.lt_succ_self _
          · exact ⟨s5, r, hG5, Nat.le_succ_of_le hrl4, hpw, fun s hs => Nat.lt_succ_of_lt (hr4 s hs)⟩
        · obtain ⟨sG4, r, hG4, hrl4, hpw, hr4⟩ := hP
          walk_at "rd"
          refine r_tupL (SqL.of hG4) (fun tg htg => ?_)
          walk_at "rd"
          have hN5 : (upd G4 tg (.tup (r.map iV))) pn = some (.lst (ns.map V.int)) := (same_new htg) _ _ (sG4 _ _ hN4)
          refine r_ixL (SqL.of hN5) (at_int (by decide) (by omega)) ?_
          walk_at "rd"
          have g := emod_rng (ns.getD (0 : Int).toNat 0) hn0
          obtain ⟨k, ek, hk⟩ := nat_of g.1 g.2
          rw [ek]
          refine ⟨ln3, fun t ht => ?_⟩
          have s6 : Same (upd G2 ts (.tup vs)) (upd (upd G4 tg (.tup (r.map iV))) t (.tup [V.ref ts, V.int (k : Int), V.ref tg])) := sG4.trans ((same_new htg).trans (same_new ht))
          refine q _ (.ref t) ⟨rows, k, r⟩ (s1.trans (sG.trans (sG2.trans (s3.trans s6)))) ?_ ⟨hrl, hrw, by show k < n; omega, hr4, hpw⟩
          refine .tup (SqT.of upd_same) (.cons ?_ (.cons (.int _) (.cons ?_ .nil)))
          · exact .tup (SqT.of (s6 _ _ upd_same)) (hdt.k (sT_of (s3.trans s6)))
          · exact .tup (SqT.of ((same_new ht) _ _ upd_same)) (ofNats r)

end

section
variable {P : Program} {w : World} {K : PySem.W.Frag} {mg : Str → Option Value} {base : Heap} {a : Ad}
theorem ok_l_same_n (T : Txt K mg a) : ∀ n, FnOk P w K mg base CX0 n a.f_l_same a.d_l_same ["actual", "due"] (spSame K n)
  | 0 => fn_vac fun vs H Q E h => by
    obtain ⟨x, y, d, _, _, _, hf, _⟩ := h
    cases d <;> exact hf
  | n + 1 => by
    have G_l_same := ok_l_same_n T n
    refine T.F_l_same.ok sc_l_same (fun vs H Q E h => ?_) (fun cdv A outer s H vs Q E hr h => ?_)
    · obtain ⟨x, y, d, rfl, _⟩ := h
      rfl
    · obtain ⟨x, y, d, rfl, hx, hy, hf, q⟩ := h
      refine ⟨_, (pss_cons (ps_if (pt_cmpR op_isN1 (pv 1) pe_non (nomark _)) (pss_one (ps_ret (pe_cmpR op_isN1 (pv 0) pe_non (nomark _)))) pss_nil)
      (pss_cons (ps_if (PW.pt (pw_or (pt_val (pe_callB (call_isiK1 (K := K) rfl) (by rfl) T.z_isinstance (by decide +kernel) (pa_cons (pv 1) (pa_cons (pe_bltn (by rfl) T.z_list (v := V.ty "list") (u := Value.type "list") (by decide +kernel) rfl) pa_nil)))) (pw_or1 (pt_val (pe_callB (call_isiK1 (K := K) rfl) (by rfl) T.z_isinstance (by decide +kernel) (pa_cons (pv 1) (pa_cons (pe_bltn (by rfl) T.z_tuple (v := V.ty "tuple") (u := Value.type "tuple") (by decide +kernel) rfl) pa_nil))))))) (pss_cons (ps_if (PW.pt (pw_or (pt_cmpR op_ne (pe_callB (call_isiK1 (K := K) rfl) (by rfl) T.z_isinstance (by decide +kernel) (pa_cons (pv 1) (pa_cons (pe_bltn (by rfl) T.z_list (v := V.ty "list") (u := Value.type "list") (by decide +kernel) rfl) pa_nil))) (pe_callB (call_isiK1 (K := K) rfl) (by rfl) T.z_isinstance (by decide +kernel) (pa_cons (pv 0) (pa_cons (pe_bltn (by rfl) T.z_list (v := V.ty "list") (u := Value.type "list") (by decide +kernel) rfl) pa_nil))) (nomark _)) (pw_or1 (pt_cmpR op_ne (pe_callB (call_isiK1 (K := K) rfl) (by rfl) T.z_isinstance (by decide +kernel) (pa_cons (pv 1) (pa_cons (pe_bltn (by rfl) T.z_tuple (v := V.ty "tuple") (u := Value.type "tuple") (by decide +kernel) rfl) pa_nil))) (pe_callB (call_isiK1 (K := K) rfl) (by rfl) T.z_isinstance (by decide +kernel) (pa_cons (pv 0) (pa_cons (pe_bltn (by rfl) T.z_tuple (v := V.ty "tuple") (u := Value.type "tuple") (by decide +kernel) rfl) pa_nil))) (nomark _))))) (pss_one (ps_ret pe_bl)) pss_nil)
      (pss_cons (ps_if (pt_cmpR op_ne (pe_callB (call_lenQK (K := K) rfl) (by rfl) T.z_len (by decide +kernel) (pa_cons (pv 0) pa_nil)) (pe_callB (call_lenQK (K := K) rfl) (by rfl) T.z_len (by decide +kernel) (pa_cons (pv 1) pa_nil)) (nomark _)) (pss_one (ps_ret pe_bl)) pss_nil)
      (pss_cons (ps_for PassesOwn.never rfl (pi_range1 (by rfl) T.z_range (pa_cons (pe_callB (call_lenQK (K := K) rfl) (by rfl) T.z_len (by decide +kernel) (pa_cons (pv 1) pa_nil)) pa_nil)) (pg_name (i := 2) sc_l_same.nd rfl (Or.inl rfl)) (pss_one (ps_if (pt_not (pt_val (pe_call (G_l_same) (hr.mono (by first | decide | omega)) (by rfl) T.g_l_same T.F_l_same.kp T.b_l_same .nil pass0 (pa_cons (pe_ix (ix_seqK (K := K) rfl) (pv 0) (pv 2) (fun _ _ => rfl)) (pa_cons (pe_ix (ix_seqK (K := K) rfl) (pv 1) (pv 2) (fun _ _ => rfl)) pa_nil))))) (pss_one (ps_ret pe_bl)) pss_nil)))
      (pss_one (ps_ret pe_bl))))) pss_nil)
      (pss_cons (ps_if (PW.pt (pw_or (pt_cmpR op_ne (pe_callB (call_isiK1 (K := K) rfl) (by rfl) T.z_isinstance (by decide +kernel) (pa_cons (pv 1) (pa_cons (pe_bltn (by rfl) T.z_bool (v := V.ty "bool") (u := Value.type "bool") (by decide +kernel) rfl) pa_nil))) (pe_callB (call_isiK1 (K := K) rfl) (by rfl) T.z_isinstance (by decide +kernel) (pa_cons (pv 0) (pa_cons (pe_bltn (by rfl) T.z_bool (v := V.ty "bool") (u := Value.type "bool") (by decide +kernel) rfl) pa_nil))) (nomark _)) (pw_or1 (pt_cmpR op_ne (pe_callB (call_isiK1 (K := K) rfl) (by rfl) T.z_isinstance (by decide +kernel) (pa_cons (pv 1) (pa_cons (pe_bltn (by rfl) T.z_int (v := V.ty "int") (u := Value.type "int") (by decide +kernel) rfl) pa_nil))) (pe_callB (call_isiK1 (K := K) rfl) (by rfl) T.z_isinstance (by decide +kernel) (pa_cons (pv 0) (pa_cons (pe_bltn (by rfl) T.z_int (v := V.ty "int") (u := Value.type "int") (by decide +kernel) rfl) pa_nil))) (nomark _))))) (pss_one (ps_ret pe_bl)) pss_nil)
      (pss_one (ps_ret (pe_and (pe_cmpR op_eq (pe_callB (call_isiK1 (K := K) rfl) (by rfl) T.z_isinstance (by decide +kernel) (pa_cons (pv 1) (pa_cons (pe_bltn (by rfl) T.z_str (v := V.ty "str") (u := Value.type "str") (by decide +kernel) rfl) pa_nil))) (pe_callB (call_isiK1 (K := K) rfl) (by rfl) T.z_isinstance (by decide +kernel) (pa_cons (pv 0) (pa_cons (pe_bltn (by rfl) T.z_str (v := V.ty "str") (u := Value.type "str") (by decide +kernel) rfl) pa_nil))) (nomark _)) (pe_one (pe_cmpR op_eq (pv 0) (pv 1) (nomark _))))))))), ?_⟩
      walk_at "rd"
      cases d with
      | none =>
        cases hx; cases hy
        refine r_iteD (fun _ => ?_) (fun e => absurd rfl e)
        walk_at "rd"
        exact q
      | bool b =>
        cases hx; cases hy
        refine r_iteD (fun e => nomatch e) (fun _ => ?_)
        walk_at "rd"
        refine r_iteN (fun e => absurd rfl e) (fun _ => ?_)
        walk_at "rd"
        refine r_iteN (fun e => absurd rfl e) (fun _ => ?_)
        walk_at "rd"
        refine r_iteD (fun _ => ?_) (fun e => absurd rfl e)
        walk_at "rd"
        rw [decide_eq_true rfl]
        exact q
      | int b =>
        cases hx; cases hy
        refine r_iteD (fun e => nomatch e) (fun _ => ?_)
        walk_at "rd"
        refine r_iteN (fun e => absurd rfl e) (fun _ => ?_)
        walk_at "rd"
        refine r_iteN (fun e => absurd rfl e) (fun _ => ?_)
        walk_at "rd"
        refine r_iteD (fun _ => ?_) (fun e => absurd rfl e)
        walk_at "rd"
        rw [decide_eq_true rfl]
        exact q
      | str b =>
        cases hx; cases hy
        refine r_iteD (fun e => nomatch e) (fun _ => ?_)
        walk_at "rd"
        refine r_iteN (fun e => absurd rfl e) (fun _ => ?_)
        walk_at "rd"
        refine r_iteN (fun e => absurd rfl e) (fun _ => ?_)
        walk_at "rd"
        refine r_iteD (fun _ => ?_) (fun e => absurd rfl e)
        walk_at "rd"
        rw [decide_eq_true rfl]
        exact q
      | dict _ => exact hf.elim
      | list ds =>
        cases hx with
        | lst hs1 ha1 =>
        cases hy with
        | lst hs2 ha2 =>
        have e1 := dpAll_len ha1
        have e2 := dpAll_len ha2
        refine r_iteD (fun e => nomatch e) (fun _ => ?_)
        walk_at "rd"
        refine r_iteN (fun e => absurd rfl e) (fun _ => ?_)
        walk_at "rd"
        refine r_iteN (fun e => absurd rfl e) (fun _ => ?_)
        walk_at "rd"
        refine r_lenL hs1 ?_
        walk_at "rd"
        refine r_lenL hs2 ?_
        walk_at "rd"
        refine r_iteN (fun e => absurd (by rw [e1, e2]) e) (fun _ => ?_)
        walk_at "rd"
        refine r_lenL hs2 ?_
        walk_at "rd"
        have hz : ds.length ≤ 16777216 := hf.1
        refine r_rng1' (by omega) (by omega) ?_
        rw [e2, Int.toNat_natCast]
        refine for_range (lo := 0) (n := ds.length) (fun i σ H' => H' = H ∧ ∃ kv, σ = [some _, some _, kv]) ⟨rfl, _, rfl⟩ (fun i σ H' hi hP => ?_) (fun σ H' hP => ?_)
        · obtain ⟨rfl, kv, rfl⟩ := hP
          obtain ⟨v1, g1, d1⟩ := dpAll_get ha1 (List.getElem?_eq_getElem hi)
          obtain ⟨v2, g2, d2⟩ := dpAll_get ha2 (List.getElem?_eq_getElem hi)
          show tIfS _ _ _ _ _ _
          walk_at "rd"
          refine r_xL hs1 (at_of (j := i) (by omega) g1) ?_
          walk_at "rd"
          refine r_xL hs2 (at_of (j := i) (by omega) g2) ?_
          walk_at "rd"
          refine ⟨v1, v2, ds[i], rfl, d1, d2, hf.2 _ (List.getElem_mem hi), ?_⟩
          walk_at "rd"
          exact ⟨rfl, _, rfl⟩
        · obtain ⟨rfl, kv, rfl⟩ := hP
          walk_at "rd"
          exact q
      | tuple ds =>
        cases hx with
        | tup hs1 ha1 =>
        cases hy with
        | tup hs2 ha2 =>
        have e1 := dpAll_len ha1
        have e2 := dpAll_len ha2
        refine r_iteD (fun e => nomatch e) (fun _ => ?_)
        walk_at "rd"
        refine r_iteN (fun e => absurd rfl e) (fun _ => ?_)
        walk_at "rd"
        refine r_iteN (fun e => absurd rfl e) (fun _ => ?_)
        walk_at "rd"
        refine r_lenT hs1 ?_
        walk_at "rd"
        refine r_lenT hs2 ?_
        walk_at "rd"
        refine r_iteN (fun e => absurd (by rw [e1, e2]) e) (fun _ => ?_)
        walk_at "rd"
        refine r_lenT hs2 ?_
        walk_at "rd"
        have hz : ds.length ≤ 16777216 := hf.1
        refine r_rng1' (by omega) (by omega) ?_
        rw [e2, Int.toNat_natCast]
        refine for_range (lo := 0) (n := ds.length) (fun i σ H' => H' = H ∧ ∃ kv, σ = [some _, some _, kv]) ⟨rfl, _, rfl⟩ (fun i σ H' hi hP => ?_) (fun σ H' hP => ?_)
        · obtain ⟨rfl, kv, rfl⟩ := hP
          obtain ⟨v1, g1, d1⟩ := dpAll_get ha1 (List.getElem?_eq_getElem hi)
          obtain ⟨v2, g2, d2⟩ := dpAll_get ha2 (List.getElem?_eq_getElem hi)
          show tIfS _ _ _ _ _ _
          walk_at "rd"
          refine r_xT hs1 (at_of (j := i) (by omega) g1) ?_
          walk_at "rd"
          refine r_xT hs2 (at_of (j := i) (by omega) g2) ?_
          walk_at "rd"
          refine ⟨v1, v2, ds[i], rfl, d1, d2, hf.2 _ (List.getElem_mem hi), ?_⟩
          walk_at "rd"
          exact ⟨rfl, _, rfl⟩
        · obtain ⟨rfl, kv, rfl⟩ := hP
          walk_at "rd"
          exact q
theorem ok_l_same (T : Txt K mg a) : FnOk P w K mg base CX0 4 a.f_l_same a.d_l_same ["actual", "due"] (spSame K 4) := ok_l_same_n T _

end

section
variable {P : Program} {w : World} {K : PySem.W.Frag} {mg : Str → Option Value} {base : Heap} {a : Ad}
open TL
abbrev txS (l : List Nat) : Str := ⟨l.toArray⟩
theorem txS_len (l : List Nat) : (txS l).length = l.length := str_len l
theorem txS_app (a b : List Nat) : txS a ++ txS b = txS (a ++ b) := str_app a b
theorem join_tx (s : Nat) (ls : List (List Nat)) : Txt.join (txS [s]) (ls.map txS) = txS (joinL [s] ls) := by
  refine ext_tl ?_
  rw [join_eq, tl_join, List.map_map]
  have e : (tl ∘ txS) = id := by
    funext l
    exact tl_mk l
  rw [e, List.map_id]
theorem numL_le {n : Nat} (h : n < 100) : (numL n).length ≤ 2 := by
  rcases numL_small n h with ⟨_, e⟩ | ⟨_, e⟩ <;> rw [e]
  · show 1 ≤ 2; decide
  · exact Nat.le_refl 2
theorem rst_len (s : Nat) (ls : List (List Nat)) {c : Nat} (h : ∀ l ∈ ls, l.length ≤ c) : (rstJ s ls).length ≤ ls.length * (c + 1) := by
  induction ls with
  | nil => exact Nat.zero_le _
  | cons l ls ih =>
    rw [rstJ_cons, List.length_cons, List.length_append, List.length_cons, Nat.add_mul, Nat.one_mul]
    have h1 := h l List.mem_cons_self
    have h2 := ih fun l hl => h l (List.mem_cons_of_mem _ hl)
    omega
theorem joinL_len (s : Nat) (ls : List (List Nat)) {c : Nat} (h : ∀ l ∈ ls, l.length ≤ c) : (joinL [s] ls).length ≤ ls.length * (c + 1) := by
  cases ls with
  | nil => exact Nat.zero_le _
  | cons l ls =>
    rw [joinL_rst, List.length_append, List.length_cons, Nat.add_mul, Nat.one_mul]
    have h1 := h l List.mem_cons_self
    have h2 := rst_len s ls fun l hl => h l (List.mem_cons_of_mem _ hl)
    omega
theorem sum_len {ls : List (List Nat)} {c : Nat} (h : ∀ l ∈ ls, l.length ≤ c) : ((ls.map txS).map (·.length)).sum ≤ ls.length * c := by
  induction ls with
  | nil => exact Nat.zero_le _
  | cons l ls ih =>
    rw [List.map_cons, List.map_cons, List.sum_cons, List.length_cons, Nat.add_mul, Nat.one_mul, txS_len]
    have h1 := h l List.mem_cons_self
    have h2 := ih fun l hl => h l (List.mem_cons_of_mem _ hl)
    omega
theorem r_joinT {K : PySem.W.Frag} {H : Hp} {Q : VK} {p : Addr} {s : Nat} {ls : List (List Nat)} {c : Nat} (h : SqL K H p ((ls.map txS).map V.str)) (hl : ls.length ≤ 1000) (hc : ∀ l ∈ ls, l.length ≤ c) (c100 : c ≤ 1000) (q : Q (.str (txS (joinL [s] ls))) H) : rJoinS K (.str (txS [s])) [.ref p] H Q := by
  refine ⟨_, p, ls.map txS, rfl, rfl, .inl h, ?_, by rw [join_tx]; exact q⟩
  have h1 := sum_len hc
  have h2 : ls.length * c ≤ 1000 * 1000 := Nat.mul_le_mul hl c100
  rw [txS_len, List.length_map]
  show _ + ls.length * 1 ≤ _
  omega
theorem joinL_len1 (s : Nat) (ls : List (List Nat)) {c : Nat} (h : ∀ l ∈ ls, l.length ≤ c) : (joinL [s] ls).length ≤ ls.length * (c + 1) - 1 := by
  cases ls with
  | nil => exact Nat.zero_le _
  | cons l ls =>
    rw [joinL_rst, List.length_append, List.length_cons, Nat.add_mul, Nat.one_mul]
    have h1 := h l List.mem_cons_self
    have h2 := rst_len s ls fun l hl => h l (List.mem_cons_of_mem _ hl)
    omega
theorem numL1 {n : Nat} (h : n < 10) : (numL n).length = 1 := by
  rcases numL_small n (by omega) with ⟨_, e⟩ | ⟨h2, e⟩
  · rw [e]; rfl
  · omega
theorem nums1 {ns : List Nat} {k : Nat} (h : ∀ x ∈ ns, x < 10) (hk : ns.length ≤ k) : (joinL [32] (ns.map numL)).length ≤ k * 2 - 1 := by
  have h1 := joinL_len1 32 (ns.map numL) (c := 1) fun l hl => by
    obtain ⟨y, hy, rfl⟩ := List.mem_map.mp hl
    exact Nat.le_of_eq (numL1 (h y hy))
  rw [List.length_map] at h1
  have : ns.length * 2 ≤ k * 2 := Nat.mul_le_mul_right 2 hk
  omega

theorem fits_macI {rs : List (List Nat)} {st : Int} {gs : List Nat} (h : okMac (rs.map intsN) st (intsN gs)) : fits 4 (macI (rs.map intsN) st (goodOf rs.length (intsN gs))) := by
  have zl : (sizeLine : Nat) = 16777216 := by decide
  have e1 := h.1.1.2
  rw [List.length_map] at e1
  have hg : (goodOf rs.length (intsN gs)).length ≤ rs.length := normL_len _ _
  refine ⟨by show 3 ≤ _; omega, fun d hd => ?_⟩
  rcases List.mem_cons.mp hd with rfl | hd
  · refine ⟨by rw [List.length_map, List.length_map]; omega, fun d hd => ?_⟩
    obtain ⟨r, hr, rfl⟩ := List.mem_map.mp hd
    have hl := h.1.2.2 r hr
    have h4 := h.1.2.1.2
    refine ⟨by rw [List.length_map]; omega, fun d hd => ?_⟩
    obtain ⟨x, _, rfl⟩ := List.mem_map.mp hd
    trivial
  rcases List.mem_cons.mp hd with rfl | hd
  · trivial
  · rw [List.mem_singleton.mp hd]
    refine ⟨by rw [List.length_map]; omega, fun d hd => ?_⟩
    obtain ⟨x, _, rfl⟩ := List.mem_map.mp hd
    trivial
def sp_law (K : PySem.W.Frag) (a : Ad) : Sp := fun vs H Q _ => ∃ (pa : Addr) (ns : List Int), vs = [.ref pa] ∧ SqL K H pa (ns.map V.int) ∧ ns.length ≤ 63 ∧ LamX.Tabs (tabsOf a) H ∧ ∀ H', Q (.bl true) H'
theorem ok_law (T : Txt K mg a) (hp : P = a.pg) : FnOk P w K mg base CX0 7 a.f_law a.d_law ["script"] (sp_law K a) := by
  have G_l_cell := ok_l_cell (P := P) (w := w) (base := base) T
  have G_l_column := ok_l_column (P := P) (w := w) (base := base) T
  have G_l_due := ok_l_due (P := P) (w := w) (base := base) T
  have G_l_machine := ok_l_machine (P := P) (w := w) (base := base) T
  have G_l_numbers := ok_l_numbers (P := P) (w := w) (base := base) T
  have G_l_same := ok_l_same (P := P) (w := w) (base := base) T
  have G_l_spoilt := ok_l_spoilt (P := P) (w := w) (base := base) T
  have G_read_machine := ok_read_machine (P := P) (w := w) (base := base) T hp
  have G_l_dueH := ok_l_dueH (P := P) (w := w) (base := base) T
  refine T.F_law.ok sc_law (fun vs H Q E h => ?_) (fun cdv A outer s H vs Q E hr h => ?_)
  · obtain ⟨l, ns, rfl, _⟩ := h
    rfl
  · obtain ⟨l, sc, rfl, hS, _, _, q⟩ := h
    have zl : (sizeLine : Nat) = 16777216 := by decide
    refine ⟨_, (pss_cons (ps_set (i := 1) sc_law.nd rfl (Or.inl rfl) (pe_call (G_l_numbers) (hr.mono (by first | decide | omega)) (by rfl) T.g_l_numbers T.F_l_numbers.kp T.b_l_numbers .nil pass0 (pa_cons (pe_call (G_l_cell) (hr.mono (by first | decide | omega)) (by rfl) T.g_l_cell T.F_l_cell.kp T.b_l_cell .nil pass0 (pa_cons (pv 0) (pa_cons pe_int pa_nil))) (pa_cons pe_int pa_nil))))
      (pss_cons (ps_set (i := 2) sc_law.nd rfl (Or.inl rfl) (pe_call (G_l_machine) (hr.mono (by first | decide | omega)) (by rfl) T.g_l_machine T.F_l_machine.kp T.b_l_machine .nil pass0 (pa_cons (pe_call (G_l_cell) (hr.mono (by first | decide | omega)) (by rfl) T.g_l_cell T.F_l_cell.kp T.b_l_cell .nil pass0 (pa_cons (pv 0) (pa_cons pe_int pa_nil))) (pa_cons (pe_op op_add pe_int (pe_op op_mod (pe_ix (ix_listK (K := K) rfl) (pv 1) pe_int (fun _ _ => rfl)) pe_int)) (pa_cons (pe_op op_add pe_int (pe_op op_mod (pe_ix (ix_listK (K := K) rfl) (pv 1) pe_int (fun _ _ => rfl)) pe_int)) pa_nil)))))
      (pss_cons (ps_setLc (i := 3) (own := [("entry", 10)]) (g := gName 10) (tt := tYes) rfl sc_law.nd rfl rfl (sw_true rfl rfl rfl (by decide +kernel)) (pi_tupK (K := K) rfl (pe_ix (ix_tupK (K := K) rfl) (pv 2) pe_int (fun _ _ => rfl))) (blkOk_by (N := N_law) (sc := (defScope s_law)) (by decide +kernel)) (fun _ _ _ _ _ => pg_name (i := 10) sc_law.nd rfl (by first | exact Or.inl rfl | exact Or.inr rfl)) (fun _ _ _ _ _ => pts_nil) (fun _ _ _ _ _ => (bmK (K := K) rfl (pe_bm PySem.F.plainAttrs_str PySem.F.slot_str_join PySem.F.type_str_join (mt_joinSK (K := K) rfl) pe_str (pa_cons (pe_lc (own := [("target", 11)]) (g := gName 11) (tt := tYes) rfl sc_law.nd (pi_tupK (K := K) rfl (pv 10)) (blkOk_by (N := N_law) (sc := (relS (eScope (sE (sIn 2 s_law))) (defScope s_law))) (by decide +kernel)) (fun _ _ _ _ _ => pg_name (i := 11) sc_law.nd rfl (by first | exact Or.inl rfl | exact Or.inr rfl)) (fun _ _ _ _ _ => pts_nil) (fun _ _ _ _ _ => (pe_callTy call_strI (by rfl) T.z_str (by decide +kernel) (pa_cons (pv 11) pa_nil)))) pa_nil)))))
      (pss_cons (ps_set (i := 4) sc_law.nd rfl (Or.inl rfl) (pe_op op_addS (pe_op op_addS (pe_op op_addS (pe_op op_addS (bmK (K := K) rfl (pe_bm PySem.F.plainAttrs_str PySem.F.slot_str_join PySem.F.type_str_join (mt_joinSK (K := K) rfl) pe_str (pa_cons (pv 3) pa_nil))) pe_str) (pe_callTy call_strI (by rfl) T.z_str (by decide +kernel) (pa_cons (pe_ix (ix_tupK (K := K) rfl) (pv 2) pe_int (fun _ _ => rfl)) pa_nil))) pe_str) (bmK (K := K) rfl (pe_bm PySem.F.plainAttrs_str PySem.F.slot_str_join PySem.F.type_str_join (mt_joinSK (K := K) rfl) pe_str (pa_cons (pe_lc (own := [("state", 12)]) (g := gName 12) (tt := tYes) rfl sc_law.nd (pi_tupK (K := K) rfl (pe_ix (ix_tupK (K := K) rfl) (pv 2) pe_int (fun _ _ => rfl))) (blkOk_by (N := N_law) (sc := (defScope s_law)) (by decide +kernel)) (fun _ _ _ _ _ => pg_name (i := 12) sc_law.nd rfl (by first | exact Or.inl rfl | exact Or.inr rfl)) (fun _ _ _ _ _ => pts_nil) (fun _ _ _ _ _ => (pe_callTy call_strI (by rfl) T.z_str (by decide +kernel) (pa_cons (pv 12) pa_nil)))) pa_nil)))))
      (pss_cons (ps_for PassesOwn.never rfl (pi_range1 (by rfl) T.z_range (pa_cons (pe_op op_mod (pe_ix (ix_listK (K := K) rfl) (pv 1) pe_int (fun _ _ => rfl)) pe_int) pa_nil)) (pg_name (i := 5) sc_law.nd rfl (Or.inl rfl)) (pss_one (ps_set (i := 4) sc_law.nd rfl (Or.inl rfl) (pe_call (G_l_spoilt) (hr.mono (by first | decide | omega)) (by rfl) T.g_l_spoilt T.F_l_spoilt.kp T.b_l_spoilt .nil pass0 (pa_cons (pv 4) (pa_cons (pe_slice (sl_listK (K := K) rfl) (pv 1) (po_some (pe_op op_add pe_int (pe_op op_mul pe_int (pv 5)))) po_none) pa_nil))))))
      (pss_cons (ps_set (i := 6) sc_law.nd rfl (Or.inl rfl) (pe_call (G_l_column) (hr.mono (by first | decide | omega)) (by rfl) T.g_l_column T.F_l_column.kp T.b_l_column .nil pass0 (pa_cons (pv 4) pa_nil)))
      (pss_cons (ps_tryAllN rfl rfl sc_law.nd takes0N (fun W pn xe tk _ => (pss_one (ps_set (i := 7) sc_law.nd rfl (Or.inl rfl) (pe_callS (G_read_machine) (hr.mono (by first | decide | omega)) (by rfl) T.g_read_machine T.F_read_machine.kp T.b_read_machine (fun σ => L2N.passAt tk σ) (pa_cons (pv 4) pa_nil))))) (.cons (i := 8) rfl rfl ⟨by rfl, by decide, .inl T.gk_SyntaxFault⟩ (fun a' oe cls d pn hz hf => (pss_one (ps_ret (pe_and (pe_callB (call_isI hz.zc hf) (by rfl) T.z_isinstance (by decide +kernel) (pa_cons (pv 8) (pa_cons (pe_glob (v := V.ref a.k_MachineError) (by rfl) T.gk_MachineError rfl) pa_nil))) (pe_and (pe_cmpR op_gt (pv 6) pe_int (nomark _)) (pe_one (pe_cmpR op_eq (pe_xf T.x_SyntaxFault.xf T.x_SyntaxFault.no hz.zc hf (pv 8)) (pv 6) (nomark _)))))))) (.cons (i := 8) rfl rfl ⟨by rfl, by decide, .inl T.gk_InvalidMachine⟩ (fun a' oe cls d pn hz hf => (pss_one (ps_ret (pe_and (pe_callB (call_isEx hz.zc hf) (by rfl) T.z_isinstance (by decide +kernel) (pa_cons (pv 8) (pa_cons (pe_glob (v := V.ref a.k_MachineError) (by rfl) T.gk_MachineError rfl) pa_nil))) (pe_and (pe_cmpR op_eq (pv 6) pe_int (nomark _)) (pe_one (pe_cmpR op_isN1 (L2H.pe_callH (G_l_dueH) (roomM (hr.mono (by first | decide | omega)) _) (hot_of hz hf) (by rfl) T.g_l_due T.F_l_due.kp T.b_l_due (E := fun _ => E0) passAt0 (pa_cons (pv 4) pa_nil)) pe_non (nomark _)))))))) .nil)))
      (pss_cons (ps_if (pt_cmpR op_ne (pv 6) pe_int (nomark _)) (pss_one (ps_ret pe_bl)) pss_nil)
      (pss_cons (ps_set (i := 9) sc_law.nd rfl (Or.inl rfl) (pe_call (G_l_due) (hr.mono (by first | decide | omega)) (by rfl) T.g_l_due T.F_l_due.kp T.b_l_due .nil pass0 (pa_cons (pv 4) pa_nil)))
      (pss_one (ps_ret (pe_and (pe_cmpR op_notN1 (pv 9) pe_non (nomark _)) (pe_one (pe_call (G_l_same) (hr.mono (by first | decide | omega)) (by rfl) T.g_l_same T.F_l_same.kp T.b_l_same .nil pass0 (pa_cons (pv 7) (pa_cons (pv 9) pa_nil)))))))))))))))), ?_⟩
    walk_at "rd"
    refine ⟨l, sc, 0, rfl, hS, by decide, ?_⟩
    walk_at "rd"
    refine ⟨_, 12, rfl, by decide, fun H1 pn ns s1 hpn hN hlen hz => ?_⟩
    walk_at "rd"
    refine ⟨l, sc, 1, rfl, s1.seq hS, by decide, ?_⟩
    walk_at "rd"
    refine r_ixL (SqL.of hN) (at_int (by decide) (by omega)) ?_
    walk_at "rd"
    obtain ⟨n, en, n1, n5⟩ : ∃ n : Nat, 1 + ns.getD (0 : Int).toNat 0 % 5 = (n : Int) ∧ 1 ≤ n ∧ n ≤ 5 := by
      have := emod_rng (ns.getD (0 : Int).toNat 0) (b := 5) (by decide)
      exact ⟨(1 + ns.getD (0 : Int).toNat 0 % 5).toNat, by omega, by omega, by omega⟩
    rw [en]
    refine r_ixL (SqL.of hN) (at_int (by decide) (by omega)) ?_
    walk_at "rd"
    obtain ⟨m, em, m1, m4⟩ : ∃ m : Nat, 1 + ns.getD (1 : Int).toNat 0 % 4 = (m : Int) ∧ 1 ≤ m ∧ m ≤ 4 := by
      have := emod_rng (ns.getD (1 : Int).toNat 0) (b := 4) (by decide)
      exact ⟨(1 + ns.getD (1 : Int).toNat 0 % 4).toNat, by omega, by omega, by omega⟩
    rw [em]
    refine ⟨_, n, m, rfl, n1, by omega, m1, m4, fun H2 v M s2 hv ok => ?_⟩
    have hN2 := s2 _ _ hN
    clear hN hS s1 s2
    obtain ⟨pm, st, gd, rows, rfl, hA, hSt, hRows, hGd⟩ := macE hv
    have lg : M.good.length ≤ n := by
      rw [← normL_self ok.asc ok.good]
      exact normL_len n _
    have lR := hRows.len
    rw [List.length_map] at lR
    have lst := ok.len
    have r10 : ∀ r ∈ M.steps, r.length ≤ 4 ∧ ∀ x ∈ r, x < 10 := fun r hr => ⟨by rw [(ok.row r hr).1]; exact m4, fun x hx => by have := (ok.row r hr).2 x hx; omega⟩
    have s10 : M.start < 10 := by have := ok.start; omega
    have g10 : ∀ x ∈ M.good, x < 10 := fun x hx => by have := ok.good x hx; omega
    walk_at "rd"
    refine r_ixT hA (at_of (j := 0) rfl rfl) ?_
    have tw : ∀ {ns : List Nat} {j y : Nat} {G : Hp} {D0 : Addr} {H0 : Hp}, ns.length ≤ 1000 → y < 10 → ns[j]? = some y → Same H0 G → H0 D0 = none → G D0 = some (.lst ((((ns.take j).map numL).map txS).map V.str)) → rStrI [iV y] G fun v G' => ∃ acc, G' D0 = some (.lst acc) ∧ acc.length < sizeLine ∧ (Same H0 (upd G' D0 (.lst (acc ++ [v]))) ∧ (upd G' D0 (.lst (acc ++ [v]))) D0 = some (.lst ((((ns.take (j + 1)).map numL).map txS).map V.str))) := fun {ns j y G D0 H0} hl h10 hy sG hD hG => by
      refine ⟨(y : Int), rfl, log_lt (by omega), ?_⟩
      rw [num_str]
      refine ⟨_, hG, by rw [List.length_map, List.length_map, List.length_map, List.length_take]; omega, same_mut sG hD, ?_⟩
      rw [upd_same, List.take_add_one, hy, List.map_append, List.map_append, List.map_append]
      rfl
    refine ⟨_, rfl, ⟨_, hSt⟩, fun D hD => ?_⟩
    refine lc_tup (xs := rows) (fun j G => Same H2 G ∧ G D = some (.lst ((((M.steps.take j).map fun r => joinL [32] (r.map numL)).map txS).map V.str))) ⟨same_new hD, by rw [upd_same]; rfl⟩ (fun j G _ hQ => same_t hQ.1 hSt) (fun j x G hx hQ => ?_) (fun G hQ => ?_)
    · obtain ⟨sG, hG⟩ := hQ
      have hj := (List.getElem?_eq_some_iff.mp hx).1
      have hr := List.getElem?_eq_getElem (l := M.steps) (i := j) (by omega)
      obtain ⟨v, hv2, dv⟩ := hRows.get (i := j) (d := rowD M.steps[j]) (by rw [List.getElem?_map, hr]; rfl)
      rw [hx] at hv2
      obtain rfl : x = v := Option.some.inj hv2
      have okr := r10 M.steps[j] (List.getElem_mem _)
      generalize M.steps[j] = r at hr dv okr
      obtain ⟨b, rfl, hB⟩ := rowE (dv.k (sT_of sG))
      refine ⟨rfl, r_yes (iteT ?_)⟩
      walk_at "rd"
      refine ⟨rfl, ?_⟩
      walk_at "rd"
      refine ⟨⟨_, hB⟩, fun D2 hD2 => ?_⟩
      refine lc_tup (xs := r.map iV) (fun k G2 => Same G G2 ∧ G2 D2 = some (.lst ((((r.take k).map numL).map txS).map V.str))) ⟨same_new hD2, by rw [upd_same]; rfl⟩ (fun k G2 _ hQ => same_t hQ.1 hB) (fun k z G2 hz hQ => ?_) (fun G2 hQ => ?_)
      · obtain ⟨sG2, hG2⟩ := hQ
        rw [List.getElem?_map] at hz
        obtain ⟨y, hy, rfl⟩ := Option.map_eq_some_iff.mp hz
        refine ⟨rfl, r_yes (iteT ?_)⟩
        walk_at "rd"
        exact tw (by omega) (okr.2 y (List.mem_of_getElem? hy)) hy sG2 hD2 hG2
      · obtain ⟨sG2, hG2⟩ := hQ
        rw [List.length_map, List.take_length] at hG2
        walk_at "rd"
        refine r_joinT (ls := r.map numL) (s := 32) (c := 2) (SqL.of hG2) (by rw [List.length_map]; omega) (fun l hl2 => ?_) (by decide) ?_
        · obtain ⟨y, hy, rfl⟩ := List.mem_map.mp hl2
          have := numL1 (okr.2 y hy)
          omega
        refine ⟨_, sG2 _ _ hG, by rw [List.length_map, List.length_map, List.length_map, List.length_take]; omega, same_mut (sG.trans sG2) hD, ?_⟩
        rw [upd_same, List.take_add_one, hr, List.map_append, List.map_append, List.map_append]
        rfl
    obtain ⟨sG, hG⟩ := hQ
    rw [lR, List.take_length] at hG
    clear hD
    walk_at "rd"
    refine ⟨rfl, ?_⟩
    walk_at "rd"
    have rlen : ∀ l ∈ M.steps.map (fun r => joinL [32] (r.map numL)), l.length ≤ 7 := fun l hl => by
      obtain ⟨r, hr, rfl⟩ := List.mem_map.mp hl
      exact nums1 (r10 r hr).2 (r10 r hr).1
    refine r_joinT (ls := M.steps.map fun r => joinL [32] (r.map numL)) (s := 47) (c := 7) (SqL.of hG) (by rw [List.length_map]; omega) rlen (by decide) ?_
    have jl := joinL_len1 47 (M.steps.map fun r => joinL [32] (r.map numL)) rlen
    rw [List.length_map] at jl
    have jl2 : M.steps.length * (7 + 1) - 1 ≤ 39 := by omega
    generalize joinL [47] (M.steps.map fun r => joinL [32] (r.map numL)) = A0 at jl ⊢
    walk_at "rd"
    have a1 : ∀ {A : List Nat} {z : Str} (l : List Nat) {G : Hp} {R : VK}, z = txS l → A.length + l.length ≤ 1000 → R (.str (txS (A ++ l))) G → rAddS1 (.str (txS A)) (.str z) G R := fun {A z} l {G R} hz hl h => by
      subst hz
      refine r_addS (by rw [txS_len, txS_len]; omega) ?_
      rw [txS_app]
      exact h
    refine a1 [59] rfl (by show _ + 1 ≤ _; omega) ?_
    have l1 : (A0 ++ [59]).length ≤ 40 := by rw [List.length_append, List.length_singleton]; omega
    generalize A0 ++ [59] = A1 at l1 ⊢
    walk_at "rd"
    refine r_ixT (same_t sG hA) (at_of (j := 1) rfl rfl) ?_
    walk_at "rd"
    refine ⟨(M.start : Int), rfl, log_lt (by omega), ?_⟩
    rw [num_str]
    have ln := numL1 s10
    refine a1 (numL M.start) rfl (by omega) ?_
    have l2 : (A1 ++ numL M.start).length ≤ 41 := by rw [List.length_append]; omega
    generalize A1 ++ numL M.start = A2 at l2 ⊢
    walk_at "rd"
    refine a1 [59] rfl (by show _ + 1 ≤ _; omega) ?_
    have l3 : (A2 ++ [59]).length ≤ 42 := by rw [List.length_append, List.length_singleton]; omega
    generalize A2 ++ [59] = A3 at l3 ⊢
    walk_at "rd"
    refine ⟨rfl, ?_⟩
    walk_at "rd"
    refine r_ixT (same_t sG hA) (at_of (j := 2) rfl rfl) ?_
    refine ⟨_, rfl, ⟨_, same_t sG hGd⟩, fun D2 hD2 => ?_⟩
    refine lc_tup (xs := M.good.map iV) (fun k G2 => Same G G2 ∧ G2 D2 = some (.lst ((((M.good.take k).map numL).map txS).map V.str))) ⟨same_new hD2, by rw [upd_same]; rfl⟩ (fun k G2 _ hQ => same_t hQ.1 (same_t sG hGd)) (fun k z G2 hz hQ => ?_) (fun G2 hQ => ?_)
    · obtain ⟨sG2, hG2⟩ := hQ
      rw [List.getElem?_map] at hz
      obtain ⟨y, hy, rfl⟩ := Option.map_eq_some_iff.mp hz
      refine ⟨rfl, r_yes (iteT ?_)⟩
      walk_at "rd"
      exact tw (by omega) (g10 y (List.mem_of_getElem? hy)) hy sG2 hD2 hG2
    obtain ⟨sG2, hG2⟩ := hQ
    rw [List.length_map, List.take_length] at hG2
    walk_at "rd"
    refine r_joinT (ls := M.good.map numL) (s := 32) (c := 2) (SqL.of hG2) (by rw [List.length_map]; omega) (fun l hl2 => ?_) (by decide) ?_
    · obtain ⟨y, hy, rfl⟩ := List.mem_map.mp hl2
      have := numL1 (g10 y hy)
      omega
    have gl := nums1 g10 (show M.good.length ≤ 5 by omega)
    refine a1 (joinL [32] (M.good.map numL)) rfl (by omega) ?_
    have l4 : (A3 ++ joinL [32] (M.good.map numL)).length ≤ 51 := by rw [List.length_append]; omega
    generalize A3 ++ joinL [32] (M.good.map numL) = L0 at l4 ⊢
    have hN4 := sG2 _ _ (sG _ _ hN2)
    clear hv hA hSt hRows hGd hN2 hG tw sG hG2 sG2 hD2 jl jl2 l1 l2 l3 gl ln rlen
    walk_at "rd"
    refine r_ixL (SqL.of hN4) (at_int (by decide) (by omega)) ?_
    walk_at "rd"
    have mm := emod_rng (ns.getD (2 : Int).toNat 0) (b := 4) (by decide)
    refine r_rng1' (by omega) (by omega) ?_
    generalize hm : (ns.getD (2 : Int).toNat 0 % 4).toNat = tn
    have hm3 : tn ≤ 3 := by omega
    refine for_range (lo := 0) (n := tn) (fun i σ G => ∃ (L : List Nat) (y5 : Option V), σ = [some (.ref l), some (.ref pn), some (.ref pm), some (.ref D), some (.str ⟨L.toArray⟩), y5, none, none, none, none, none, none, none] ∧ Same G2 G ∧ L.length ≤ 51 + i)
      ⟨L0, none, rfl, Same.refl G2, l4⟩ (fun i σ G hi hP => ?_) (fun σ G hP => ?_)
    · obtain ⟨L, y5, rfl, sG, hl⟩ := hP
      walk_at "rd"
      have e3 : (3 : Int) + 3 * (0 + (i : Int)) = ((3 + 3 * i : Nat) : Int) := by omega
      rw [e3]
      refine r_slL (SqL.of (sG _ _ hN4)) fun p1 hp1 => ?_
      rw [cut_drop, ← List.map_drop]
      walk_at "rd"
      refine ⟨L, p1, ns.drop (3 + 3 * i), rfl, by omega, SqL.of upd_same, by rw [List.length_drop]; omega, fun L' hl' => ?_⟩
      exact ⟨L', _, rfl, sG.trans (same_new hp1), by omega⟩
    obtain ⟨L, y5, rfl, sG, hl⟩ := hP
    walk_at "rd"
    refine ⟨L, rfl, by omega, ?_⟩
    obtain ⟨col, hcol⟩ : ∃ col, colF L 0 0 [] false = col := ⟨_, rfl⟩
    rw [hcol]
    walk_at "rd"
    refine r_tryAll ?_
    walk_at "rd"
    refine r_callS ?_
    walk_at "rd"
    refine ⟨L, col, rfl, by omega, hcol, fun hpos H' dx hd => ?_, fun rs st gs g eL h0 => ⟨fun hok H' v s5 hv => ?_, fun hn H' => ?_⟩⟩
    · refine ⟨true, T.em_SyntaxFault_SyntaxFault, fun _ ae hae => ?_, fun z => nomatch z⟩
      walk_at "rd"
      refine r_isI T.x_SyntaxFault.e hd (fun u r => r) T.ki_SyntaxFault_MachineError ?_
      walk_at "rd"
      rw [decide_eq_true (show (0 : Int) < (col : Int) by omega)]
      refine iteT ?_
      walk_at "rd"
      refine ⟨_, rfl, rfl, rfl, dx, _, _, rfl, hd, rfl, ?_⟩
      walk_at "rd"
      rw [decide_eq_true rfl]
      exact q _
    · rw [h0]
      walk_at "rd"
      refine r_iteD (fun z => absurd (show decide (((0 : Nat) : Int) = 0) = true from rfl) (by simpa using z)) (fun _ => ?_)
      walk_at "rd"
      refine ⟨L, rs, st, gs, rfl, g, eL, by omega, fun hok' H'' v2 s6 hv2 => ?_, fun hn => absurd hok hn⟩
      walk_at "rd"
      obtain ⟨p2, _, rfl, _, _⟩ := hv2.tupE
      rw [decide_eq_false (show ¬ V.ref p2 = V.non from fun z => nomatch z)]
      refine iteT ?_
      walk_at "rd"
      refine ⟨v, .ref p2, _, rfl, (hv.k (sT_of s6)).dp, hv2.dp, fits_macI hok, ?_⟩
      walk_at "rd"
      exact q _
    · refine ⟨false, T.em_InvalidMachine_SyntaxFault, (fun z => nomatch z), fun _ => ⟨true, T.em_InvalidMachine_InvalidMachine, fun _ ae hae => ?_, fun z => nomatch z⟩⟩
      walk_at "rd"
      refine r_isEx T.x_InvalidMachine.e (fun u r => r) T.ki_InvalidMachine_MachineError ?_
      walk_at "rd"
      rw [decide_eq_true (show (col : Int) = 0 by omega)]
      refine iteT ?_
      walk_at "rd"
      refine r_callS ?_
      walk_at "rd"
      refine ⟨L, rs, st, gs, rfl, g, eL, by omega, hn, fun H'' s6 => ?_⟩
      walk_at "rd"
      exact q _

end

abbrev dd (x : Str) (i : Nat) : He.DefD := ⟨(x, none), x, x, defArgs (topS i), defBody (topS i), defScope (topS i), [], []⟩
abbrev dm (c m qn : Str) (st : Stmt) : He.DefD := ⟨(c, some m), m, qn, defArgs st, defBody st, defScope st, [], []⟩
def fnl : List He.DefD := [dd "make_machine" 7, dd "check_shape" 8, dd "check_states" 9, dd "read_machine" 11, dd "read_machine_at" 12, dd "read_numbers" 13, dd "read_number" 14, dd "behind" 15, dd "sign_at" 16, dd "is_digit" 17, dd "_law_cell" 19, dd "_law_numbers" 20, dd "_law_same" 21, dd "_law_action" 22, dd "_law_machine" 23, dd "_law_spoilt" 26, dd "_law_column" 27, dd "_law_due" 28, dd "law" 29]
def fal : List He.Fa := [.glo "make_machine", .glo "check_shape", .glo "check_states", .glo "read_machine", .glo "read_machine_at", .glo "read_numbers", .glo "read_number", .glo "behind", .glo "sign_at", .glo "is_digit", .glo "_law_cell", .glo "_law_numbers", .glo "_law_same", .glo "_law_action", .glo "_law_machine", .glo "_law_spoilt", .glo "_law_column", .glo "_law_due", .glo "law", .free "bool", .free "enumerate", .free "int", .free "isinstance", .free "len", .free "list", .free "max", .free "range", .free "set", .free "sorted", .free "str", .free "tuple", .str "LETTERS" "abcd", .int "MOST_STATES" 40, .glo "MachineError", .glo "InvalidMachine", .glo "SyntaxFault", .exc "InvalidMachine", .exm "InvalidMachine" "InvalidMachine" true, .exm "InvalidMachine" "SyntaxFault" false, .exm "SyntaxFault" "InvalidMachine" false, .exm "SyntaxFault" "SyntaxFault" true]
def tfl : List He.Defn := []
def exB (K : PySem.W.Frag) : Bool := decide (((tfl.map (He.cT K)).map (·.2)).Nodup) && (excCB K (He.ga K "InvalidMachine") && (ownIB PySem.Challenge.pw_turnsandthrows_k76_faults_of_a_machine_t K (He.ga K "SyntaxFault") "column" true && (decide (PySem.W.kitOne K (.ref (He.ga K "InvalidMachine")) (.ref (He.ga K "MachineError")) = some true) && (decide (PySem.W.kitOne K (.ref (He.ga K "SyntaxFault")) (.ref (He.ga K "MachineError")) = some true)))))
abbrev R : PySem.W.OpenRow := PySem.W.OpenLaw.row PySem.Challenge.rw_turnsandthrows_k76_faults_of_a_machine_t
abbrev hk : PySem.W.Hook := hookY 8 fal fnl [] tfl exB
def ob (s : PySem.W.SharedT) : He.AlX := obsY 8 fal fnl [] tfl exB (HandSHeadRun.getT s)
theorem ob_eq (s : PySem.W.SharedT) : ob s = hk.obs s.abs := obsY_eq (HandSHeadRun.getT_eq s)
abbrev names0 : List Str := ["__name__", "MachineError", "InvalidMachine", "SyntaxFault", "LETTERS", "MOST_STATES", "make_machine", "check_shape", "check_states", "read_machine", "read_machine_at", "read_numbers", "read_number", "behind", "sign_at", "is_digit", "_law_cell", "_law_numbers", "_law_same", "_law_action", "_law_machine", "_law_lead", "_law_accepts", "_law_spoilt", "_law_column", "_law_due"]
abbrev names : List Str := names0
theorem run (w : World) : HandSHeadRun.RunEq R (PySem.W.view R.prog [29]) hk ob 4000 names w := by
  intro os
  kernel_rfl
theorem facts {w : World} {K : PySem.W.Frag} {h : Heap} {mg : Str → Option Value} {f : Addr} (X : K.In h) (G : h.Ns mainGlobals mg) (hfa : mg ("law" : Str) = some (.ref f)) (c : He.SaysX fal fnl [] tfl exB w h K) : LamX.LawAtS PySem.Challenge.rw_turnsandthrows_k76_faults_of_a_machine_t w K CX0 7 63 "script" mg f h := by
  obtain ⟨fd_make_machine, D_make_machine⟩ := c.t.d.def_ 0 (d := dd "make_machine" 7) rfl
  have F_make_machine : Fun K "make_machine" "make_machine" s_make_machine (He.fAd K ("make_machine", none)) fd_make_machine := fun_of_D (st := s_make_machine) D_make_machine
  have b_make_machine := FunD.bindsN (ps := ["steps", "start", "good"]) D_make_machine fun _ _ _ _ _ _ us hl => match us, hl with | [_, _, _], _ => rfl
  obtain ⟨fd_check_shape, D_check_shape⟩ := c.t.d.def_ 1 (d := dd "check_shape" 8) rfl
  have F_check_shape : Fun K "check_shape" "check_shape" s_check_shape (He.fAd K ("check_shape", none)) fd_check_shape := fun_of_D (st := s_check_shape) D_check_shape
  have b_check_shape := FunD.bindsN (ps := ["steps"]) D_check_shape fun _ _ _ _ _ _ us hl => match us, hl with | [_], _ => rfl
  obtain ⟨fd_check_states, D_check_states⟩ := c.t.d.def_ 2 (d := dd "check_states" 9) rfl
  have F_check_states : Fun K "check_states" "check_states" s_check_states (He.fAd K ("check_states", none)) fd_check_states := fun_of_D (st := s_check_states) D_check_states
  have b_check_states := FunD.bindsN (ps := ["states", "count"]) D_check_states fun _ _ _ _ _ _ us hl => match us, hl with | [_, _], _ => rfl
  obtain ⟨fd_read_machine, D_read_machine⟩ := c.t.d.def_ 3 (d := dd "read_machine" 11) rfl
  have F_read_machine : Fun K "read_machine" "read_machine" s_read_machine (He.fAd K ("read_machine", none)) fd_read_machine := fun_of_D (st := s_read_machine) D_read_machine
  have b_read_machine := FunD.bindsN (ps := ["text"]) D_read_machine fun _ _ _ _ _ _ us hl => match us, hl with | [_], _ => rfl
  obtain ⟨fd_read_machine_at, D_read_machine_at⟩ := c.t.d.def_ 4 (d := dd "read_machine_at" 12) rfl
  have F_read_machine_at : Fun K "read_machine_at" "read_machine_at" s_read_machine_at (He.fAd K ("read_machine_at", none)) fd_read_machine_at := fun_of_D (st := s_read_machine_at) D_read_machine_at
  have b_read_machine_at := FunD.bindsN (ps := ["text", "at"]) D_read_machine_at fun _ _ _ _ _ _ us hl => match us, hl with | [_, _], _ => rfl
  obtain ⟨fd_read_numbers, D_read_numbers⟩ := c.t.d.def_ 5 (d := dd "read_numbers" 13) rfl
  have F_read_numbers : Fun K "read_numbers" "read_numbers" s_read_numbers (He.fAd K ("read_numbers", none)) fd_read_numbers := fun_of_D (st := s_read_numbers) D_read_numbers
  have b_read_numbers := FunD.bindsN (ps := ["text", "at"]) D_read_numbers fun _ _ _ _ _ _ us hl => match us, hl with | [_, _], _ => rfl
  obtain ⟨fd_read_number, D_read_number⟩ := c.t.d.def_ 6 (d := dd "read_number" 14) rfl
  have F_read_number : Fun K "read_number" "read_number" s_read_number (He.fAd K ("read_number", none)) fd_read_number := fun_of_D (st := s_read_number) D_read_number
  have b_read_number := FunD.bindsN (ps := ["text", "at"]) D_read_number fun _ _ _ _ _ _ us hl => match us, hl with | [_, _], _ => rfl
  obtain ⟨fd_behind, D_behind⟩ := c.t.d.def_ 7 (d := dd "behind" 15) rfl
  have F_behind : Fun K "behind" "behind" s_behind (He.fAd K ("behind", none)) fd_behind := fun_of_D (st := s_behind) D_behind
  have b_behind := FunD.bindsN (ps := ["text", "at", "sign"]) D_behind fun _ _ _ _ _ _ us hl => match us, hl with | [_, _, _], _ => rfl
  obtain ⟨fd_sign_at, D_sign_at⟩ := c.t.d.def_ 8 (d := dd "sign_at" 16) rfl
  have F_sign_at : Fun K "sign_at" "sign_at" s_sign_at (He.fAd K ("sign_at", none)) fd_sign_at := fun_of_D (st := s_sign_at) D_sign_at
  have b_sign_at := FunD.bindsN (ps := ["text", "at"]) D_sign_at fun _ _ _ _ _ _ us hl => match us, hl with | [_, _], _ => rfl
  obtain ⟨fd_is_digit, D_is_digit⟩ := c.t.d.def_ 9 (d := dd "is_digit" 17) rfl
  have F_is_digit : Fun K "is_digit" "is_digit" s_is_digit (He.fAd K ("is_digit", none)) fd_is_digit := fun_of_D (st := s_is_digit) D_is_digit
  have b_is_digit := FunD.bindsN (ps := ["sign"]) D_is_digit fun _ _ _ _ _ _ us hl => match us, hl with | [_], _ => rfl
  obtain ⟨fd_l_cell, D_l_cell⟩ := c.t.d.def_ 10 (d := dd "_law_cell" 19) rfl
  have F_l_cell : Fun K "_law_cell" "_law_cell" s_l_cell (He.fAd K ("_law_cell", none)) fd_l_cell := fun_of_D (st := s_l_cell) D_l_cell
  have b_l_cell := FunD.bindsN (ps := ["script", "k"]) D_l_cell fun _ _ _ _ _ _ us hl => match us, hl with | [_, _], _ => rfl
  obtain ⟨fd_l_numbers, D_l_numbers⟩ := c.t.d.def_ 11 (d := dd "_law_numbers" 20) rfl
  have F_l_numbers : Fun K "_law_numbers" "_law_numbers" s_l_numbers (He.fAd K ("_law_numbers", none)) fd_l_numbers := fun_of_D (st := s_l_numbers) D_l_numbers
  have b_l_numbers := FunD.bindsN (ps := ["cell", "count"]) D_l_numbers fun _ _ _ _ _ _ us hl => match us, hl with | [_, _], _ => rfl
  obtain ⟨fd_l_same, D_l_same⟩ := c.t.d.def_ 12 (d := dd "_law_same" 21) rfl
  have F_l_same : Fun K "_law_same" "_law_same" s_l_same (He.fAd K ("_law_same", none)) fd_l_same := fun_of_D (st := s_l_same) D_l_same
  have b_l_same := FunD.bindsN (ps := ["actual", "due"]) D_l_same fun _ _ _ _ _ _ us hl => match us, hl with | [_, _], _ => rfl
  obtain ⟨fd_l_action, D_l_action⟩ := c.t.d.def_ 13 (d := dd "_law_action" 22) rfl
  have F_l_action : Fun K "_law_action" "_law_action" s_l_action (He.fAd K ("_law_action", none)) fd_l_action := fun_of_D (st := s_l_action) D_l_action
  have b_l_action := FunD.bindsN (ps := ["numbers", "count"]) D_l_action fun _ _ _ _ _ _ us hl => match us, hl with | [_, _], _ => rfl
  obtain ⟨fd_l_machine, D_l_machine⟩ := c.t.d.def_ 14 (d := dd "_law_machine" 23) rfl
  have F_l_machine : Fun K "_law_machine" "_law_machine" s_l_machine (He.fAd K ("_law_machine", none)) fd_l_machine := fun_of_D (st := s_l_machine) D_l_machine
  have b_l_machine := FunD.bindsN (ps := ["cell", "count", "letters"]) D_l_machine fun _ _ _ _ _ _ us hl => match us, hl with | [_, _, _], _ => rfl
  obtain ⟨fd_l_spoilt, D_l_spoilt⟩ := c.t.d.def_ 15 (d := dd "_law_spoilt" 26) rfl
  have F_l_spoilt : Fun K "_law_spoilt" "_law_spoilt" s_l_spoilt (He.fAd K ("_law_spoilt", none)) fd_l_spoilt := fun_of_D (st := s_l_spoilt) D_l_spoilt
  have b_l_spoilt := FunD.bindsN (ps := ["text", "numbers"]) D_l_spoilt fun _ _ _ _ _ _ us hl => match us, hl with | [_, _], _ => rfl
  obtain ⟨fd_l_column, D_l_column⟩ := c.t.d.def_ 16 (d := dd "_law_column" 27) rfl
  have F_l_column : Fun K "_law_column" "_law_column" s_l_column (He.fAd K ("_law_column", none)) fd_l_column := fun_of_D (st := s_l_column) D_l_column
  have b_l_column := FunD.bindsN (ps := ["text"]) D_l_column fun _ _ _ _ _ _ us hl => match us, hl with | [_], _ => rfl
  obtain ⟨fd_l_due, D_l_due⟩ := c.t.d.def_ 17 (d := dd "_law_due" 28) rfl
  have F_l_due : Fun K "_law_due" "_law_due" s_l_due (He.fAd K ("_law_due", none)) fd_l_due := fun_of_D (st := s_l_due) D_l_due
  have b_l_due := FunD.bindsN (ps := ["text"]) D_l_due fun _ _ _ _ _ _ us hl => match us, hl with | [_], _ => rfl
  obtain ⟨fd_law, D_law⟩ := c.t.d.def_ 18 (d := dd "law" 29) rfl
  have F_law : Fun K "law" "law" s_law (He.fAd K ("law", none)) fd_law := fun_of_D (st := s_law) D_law
  have b_law := FunD.bindsN (ps := ["script"]) D_law fun _ _ _ _ _ _ us hl => match us, hl with | [_], _ => rfl
  have e := hfa.symm.trans (He.glo_ok X G (c.t.d.fact 18 (f := .glo "law") rfl))
  cases e
  have bA := FunD.bindsA (ps := ["script"]) D_law fun _ _ _ _ _ _ us hl => match us, hl with | [_], _ => rfl
  have ce := c.more
  unfold exB at ce
  obtain ⟨e0, ce⟩ := He.ba ce
  obtain ⟨e1, ce⟩ := He.ba ce
  obtain ⟨e2, ce⟩ := He.ba ce
  obtain ⟨e3, ce⟩ := He.ba ce
  have e4 := ce
  have T : Txt K mg ⟨He.fAd K ("make_machine", none), fd_make_machine, He.fAd K ("check_shape", none), fd_check_shape, He.fAd K ("check_states", none), fd_check_states, He.fAd K ("read_machine", none), fd_read_machine, He.fAd K ("read_machine_at", none), fd_read_machine_at, He.fAd K ("read_numbers", none), fd_read_numbers, He.fAd K ("read_number", none), fd_read_number, He.fAd K ("behind", none), fd_behind, He.fAd K ("sign_at", none), fd_sign_at, He.fAd K ("is_digit", none), fd_is_digit, He.fAd K ("_law_cell", none), fd_l_cell, He.fAd K ("_law_numbers", none), fd_l_numbers, He.fAd K ("_law_same", none), fd_l_same, He.fAd K ("_law_action", none), fd_l_action, He.fAd K ("_law_machine", none), fd_l_machine, He.fAd K ("_law_spoilt", none), fd_l_spoilt, He.fAd K ("_law_column", none), fd_l_column, He.fAd K ("_law_due", none), fd_l_due, He.fAd K ("law", none), fd_law, He.ga K "MachineError", He.ga K "InvalidMachine", He.ga K "SyntaxFault", PySem.Challenge.pw_turnsandthrows_k76_faults_of_a_machine_t, iniF K (He.ga K "SyntaxFault"), iniD K (He.ga K "SyntaxFault")⟩ := ⟨F_make_machine, b_make_machine, He.glo_ok X G (c.t.d.fact 0 (f := .glo "make_machine") rfl), F_check_shape, b_check_shape, He.glo_ok X G (c.t.d.fact 1 (f := .glo "check_shape") rfl), F_check_states, b_check_states, He.glo_ok X G (c.t.d.fact 2 (f := .glo "check_states") rfl), F_read_machine, b_read_machine, He.glo_ok X G (c.t.d.fact 3 (f := .glo "read_machine") rfl), F_read_machine_at, b_read_machine_at, He.glo_ok X G (c.t.d.fact 4 (f := .glo "read_machine_at") rfl), F_read_numbers, b_read_numbers, He.glo_ok X G (c.t.d.fact 5 (f := .glo "read_numbers") rfl), F_read_number, b_read_number, He.glo_ok X G (c.t.d.fact 6 (f := .glo "read_number") rfl), F_behind, b_behind, He.glo_ok X G (c.t.d.fact 7 (f := .glo "behind") rfl), F_sign_at, b_sign_at, He.glo_ok X G (c.t.d.fact 8 (f := .glo "sign_at") rfl), F_is_digit, b_is_digit, He.glo_ok X G (c.t.d.fact 9 (f := .glo "is_digit") rfl), F_l_cell, b_l_cell, He.glo_ok X G (c.t.d.fact 10 (f := .glo "_law_cell") rfl), F_l_numbers, b_l_numbers, He.glo_ok X G (c.t.d.fact 11 (f := .glo "_law_numbers") rfl), F_l_same, b_l_same, He.glo_ok X G (c.t.d.fact 12 (f := .glo "_law_same") rfl), F_l_action, b_l_action, He.glo_ok X G (c.t.d.fact 13 (f := .glo "_law_action") rfl), F_l_machine, b_l_machine, He.glo_ok X G (c.t.d.fact 14 (f := .glo "_law_machine") rfl), F_l_spoilt, b_l_spoilt, He.glo_ok X G (c.t.d.fact 15 (f := .glo "_law_spoilt") rfl), F_l_column, b_l_column, He.glo_ok X G (c.t.d.fact 16 (f := .glo "_law_column") rfl), F_l_due, b_l_due, He.glo_ok X G (c.t.d.fact 17 (f := .glo "_law_due") rfl), F_law, b_law, He.glo_ok X G (c.t.d.fact 18 (f := .glo "law") rfl), He.free_ok X G (c.t.d.fact 19 (f := .free "bool") rfl), He.free_ok X G (c.t.d.fact 20 (f := .free "enumerate") rfl), He.free_ok X G (c.t.d.fact 21 (f := .free "int") rfl), He.free_ok X G (c.t.d.fact 22 (f := .free "isinstance") rfl), He.free_ok X G (c.t.d.fact 23 (f := .free "len") rfl), He.free_ok X G (c.t.d.fact 24 (f := .free "list") rfl), He.free_ok X G (c.t.d.fact 25 (f := .free "max") rfl), He.free_ok X G (c.t.d.fact 26 (f := .free "range") rfl), He.free_ok X G (c.t.d.fact 27 (f := .free "set") rfl), He.free_ok X G (c.t.d.fact 28 (f := .free "sorted") rfl), He.free_ok X G (c.t.d.fact 29 (f := .free "str") rfl), He.free_ok X G (c.t.d.fact 30 (f := .free "tuple") rfl), He.str_ok X G (c.t.d.fact 31 (f := .str "LETTERS" "abcd") rfl), He.int_ok X G (c.t.d.fact 32 (f := .int "MOST_STATES" 40) rfl), He.glo_ok X G (c.t.d.fact 33 (f := .glo "MachineError") rfl), He.glo_ok X G (c.t.d.fact 34 (f := .glo "InvalidMachine") rfl), He.glo_ok X G (c.t.d.fact 35 (f := .glo "SyntaxFault") rfl), ⟨He.glo_ok X G (c.t.d.fact 34 (f := .glo "InvalidMachine") rfl), (He.exc_ok (c.t.d.fact 36 (f := .exc "InvalidMachine") rfl)).1, (He.exc_ok (c.t.d.fact 36 (f := .exc "InvalidMachine") rfl)).2.1, (He.exc_ok (c.t.d.fact 36 (f := .exc "InvalidMachine") rfl)).2.2.1, (He.exc_ok (c.t.d.fact 36 (f := .exc "InvalidMachine") rfl)).2.2.2, excCB_ok e1⟩, ownI_ok X G e2 (He.glo_ok X G (c.t.d.fact 35 (f := .glo "SyntaxFault") rfl)) (by decide) (by decide) (by decide) (fun _ _ _ _ _ _ _ _ _ _ _ _ _ _ _ _ _ => rfl), He.exm_ok (c.t.d.fact 37 (f := .exm "InvalidMachine" "InvalidMachine" true) rfl), He.exm_ok (c.t.d.fact 38 (f := .exm "InvalidMachine" "SyntaxFault" false) rfl), of_decide_eq_true e3, He.exm_ok (c.t.d.fact 39 (f := .exm "SyntaxFault" "InvalidMachine" false) rfl), He.exm_ok (c.t.d.fact 40 (f := .exm "SyntaxFault" "SyntaxFault" true) rfl), of_decide_eq_true e4⟩
  refine ⟨fd_law, tfl.map (He.cT K), sp_law K ⟨He.fAd K ("make_machine", none), fd_make_machine, He.fAd K ("check_shape", none), fd_check_shape, He.fAd K ("check_states", none), fd_check_states, He.fAd K ("read_machine", none), fd_read_machine, He.fAd K ("read_machine_at", none), fd_read_machine_at, He.fAd K ("read_numbers", none), fd_read_numbers, He.fAd K ("read_number", none), fd_read_number, He.fAd K ("behind", none), fd_behind, He.fAd K ("sign_at", none), fd_sign_at, He.fAd K ("is_digit", none), fd_is_digit, He.fAd K ("_law_cell", none), fd_l_cell, He.fAd K ("_law_numbers", none), fd_l_numbers, He.fAd K ("_law_same", none), fd_l_same, He.fAd K ("_law_action", none), fd_l_action, He.fAd K ("_law_machine", none), fd_l_machine, He.fAd K ("_law_spoilt", none), fd_l_spoilt, He.fAd K ("_law_column", none), fd_l_column, He.fAd K ("_law_due", none), fd_l_due, He.fAd K ("law", none), fd_law, He.ga K "MachineError", He.ga K "InvalidMachine", He.ga K "SyntaxFault", PySem.Challenge.pw_turnsandthrows_k76_faults_of_a_machine_t, iniF K (He.ga K "SyntaxFault"), iniD K (He.ga K "SyntaxFault")⟩, fun p hp => ?_, fun p hp => ?_, fun p hp => ?_, fun s u => bA s [u] rfl, fun H a ns hl _ hT hS => ?_, fun base hK hns hB => ok_law T rfl⟩
  · obtain ⟨x, hx, rfl⟩ := List.mem_map.mp hp
    exact c.empty x hx
  · obtain ⟨x, hx, rfl⟩ := List.mem_map.mp hp
    exact c.out x hx
  · obtain ⟨x, hx, rfl⟩ := List.mem_map.mp hp
    exact PySem.W.codeHd_of_K X (c.hd x hx)
  · refine ⟨a, ns, rfl, hS, hl, tabs_nil fun p hp => ?_, fun _ => rfl⟩
    exact nomatch hp
end L76
open PySem PySem.W PySem.Calls PyProof.Rows
set_option maxHeartbeats 0 in
theorem PySem.Challenge.cw_turnsandthrows_k76_faults_of_a_machine_t_holds : PySem.Challenge.rw_turnsandthrows_k76_faults_of_a_machine_t.Holds := by
  w_on; o_law
  refine HandSHeadRun.head_any (r := OpenLaw.row PySem.Challenge.rw_turnsandthrows_k76_faults_of_a_machine_t) (q := view (OpenLaw.row PySem.Challenge.rw_turnsandthrows_k76_faults_of_a_machine_t).prog [29]) (H := L76.hk) (ob := L76.ob) (M := 4000) (loose := L76.names) (d := HandSHeadRun.topDef (OpenLaw.row PySem.Challenge.rw_turnsandthrows_k76_faults_of_a_machine_t).prog 29) (kwd := []) L76.ob_eq (by kernel_rfl) (fun s => by kernel_rfl) L76.run (by kernel_rfl) (by kernel_rfl) (by kernel_rfl) (by rfl) (by first | assumption | decide +kernel) (by decide +kernel) ⟨rfl, rfl, rfl, rfl, rfl, by decide +kernel⟩ ?hw ?hc
  case hw => w_witness2
  case hc =>
    refine LamX.walk_ofTsE (l := PySem.Challenge.rw_turnsandthrows_k76_faults_of_a_machine_t) (n := 63) (k := 7) (x := "script") (CX := fun _ => L2.CX0) rfl (by decide) (by kernel_rfl) ⟨rfl, by decide, by decide⟩ ?F (fun _ _ _ _ _ z => z)
    intro w mg fa h Y G hmg0
    obtain ⟨K, KX, c⟩ := Y
    have hmg : mg ("law" : PySem.Str) = some (.ref fa) := by
      have e : (HandSHeadRun.topDef (OpenLaw.row PySem.Challenge.rw_turnsandthrows_k76_faults_of_a_machine_t).prog 29).name = ("law" : PySem.Str) := by kernel_rfl
      rw [← e]
      exact hmg0
    exact ⟨K, KX, L76.facts KX G hmg c⟩

