import PyProof.Rows.All
import Wide.All
import OpenK.AllK
import Wide.FinOn
import HandS.ForMost
import HandS.IsInst
import KE.GoesMore
import PyProof.Draws
import PyProof.EnumMake
import HandS.Iter
import HandS.Gcd
import HandS.Strs
import KE.KSortTupG
import KE.KDictDisplayH
import KE.KDictSum
import HandS.Keys
import HandS.Conv
import HandS.Dict
import HandS.More
import KE.KMathG
import HandS.TupLen
import HandS.Lambda
import HandS.NestedK
import HandS.EndTab
import HandS.Head0
import HandS.Head1
import HandS.Head2
import HandS.HeadEnd
import HandS.HeadHook1
import HandS.HeadHook2
import HandS.HeadHook3
import HandS.HeadHook4
import HandS.HeadWalk
import HandS.SetBool
import HandS.SetFor
import HandS.ForExc
import HandS.ExcIs
import HandS.RaiseMore
import HandS.FStr
import HandS.Deep
import HandS.Walk
import KE.KDictWalk
import KE.DataMinMax
import HandS.TupAny
import HandS.SetKeys
import HandS.Style
import HandS.TupLe
import KE.KDictCopyH
import HandS.Star
import KE.KeyNested
import KE.KDictKeyed
import HandS.TupSets
import HandS.DictComp
import HandS.SortKw
import KE.SortKeyHeap
import HandS.Remove
import PyProof.StrBlock2
import HandS.Replace
import PySem.Challenge.RW_turnsandthrows_k06_complement_and_join
set_option Elab.async false
set_option linter.all false
set_option maxRecDepth 100000
set_option maxHeartbeats 8000000
set_option Elab.async false
set_option linter.all false
set_option maxRecDepth 100000
namespace G
open PySem PySem.Spec PyProof.Rows L2

/-! ### readings, step by step -/
section
variable {σ : L2.St} {H : Hp} {Q : VK} {QB : Bool → Hp → Prop} {QA : List V → Hp → Prop} {D : Ends} {K : PySem.W.Frag} {te ta tb : TE} {t u : TS} {c c2 : TT} {i : Nat} {v x y : V}
theorem r_seq (h : t { D with nx := u D } σ H) : tSeq t u D σ H := h
theorem r_set (h : te σ H fun x H1 => D.nx (σ.set i (some x)) H1) : tAsg te (gName i) D σ H := h
theorem r_asg {g : TG} (h : te σ H fun x H1 => g x σ H1 D.nx) : tAsg te g D σ H := h
theorem r_drop (h : te σ H fun _ H1 => D.nx σ H1) : tDrop te D σ H := h
theorem r_ret (h : te σ H D.rt) : tRet te D σ H := h
theorem r_retN (h : D.rt .non H) : tRetN D σ H := h
theorem r_next (h : D.nx σ H) : tNext D σ H := h
theorem r_break (h : D.bk σ H) : tBreak D σ H := h
theorem r_cont (h : D.ct σ H) : tCont D σ H := h
theorem r_yes (h : QB true H) : tYes σ H QB := h
theorem r_if (h : c σ H fun b H1 => if b = true then t D σ H1 else u D σ H1) : tIfS c t u D σ H := h
theorem r_ifx (h : c σ H fun d H1 => if d = true then ta σ H1 Q else tb σ H1 Q) : tIf c ta tb σ H Q := h
theorem r_var (h : σ[i]? = some (some v)) (q : Q v H) : tVar i σ H Q := ⟨v, h, q⟩
theorem r_c (q : Q v H) : tC v σ H Q := q
theorem r_op {r : R2} (h : ta σ H fun x H1 => tb σ H1 fun y H2 => r x y H2 Q) : tOp r ta tb σ H Q := h
theorem r_un {r : V → Hp → VK → Prop} (h : ta σ H fun x H1 => r x H1 Q) : tUn r ta σ H Q := h
theorem r_cb {r : List V → Hp → VK → Prop} {t : TA} (h : t σ H fun vs H1 => r vs H1 Q) : tCB r t σ H Q := h
theorem r_cons {tr : TA} (h : te σ H fun x H1 => tr σ H1 fun xs H2 => QA (x :: xs) H2) : tCons te tr σ H QA := h
theorem r_nil (h : QA [] H) : tNil σ H QA := h
theorem r_call {sp : Sp} {dvs : List V} {E : XK} {t : TA} (h : t σ H fun vs H1 => sp (vs ++ dvs) H1 Q E) : tCall sp dvs E t σ H Q := h
theorem r_test (h : te σ H fun x H' => ∃ k, x = .bl k ∧ QB k H') : tTest te σ H QB := h
theorem r_tb (h : te σ H fun x H' => ∃ k, x = .bl k ∧ QB k H') : tB te σ H QB := h
theorem r_bl {b : Bool} {C : Bool → Prop} (h : C b) : ∃ k, V.bl b = .bl k ∧ C k := ⟨b, rfl, h⟩
theorem r_and (h : c σ H fun b H1 => if b = true then c2 σ H1 QB else QB false H1) : tAnd c c2 σ H QB := h
theorem r_or (h : c σ H fun b H1 => if b = true then QB true H1 else c2 σ H1 QB) : tOr c c2 σ H QB := h
theorem r_not (h : c σ H fun b H1 => QB (!b) H1) : tNot c σ H QB := h
theorem r_andV (h : ta σ H fun x H1 => ∃ c, x = .bl c ∧ if c = true then tb σ H1 Q else Q (.bl false) H1) : tAndV ta tb σ H Q := h
theorem r_orV (h : ta σ H fun x H1 => ∃ c, x = .bl c ∧ if c = true then Q (.bl true) H1 else tb σ H1 Q) : tOrV ta tb σ H Q := h
theorem r_notV (h : ta σ H fun x H1 => ∃ c, x = .bl c ∧ Q (.bl (!c)) H1) : tNotV ta σ H Q := h
theorem r_tup {t : TA} (h : t σ H fun xs H1 => xs.length ≤ sizeLine ∧ ∀ p, H1 p = none → Q (.ref p) (upd H1 p (.tup xs))) : tTup t σ H Q := h
theorem r_lst {t : TA} (h : t σ H fun xs H1 => xs.length ≤ sizeLine ∧ ∀ p, H1 p = none → Q (.ref p) (upd H1 p (.lst xs))) : tLst t σ H Q := h
theorem r_I0 {g : Int → Int → V} {i j : Int} (h : Q (g i j) H) : rI0 g (.int i) (.int j) H Q := ⟨i, j, rfl, rfl, h⟩
theorem r_I {C : Int → Int → Prop} {g : Int → Int → V} {i j : Int} (hc : C i j) (h : Q (g i j) H) : rI C g (.int i) (.int j) H Q := ⟨i, j, rfl, rfl, hc, h⟩
theorem r_U {g : Int → V} {i : Int} (h : Q (g i) H) : rU g (.int i) H Q := ⟨i, rfl, h⟩
theorem r_eqI {i j : Int} (h : Q (.bl (decide (i = j))) H) : rEq (.int i) (.int j) H Q := by
  refine ⟨rfl, ?_⟩
  have e : decide (V.int i = V.int j) = decide (i = j) := by simp
  rw [e]; exact h
theorem r_neI {i j : Int} (h : Q (.bl (!decide (i = j))) H) : rNe (.int i) (.int j) H Q := by
  refine ⟨rfl, ?_⟩
  have e : decide (V.int i = V.int j) = decide (i = j) := by simp
  rw [e]; exact h
theorem r_eqS {i j : Str} (h : Q (.bl (decide (i = j))) H) : rEq (.str i) (.str j) H Q := by
  refine ⟨rfl, ?_⟩
  have e : decide (V.str i = V.str j) = decide (i = j) := by simp
  rw [e]; exact h
theorem r_neS {i j : Str} (h : Q (.bl (!decide (i = j))) H) : rNe (.str i) (.str j) H Q := by
  refine ⟨rfl, ?_⟩
  have e : decide (V.str i = V.str j) = decide (i = j) := by simp
  rw [e]; exact h
theorem r_eqB {i j : Bool} (h : Q (.bl (decide (i = j))) H) : rEq (.bl i) (.bl j) H Q := by
  refine ⟨rfl, ?_⟩
  have e : decide (V.bl i = V.bl j) = decide (i = j) := by simp
  rw [e]; exact h
theorem r_neB {i j : Bool} (h : Q (.bl (!decide (i = j))) H) : rNe (.bl i) (.bl j) H Q := by
  refine ⟨rfl, ?_⟩
  have e : decide (V.bl i = V.bl j) = decide (i = j) := by simp
  rw [e]; exact h
theorem r_iteD {p A B : Prop} [Decidable p] (h1 : p → A) (h2 : ¬ p → B) : if decide p = true then A else B := ite2 (fun e => h1 (of_decide_eq_true e)) fun e => h2 fun q => e (decide_eq_true q)
theorem r_iteN {p A B : Prop} [Decidable p] (h1 : ¬ p → A) (h2 : p → B) : if (!decide p) = true then A else B := by
  by_cases h : p
  · rw [decide_eq_true h]; exact iteF (h2 h)
  · rw [decide_eq_false h]; exact iteT (h1 h)
theorem r_ixL {p : Addr} {xs : List V} {i : Int} (h : SqL K H p xs) (a : atI xs i = some v) (q : Q v H) : rIxL K (.ref p) (.int i) H Q := ⟨p, xs, i, v, rfl, rfl, h, a, q⟩
theorem r_ixT {p : Addr} {xs : List V} {i : Int} (h : SqT K H p xs) (a : atI xs i = some v) (q : Q v H) : rIxT K (.ref p) (.int i) H Q := ⟨p, xs, i, v, rfl, rfl, h, a, q⟩
theorem r_ixS {z : Str} {i : Int} {c : Nat} (hz : z.length ≤ sizeLine) (a : atI z.cps.toList i = some c) (q : Q (.str ⟨#[c]⟩) H) : rIxS (.str z) (.int i) H Q := ⟨z, i, c, rfl, rfl, hz, a, q⟩
/-! named readings for what the layer says by a bare fun -/
def rInt1 : List V → Hp → VK → Prop := fun xs H Q => (∃ i, xs = [.int i] ∧ Q (.int i) H) ∨ ∃ k, xs = [.bl k] ∧ Q (.int (if k then 1 else 0)) H
theorem call_int1' {X : Cx} : CallR X (.type "int") rInt1 := call_int1
theorem r_int1 {i : Int} (q : Q (.int i) H) : rInt1 [.int i] H Q := .inl ⟨i, rfl, q⟩
def rLenQ (K : PySem.W.Frag) : List V → Hp → VK → Prop := fun xs H Q => ∃ p ys, xs = [.ref p] ∧ (SqL K H p ys ∨ SqT K H p ys) ∧ Q (.int ys.length) H
theorem call_lenQ {X : Cx} : CallR X (.builtin "len") (rLenQ X.K) := call_len_seq
theorem r_lenL {p : Addr} {ys : List V} (h : SqL K H p ys) (q : Q (.int ys.length) H) : rLenQ K [.ref p] H Q := ⟨p, ys, rfl, .inl h, q⟩
theorem r_lenT {p : Addr} {ys : List V} (h : SqT K H p ys) (q : Q (.int ys.length) H) : rLenQ K [.ref p] H Q := ⟨p, ys, rfl, .inr h, q⟩
def rLenS1 : List V → Hp → VK → Prop := fun xs H Q => ∃ z, xs = [.str z] ∧ z.length ≤ sizeLine ∧ Q (.int z.length) H
theorem call_lenS1 {X : Cx} : CallR X (.builtin "len") rLenS1 := call_len_str
theorem r_lenS {z : Str} (h : z.length ≤ sizeLine) (q : Q (.int z.length) H) : rLenS1 [.str z] H Q := ⟨z, rfl, h, q⟩
def rAddS1 : R2 := fun x y H Q => ∃ i j, x = .str i ∧ y = .str j ∧ i.length + j.length ≤ sizeLine ∧ Q (.str (i ++ j)) H
theorem op_addS {X : Cx} : OpR X (binaryOp .Add) rAddS1 := op_add_str
theorem r_addS {i j : Str} (h : i.length + j.length ≤ sizeLine) (q : Q (.str (i ++ j)) H) : rAddS1 (.str i) (.str j) H Q := ⟨i, j, rfl, rfl, h, q⟩
def rIsN1 : R2 := fun x y H Q => y = .non ∧ Q (.bl (decide (x = .non))) H
def rNotN1 : R2 := fun x y H Q => y = .non ∧ Q (.bl (!decide (x = .non))) H
theorem op_isN1 {X : Cx} : OpR X (compareOp .Is) rIsN1 := op_isN
theorem op_notN1 {X : Cx} : OpR X (compareOp .IsNot) rNotN1 := op_notN
theorem r_isN (q : Q (.bl (decide (x = .non))) H) : rIsN1 x .non H Q := ⟨rfl, q⟩
theorem r_notN (q : Q (.bl (!decide (x = .non))) H) : rNotN1 x .non H Q := ⟨rfl, q⟩
def rTupOf (K : PySem.W.Frag) : List V → Hp → VK → Prop := fun xs H Q => ∃ p ys, xs = [.ref p] ∧ ((SqL K H p ys ∧ ∀ l, H l = none → Q (.ref l) (upd H l (.tup ys))) ∨ (SqT K H p ys ∧ Q (.ref p) H))
theorem call_tupOf {X : Cx} : CallR X (.type "tuple") (rTupOf X.K) := call_tuple_of
theorem r_tupL {p : Addr} {ys : List V} (h : SqL K H p ys) (q : ∀ l, H l = none → Q (.ref l) (upd H l (.tup ys))) : rTupOf K [.ref p] H Q := ⟨p, ys, rfl, .inl ⟨h, q⟩⟩
def rLstOf (K : PySem.W.Frag) : List V → Hp → VK → Prop := fun xs H Q => ∃ p ys, xs = [.ref p] ∧ (SqL K H p ys ∨ SqT K H p ys) ∧ ∀ l, H l = none → Q (.ref l) (upd H l (.lst ys))
theorem call_lstOf {X : Cx} : CallR X (.type "list") (rLstOf X.K) := call_list_of
theorem r_lstL {p : Addr} {ys : List V} (h : SqL K H p ys) (q : ∀ l, H l = none → Q (.ref l) (upd H l (.lst ys))) : rLstOf K [.ref p] H Q := ⟨p, ys, rfl, .inl h, q⟩
theorem r_lstT {p : Addr} {ys : List V} (h : SqT K H p ys) (q : ∀ l, H l = none → Q (.ref l) (upd H l (.lst ys))) : rLstOf K [.ref p] H Q := ⟨p, ys, rfl, .inr h, q⟩
theorem r_cat {l b : Addr} {xs zs : List V} (h1 : H l = some (.lst xs)) (h2 : H b = some (.lst zs)) (hl : xs.length + zs.length ≤ sizeLine) (q : ∀ p, H p = none → Q (.ref p) (upd H p (.lst (xs ++ zs)))) : rCat (.ref l) (.ref b) H Q := ⟨l, b, xs, zs, rfl, rfl, h1, h2, hl, q⟩
theorem r_append {l : Addr} {xs : List V} (h1 : H l = some (.lst xs)) (hl : xs.length < sizeLine) (q : Q .non (upd H l (.lst (xs ++ [y])))) : rAppend (.ref l) [y] H Q := ⟨l, xs, y, rfl, rfl, h1, hl, q⟩
theorem r_extend {l b : Addr} {xs zs : List V} (h1 : H l = some (.lst xs)) (h2 : H b = some (.lst zs)) (hl : xs.length + zs.length ≤ sizeLine) (q : Q .non (upd H l (.lst (xs ++ zs)))) : rExtend (.ref l) [.ref b] H Q := ⟨l, b, xs, zs, rfl, rfl, h1, h2, hl, q⟩
theorem r_bmL {r : V → List V → Hp → VK → Prop} {to : TE} {t : TA} (h : to σ H fun x H1 => tyV K "list" x H1 ∧ t σ H1 fun xs H2 => r x xs H2 Q) : tBM K "list" r to t σ H Q := h
theorem ty_l {p : Addr} {xs : List V} (h : SqL K H p xs) : tyV K "list" (.ref p) H := .inl ⟨rfl, _, h⟩
theorem r_slS {z : Str} {lo hi : Option Int} (h : z.length ≤ sizeLine) (q : Q (.str (cutS z lo hi)) H) : rSlS (.str z) lo hi H Q := ⟨z, rfl, h, q⟩
theorem r_slL {p : Addr} {xs : List V} {lo hi : Option Int} (h : SqL K H p xs) (q : ∀ l, H l = none → Q (.ref l) (upd H l (.lst (cutV xs lo hi)))) : rSlL K (.ref p) lo hi H Q := ⟨p, xs, rfl, h, q⟩
theorem r_sl {r : V → Option Int → Option Int → Hp → VK → Prop} {tl th : TO} (h : te σ H fun x H1 => tl σ H1 fun l H2 => th σ H2 fun u H3 => r x l u H3 Q) : tSl r te tl th σ H Q := h
theorem r_noPart {Qo : Option Int → Hp → Prop} (q : Qo none H) : tNoPart σ H Qo := q
theorem r_part {Qo : Option Int → Hp → Prop} (h : te σ H fun x H1 => ∃ i, x = .int i ∧ Qo (some i) H1) : tPart te σ H Qo := h
theorem r_pint {j : Int} {C : Int → Prop} (h : C j) : ∃ i, V.int j = .int i ∧ C i := ⟨j, rfl, h⟩
theorem r_isi {t u : Value} {b : Bool} {cl : V} (k : ClsV cl u) (ty : TyX K H x t) (e : PySem.W.kitOne K t u = some b) (q : Q (.bl b) H) : rIsi K [x, cl] H Q := ⟨x, cl, t, u, b, rfl, k, ty, e, q⟩
theorem r_rng1 {ta : TA} {R : It → Hp → Prop} (h : ta σ H fun vs H1 => ∃ j : Int, vs = [.int j] ∧ -(2 ^ 62) ≤ j ∧ j < 2 ^ 62 ∧ R (Itr 0 j.toNat) H1) : iRng1 ta σ H R := h
theorem r_rng1' {j : Int} {C : Int → Prop} (h1 : -(2 ^ 62) ≤ j) (h2 : j < 2 ^ 62) (h : C j) : ∃ j' : Int, [V.int j] = [.int j'] ∧ -(2 ^ 62) ≤ j' ∧ j' < 2 ^ 62 ∧ C j' := ⟨j, rfl, h1, h2, h⟩
end

/-! ### what was tracked stands -/
theorem same_t {K : PySem.W.Frag} {H H' : Hp} {a : Addr} {xs : List V} (e : Same H H') (h : SqT K H a xs) : SqT K H' a xs := by
  rcases h with (h | ⟨o, h⟩) | h
  · exact .inl (.inl (e _ _ h))
  · exact .inl (.inr ⟨o, e _ _ h⟩)
  · exact .inr h
theorem same_new {H : Hp} {p : Addr} {o : HO} (h : H p = none) : Same H (upd H p o) := fun b x e => by
  rw [upd_ne (ne_of_none e h)]
  exact e
/-- an object that H did not know was changed -/
theorem same_mut {H H' : Hp} {p : Addr} {o : HO} (e : Same H H') (h : H p = none) : Same H (upd H' p o) := fun a u ha => by
  rw [upd_ne (ne_of_none ha h)]
  exact e a u ha
mutual
theorem dp_same {K : PySem.W.Frag} {H H' : Hp} (e : Same H H') : ∀ (d : PyData) (v : V), Dp K H v d → Dp K H' v d
  | .none, _, h => by cases h; exact .non
  | .bool b, _, h => by cases h; exact .bl b
  | .int i, _, h => by cases h; exact .int i
  | .str x, _, h => by cases h; exact .str x
  | .list ds, _, h => by
    cases h with
    | lst hs ha => exact .lst (e.seq hs) (dpAll_same e ds _ ha)
  | .tuple ds, _, h => by
    cases h with
    | tup hs ha => exact .tup (same_t e hs) (dpAll_same e ds _ ha)
  | .dict _, _, h => by cases h
theorem dpAll_same {K : PySem.W.Frag} {H H' : Hp} (e : Same H H') : ∀ (ds : List PyData) (vs : List V), DpAll K H vs ds → DpAll K H' vs ds
  | [], _, h => by cases h; exact .nil
  | d :: ds, _, h => by
    cases h with
    | cons h1 h2 => exact .cons (dp_same e d _ h1) (dpAll_same e ds _ h2)
end
theorem dpAll_len {K : PySem.W.Frag} {H : Hp} : ∀ {vs : List V} {ds : List PyData}, DpAll K H vs ds → vs.length = ds.length
  | _, _, .nil => rfl
  | _, _, .cons _ t => congrArg (· + 1) (dpAll_len t)
theorem dpAll_get {K : PySem.W.Frag} {H : Hp} : ∀ {vs : List V} {ds : List PyData} {i : Nat} {d : PyData}, DpAll K H vs ds → ds[i]? = some d → ∃ v, vs[i]? = some v ∧ Dp K H v d
  | _, _, _, _, .nil, e => by simp at e
  | _, _, 0, _, .cons h _, e => by simp at e; subst e; exact ⟨_, rfl, h⟩
  | _, _, i + 1, d, .cons _ t, e => by
    obtain ⟨v, h1, h2⟩ := dpAll_get (i := i) (d := d) t (by simpa using e)
    exact ⟨v, by simpa using h1, h2⟩
theorem dpAll_map {K : PySem.W.Frag} {H : Hp} {α : Type} {f : α → V} {g : α → PyData} (h : ∀ x, Dp K H (f x) (g x)) : ∀ xs : List α, DpAll K H (xs.map f) (xs.map g)
  | [] => .nil
  | x :: xs => .cons (h x) (dpAll_map h xs)
/-- the type of what bears data -/
theorem tyx_sqL {K : PySem.W.Frag} {H : Hp} {a : Addr} {xs : List V} (h : SqL K H a xs) : TyX K H (.ref a) (.type "list") := by
  rcases h with (h | ⟨o, h⟩) | ⟨o, its, n, hk, hc, _⟩
  · exact .base (.lst h)
  · exact .base (.frz h)
  · exact .kList hk hc
theorem tyx_sqT {K : PySem.W.Frag} {H : Hp} {a : Addr} {xs : List V} (h : SqT K H a xs) : TyX K H (.ref a) (.type "tuple") := by
  rcases h with (h | ⟨o, h⟩) | ⟨o, its, n, hk, hc, _⟩
  · exact .base (.tup h)
  · exact .fTuple h
  · exact .kTuple hk hc

/-! ### walks over a text's signs -/
theorem for_str {x : Str} {g : TG} {tb : TS} {D : Ends} {σ : L2.St} {H : Hp} (Pv : Nat → L2.St → Hp → Prop) (h0 : Pv 0 σ H)
    (hs : ∀ i c σ H, x.cps.toList[i]? = some c → Pv i σ H → g (.str ⟨#[c]⟩) σ H fun σ2 H2 => tb { D with nx := Pv (i + 1), ct := Pv (i + 1), bk := D.nx } σ2 H2) (hd : ∀ σ H, Pv x.cps.size σ H → D.nx σ H) :
    ∃ W : Nat → Nat → L2.St → Hp → Prop, (∃ m, W 0 m σ H) ∧ ∀ i m σ H, W i m σ H →
      ((Its x).stop i H ∧ D.nx σ H) ∨ ((Its x).go i H ∧ ∃ N : L2.St → Hp → Prop, (∀ σ' H', N σ' H' → ∃ m', m' < m ∧ W (i + 1) m' σ' H') ∧ ∀ x' H', (Its x).yld i H x' H' → g x' σ H' fun σ2 H2 => tb { D with nx := N, ct := N, bk := D.nx } σ2 H2) := by
  refine ⟨fun i m σ H => m = x.cps.size - i ∧ i ≤ x.cps.size ∧ Pv i σ H, ⟨x.cps.size, by simp, Nat.zero_le _, h0⟩, ?_⟩
  rintro i m σ H ⟨rfl, hi, p⟩
  by_cases hlt : i < x.cps.size
  · refine .inr ⟨hlt, Pv (i + 1), fun σ' H' p' => ⟨x.cps.size - (i + 1), by omega, rfl, hlt, p'⟩, fun x' H' y => ?_⟩
    obtain ⟨e, c, hc, rfl⟩ := y
    subst e
    exact hs i c σ _ (by rw [Array.getElem?_toList]; exact hc) p
  · have e : i = x.cps.size := by omega
    subst e
    exact .inl ⟨Nat.le_refl _, hd σ H p⟩
end G
namespace G
open PySem PySem.Spec PyProof.Rows L2
/-! isinstance of built-in kinds -/
section
variable {K : PySem.W.Frag}
theorem kt_NoneType_list : PySem.W.kitOne K (.type "NoneType") (.type "list") = some false := kit_ty (by decide +kernel)
theorem kt_NoneType_tuple : PySem.W.kitOne K (.type "NoneType") (.type "tuple") = some false := kit_ty (by decide +kernel)
theorem kt_NoneType_bool : PySem.W.kitOne K (.type "NoneType") (.type "bool") = some false := kit_ty (by decide +kernel)
theorem kt_NoneType_int : PySem.W.kitOne K (.type "NoneType") (.type "int") = some false := kit_ty (by decide +kernel)
theorem kt_NoneType_str : PySem.W.kitOne K (.type "NoneType") (.type "str") = some false := kit_ty (by decide +kernel)
theorem kt_bool_list : PySem.W.kitOne K (.type "bool") (.type "list") = some false := kit_ty (by decide +kernel)
theorem kt_bool_tuple : PySem.W.kitOne K (.type "bool") (.type "tuple") = some false := kit_ty (by decide +kernel)
theorem kt_bool_bool : PySem.W.kitOne K (.type "bool") (.type "bool") = some true := kit_ty (by decide +kernel)
theorem kt_bool_int : PySem.W.kitOne K (.type "bool") (.type "int") = some true := kit_ty (by decide +kernel)
theorem kt_bool_str : PySem.W.kitOne K (.type "bool") (.type "str") = some false := kit_ty (by decide +kernel)
theorem kt_int_list : PySem.W.kitOne K (.type "int") (.type "list") = some false := kit_ty (by decide +kernel)
theorem kt_int_tuple : PySem.W.kitOne K (.type "int") (.type "tuple") = some false := kit_ty (by decide +kernel)
theorem kt_int_bool : PySem.W.kitOne K (.type "int") (.type "bool") = some false := kit_ty (by decide +kernel)
theorem kt_int_int : PySem.W.kitOne K (.type "int") (.type "int") = some true := kit_ty (by decide +kernel)
theorem kt_int_str : PySem.W.kitOne K (.type "int") (.type "str") = some false := kit_ty (by decide +kernel)
theorem kt_str_list : PySem.W.kitOne K (.type "str") (.type "list") = some false := kit_ty (by decide +kernel)
theorem kt_str_tuple : PySem.W.kitOne K (.type "str") (.type "tuple") = some false := kit_ty (by decide +kernel)
theorem kt_str_bool : PySem.W.kitOne K (.type "str") (.type "bool") = some false := kit_ty (by decide +kernel)
theorem kt_str_int : PySem.W.kitOne K (.type "str") (.type "int") = some false := kit_ty (by decide +kernel)
theorem kt_str_str : PySem.W.kitOne K (.type "str") (.type "str") = some true := kit_ty (by decide +kernel)
theorem kt_list_list : PySem.W.kitOne K (.type "list") (.type "list") = some true := kit_ty (by decide +kernel)
theorem kt_list_tuple : PySem.W.kitOne K (.type "list") (.type "tuple") = some false := kit_ty (by decide +kernel)
theorem kt_list_bool : PySem.W.kitOne K (.type "list") (.type "bool") = some false := kit_ty (by decide +kernel)
theorem kt_list_int : PySem.W.kitOne K (.type "list") (.type "int") = some false := kit_ty (by decide +kernel)
theorem kt_list_str : PySem.W.kitOne K (.type "list") (.type "str") = some false := kit_ty (by decide +kernel)
theorem kt_tuple_list : PySem.W.kitOne K (.type "tuple") (.type "list") = some false := kit_ty (by decide +kernel)
theorem kt_tuple_tuple : PySem.W.kitOne K (.type "tuple") (.type "tuple") = some true := kit_ty (by decide +kernel)
theorem kt_tuple_bool : PySem.W.kitOne K (.type "tuple") (.type "bool") = some false := kit_ty (by decide +kernel)
theorem kt_tuple_int : PySem.W.kitOne K (.type "tuple") (.type "int") = some false := kit_ty (by decide +kernel)
theorem kt_tuple_str : PySem.W.kitOne K (.type "tuple") (.type "str") = some false := kit_ty (by decide +kernel)
end
section
variable {K : PySem.W.Frag} {H : Hp} {Q : VK} {v : V}
theorem r_xL {p : Addr} {xs : List V} {i : Int} (h : SqL K H p xs) (a : atI xs i = some v) (q : Q v H) : rIx K (.ref p) (.int i) H Q := .inl ⟨p, xs, i, v, rfl, rfl, h, a, q⟩
theorem r_xT {p : Addr} {xs : List V} {i : Int} (h : SqT K H p xs) (a : atI xs i = some v) (q : Q v H) : rIx K (.ref p) (.int i) H Q := .inr (.inl ⟨p, xs, i, v, rfl, rfl, h, a, q⟩)
end
/-! a def of which nothing is promised -/
theorem fn_false {P : Program} {w : World} {K : PySem.W.Frag} {mg : Str → Option Value} {base : Heap} {CX : CXT} {k : Nat} {f : Addr} {fd : FuncData} {ps : List Str} : FnOk P w K mg base CX k f fd ps (fun _ _ _ _ => False) := by
  constructor
  · intros; contradiction
  · intros; contradiction
theorem fn_vac {P : Program} {w : World} {K : PySem.W.Frag} {mg : Str → Option Value} {base : Heap} {CX : CXT} {k : Nat} {f : Addr} {fd : FuncData} {ps : List Str} {sp : Sp} (h : ∀ vs H Q E, sp vs H Q E → False) : FnOk P w K mg base CX k f fd ps sp := by
  have e : sp = fun _ _ _ _ => False := by
    funext vs H Q E
    exact propext ⟨h vs H Q E, False.elim⟩
  rw [e]
  exact fn_false

/-! ### promises of the law's helpers -/
def cellV (ns : List Int) (k : Int) : Int := ns.getD k.toNat 0
def spCellG (K : PySem.W.Frag) : Sp := fun vs H Q _ => ∃ (l : Addr) (ns : List Int) (k : Int), vs = [.ref l, .int k] ∧ SqL K H l (ns.map V.int) ∧ 0 ≤ k ∧ Q (.int (cellV ns k)) H
/-- data of a depth below n, of bounded lengths -/
def fits : Nat → PyData → Prop
  | 0, _ => False
  | n + 1, .list ds => ds.length ≤ sizeLine ∧ ∀ d ∈ ds, fits n d
  | n + 1, .tuple ds => ds.length ≤ sizeLine ∧ ∀ d ∈ ds, fits n d
  | _ + 1, .dict _ => False
  | _ + 1, .none => True
  | _ + 1, .bool _ => True
  | _ + 1, .int _ => True
  | _ + 1, .str _ => True
def spSame (K : PySem.W.Frag) (n : Nat) : Sp := fun vs H Q _ => ∃ (x y : V) (d : PyData), vs = [x, y] ∧ Dp K H x d ∧ Dp K H y d ∧ fits n d ∧ Q (.bl true) H
/-- count new numbers from 0 to 999 -/
def spNums (K : PySem.W.Frag) : Sp := fun vs H Q _ => ∃ (c : Int) (n : Nat), vs = [.int c, .int (n : Int)] ∧ n ≤ 10000 ∧
  ∀ (H' : Hp) (p : Addr) (ns : List Int), Same H H' → H p = none → H' p = some (.lst (ns.map V.int)) → ns.length = n → (∀ z ∈ ns, 0 ≤ z ∧ z < 1000) → Q (.ref p) H'
theorem emod_rng (a : Int) {b : Int} (h : 0 < b) : 0 ≤ a % b ∧ a % b < b := ⟨Int.emod_nonneg a (by omega), Int.emod_lt_of_pos a h⟩
/-! texts as lists of codes -/
abbrev sV (l : List Nat) : V := .str ⟨l.toArray⟩
theorem str_app (a b : List Nat) : (⟨a.toArray⟩ : Str) ++ (⟨b.toArray⟩ : Str) = ⟨(a ++ b).toArray⟩ := congrArg Str.mk (show a.toArray ++ b.toArray = (a ++ b).toArray by simp)
theorem str_len (a : List Nat) : (⟨a.toArray⟩ : Str).length = a.length := by simp [Str.length]
/-- a comprehension over a text's signs -/
theorem lc_str {x : Str} {g : TG} {tt : TT} {te : TE} {vs : List Nat} {σ : L2.St} {H1 : Hp} {D : Addr} {Qd : Hp → Prop} (Pv : Nat → Hp → Prop) (h0 : Pv 0 (upd H1 D (.lst [])))
    (hs : ∀ i c H, x.cps.toList[i]? = some c → Pv i H → g (.str ⟨#[c]⟩) (wipe σ vs) H fun σ2 H2 => wipe σ2 vs = wipe σ vs ∧ tt σ2 H2 fun b H3 =>
      if b = true then te σ2 H3 fun y H4 => ∃ acc, H4 D = some (.lst acc) ∧ acc.length < sizeLine ∧ Pv (i + 1) (upd H4 D (.lst (acc ++ [y]))) else Pv (i + 1) H3) (hd : ∀ H, Pv x.cps.size H → Qd H) :
    ∃ W : Nat → Nat → Hp → Prop, (∃ m, W 0 m (upd H1 D (.lst []))) ∧ ∀ i m H, W i m H →
      ((Its x).stop i H ∧ Qd H) ∨ ((Its x).go i H ∧ ∃ Nx : Hp → Prop, (∀ H', Nx H' → ∃ m', m' < m ∧ W (i + 1) m' H') ∧ ∀ x' H', (Its x).yld i H x' H' → g x' (wipe σ vs) H' fun σ2 H2 => wipe σ2 vs = wipe σ vs ∧ tt σ2 H2 fun b H3 =>
        if b = true then te σ2 H3 fun y H4 => ∃ acc, H4 D = some (.lst acc) ∧ acc.length < sizeLine ∧ Nx (upd H4 D (.lst (acc ++ [y]))) else Nx H3) := by
  refine ⟨fun i m H => m = x.cps.size - i ∧ i ≤ x.cps.size ∧ Pv i H, ⟨x.cps.size, by simp, Nat.zero_le _, h0⟩, ?_⟩
  rintro i m H ⟨rfl, hi, p⟩
  by_cases hlt : i < x.cps.size
  · refine .inr ⟨hlt, Pv (i + 1), fun H' p' => ⟨x.cps.size - (i + 1), by omega, rfl, hlt, p'⟩, fun x' H' y => ?_⟩
    obtain ⟨e, c, hc, rfl⟩ := y
    subst e
    exact hs i c _ (by rw [Array.getElem?_toList]; exact hc) p
  · have e : i = x.cps.size := by omega
    subst e
    exact .inl ⟨Nat.le_refl _, hd H p⟩
theorem cut_abcd {m : Nat} (h4 : m ≤ 4) : cutS (Str.ofString "abcd") none (some (m : Int)) = ⟨(List.take m [97, 98, 99, 100]).toArray⟩ := by
  match m, h4 with
  | 0, _ => decide +kernel
  | 1, _ => decide +kernel
  | 2, _ => decide +kernel
  | 3, _ => decide +kernel
  | 4, _ => decide +kernel
section
variable {σ : L2.St} {H : Hp} {Q : VK} {K : PySem.W.Frag} {te : TE} {R : It → Hp → Prop}
theorem r_gn {i : Nat} {v : V} {C : L2.St → Hp → Prop} (h : C (σ.set i (some v)) H) : gName i v σ H C := h
theorem iteNT {A B : Prop} (h : B) : if (!true) = true then A else B := iteF h
theorem iteNF {A B : Prop} (h : A) : if (!false) = true then A else B := iteT h
theorem r_fdiv {g : Int → Int → V} {i j : Int} (hc : 0 < j ∧ j < 1073741824) (h : Q (g i j) H) : rI CDiv g (.int i) (.int j) H Q := ⟨i, j, rfl, rfl, hc, h⟩
theorem r_mod {g : Int → Int → V} {i j : Int} (hc : 0 < j) (h : Q (g i j) H) : rI (fun _ j => 0 < j) g (.int i) (.int j) H Q := ⟨i, j, rfl, rfl, hc, h⟩
theorem r_mul {g : Int → Int → V} {i j : Int} (hc : (-(2 ^ 64) < i ∧ i < 2 ^ 64) ∨ (-(2 ^ 64) < j ∧ j < 2 ^ 64)) (h : Q (g i j) H) : rI CMul g (.int i) (.int j) H Q := ⟨i, j, rfl, rfl, hc, h⟩
theorem r_pow {g : Int → Int → V} {i j : Int} (hc : 0 ≤ j ∧ j ≤ 1000000 ∧ i.natAbs < 2 ^ 64) (h : Q (g i j) H) : rI CPow g (.int i) (.int j) H Q := ⟨i, j, rfl, rfl, hc, h⟩
theorem r_iStr (h : te σ H fun v H1 => ∃ x, v = .str x ∧ R (Its x) H1) : iStr te σ H R := h
theorem r_iList (h : te σ H fun x H1 => ∃ a, x = .ref a ∧ (∃ xs, SqL K H1 a xs) ∧ R (Itl K a) H1) : iList K te σ H R := h
theorem r_iTup (h : te σ H fun x H1 => ∃ a, x = .ref a ∧ (∃ xs, SqT K H1 a xs) ∧ R (Itt K a) H1) : iTup K te σ H R := h
theorem r_str1 {z : Str} {C : Str → Prop} (h : C z) : ∃ x, V.str z = .str x ∧ C x := ⟨z, rfl, h⟩
theorem r_ref1 {p : Addr} {C : Addr → Prop} (h : C p) : ∃ a, V.ref p = .ref a ∧ C a := ⟨p, rfl, h⟩
end
/-! places in a text -/
def noE : Expr := .Name "" ⟨0, 0, 0, 0⟩
def noS : Stmt := .Pass ⟨0, 0, 0, 0⟩
def eArg (k : Nat) : Expr → Expr | .Call _ es _ _ => es.getD k noE | _ => noE
def eFun : Expr → Expr | .Call f _ _ _ => f | _ => noE
def eObj : Expr → Expr | .Attribute v _ _ => v | _ => noE
def eElt : Expr → Expr | .ListComp e _ _ _ => e | .SetComp e _ _ _ => e | .GeneratorExp e _ _ _ => e | _ => noE
def eScope : Expr → Scope | .ListComp _ _ sc _ => sc | .SetComp _ _ sc _ => sc | .GeneratorExp _ _ sc _ => sc | _ => { kind := .function, names := [], isGenerator := false, isCoroutine := false }
def eIter (k : Nat) : Expr → Expr | .ListComp _ gs _ _ => (gs.map fun g => g.iter).getD k noE | _ => noE
def eIf (k j : Nat) : Expr → Expr | .ListComp _ gs _ _ => ((gs.map fun g => g.ifs).getD k []).getD j noE | _ => noE
def eLeft : Expr → Expr | .BinOp a _ _ _ => a | .Compare a _ _ _ => a | .Subscript a _ _ => a | .UnaryOp _ a _ => a | _ => noE
def eRight : Expr → Expr | .BinOp _ _ b _ => b | .Subscript _ b _ => b | _ => noE
def eCmp (k : Nat) : Expr → Expr | .Compare _ _ bs _ => bs.getD k noE | _ => noE
def eVal (k : Nat) : Expr → Expr | .BoolOp _ es _ => es.getD k noE | .List es _ => es.getD k noE | .Tuple es _ _ => es.getD k noE | _ => noE
def sE : Stmt → Expr | .Assign _ e _ => e | .AugAssign _ _ e _ => e | .Return (some e) _ => e | .Expr e _ => e | .If c _ _ _ => c | .While c _ _ _ => c | .For _ it _ _ _ => it | _ => noE
def sIn (k : Nat) : Stmt → Stmt | .FunctionDef _ _ b _ _ _ _ _ _ _ => b.getD k noS | .If _ b _ _ => b.getD k noS | .For _ _ b _ _ => b.getD k noS | .While _ b _ _ => b.getD k noS | _ => noS
def sElse (k : Nat) : Stmt → Stmt | .If _ _ b _ => b.getD k noS | _ => noS
section
variable {σ : L2.St} {H : Hp} {Q : VK} {K : PySem.W.Frag} {te : TE}
def rIdxS : V → List V → Hp → VK → Prop := fun x xs H Q => ∃ a b i rest, x = .str a ∧ xs = [.str b] ∧ Builtin.Str.occurrences a b 0 a.length 1 = i :: rest ∧ Q (.int (i : Nat)) H
theorem mt_indexS {X : Cx} : MtR X "str.index" rIdxS := mt_sindex
theorem occ_abcd {j c : Nat} (h : [97, 98, 99, 100][j]? = some c) : Builtin.Str.occurrences (Str.ofString "abcd") ⟨#[c]⟩ 0 (Str.ofString "abcd").length 1 = [j] := by
  match j, h with
  | 0, h => cases Option.some.inj h; decide +kernel
  | 1, h => cases Option.some.inj h; decide +kernel
  | 2, h => cases Option.some.inj h; decide +kernel
  | 3, h => cases Option.some.inj h; decide +kernel
  | n + 4, h => simp at h
theorem r_idxS {j c : Nat} (h : [97, 98, 99, 100][j]? = some c) (q : Q (.int (j : Int)) H) : rIdxS (.str (Str.ofString "abcd")) [.str ⟨#[c]⟩] H Q := ⟨_, _, j, [], rfl, rfl, occ_abcd h, q⟩
def rJoinS (K : PySem.W.Frag) : V → List V → Hp → VK → Prop := fun x xs H Q => ∃ a p, ∃ ys : List Str, x = .str a ∧ xs = [.ref p] ∧ (SqL K H p (ys.map V.str) ∨ SqT K H p (ys.map V.str)) ∧ (ys.map (·.length)).sum + ys.length * a.length ≤ 16777216 ∧ Q (.str (Txt.join a ys)) H
theorem mt_joinS {X : Cx} : MtR X "str.join" (rJoinS X.K) := mt_join
theorem r_bmS {T : String} {r : V → List V → Hp → VK → Prop} {to : TE} {t : TA} (h : to σ H fun x H1 => tyV K T x H1 ∧ t σ H1 fun xs H2 => r x xs H2 Q) : tBM K T r to t σ H Q := h
theorem foldl_app : ∀ (xs : List (Array Nat)) (acc : Array Nat), xs.foldl (· ++ ·) acc = acc ++ (xs.map Array.toList).flatten.toArray
  | [], acc => by simp
  | x :: xs, acc => by
    rw [List.foldl_cons, foldl_app xs (acc ++ x)]
    rw [List.map_cons, List.flatten_cons, Array.append_assoc]
    congr 1
    apply Array.ext'
    simp
theorem mul_txt (l : List Nat) (n : Nat) : Txt.mul ⟨l.toArray⟩ (n : Int) = ⟨((List.replicate n l).flatten).toArray⟩ := by
  unfold Txt.mul
  by_cases h1 : (n : Int) < 1
  · have e : n = 0 := by omega
    subst e
    rfl
  · rw [if_neg h1]
    by_cases h2 : ((n : Int) == 1 || (⟨l.toArray⟩ : Str).length == 0) = true
    · rw [if_pos h2]
      rcases Bool.or_eq_true_iff.mp h2 with e | e
      · have e' : n = 1 := by have := eq_of_beq e; omega
        subst e'
        simp
      · have e' : l = [] := by
          have e2 : l.toArray.size = 0 := eq_of_beq e
          rw [List.size_toArray] at e2
          exact List.length_eq_zero_iff.mp e2
        subst e'
        simp
    · rw [if_neg h2]
      congr 1
      rw [foldl_app]
      simp
def rRepS : R2 := fun x y H Q => ∃ (l : List Nat) (n : Nat), x = .str ⟨l.toArray⟩ ∧ y = .int (n : Int) ∧ l.length * n ≤ sizeLine ∧ n ≤ 1000000 ∧ Q (.str ⟨((List.replicate n l).flatten).toArray⟩) H
theorem op_repS {X : Cx} : OpR X (binaryOp .Mult) rRepS := by
  intro pins s σ H x y v u Q I rx ry h
  obtain ⟨l, n, rfl, rfl, hl, hn, q⟩ := h
  obtain ⟨t, rfl⟩ := rx
  obtain ⟨t2, rfl⟩ := ry
  refine SB.mul ⟨?_, fun h1 h2 => ?_, fun h1 h2 => ?_⟩ fun t' k => ⟨.str (Txt.mul ⟨l.toArray⟩ (n : Int)), H, I.tok k, ⟨t', rfl⟩, ?_⟩
  · rw [Bool.or_eq_false_iff]
    exact ⟨decide_eq_false (by omega), decide_eq_false (by omega)⟩
  · have hz : (sizeLine : Nat) = 16777216 := by decide
    rw [str_len]
    intro hc
    have hn1 : 1 ≤ n := by omega
    have hll : l.length ≤ 16777216 := by
      have : l.length * 1 ≤ l.length * n := Nat.mul_le_mul_left _ hn1
      omega
    have h3 : (1000000000 : Int) ≤ (2 ^ 63 - 1) / (n : Int) := by
      rw [Int.le_ediv_iff_mul_le (by omega)]
      omega
    omega
  · rw [str_len]
    have : (l.length * (n : Int).toNat) ≤ sizeLine := by rw [Int.toNat_natCast]; exact hl
    exact decide_eq_false (by omega)
  · rw [mul_txt]
    exact q
theorem r_lstRg1 {j : Int} (h0 : 0 ≤ j) (h1 : j ≤ 16777216) (q : ∀ p, H p = none → Q (.ref p) (upd H p (.lst (((List.range j.toNat).map fun i : Nat => (i : Int)).map V.int)))) (h : te σ H fun x H1 => x = .int j ∧ H1 = H) (mono : ∀ R R' : VK, (∀ v H, R v H → R' v H) → te σ H R → te σ H R') : tLstRg (tRg1 te) σ H Q := by
  refine mono _ _ (fun v H1 e => ?_) h
  obtain ⟨rfl, rfl⟩ := e
  refine ⟨j, rfl, RgOk.of_le (Int.le_refl _) h1 (by decide) h0, fun p hp => ?_⟩
  have e : rgV 0 j = ((List.range j.toNat).map fun i : Nat => (i : Int)).map V.int := by
    unfold rgV
    rw [List.map_map, show (j - 0) = j by omega]
    refine List.map_congr_left fun i _ => ?_
    show V.int (0 + (i : Int)) = V.int (i : Int)
    rw [Int.zero_add]
  rw [e]
  exact q p hp
end
/-! drawn numbers -/
def Dr (n : Nat) (c : Int) (ms : List Int) : Prop := ms.length = n ∧ ∀ z ∈ ms, 0 ≤ z ∧ z < c
theorem Dr.nil {c : Int} : Dr 0 c [] := ⟨rfl, fun _ h => nomatch h⟩
theorem Dr.app {n : Nat} {c z : Int} {ms : List Int} (h : Dr n c ms) (h0 : 0 ≤ z) (h1 : z < c) : Dr (n + 1) c (ms ++ [z]) := by
  refine ⟨by rw [List.length_append, h.1]; rfl, fun y hy => ?_⟩
  rcases List.mem_append.mp hy with hy | hy
  · exact h.2 y hy
  · rw [List.mem_singleton.mp hy]; exact ⟨h0, h1⟩
theorem Dr.set {n : Nat} {c z : Int} {ms : List Int} {j : Nat} (h : Dr n c ms) (h0 : 0 ≤ z) (h1 : z < c) : Dr n c (ms.set j z) := by
  refine ⟨by rw [List.length_set]; exact h.1, fun y hy => ?_⟩
  rcases List.mem_or_eq_of_mem_set hy with hy | hy
  · exact h.2 y hy
  · rw [hy]; exact ⟨h0, h1⟩
theorem Dr.getD {n : Nat} {c : Int} {ms : List Int} {j : Nat} (h : Dr n c ms) (hj : j < n) : 0 ≤ ms.getD j 0 ∧ ms.getD j 0 < c := by
  have hj' : j < ms.length := by rw [h.1]; exact hj
  rw [List.getD_eq_getElem?_getD, List.getElem?_eq_getElem hj']
  exact h.2 _ (List.getElem_mem hj')
theorem at_int {ns : List Int} {i : Int} (h0 : 0 ≤ i) (h1 : i < ns.length) : atI (ns.map V.int) i = some (.int (ns.getD i.toNat 0)) := by
  have hi : i.toNat < ns.length := by omega
  refine at_of (j := i.toNat) (by omega) ?_
  rw [List.getElem?_map, List.getD_eq_getElem?_getD, List.getElem?_eq_getElem hi]
  rfl
theorem ix_set {n : Nat} {i : Int} (h0 : 0 ≤ i) (h1 : i < n) : ixN n i = some i.toNat := by
  unfold ixN
  rw [if_pos h0, if_pos h1]
theorem r_setL {p : Addr} {xs : List V} {k : Int} {y : V} {H : Hp} {Q : Hp → Prop} (h : H p = some (.lst xs)) (h0 : 0 ≤ k) (h1 : k < xs.length) (q : Q (upd H p (.lst (xs.set k.toNat y)))) : rSetL (.ref p) (.int k) y H Q := ⟨p, xs, k, k.toNat, rfl, rfl, h, ix_set h0 h1, q⟩
theorem r_gsub {to ti : TE} {t : TSet} {v : V} {σ : L2.St} {H : Hp} {C : L2.St → Hp → Prop} (h : to σ H fun o H1 => ti σ H1 fun i H2 => t o i v H2 fun H3 => C σ H3) : gSub to ti t v σ H C := h
theorem map_set_int (ms : List Int) (j : Nat) (z : Int) : (ms.map V.int).set j (V.int z) = (ms.set j z).map V.int := by rw [List.map_set]
theorem rep_flat (z : Int) (n : Nat) : (List.replicate n [V.int z]).flatten = (List.replicate n z).map V.int := by
  induction n with
  | zero => rfl
  | succ n ih => rw [List.replicate_succ, List.flatten_cons, ih, List.replicate_succ]; rfl
theorem Dr.rep {n : Nat} {c z : Int} (h0 : 0 ≤ z) (h1 : z < c) : Dr n c (List.replicate n z) := ⟨List.length_replicate, fun y hy => by rw [(List.mem_replicate.mp hy).2]; exact ⟨h0, h1⟩⟩
theorem Dr.perm {n : Nat} {c : Int} {ms ms' : List Int} (h : Dr n c ms) (p : ms'.Perm ms) : Dr n c ms' := ⟨by rw [p.length_eq]; exact h.1, fun y hy => h.2 y (p.mem_iff.mp hy)⟩
theorem Dr.range (n : Nat) : Dr n n ((List.range n).map fun i : Nat => (i : Int)) := by
  refine ⟨by rw [List.length_map, List.length_range], fun y hy => ?_⟩
  obtain ⟨i, hi, rfl⟩ := List.mem_map.mp hy
  have := List.mem_range.mp hi
  exact ⟨by omega, by omega⟩
def spAction (K : PySem.W.Frag) : Sp := fun vs H Q _ => ∃ (p : Addr) (ns : List Int) (n : Nat), vs = [.ref p, .int (n : Int)] ∧ SqL K H p (ns.map V.int) ∧ 12 ≤ ns.length ∧ 1 ≤ n ∧ n ≤ 10 ∧
  ∀ (H' : Hp) (q : Addr) (ms : List Int), Same H H' → H q = none → H' q = some (.lst (ms.map V.int)) → Dr n n ms → Q (.ref q) H'
/-! the rules with the written part named -/
section
variable {X : Cx} {K : PySem.W.Frag}
theorem ix_listK (h : X.K = K) : IxR X (rIxL K) := h ▸ ix_list
theorem ix_tupK (h : X.K = K) : IxR X (rIxT K) := h ▸ ix_tup
theorem ix_seqK (h : X.K = K) : IxR X (rIx K) := h ▸ ix_seq
theorem call_lenQK (h : X.K = K) : CallR X (.builtin "len") (rLenQ K) := h ▸ call_lenQ
theorem call_tupOfK (h : X.K = K) : CallR X (.type "tuple") (rTupOf K) := h ▸ call_tupOf
theorem call_lstOfK (h : X.K = K) : CallR X (.type "list") (rLstOf K) := h ▸ call_lstOf
theorem call_isiK1 (h : X.K = K) : CallR X (.builtin "isinstance") (rIsi K) := h ▸ call_isi
theorem cr_sortedK (h : X.K = K) : CallR X (.builtin "sorted") (rSorted K) := h ▸ cr_sorted
theorem sl_listK (h : X.K = K) : SlR X (rSlL K) := h ▸ sl_list
theorem sl_tupK (h : X.K = K) : SlR X (rSlT K) := h ▸ sl_tup
theorem op_inK (h : X.K = K) : OpR X (compareOp .In) (rIn K false) := h ▸ op_in_seq
theorem op_notInK (h : X.K = K) : OpR X (compareOp .NotIn) (rIn K true) := h ▸ op_notIn_seq
theorem op_catTK (h : X.K = K) : OpR X (binaryOp .Add) (rCatT K) := h ▸ op_catT
theorem op_eqDK (h : X.K = K) (hu : X.A.units + 64 < cLine) : OpR X (compareOp .Eq) (rEqD K) := h ▸ op_eqD hu
theorem op_neDK (h : X.K = K) (hu : X.A.units + 64 < cLine) : OpR X (compareOp .NotEq) (rNeD K) := h ▸ op_neD hu
theorem mt_joinSK (h : X.K = K) : MtR X "str.join" (rJoinS K) := h ▸ mt_joinS
theorem cr_anyK (h : X.K = K) (hc : X.calm = true) : CallR X (.builtin "any") (rAny K) := h ▸ cr_any hc
theorem pi_listK {tg l : Expr} {tl : TE} (h : X.K = K) (hl : PE X l tl) : PI X tg l (iList K tl) := h ▸ pi_list hl
theorem pi_tupK {tg l : Expr} {tl : TE} (h : X.K = K) (hl : PE X l tl) : PI X tg l (iTup K tl) := h ▸ pi_tup hl
theorem bmK {e : Expr} {T : String} {r : V → List V → Hp → VK → Prop} {to : TE} {t : TA} (h : X.K = K) (p : PE X e (tBM X.K T r to t)) : PE X e (tBM K T r to t) := h ▸ p
theorem bm0K {e : Expr} {T : String} {r : V → List V → Hp → VK → Prop} {to : TE} (h : X.K = K) (p : PE X e (tBM0 X.K T r to)) : PE X e (tBM0 K T r to) := h ▸ p
theorem pg_tupK {es : List Expr} {k : Nat} {t : TGs} {n : Nat} {pos : Pos} (hK : X.K = K) (hc : X.calm = true) (h : PGs X es t) (hn : (assignEach es X.env).length = n := by rfl) (hst : (assignEach es X.env).findIdx? (·.1) = none := by rfl) : PG X (.Tuple es k pos) (gTup K n t) := hK ▸ pg_tup hc h hn hst
end
theorem ln1 {x0 : V} : [x0].length ≤ sizeLine := by show 1 ≤ sizeLine; decide
theorem ln2 {x0 x1 : V} : [x0, x1].length ≤ sizeLine := by show 2 ≤ sizeLine; decide
theorem ln3 {x0 x1 x2 : V} : [x0, x1, x2].length ≤ sizeLine := by show 3 ≤ sizeLine; decide
theorem ln4 {x0 x1 x2 x3 : V} : [x0, x1, x2, x3].length ≤ sizeLine := by show 4 ≤ sizeLine; decide
theorem ln5 {x0 x1 x2 x3 x4 : V} : [x0, x1, x2, x3, x4].length ≤ sizeLine := by show 5 ≤ sizeLine; decide
theorem ln6 {x0 x1 x2 x3 x4 x5 : V} : [x0, x1, x2, x3, x4, x5].length ≤ sizeLine := by show 6 ≤ sizeLine; decide
theorem ln7 {x0 x1 x2 x3 x4 x5 x6 : V} : [x0, x1, x2, x3, x4, x5, x6].length ≤ sizeLine := by show 7 ≤ sizeLine; decide
theorem ln8 {x0 x1 x2 x3 x4 x5 x6 x7 : V} : [x0, x1, x2, x3, x4, x5, x6, x7].length ≤ sizeLine := by show 8 ≤ sizeLine; decide
/-! ### data of tuples alone: what never changes -/
mutual
inductive Dt (K : PySem.W.Frag) (H : Hp) : V → PyData → Prop
  | non : Dt K H .non .none
  | bl (b : Bool) : Dt K H (.bl b) (.bool b)
  | int (i : Int) : Dt K H (.int i) (.int i)
  | str (x : Str) : Dt K H (.str x) (.str x)
  | tup {a : Addr} {xs : List V} {ds : List PyData} : SqT K H a xs → DtAll K H xs ds → Dt K H (.ref a) (.tuple ds)
inductive DtAll (K : PySem.W.Frag) (H : Hp) : List V → List PyData → Prop
  | nil : DtAll K H [] []
  | cons {v : V} {vs : List V} {d : PyData} {ds : List PyData} : Dt K H v d → DtAll K H vs ds → DtAll K H (v :: vs) (d :: ds)
end
/-- tuples stand -/
def SameT (H H' : Hp) : Prop := ∀ b, (∀ xs, H b = some (.tup xs) → H' b = some (.tup xs)) ∧ ∀ o xs, H b = some (.frz o (.tup xs)) → H' b = some (.frz o (.tup xs))
theorem sT_of {H H' : Hp} (e : Same H H') : SameT H H' := fun b => ⟨fun _ h => e b _ h, fun _ _ h => e b _ h⟩
theorem SameT.refl (H : Hp) : SameT H H := fun _ => ⟨fun _ h => h, fun _ _ h => h⟩
theorem SameT.trans {H H1 H2 : Hp} (a : SameT H H1) (b : SameT H1 H2) : SameT H H2 := fun c => ⟨fun xs h => (b c).1 xs ((a c).1 xs h), fun o xs h => (b c).2 o xs ((a c).2 o xs h)⟩
theorem SameT.lst {H : Hp} {p : Addr} {xs : List V} {o : HO} (h : H p = some (.lst xs)) : SameT H (upd H p o) := fun b => by
  refine ⟨fun ys e => ?_, fun o' ys e => ?_⟩
  · have : b ≠ p := fun z => by rw [z, h] at e; cases e
    rw [upd_ne this]; exact e
  · have : b ≠ p := fun z => by rw [z, h] at e; cases e
    rw [upd_ne this]; exact e
theorem SameT.sq {K : PySem.W.Frag} {H H' : Hp} {a : Addr} {xs : List V} (e : SameT H H') (h : SqT K H a xs) : SqT K H' a xs := by
  rcases h with (h | ⟨o, h⟩) | h
  · exact .inl (.inl ((e _).1 _ h))
  · exact .inl (.inr ⟨o, (e _).2 _ _ h⟩)
  · exact .inr h
mutual
theorem Dt.keep {K : PySem.W.Frag} {H H' : Hp} (e : SameT H H') : ∀ (d : PyData) (v : V), Dt K H v d → Dt K H' v d
  | .none, _, h => by cases h; exact .non
  | .bool b, _, h => by cases h; exact .bl b
  | .int i, _, h => by cases h; exact .int i
  | .str x, _, h => by cases h; exact .str x
  | .list ds, _, h => by cases h
  | .tuple ds, _, h => by
    cases h with
    | tup hs ha => exact .tup (e.sq hs) (DtAll.keep e ds _ ha)
  | .dict _, _, h => by cases h
theorem DtAll.keep {K : PySem.W.Frag} {H H' : Hp} (e : SameT H H') : ∀ (ds : List PyData) (vs : List V), DtAll K H vs ds → DtAll K H' vs ds
  | [], _, h => by cases h; exact .nil
  | d :: ds, _, h => by
    cases h with
    | cons h1 h2 => exact .cons (Dt.keep e d _ h1) (DtAll.keep e ds _ h2)
end
mutual
theorem Dt.dp {K : PySem.W.Frag} {H : Hp} : ∀ (d : PyData) (v : V), Dt K H v d → Dp K H v d
  | .none, _, h => by cases h; exact .non
  | .bool b, _, h => by cases h; exact .bl b
  | .int i, _, h => by cases h; exact .int i
  | .str x, _, h => by cases h; exact .str x
  | .list ds, _, h => by cases h
  | .tuple ds, _, h => by
    cases h with
    | tup hs ha => exact .tup hs (DtAll.dp ds _ ha)
  | .dict _, _, h => by cases h
theorem DtAll.dp {K : PySem.W.Frag} {H : Hp} : ∀ (ds : List PyData) (vs : List V), DtAll K H vs ds → DpAll K H vs ds
  | [], _, h => by cases h; exact .nil
  | d :: ds, _, h => by
    cases h with
    | cons h1 h2 => exact .cons (Dt.dp d _ h1) (DtAll.dp ds _ h2)
end
section
variable {K : PySem.W.Frag} {H H' : Hp}
theorem Dt.k {v : V} {d : PyData} (h : Dt K H v d) (e : SameT H H') : Dt K H' v d := Dt.keep e d v h
theorem DtAll.k {vs : List V} {ds : List PyData} (h : DtAll K H vs ds) (e : SameT H H') : DtAll K H' vs ds := DtAll.keep e ds vs h
theorem DtAll.len : ∀ {vs : List V} {ds : List PyData}, DtAll K H vs ds → vs.length = ds.length
  | _, _, .nil => rfl
  | _, _, .cons _ t => congrArg (· + 1) (DtAll.len t)
theorem DtAll.get : ∀ {vs : List V} {ds : List PyData} {i : Nat} {d : PyData}, DtAll K H vs ds → ds[i]? = some d → ∃ v, vs[i]? = some v ∧ Dt K H v d
  | _, _, _, _, .nil, e => by simp at e
  | _, _, 0, _, .cons h _, e => by simp at e; subst e; exact ⟨_, rfl, h⟩
  | _, _, i + 1, d, .cons _ t, e => by
    obtain ⟨v, h1, h2⟩ := DtAll.get (i := i) (d := d) t (by simpa using e)
    exact ⟨v, by simpa using h1, h2⟩
theorem DtAll.map {α : Type} {f : α → V} {g : α → PyData} (h : ∀ x, Dt K H (f x) (g x)) : ∀ xs : List α, DtAll K H (xs.map f) (xs.map g)
  | [] => .nil
  | x :: xs => .cons (h x) (DtAll.map h xs)
theorem DtAll.app : ∀ {vs ws : List V} {ds es : List PyData}, DtAll K H vs ds → DtAll K H ws es → DtAll K H (vs ++ ws) (ds ++ es)
  | _, _, _, _, .nil, s => s
  | _, _, _, _, .cons h t, s => .cons h (DtAll.app t s)
theorem DtAll.snoc {vs : List V} {ds : List PyData} {v : V} {d : PyData} (a : DtAll K H vs ds) (b : Dt K H v d) : DtAll K H (vs ++ [v]) (ds ++ [d]) := a.app (.cons b .nil)
theorem Dt.tupE {v : V} {ds : List PyData} (h : Dt K H v (.tuple ds)) : ∃ a xs, v = .ref a ∧ SqT K H a xs ∧ DtAll K H xs ds := by
  cases h with
  | tup hs ha => exact ⟨_, _, rfl, hs, ha⟩
theorem Dt.intE {v : V} {i : Int} (h : Dt K H v (.int i)) : v = .int i := by cases h; rfl
theorem DtAll.ints : ∀ {ns : List Int} {vs : List V}, DtAll K H vs (ns.map .int) → vs = ns.map V.int
  | [], _, h => by cases h; rfl
  | n :: ns, _, h => by
    cases h with
    | cons h1 h2 => rw [Dt.intE h1, DtAll.ints h2]; rfl
theorem DtAll.ofInts (ns : List Int) : DtAll K H (ns.map V.int) (ns.map .int) := DtAll.map (fun i => .int i) ns
/-- an item of a tuple of data -/
theorem Dt.item {v : V} {ds : List PyData} {i : Nat} {d : PyData} (h : Dt K H v (.tuple ds)) (e : ds[i]? = some d) : ∃ a xs w, v = .ref a ∧ SqT K H a xs ∧ xs[i]? = some w ∧ Dt K H w d := by
  obtain ⟨a, xs, rfl, hs, ha⟩ := h.tupE
  obtain ⟨w, h1, h2⟩ := ha.get e
  exact ⟨a, xs, w, rfl, hs, h1, h2⟩
end
/-! ### machines -/
structure Mac where
  steps : List (List Nat)
  start : Nat
  good : List Nat
def nD (n : Nat) : PyData := .int (n : Int)
def rowD (r : List Nat) : PyData := .tuple (r.map nD)
def macD (M : Mac) : PyData := .tuple [.tuple (M.steps.map rowD), nD M.start, rowD M.good]
structure MacOk (M : Mac) (n m : Nat) : Prop where
  len : M.steps.length = n
  row : ∀ r ∈ M.steps, r.length = m ∧ ∀ s ∈ r, s < n
  start : M.start < n
  good : ∀ s ∈ M.good, s < n
  asc : M.good.Pairwise (· < ·)
def iV (n : Nat) : V := .int (n : Int)
def spMachine (K : PySem.W.Frag) : Sp := fun vs H Q _ => ∃ (c : Int) (n m : Nat), vs = [.int c, .int (n : Int), .int (m : Int)] ∧ 1 ≤ n ∧ n ≤ 10 ∧ 1 ≤ m ∧ m ≤ 4 ∧
  ∀ (H' : Hp) (v : V) (M : Mac), Same H H' → Dt K H' v (macD M) → MacOk M n m → Q v H'
theorem cut_drop (xs : List V) (k : Nat) : cutV xs (some (k : Int)) none = xs.drop k := by
  unfold cutV
  rw [HT.sIx_nat, HT.sIx_none]
  by_cases h : k ≤ xs.length
  · rw [Nat.min_eq_left h]
    refine List.take_of_length_le ?_
    rw [List.length_drop]
    exact Nat.le_refl _
  · rw [Nat.min_eq_right (by omega), List.drop_eq_nil_of_le (Nat.le_refl _), List.drop_eq_nil_of_le (by omega), List.take_nil]
theorem menu8 {j : Nat} (h : j < 8) : ∃ d : Int, [V.int 1, V.int 2, V.int 4, V.int 8, V.int 16, V.int 32, V.int 64, V.int 125][j]? = some (.int d) ∧ 0 < d ∧ d < 1073741824 := by
  match j, h with
  | 0, _ => exact ⟨1, rfl, by decide, by decide⟩
  | 1, _ => exact ⟨2, rfl, by decide, by decide⟩
  | 2, _ => exact ⟨4, rfl, by decide, by decide⟩
  | 3, _ => exact ⟨8, rfl, by decide, by decide⟩
  | 4, _ => exact ⟨16, rfl, by decide, by decide⟩
  | 5, _ => exact ⟨32, rfl, by decide, by decide⟩
  | 6, _ => exact ⟨64, rfl, by decide, by decide⟩
  | 7, _ => exact ⟨125, rfl, by decide, by decide⟩
theorem nat_of {z c : Int} (h0 : 0 ≤ z) (h1 : z < c) : ∃ k : Nat, z = (k : Int) ∧ (k : Int) < c := ⟨z.toNat, by omega, by omega⟩
theorem ints_nat (r : List Nat) : (r.map iV) = (r.map fun n : Nat => (n : Int)).map V.int := by rw [List.map_map]; rfl
theorem ofNats {K : PySem.W.Frag} {H : Hp} (r : List Nat) : DtAll K H (r.map iV) (r.map nD) := DtAll.map (α := Nat) (f := iV) (g := nD) (fun n => .int (n : Int)) r
theorem nats_of {ms : List Int} {c : Int} (h : ∀ z ∈ ms, 0 ≤ z ∧ z < c) : ∃ r : List Nat, ms = r.map (fun n : Nat => (n : Int)) ∧ ∀ s ∈ r, (s : Int) < c := by
  refine ⟨ms.map Int.toNat, ?_, fun s hs => ?_⟩
  · rw [List.map_map]
    refine ((List.map_id ms).symm.trans (List.map_congr_left fun z hz => ?_))
    have := (h z hz).1
    show z = ((z.toNat : Nat) : Int)
    omega
  · obtain ⟨z, hz, rfl⟩ := List.mem_map.mp hs
    have := h z hz
    omega
/-! ### where words lead -/
def stepM (M : Mac) (s c : Nat) : Nat := (M.steps.getD s []).getD (c - 97) 0
def leadM (M : Mac) (s : Nat) (w : List Nat) : Nat := w.foldl (stepM M) s
def accM (M : Mac) (w : List Nat) : Bool := decide (leadM M M.start w ∈ M.good)
/-- codes of the first m letters -/
def isW (m : Nat) (w : List Nat) : Prop := ∀ c ∈ w, 97 ≤ c ∧ c < 97 + m
theorem isW.app {m : Nat} {u w : List Nat} (a : isW m u) (b : isW m w) : isW m (u ++ w) := fun c hc => (List.mem_append.mp hc).elim (a c) (b c)
theorem isW.take {m : Nat} {w : List Nat} (a : isW m w) (i : Nat) : isW m (w.take i) := fun c hc => a c (List.mem_of_mem_take hc)
theorem isW.rep {m : Nat} {w : List Nat} (a : isW m w) (k : Nat) : isW m (List.replicate k w).flatten := fun c hc => by
  obtain ⟨l, hl, hc⟩ := List.mem_flatten.mp hc
  rw [(List.mem_replicate.mp hl).2] at hc
  exact a c hc
theorem MacOk.rowAt {M : Mac} {n m s : Nat} (h : MacOk M n m) (hs : s < n) : (M.steps.getD s []).length = m ∧ ∀ t ∈ M.steps.getD s [], t < n := by
  have hs' : s < M.steps.length := by rw [h.len]; exact hs
  rw [List.getD_eq_getElem?_getD, List.getElem?_eq_getElem hs']
  exact h.row _ (List.getElem_mem hs')
theorem getD_mem {l : List Nat} {j : Nat} (h : j < l.length) : l.getD j 0 ∈ l := by
  rw [List.getD_eq_getElem?_getD, List.getElem?_eq_getElem h]
  exact List.getElem_mem h
theorem MacOk.step {M : Mac} {n m s c : Nat} (h : MacOk M n m) (hs : s < n) (h0 : 97 ≤ c) (h1 : c < 97 + m) : stepM M s c < n := by
  obtain ⟨hl, hr⟩ := h.rowAt hs
  exact hr _ (getD_mem (by rw [hl]; omega))
theorem leadM_lt {M : Mac} {n m : Nat} (h : MacOk M n m) : ∀ (w : List Nat) (s : Nat), s < n → isW m w → leadM M s w < n
  | [], s, hs, _ => hs
  | c :: w, s, hs, hw => leadM_lt h w _ (h.step hs (hw c List.mem_cons_self).1 (hw c List.mem_cons_self).2) fun d hd => hw d (List.mem_cons_of_mem _ hd)
theorem leadM_snoc (M : Mac) (s : Nat) (w : List Nat) (c : Nat) : leadM M s (w ++ [c]) = stepM M (leadM M s w) c := by
  unfold leadM
  rw [List.foldl_append]
  rfl
section
variable {K : PySem.W.Frag} {H : Hp}
theorem rowE {v : V} {r : List Nat} (h : Dt K H v (rowD r)) : ∃ p, v = .ref p ∧ SqT K H p (r.map iV) := by
  obtain ⟨p, xs, rfl, hs, ha⟩ := h.tupE
  refine ⟨p, rfl, ?_⟩
  have e : r.map nD = (r.map fun n : Nat => (n : Int)).map PyData.int := by rw [List.map_map]; rfl
  rw [e] at ha
  rw [ints_nat, ← ha.ints]
  exact hs
theorem macE {v : V} {M : Mac} (h : Dt K H v (macD M)) : ∃ a st gd vs, v = .ref a ∧ SqT K H a [.ref st, iV M.start, .ref gd] ∧ SqT K H st vs ∧ DtAll K H vs (M.steps.map rowD) ∧ SqT K H gd (M.good.map iV) := by
  obtain ⟨a, xs, rfl, hs, ha⟩ := h.tupE
  cases ha with
  | cons h1 t1 =>
  cases t1 with
  | cons h2 t2 =>
  cases t2 with
  | cons h3 t3 =>
  cases t3
  obtain ⟨st, vs, rfl, hst, hvs⟩ := h1.tupE
  obtain ⟨gd, rfl, hg⟩ := rowE h3
  have e := Dt.intE h2
  subst e
  exact ⟨a, st, gd, vs, rfl, hs, hst, hvs, hg⟩
theorem rowsE {vs : List V} {M : Mac} {s : Nat} (h : DtAll K H vs (M.steps.map rowD)) (hs : s < M.steps.length) : ∃ p, vs[s]? = some (.ref p) ∧ SqT K H p ((M.steps.getD s []).map iV) := by
  obtain ⟨w, h1, h2⟩ := h.get (i := s) (d := rowD M.steps[s]) (by rw [List.getElem?_map, List.getElem?_eq_getElem hs]; rfl)
  obtain ⟨p, rfl, hp⟩ := rowE h2
  refine ⟨p, h1, ?_⟩
  rw [List.getD_eq_getElem?_getD, List.getElem?_eq_getElem hs]
  exact hp
theorem at_nat {r : List Nat} {z : Int} {j : Nat} (e : z = (j : Int)) (h : j < r.length) : atI (r.map iV) z = some (iV (r.getD j 0)) := by
  refine at_of e ?_
  rw [List.getElem?_map, List.getD_eq_getElem?_getD, List.getElem?_eq_getElem h]
  rfl
end
theorem let_ix {c m : Nat} (h0 : 97 ≤ c) (h1 : c < 97 + m) (hm : m ≤ 4) : [97, 98, 99, 100][c - 97]? = some c := by
  have h : c = 97 ∨ c = 98 ∨ c = 99 ∨ c = 100 := by omega
  rcases h with rfl | rfl | rfl | rfl <;> rfl
theorem inV_nat (k : Nat) (g : List Nat) : inV (iV k) (g.map iV) = decide (k ∈ g) := by
  unfold inV
  rw [List.any_map]
  by_cases h : k ∈ g
  · rw [decide_eq_true h]
    exact List.any_eq_true.mpr ⟨k, h, by show ((k : Int) == (k : Int)) = true; exact beq_self_eq_true _⟩
  · rw [decide_eq_false h]
    refine List.any_eq_false.mpr fun y hy e => h ?_
    have e2 : ((y : Int) == (k : Int)) = true := e
    have e3 : (y : Int) = (k : Int) := eq_of_beq e2
    have : y = k := by omega
    rw [← this]; exact hy
theorem flat_nats (g : List Nat) : (g.map iV).all flatV = true := by
  refine List.all_eq_true.mpr fun x hx => ?_
  obtain ⟨n, _, rfl⟩ := List.mem_map.mp hx
  rfl
def spLead (K : PySem.W.Frag) : Sp := fun vs H Q _ => ∃ (v : V) (M : Mac) (n m s : Nat) (w : List Nat), vs = [v, iV s, sV w] ∧ Dt K H v (macD M) ∧ MacOk M n m ∧ m ≤ 4 ∧ s < n ∧ isW m w ∧ Q (iV (leadM M s w)) H
def spAcc (K : PySem.W.Frag) : Sp := fun vs H Q _ => ∃ (v : V) (M : Mac) (n m : Nat) (w : List Nat), vs = [v, sV w] ∧ Dt K H v (macD M) ∧ MacOk M n m ∧ m ≤ 4 ∧ isW m w ∧ Q (.bl (accM M w)) H
def abcdG (m : Nat) : List Nat := List.take m [97, 98, 99, 100]
theorem abcdG_len {m : Nat} (h : m ≤ 4) : (abcdG m).length = m := by
  unfold abcdG
  rw [List.length_take]
  exact Nat.min_eq_left h
def spLetters (K : PySem.W.Frag) : Sp := fun vs H Q _ => ∃ (v : V) (M : Mac) (n m : Nat), vs = [v] ∧ Dt K H v (macD M) ∧ MacOk M n m ∧ 1 ≤ n ∧ m ≤ 4 ∧ Q (sV (abcdG m)) H
def spWord (K : PySem.W.Frag) : Sp := fun vs H Q _ => ∃ (c : Int) (m : Nat), vs = [.int c, .int (m : Int)] ∧ 1 ≤ m ∧ m ≤ 4 ∧
  ∀ (H' : Hp) (w : List Nat), Same H H' → w.length ≤ 14 → isW m w → Q (sV w) H'
theorem foldl_signs : ∀ (cs : List Nat) (acc : Array Nat), (cs.map fun c => (⟨#[c]⟩ : Str)).foldl (fun acc p => acc ++ (⟨#[]⟩ : Str).cps ++ p.cps) acc = acc ++ cs.toArray
  | [], acc => by simp
  | c :: cs, acc => by
    rw [List.map_cons, List.foldl_cons, foldl_signs cs]
    apply Array.ext'
    simp
theorem join_signs (cs : List Nat) : Txt.join (Str.ofString "") (cs.map fun c => (⟨#[c]⟩ : Str)) = ⟨cs.toArray⟩ := by
  have e0 : Str.ofString "" = (⟨#[]⟩ : Str) := by decide +kernel
  rw [e0]
  cases cs with
  | nil => rfl
  | cons c cs =>
    show (⟨((cs.map fun c => (⟨#[c]⟩ : Str)).foldl (fun acc p => acc ++ (⟨#[]⟩ : Str).cps ++ p.cps) #[c])⟩ : Str) = ⟨(c :: cs).toArray⟩
    rw [foldl_signs]
    congr 1
    apply Array.ext'
    simp
theorem cutV_map {α : Type} (f : α → V) (xs : List α) (lo hi : Option Int) : ∃ ys : List α, cutV (xs.map f) lo hi = ys.map f ∧ ys.length ≤ xs.length ∧ ∀ y ∈ ys, y ∈ xs := by
  refine ⟨(xs.drop (HT.sIx (xs.map f).length 0 lo)).take (HT.sIx (xs.map f).length (xs.map f).length hi - HT.sIx (xs.map f).length 0 lo), ?_, ?_, fun y hy => List.mem_of_mem_drop (List.mem_of_mem_take hy)⟩
  · unfold cutV
    rw [List.map_take, List.map_drop]
  · rw [List.length_take, List.length_drop]
    omega
theorem r_in {K : PySem.W.Frag} {H : Hp} {Q : VK} {k : Nat} {g : List Nat} {p : Addr} (h : SqT K H p (g.map iV)) (q : Q (.bl (decide (k ∈ g))) H) : rIn K false (iV k) (.ref p) H Q := ⟨p, _, rfl, .inr h, rfl, flat_nats g, by rw [← inV_nat] at q; exact q⟩
section
variable {σ : L2.St} {H : Hp} {Q : VK} {K : PySem.W.Frag} {ta tb tc : TE}
def rInSg : R2 := fun x y H Q => ∃ (c : Nat) (z : Str), x = .str ⟨#[c]⟩ ∧ y = .str z ∧ Q (.bl (decide (c ∈ z.cps.toList))) H
def rNotInSg : R2 := fun x y H Q => ∃ (c : Nat) (z : Str), x = .str ⟨#[c]⟩ ∧ y = .str z ∧ Q (.bl (!decide (c ∈ z.cps.toList))) H
theorem op_inSg {X : Cx} : OpR X (compareOp .In) rInSg := op_in_sign
theorem op_notInSg {X : Cx} : OpR X (compareOp .NotIn) rNotInSg := op_notIn_sign
theorem r_inSg {c : Nat} {l : List Nat} (q : Q (.bl (decide (c ∈ l))) H) : rInSg (.str ⟨#[c]⟩) (.str ⟨l.toArray⟩) H Q := ⟨c, _, rfl, rfl, q⟩
theorem r_notInSg {c : Nat} {l : List Nat} (q : Q (.bl (!decide (c ∈ l))) H) : rNotInSg (.str ⟨#[c]⟩) (.str ⟨l.toArray⟩) H Q := ⟨c, _, rfl, rfl, q⟩
theorem r_chain {r r' : R2} (h : ta σ H fun x H1 => tb σ H1 fun y H2 => r x y H2 fun z H3 => ∃ k, z = .bl k ∧ if k = true then tc σ H3 fun w' H4 => r' y w' H4 Q else Q (.bl false) H3) : tChain r r' ta tb tc σ H Q := h
theorem r_slT {p : Addr} {xs : List V} {lo hi : Option Int} (h : SqT K H p xs) (c : ¬ (HT.sIx xs.length 0 lo = 0 ∧ HT.sIx xs.length xs.length hi = xs.length)) (q : ∀ l, H l = none → Q (.ref l) (upd H l (.tup (cutV xs lo hi)))) : rSlT K (.ref p) lo hi H Q := ⟨p, xs, rfl, h, c, q⟩
theorem r_any {p : Addr} {bs : List Bool} (h : SqL K H p (bs.map V.bl)) (q : Q (.bl (bs.any id)) H) : rAny K [.ref p] H Q := ⟨p, bs, rfl, h, q⟩
theorem r_eqD {x y : V} {d e : PyData} (h1 : Dp K H x d) (h2 : Dp K H y e) (s1 : SeqAt.shaped d = true) (s2 : SeqAt.shaped e = true) (q : Q (.bl (PyData.eqv d e)) H) : rEqD K x y H Q := ⟨d, e, h1, h2, s1, s2, q⟩
theorem r_neD {x y : V} {d e : PyData} (h1 : Dp K H x d) (h2 : Dp K H y e) (s1 : SeqAt.shaped d = true) (s2 : SeqAt.shaped e = true) (q : Q (.bl (!PyData.eqv d e)) H) : rNeD K x y H Q := ⟨d, e, h1, h2, s1, s2, q⟩
end
theorem lay_ints : ∀ A : List Int, PyData.canLayAll0 (A.map .int) = true
  | [] => rfl
  | a :: A => by
    have ih := lay_ints A
    simp [PyData.canLayAll0, PyData.canLay0] at ih ⊢
    exact ih
theorem eqv_ints_all : ∀ A B : List Int, PyData.eqvAll (A.map .int) (B.map .int) = decide (A = B)
  | [], [] => rfl
  | [], b :: B => rfl
  | a :: A, [] => rfl
  | a :: A, b :: B => by
    show (a == b && PyData.eqvAll (A.map .int) (B.map .int)) = _
    rw [eqv_ints_all A B]
    by_cases h : a = b
    · subst h
      by_cases h2 : A = B
      · subst h2; simp
      · simp [h2]
    · simp [h]
theorem depth_ints : ∀ A : List Int, PyData.depthAll (A.map .int) = 0
  | [] => rfl
  | a :: A => by
    have ih := depth_ints A
    show max 0 _ = 0
    rw [ih]
    rfl
theorem shaped_ints (A : List Int) : SeqAt.shaped (.list (A.map .int)) = true := by
  refine Bool.and_eq_true_iff.mpr ⟨lay_ints A, decide_eq_true ?_⟩
  show PyData.depthAll _ + 1 ≤ 64
  rw [depth_ints]
  decide
theorem eqv_lists (A B : List Int) : PyData.eqv (.list (A.map .int)) (.list (B.map .int)) = decide (A = B) := by
  rw [PyData.eqv]
  exact eqv_ints_all A B
theorem dp_ints {K : PySem.W.Frag} {H : Hp} {p : Addr} {A : List Int} (h : SqL K H p (A.map V.int)) : Dp K H (.ref p) (.list (A.map .int)) := .lst h (dpAll_map (fun i => .int i) A)
theorem cut_1 (xs : List V) : cutV xs (some 1) none = xs.drop 1 := cut_drop xs 1
theorem six_1 (n : Nat) : HT.sIx n 0 (some 1) = min 1 n := HT.sIx_nat n 0 1
/-- the ways behind a statement are joined: what holds there -/
theorem r_cutJ {t u : TS} {D : Ends} {σ : L2.St} {H : Hp} (J : L2.St → Hp → Prop) (key : ∀ σ H, J σ H → u D σ H) (h : (∀ σ H, J σ H → u D σ H) → t { D with nx := u D } σ H) : tSeq t u D σ H := h key
theorem six_m1 (n d : Nat) : HT.sIx n d (some (-1)) = n - 1 := by
  show (if (-1 : Int) < 0 then ((-1 : Int) + (n : Int)).toNat else min (-1 : Int).toNat n) = n - 1
  rw [if_pos (by decide)]
  omega
theorem cut_init (xs : List V) (y : V) : cutV (xs ++ [y]) none (some (-1)) = xs := by
  unfold cutV
  rw [HT.sIx_none, six_m1, List.length_append]
  simp
theorem cut_mid (xs : List V) (j : Nat) : (cutV xs (some (j : Int)) (some (-1))).length = xs.length - 1 - j := by
  unfold cutV
  rw [HT.sIx_nat, six_m1, List.length_take, List.length_drop]
  omega
theorem cut_to (xs : List V) (k : Nat) (h : k ≤ xs.length) : cutV xs none (some (k : Int)) = xs.take k := by
  unfold cutV
  rw [HT.sIx_none, HT.sIx_nat, Nat.min_eq_left h]
  rfl
theorem inV_int (k : Int) (g : List Int) : inV (.int k) (g.map V.int) = decide (k ∈ g) := by
  unfold inV
  rw [List.any_map]
  by_cases h : k ∈ g
  · rw [decide_eq_true h]
    exact List.any_eq_true.mpr ⟨k, h, by show (k == k) = true; exact beq_self_eq_true _⟩
  · rw [decide_eq_false h]
    refine List.any_eq_false.mpr fun y hy e => h ?_
    have e2 : (y == k) = true := e
    rw [← eq_of_beq e2]; exact hy
theorem flat_ints (g : List Int) : (g.map V.int).all flatV = true := by
  refine List.all_eq_true.mpr fun x hx => ?_
  obtain ⟨n, _, rfl⟩ := List.mem_map.mp hx
  rfl
section
variable {K : PySem.W.Frag} {H : Hp} {Q : VK} {p : Addr}
theorem r_inT {k : Int} {g : List Int} (h : SqT K H p (g.map V.int)) (q : Q (.bl (decide (k ∈ g))) H) : rIn K false (.int k) (.ref p) H Q := ⟨p, _, rfl, .inr h, rfl, flat_ints g, by rw [← inV_int] at q; exact q⟩
theorem r_inL {k : Int} {g : List Int} (h : SqL K H p (g.map V.int)) (q : Q (.bl (decide (k ∈ g))) H) : rIn K false (.int k) (.ref p) H Q := ⟨p, _, rfl, .inl h, rfl, flat_ints g, by rw [← inV_int] at q; exact q⟩
theorem mt_indexLK {X : Cx} (hK : X.K = K) : MtR X "list.index" (rIndex K) := hK ▸ mt_index
theorem r_indexL {k : Int} {g : List Int} (h : SqL K H p (g.map V.int)) (hk : k ∈ g) (q : Q (.int (g.idxOf k : Nat)) H) : rIndex K (.ref p) [.int k] H Q := by
  have hl := List.idxOf_lt_length_of_mem hk
  refine ⟨p, _, .int k, g.idxOf k, .int k, rfl, rfl, h, rfl, flat_ints g, ?_, ?_, fun m z' hm hz => ?_, q⟩
  · rw [List.getElem?_map, List.getElem?_eq_getElem hl, List.getElem_idxOf hl]
    rfl
  · show (k == k) = true
    exact beq_self_eq_true _
  · rw [List.getElem?_map] at hz
    obtain ⟨y, hy, rfl⟩ := Option.map_eq_some_iff.mp hz
    show (y == k) = false
    obtain ⟨hml, ey⟩ := List.getElem?_eq_some_iff.mp hy
    have := List.not_of_lt_findIdx (p := (· == k)) (xs := g) (i := m) hm
    rw [ey] at this
    simpa using this
theorem r_rep {l : Addr} {k : Int} {xs : List V} (h : H l = some (.lst xs)) (h0 : 0 ≤ k) (h1 : k ≤ 1000000) (hl : xs.length * k.toNat ≤ sizeLine) (q : ∀ p, H p = none → Q (.ref p) (upd H p (.lst (List.replicate k.toNat xs).flatten))) : rRep (.ref l) (.int k) H Q := ⟨l, k, xs, rfl, rfl, h, by omega, by omega, hl, q⟩
end
def sgD (c : Nat) : PyData := .str ⟨#[c]⟩
def sgV (c : Nat) : V := .str ⟨#[c]⟩
theorem lay_signs : ∀ A : List Nat, (∀ c ∈ A, c < 1000) → PyData.canLayAll0 (A.map sgD) = true
  | [], _ => rfl
  | a :: A, h => by
    have ih := lay_signs A fun c hc => h c (List.mem_cons_of_mem _ hc)
    have ha := h a List.mem_cons_self
    show (PyData.strOk ⟨#[a]⟩ && PyData.canLayAll0 (A.map sgD)) = true
    rw [ih, Bool.and_true]
    unfold PyData.strOk
    simp
    omega
theorem depth_signs : ∀ A : List Nat, PyData.depthAll (A.map sgD) = 0
  | [] => rfl
  | a :: A => by
    have ih := depth_signs A
    show max 0 _ = 0
    rw [ih]
    rfl
theorem shaped_signs {A : List Nat} (h : ∀ c ∈ A, c < 1000) : SeqAt.shaped (.list (A.map sgD)) = true := by
  refine Bool.and_eq_true_iff.mpr ⟨lay_signs A h, decide_eq_true ?_⟩
  show PyData.depthAll _ + 1 ≤ 64
  rw [depth_signs]
  decide
theorem eqv_signs_nil (A : List Nat) : PyData.eqv (.list (A.map sgD)) (.list []) = decide (A = []) := by
  rw [PyData.eqv]
  cases A <;> rfl
theorem dp_signs {K : PySem.W.Frag} {H : Hp} {p : Addr} {A : List Nat} (h : SqL K H p (A.map sgV)) : Dp K H (.ref p) (.list (A.map sgD)) := .lst h (dpAll_map (fun c => .str _) A)
end G
set_option Elab.async false
set_option linter.all false
set_option maxRecDepth 100000
set_option maxHeartbeats 4000000
namespace G
open PySem PySem.Spec PyProof.Rows L2
/-! enumerate of a tuple -/
theorem en_new (l : Addr) (items : Array Value) (n : Nat) (dct : Option Addr) (sl : Array (Option Value)) :
    Meets (Builtin.«enumerate.__new__» ⟨[.type "enumerate", .ref l], []⟩) (fun _ R s =>
      s.heap.get? l = some { cls := .type "tuple", dict := dct, data := .seq items n, slots := sl } ∧
      R (.ok (.ret (.ref (s.heap.push { cls := .type "tuple_iterator", data := .fields #[.ref l, .int 0 0] }).objs.size)))
        { s with heap := (s.heap.push { cls := .type "tuple_iterator", data := .fields #[.ref l, .int 0 0] }).push { cls := .type "enumerate", data := .fields #[.none, .bool false, .ref s.heap.objs.size, rawInt 0, .none, .none] } }) :=
  .of_wp fun prog w A R s h => by
    obtain ⟨hp, g, d, tk, os⟩ := s
    obtain ⟨hl, h⟩ := h
    have hsub := sub_enumerate
    have hT : Heap.IsTuple (Shared.heap ⟨hp, g, d, tk, os⟩) l items := ⟨_, hl, rfl, n, rfl⟩
    (wp_walk using AutoSeq1.wpAny_loadPart' hl); refine wpAny_stack_any fun st => wpAny_pure ?_; split
    · rename_i c _ _ _ _ _
      cases (c == Value.type "enumerate") <;> (wp_walk using AutoSeq1.wpAny_loadPart' hl, wpAny_pyIter_tuple hT) <;> exact ⟨_, rfl, h⟩
    · (wp_walk using AutoSeq1.wpAny_loadPart' hl, wpAny_pyIter_tuple hT); exact ⟨_, rfl, h⟩
section
variable {prog : Program} {w : World} {A : Around} {E : Value → Shared → Prop} {s : Shared}
theorem call_en {l : Addr} {items : Array Value} {Q : Value → Shared → Prop} (hL : s.heap.IsTuple l items)
    (h : ∀ h', IsEnum h' (s.heap.objs.size + 1) s.heap.objs.size 0 .none → h'.IsTupleIter s.heap.objs.size l 0 →
      h'.objs.size = s.heap.objs.size + 2 → (∀ b o, s.heap.get? b = some o → h'.get? b = some o) →
      Q (.ref (s.heap.objs.size + 1)) { s with heap := h' }) : wpAny (model prog w) A (call (.type "enumerate") [.ref l]) Q E s := by
  obtain ⟨⟨c, dct, dt, sl⟩, hl, hc, n, hd⟩ := hL
  obtain rfl : c = .type "tuple" := hc
  obtain rfl : dt = .seq items n := hd
  have hz : (s.heap.push { cls := .type "tuple_iterator", data := .fields #[.ref l, .int 0 0] }).objs.size = s.heap.objs.size + 1 := Heap.size_push ..
  have he := Heap.get?_push_size (s.heap.push { cls := .type "tuple_iterator", data := .fields #[.ref l, .int 0 0] })
    (o := { cls := .type "enumerate", data := .fields #[.none, .bool false, .ref s.heap.objs.size, rawInt 0, .none, .none] }) rfl
  rw [hz] at he
  refine callType_new F.called_enumerate (by decide) (F.typeCall_enumerate_1 _) (F.newCall_enumerate_1 _)
    (fun obj => F.args_object_init_2 obj _) F.entry_enumerate_new (en_new l items n dct sl) ⟨hl, ?_⟩
  show _ ∧ _
  rw [hz]
  refine ⟨⟨_, he, rfl⟩, h _ he ⟨{ cls := .type "tuple_iterator", data := .fields #[.ref l, .int 0 0] }, Heap.get?_push_of_some _ (Heap.get?_push_size _ rfl), rfl, rfl⟩ ?_ ?_⟩
  · rw [Heap.size_push, hz]
  · exact fun b o x => Heap.get?_push_of_some _ (Heap.get?_push_of_some _ x)
end
/-- the tuple at a: each item in a new pair -/
def ItT (K : PySem.W.Frag) (a : Addr) : It where
  go i H := ∃ (xs : List V) (x : V), SqT K H a xs ∧ xs[i]? = some x
  yld i H v H' := ∃ T x, v = .ref T ∧ H T = none ∧ H' = upd H T (.tup [.int (i : Nat), x]) ∧ ∀ xs, SqT K H a xs → xs[i]? = some x
  stop i H := ∃ xs : List V, SqT K H a xs ∧ xs.length = i
theorem turn_T {P : Program} {w : World} {K : PySem.W.Frag} {elts : List Expr} {kk : Nat} {tpos : Pos} (a e it : Addr) :
    Turn P w K (.Tuple elts kk tpos) (ItT K a) [e, it] e (fun i h => (∃ old, IsEnum h e it ((i : Nat) : Int) old) ∧ h.IsTupleIter it a i ∧ e ≠ it) where
  mem := List.mem_cons_self
  obj := by
    rintro i h ⟨⟨old, he⟩, ⟨o, ho, hc, hd⟩, _⟩ b hb
    rcases List.mem_cons.mp hb with rfl | hb
    · exact ⟨_, he, fun v q => nomatch q⟩
    · rw [List.mem_singleton.mp hb]
      exact ⟨o, ho, fun v q => by rw [hd] at q; cases q⟩
  keep := by
    rintro i h h' ⟨⟨old, he⟩, hi, hne⟩ k
    exact ⟨⟨old, k e List.mem_cons_self _ he⟩, hi.at fun o q => k it (List.mem_cons_of_mem _ List.mem_cons_self) o q, hne⟩
  item := by
    rintro X rfl rfl rfl hc i pins s σ H E I hf ⟨⟨old, he⟩, hit, hne⟩ ⟨xs, x, hq, hx⟩
    obtain ⟨its, rv, p, hz⟩ := I.tuple hq
    obtain ⟨u, hu, ru⟩ := rv.get hx
    have hel : e < s.heap.objs.size := Heap.lt_size he
    have hil : it < s.heap.objs.size := by obtain ⟨_, q, _⟩ := hit; exact Heap.lt_size q
    have hae : a ≠ it := fun z => by
      obtain ⟨oi, hoi, hci, _⟩ := hit
      obtain ⟨oa, hoa, hca, _⟩ := p
      rw [z, hoi] at hoa
      cases hoa
      rw [hci] at hca
      injection hca with hca
      exact absurd hca (by decide)
    have hae2 : e ∉ [it, a] := fun z => by
      rcases List.mem_cons.mp z with z | z
      · exact hne z
      · have z := List.mem_singleton.mp z
        obtain ⟨oa, hoa, hca, _⟩ := p
        rw [← z, he] at hoa
        cases hoa
        injection hca with hca
        exact absurd hca (by decide)
    have hh : X.A.in1.handled = none := I.ok.hd hc
    have hi : i < its.toArray.size := by
      have := (List.getElem?_eq_some_iff.mp hu).1
      simpa using this
    refine wpAny_pyNext_enum_itemD (Draws.tuple hh it a hae its.toArray) he ⟨hit, show s.heap.IsTuple a its.toArray from p⟩ hi hne hae2 ?_
    intro x2 h' tk hx2 ho hst hT hsz hk
    have ex : x2 = u := by
      have h3 : its[i]? = some x2 := by simpa using hx2
      rw [hu] at h3
      exact (Option.some.inj h3).symm
    subst ex
    refine ⟨_, rfl, wpAny_letOwnedTupleGo_enum (s := { s with heap := h', toks := tk + 1 }) ho fun h'' he' sb => ?_⟩
    have hT2 : h''.get? s.heap.objs.size = some { cls := .type "tuple", data := .seq #[.int i tk, x2] } := (sb.2 _ (Nat.ne_of_gt hel)).trans hT
    have new : ObjOk X.prog X.w (upd H s.heap.objs.size (.tup [.int (i : Nat), x])) h'' s.heap.objs.size (.tup [.int (i : Nat), x]) := by
      refine ⟨by show 2 ≤ sizeLine; decide, [.int i tk, x2], .cons ⟨_, rfl⟩ (.cons ru .nil), ⟨_, hT2, rfl, _, rfl⟩⟩
    have stays : ∀ b ob, b ∉ [e, it] → s.heap.get? b = some ob → h''.get? b = some ob := fun b ob hb q => by
      have h1 : b ≠ e := fun z => hb (by rw [z]; exact List.mem_cons_self)
      have h2 : b ≠ it := fun z => hb (by rw [z]; exact List.mem_cons_of_mem _ List.mem_cons_self)
      exact (sb.2 b h1).trans (hk b ob h1 h2 q)
    have I1 := I.turnedNew (t' := tk + 1) (ch := [e, it]) stays hf (Nat.le_refl _) new
    have e1 : ((i + 1 : Nat) : Int) = (i : Int) + 1 := Int.natCast_succ i
    refine ⟨.ref s.heap.objs.size, _, I1, rfl, ⟨_, x, rfl, I.hok.fresh (Nat.le_refl _), rfl, fun ys hy => ?_⟩, ⟨⟨x2, ?_⟩, ?_, hne⟩, fun b hb => ?_⟩
    · rw [I.tuple_inj hy hq]
      exact hx
    · rw [e1]
      exact he'
    · exact hst.1.at fun o q => (sb.2 it (Ne.symm hne)).trans q
    · have hb' : b < s.heap.objs.size := by
        rcases List.mem_cons.mp hb with z | z
        · rw [z]; exact hel
        · rw [List.mem_singleton.mp z]; exact hil
      rw [upd_ne (Nat.ne_of_lt hb')]
      exact (hf b hb).1
  done := by
    rintro X rfl rfl rfl hc i pins s σ H E I hf ⟨⟨old, he⟩, hit, hne⟩ ⟨xs, hq, hx⟩
    obtain ⟨its, rv, p, hz⟩ := I.tuple hq
    obtain ⟨f0, f1, f2, f3, f4, f5⟩ := hf it (List.mem_cons_of_mem _ List.mem_cons_self)
    have hl := rv.length
    have hh : X.A.in1.handled = none := I.ok.hd hc
    have hae : a ≠ it := fun z => by
      obtain ⟨oi, hoi, hci, _⟩ := hit
      obtain ⟨oa, hoa, hca, _⟩ := p
      rw [z, hoi] at hoa
      cases hoa
      rw [hci] at hca
      injection hca with hca
      exact absurd hca (by decide)
    have ei : i = its.toArray.size := by rw [List.size_toArray, ← hl, hx]
    rw [ei] at hit
    exact wpAny_pyNext_enum_endD (Draws.tuple hh it a hae its.toArray) he ⟨hit, show s.heap.IsTuple a its.toArray from p⟩ fun h' eb =>
      ⟨rfl, I.turned (t' := s.toks) (fun b o hb q => eb b o hb q) f0 f1 f3 f4 f5⟩
  self := fun A i s Q E st h => by
    obtain ⟨⟨_, he⟩, _⟩ := st
    exact wpAny_pyIter_enum he h
def iEnumT (K : PySem.W.Frag) (ta : TA) : TI := fun σ H R => ta σ H fun vs H1 => ∃ a xs, vs = [.ref a] ∧ SqT K H1 a xs ∧ R (ItT K a) H1
theorem pi_enumT {X : Cx} {K : PySem.W.Frag} {e : Expr} {ta : TA} {p pos tpos : Pos} {elts : List Expr} {kk : Nat} (hK : X.K = K) (hg : Gl X "enumerate") (hm : X.mg "enumerate" = none) (ha : PA X [e] ta)
    (hs : starEach [e] X.env = [(false, eval e X.env)] := by rfl) : PI X (.Tuple elts kk tpos) (.Call (.Name "enumerate" p) [e] [] pos) (iEnumT K ta) := by
  subst hK
  constructor
  intro pins s σ H R I h
  refine Call_ (ld_blt I hg hm boot_enumerate (callWith_type1 (thn (ha.run pos pins s σ H _ I h) ?_) hs rfl))
  rintro us s1 ⟨vs, H1, I1, r1, a, xs, rfl, hq, q⟩
  obtain ⟨u, rfl, ru⟩ := vals1 r1
  cases ru
  obtain ⟨its, rv, p', hz⟩ := I1.tuple hq
  refine call_en (show s1.heap.IsTuple a its.toArray from p') fun h' he hit hsz hk => wpAny_pyIter_enum he ?_
  have I2 : Inv X pins σ H1 { s1 with heap := h' } := I1.kept (t' := s1.toks) hk
  refine ⟨_, [s1.heap.objs.size + 1, s1.heap.objs.size], _, _, H1, rfl, I2, turn_T a (s1.heap.objs.size + 1) s1.heap.objs.size, ⟨⟨.none, he⟩, hit, Nat.succ_ne_self _⟩, fun b hb => ?_, q⟩
  have hle : s1.heap.objs.size ≤ b := by
    rcases List.mem_cons.mp hb with z | z
    · rw [z]; exact Nat.le_add_right _ _
    · rw [List.mem_singleton.mp z]; exact Nat.le_refl _
  exact I1.fpOk hle (I1.hok.fresh hle)
/-- the loop over such pairs, i and x given to two names -/
theorem for_enT {K : PySem.W.Frag} {a : Addr} {xs : List V} {g : TG} {tb : TS} {D : Ends} {σ : L2.St} {H : Hp} (Pv : Nat → L2.St → Hp → Prop) (h0 : Pv 0 σ H) (hl : ∀ i σ H, i ≤ xs.length → Pv i σ H → SqT K H a xs)
    (hs : ∀ i x σ H T, xs[i]? = some x → Pv i σ H → H T = none → g (.ref T) σ (upd H T (.tup [.int (i : Nat), x])) fun σ2 H2 => tb { D with nx := Pv (i + 1), ct := Pv (i + 1), bk := D.nx } σ2 H2) (hd : ∀ σ H, Pv xs.length σ H → D.nx σ H) :
    ∃ W : Nat → Nat → L2.St → Hp → Prop, (∃ m, W 0 m σ H) ∧ ∀ i m σ H, W i m σ H → ((ItT K a).stop i H ∧ D.nx σ H) ∨
      ((ItT K a).go i H ∧ ∃ N : L2.St → Hp → Prop, (∀ σ' H', N σ' H' → ∃ m', m' < m ∧ W (i + 1) m' σ' H') ∧ ∀ x H', (ItT K a).yld i H x H' → g x σ H' fun σ2 H2 => tb { D with nx := N, ct := N, bk := D.nx } σ2 H2) := by
  refine ⟨fun i m σ H => m + i = xs.length ∧ Pv i σ H, ⟨xs.length, rfl, h0⟩, ?_⟩
  rintro i m σ H ⟨hm, p⟩
  have q := hl i σ H (by omega) p
  by_cases hlt : i < xs.length
  · refine .inr ⟨⟨xs, xs[i], q, List.getElem?_eq_getElem hlt⟩, Pv (i + 1), fun σ' H' p' => ⟨m - 1, by omega, by omega, p'⟩, ?_⟩
    rintro v H' ⟨T, x, rfl, hT, rfl, hx⟩
    exact hs i x σ H T (hx xs q) p hT
  · have e : i = xs.length := by omega
    subst e
    exact .inl ⟨⟨xs, q, rfl⟩, hd σ H p⟩
end G
set_option Elab.async false
set_option linter.all false
set_option maxRecDepth 100000
set_option maxHeartbeats 4000000
namespace G
open PySem PySem.Spec PyProof.Rows L2
section
variable {X : Cx} {H : Hp} {Q : VK}
def rLcm : List V → Hp → VK → Prop := fun xs H Q => ∃ a b : Nat, xs = [.int (a : Int), .int (b : Int)] ∧ a < 2 ^ 64 ∧ b < 2 ^ 64 ∧ Q (.int ((Nat.lcm a b : Nat) : Int)) H
theorem call_lcm : CallR X (.builtin "math.lcm") rLcm := by
  intro pins s σ H vs us Q I r h
  obtain ⟨a, b, rfl, ha, hb, q⟩ := h
  obtain ⟨t, u, rfl⟩ := Vals.int2 r
  exact PySem.W.mc_lcm (by rw [Int.natAbs_natCast]; exact ha) (by rw [Int.natAbs_natCast]; exact hb) fun _ => ⟨.int _, H, I.tok _, ⟨_, rfl⟩, q⟩
end
/-! ### permutations -/
structure Perm (n : Nat) (p : List Nat) : Prop where
  len : p.length = n
  lt : ∀ x ∈ p, x < n
  nd : p.Nodup
def at0 (p : List Nat) (i : Nat) : Nat := p.getD i 0
def thenN (p q : List Nat) : List Nat := p.map (at0 q)
def idN (n : Nat) : List Nat := List.range n
def itr (p : List Nat) : Nat → Nat → Nat
  | 0, i => i
  | k + 1, i => at0 p (itr p k i)
def pw (p : List Nat) : Nat → List Nat
  | 0 => idN p.length
  | k + 1 => thenN (pw p k) p
theorem at0_some {p : List Nat} {i : Nat} (h : i < p.length) : p[i]? = some (at0 p i) := by
  unfold at0
  rw [List.getD_eq_getElem?_getD, List.getElem?_eq_getElem h]; rfl
theorem Perm.at_lt {n i : Nat} {p : List Nat} (h : Perm n p) (hi : i < n) : at0 p i < n := h.lt _ (List.mem_of_getElem? (at0_some (by rw [h.len]; exact hi)))
theorem Perm.inj {n i j : Nat} {p : List Nat} (h : Perm n p) (hi : i < n) (hj : j < n) (e : at0 p i = at0 p j) : i = j := by
  have h1 := at0_some (p := p) (i := i) (by rw [h.len]; exact hi)
  have h2 := at0_some (p := p) (i := j) (by rw [h.len]; exact hj)
  rw [e] at h1
  exact nd_ix h.nd h1 h2
theorem Perm.itr_lt {n : Nat} {p : List Nat} (h : Perm n p) : ∀ k i, i < n → itr p k i < n
  | 0, _, hi => hi
  | k + 1, i, hi => h.at_lt (Perm.itr_lt h k i hi)
theorem itr_add (p : List Nat) (a : Nat) : ∀ b i, itr p (a + b) i = itr p b (itr p a i)
  | 0, _ => rfl
  | b + 1, i => by
    show at0 p (itr p (a + b) i) = at0 p (itr p b (itr p a i))
    rw [itr_add p a b i]
theorem Perm.itr_inj {n : Nat} {p : List Nat} (h : Perm n p) : ∀ k i j, i < n → j < n → itr p k i = itr p k j → i = j
  | 0, _, _, _, _, e => e
  | k + 1, i, j, hi, hj, e => Perm.itr_inj h k i j hi hj (h.inj (h.itr_lt k i hi) (h.itr_lt k j hj) e)
theorem pw_len (p : List Nat) : ∀ k, (pw p k).length = p.length
  | 0 => List.length_range
  | k + 1 => by
    show ((pw p k).map (at0 p)).length = _
    rw [List.length_map, pw_len p k]
theorem pw_at (p : List Nat) {i : Nat} (hi : i < p.length) : ∀ k, (pw p k)[i]? = some (itr p k i)
  | 0 => List.getElem?_range hi
  | k + 1 => by
    show ((pw p k).map (at0 p))[i]? = _
    rw [List.getElem?_map, pw_at p hi k]
    rfl
theorem pw_id (p : List Nat) (k : Nat) : pw p k = idN p.length ↔ ∀ i, i < p.length → itr p k i = i := by
  constructor
  · intro e i hi
    have h1 := pw_at p hi k
    rw [e] at h1
    have h2 : (idN p.length)[i]? = some i := List.getElem?_range hi
    rw [h1] at h2
    exact Option.some.inj h2
  · intro hall
    apply List.ext_getElem?
    intro i
    by_cases hi : i < p.length
    · rw [pw_at p hi k, hall i hi]
      exact (List.getElem?_range hi).symm
    · rw [List.getElem?_eq_none (by rw [pw_len]; omega), List.getElem?_eq_none (by unfold idN; rw [List.length_range]; omega)]
theorem pw_one {n : Nat} {p : List Nat} (h : Perm n p) : pw p 1 = p := by
  apply List.ext_getElem?
  intro i
  by_cases hi : i < p.length
  · rw [pw_at p hi 1, at0_some hi]
    rfl
  · rw [List.getElem?_eq_none (by rw [pw_len]; omega), List.getElem?_eq_none (by omega)]
/-- how long it takes place i to come back -/
def IsCyc (p : List Nat) (i L : Nat) : Prop := 1 ≤ L ∧ itr p L i = i ∧ ∀ k, 1 ≤ k → k < L → itr p k i ≠ i
theorem nodup_le : ∀ {ks ns : List Nat}, ks.Nodup → (∀ k ∈ ks, k ∈ ns) → ks.length ≤ ns.length
  | [], _, _, _ => Nat.zero_le _
  | k :: ks, ns, nd, h => by
    have hk : k ∈ ns := h k List.mem_cons_self
    have nd' := List.nodup_cons.mp nd
    have hs : ∀ x ∈ ks, x ∈ ns.erase k := fun x hx => by
      have hne : x ≠ k := fun e => nd'.1 (e ▸ hx)
      exact (List.mem_erase_of_ne hne).mpr (h x (List.mem_cons_of_mem _ hx))
    have ih := nodup_le nd'.2 hs
    rw [List.length_erase_of_mem hk] at ih
    have := List.length_pos_of_mem hk
    rw [List.length_cons]
    omega
theorem least_of {P : Nat → Prop} : ∀ n, (∃ k, 1 ≤ k ∧ k ≤ n ∧ P k) → ∃ L, 1 ≤ L ∧ L ≤ n ∧ P L ∧ ∀ k, 1 ≤ k → k < L → ¬ P k
  | 0, ⟨k, h1, h2, _⟩ => absurd h1 (by omega)
  | n + 1, ⟨k, h1, h2, hp⟩ => by
    by_cases hn : ∃ k, 1 ≤ k ∧ k ≤ n ∧ P k
    · obtain ⟨L, a, b, c, d⟩ := least_of n hn
      exact ⟨L, a, by omega, c, d⟩
    · have e : k = n + 1 := by
        by_cases hk : k ≤ n
        · exact absurd ⟨k, h1, hk, hp⟩ hn
        · omega
      subst e
      exact ⟨n + 1, h1, Nat.le_refl _, hp, fun j j1 j2 pj => hn ⟨j, j1, by omega, pj⟩⟩
theorem Perm.cyc {n i : Nat} {p : List Nat} (h : Perm n p) (hi : i < n) : ∃ L, L ≤ n ∧ IsCyc p i L := by
  have hex : ∃ k, 1 ≤ k ∧ k ≤ n ∧ itr p k i = i := by
    by_cases hh : ∃ k, 1 ≤ k ∧ k ≤ n ∧ itr p k i = i
    · exact hh
    · exfalso
      have nd : ((List.range (n + 1)).map fun k => itr p k i).Nodup := by
        refine List.pairwise_iff_getElem.mpr fun a b ha hb hab e => ?_
        rw [List.length_map, List.length_range] at ha hb
        rw [List.getElem_map, List.getElem_map, List.getElem_range, List.getElem_range] at e
        have e2 : itr p b i = itr p a (itr p (b - a) i) := by rw [← itr_add]; congr 1; omega
        rw [e2] at e
        exact hh ⟨b - a, by omega, by omega, (h.itr_inj a _ _ hi (h.itr_lt _ _ hi) e).symm⟩
      have := nodup_le (ns := List.range n) nd (fun k hk => by
        obtain ⟨j, _, rfl⟩ := List.mem_map.mp hk
        exact List.mem_range.mpr (h.itr_lt _ _ hi))
      rw [List.length_map, List.length_range, List.length_range] at this
      omega
  obtain ⟨L, a, b, c, d⟩ := least_of n hex
  exact ⟨L, b, a, c, d⟩
theorem cyc_mul {p : List Nat} {i L : Nat} (h : itr p L i = i) : ∀ m, itr p (L * m) i = i
  | 0 => rfl
  | m + 1 => by rw [Nat.mul_succ, Nat.add_comm, itr_add, h, cyc_mul h m]
theorem IsCyc.dvd {p : List Nat} {i L k : Nat} (h : IsCyc p i L) : itr p k i = i ↔ L ∣ k := by
  constructor
  · intro e
    have hm : itr p (k % L) i = i := by
      have e2 : itr p k i = itr p (k % L) (itr p (L * (k / L)) i) := by rw [← itr_add, Nat.div_add_mod]
      rw [cyc_mul h.2.1] at e2
      rw [← e2, e]
    by_cases hz : k % L = 0
    · exact Nat.dvd_of_mod_eq_zero hz
    · exact absurd hm (h.2.2 _ (by omega) (Nat.mod_lt _ h.1))
  · rintro ⟨m, rfl⟩
    exact cyc_mul h.2.1 m
/-! lcm of a list -/
def lcmL (l : List Nat) : Nat := l.foldl Nat.lcm 1
theorem foldl_lcm_dvd : ∀ (l : List Nat) (a k : Nat), l.foldl Nat.lcm a ∣ k ↔ a ∣ k ∧ ∀ x ∈ l, x ∣ k
  | [], a, k => by simp
  | x :: l, a, k => by
    rw [List.foldl_cons, foldl_lcm_dvd l (Nat.lcm a x) k]
    constructor
    · rintro ⟨h1, h2⟩
      refine ⟨Nat.dvd_trans (Nat.dvd_lcm_left a x) h1, fun y hy => ?_⟩
      rcases List.mem_cons.mp hy with rfl | hy
      · exact Nat.dvd_trans (Nat.dvd_lcm_right a y) h1
      · exact h2 y hy
    · rintro ⟨h1, h2⟩
      exact ⟨Nat.lcm_dvd h1 (h2 x List.mem_cons_self), fun y hy => h2 y (List.mem_cons_of_mem _ hy)⟩
theorem lcmL_dvd (l : List Nat) (k : Nat) : lcmL l ∣ k ↔ ∀ x ∈ l, x ∣ k := by
  unfold lcmL
  rw [foldl_lcm_dvd]
  exact ⟨fun h => h.2, fun h => ⟨Nat.one_dvd k, h⟩⟩
theorem lcmL_pos : ∀ {l : List Nat}, (∀ x ∈ l, 1 ≤ x) → 1 ≤ lcmL l := by
  have gen : ∀ (l : List Nat) (a : Nat), 1 ≤ a → (∀ x ∈ l, 1 ≤ x) → 1 ≤ l.foldl Nat.lcm a := by
    intro l
    induction l with
    | nil => intro a ha _; exact ha
    | cons x l ih =>
      intro a ha h
      rw [List.foldl_cons]
      exact ih _ (Nat.lcm_pos ha (h x List.mem_cons_self)) fun y hy => h y (List.mem_cons_of_mem _ hy)
  intro l h
  exact gen l 1 (Nat.le_refl _) h
/-! at most 20 for nine places: distinct lengths take different places -/
theorem count_sum : ∀ (l S : List Nat), S.Nodup → (S.map fun x => l.count x).sum ≤ l.length
  | [], S, nd => by
    have : (S.map fun x => ([] : List Nat).count x).sum = 0 := by
      clear nd
      induction S with
      | nil => rfl
      | cons s S ih =>
        rw [List.map_cons, List.sum_cons, ih]
        rfl
    rw [this]; exact Nat.zero_le _
  | y :: l, S, nd => by
    have ih := count_sum l S nd
    have h1 : ∀ S : List Nat, S.Nodup → (S.map fun x => (y :: l).count x).sum ≤ (S.map fun x => l.count x).sum + (if y ∈ S then 1 else 0) := by
      intro S
      induction S with
      | nil => intro _; simp
      | cons s S ihs =>
        intro nd
        have nd' := List.nodup_cons.mp nd
        have := ihs nd'.2
        rw [List.map_cons, List.sum_cons, List.map_cons, List.sum_cons, List.count_cons]
        by_cases e : y = s
        · subst e
          rw [if_neg nd'.1] at this
          rw [if_pos List.mem_cons_self]
          simp only [beq_self_eq_true, if_true]
          omega
        · have e2 : (y == s) = false := by simpa using e
          rw [e2]
          have e3 : (y ∈ s :: S) ↔ y ∈ S := by simp [e]
          simp only [e3, Bool.false_eq_true, if_false]
          omega
    have h2 := h1 S nd
    rw [List.length_cons]
    by_cases hy : y ∈ S
    · rw [if_pos hy] at h2; omega
    · rw [if_neg hy] at h2; omega
theorem small_lcm (q : Nat → Bool) (h0 : q 0 = false) (h : ((List.range 10).filter q).sum ≤ 9) : lcmL ((List.range 10).filter q) ≤ 99 := by
  have e : List.range 10 = [0, 1, 2, 3, 4, 5, 6, 7, 8, 9] := by decide
  rw [e] at h ⊢
  simp only [List.filter_cons, List.filter_nil, h0] at h ⊢
  generalize q 1 = b1 at h ⊢
  generalize q 2 = b2 at h ⊢
  generalize q 3 = b3 at h ⊢
  generalize q 4 = b4 at h ⊢
  generalize q 5 = b5 at h ⊢
  generalize q 6 = b6 at h ⊢
  generalize q 7 = b7 at h ⊢
  generalize q 8 = b8 at h ⊢
  generalize q 9 = b9 at h ⊢
  revert b1 b2 b3 b4 b5 b6 b7 b8 b9
  decide +kernel
theorem Perm.order_small {n : Nat} {p Ls : List Nat} (h : Perm n p) (hn : n ≤ 9) (hl : Ls.length = n) (hc : ∀ i, i < n → IsCyc p i (at0 Ls i)) : lcmL Ls ≤ 99 := by
  have mem : ∀ x ∈ Ls, ∃ i, i < n ∧ at0 Ls i = x := fun x hx => by
    obtain ⟨i, hi⟩ := List.mem_iff_getElem?.mp hx
    have hil := (List.getElem?_eq_some_iff.mp hi).1
    rw [at0_some hil] at hi
    exact ⟨i, by omega, Option.some.inj hi⟩
  -- the places on the way of i have its length
  have cnt : ∀ x ∈ Ls, x ≤ Ls.count x := fun x hx => by
    obtain ⟨i, hi, ex⟩ := mem x hx
    have hci := hc i hi
    rw [ex] at hci
    have same : ∀ k, at0 Ls (itr p k i) = x := fun k => by
      have hj := h.itr_lt k i hi
      have hcj := hc _ hj
      have d1 : at0 Ls (itr p k i) ∣ x := by
        rw [← hcj.dvd, ← itr_add, Nat.add_comm, itr_add, hci.2.1]
      have d2 : x ∣ at0 Ls (itr p k i) := by
        rw [← hci.dvd]
        refine h.itr_inj k _ _ (h.itr_lt _ _ hi) hi ?_
        rw [← itr_add, Nat.add_comm, itr_add]
        exact hcj.2.1
      exact Nat.dvd_antisymm d1 d2
    have nd : ((List.range x).map fun k => itr p k i).Nodup := by
      refine List.pairwise_iff_getElem.mpr fun a b ha hb hab e => ?_
      rw [List.length_map, List.length_range] at ha hb
      rw [List.getElem_map, List.getElem_map, List.getElem_range, List.getElem_range] at e
      have e2 : itr p b i = itr p a (itr p (b - a) i) := by rw [← itr_add]; congr 1; omega
      rw [e2] at e
      exact hci.2.2 (b - a) (by omega) (by omega) (h.itr_inj a _ _ hi (h.itr_lt _ _ hi) e).symm
    have hle := nodup_le (ns := (List.range n).filter fun j => at0 Ls j == x) nd (fun j hj => by
      obtain ⟨k, _, rfl⟩ := List.mem_map.mp hj
      refine List.mem_filter.mpr ⟨List.mem_range.mpr (h.itr_lt k i hi), ?_⟩
      rw [same k]; exact beq_self_eq_true _)
    rw [List.length_map, List.length_range] at hle
    have eL : Ls = (List.range n).map (at0 Ls) := by
      apply List.ext_getElem?
      intro j
      by_cases hj : j < n
      · rw [at0_some (by omega), List.getElem?_map, List.getElem?_range hj]; rfl
      · rw [List.getElem?_eq_none (by omega), List.getElem?_eq_none (by rw [List.length_map, List.length_range]; omega)]
    have e3 : Ls.count x = ((List.range n).filter fun j => at0 Ls j == x).length := by
      rw [List.count_eq_countP]
      conv => lhs; rw [eL]
      rw [List.countP_map, List.countP_eq_length_filter]
      rfl
    omega
  have pos : ∀ x ∈ Ls, 1 ≤ x := fun x hx => by
    obtain ⟨i, hi, ex⟩ := mem x hx
    rw [← ex]; exact (hc i hi).1
  have bnd : ∀ x ∈ Ls, x ≤ 9 := fun x hx => by
    have := cnt x hx
    have := List.count_le_length (a := x) (l := Ls)
    omega
  have ndS : ((List.range 10).filter fun x => decide (x ∈ Ls)).Nodup := (List.nodup_range.sublist List.filter_sublist)
  have s1 := count_sum Ls _ ndS
  have s2 : ((List.range 10).filter fun x => decide (x ∈ Ls)).sum ≤ (((List.range 10).filter fun x => decide (x ∈ Ls)).map fun x => Ls.count x).sum := by
    have gen : ∀ S : List Nat, (∀ x ∈ S, x ≤ Ls.count x) → S.sum ≤ (S.map fun x => Ls.count x).sum := by
      intro S
      induction S with
      | nil => intro _; exact Nat.le_refl _
      | cons s S ih =>
        intro hS
        rw [List.map_cons, List.sum_cons, List.sum_cons]
        have := hS s List.mem_cons_self
        have := ih fun x hx => hS x (List.mem_cons_of_mem _ hx)
        omega
    exact gen _ fun x hx => cnt x (of_decide_eq_true (List.mem_filter.mp hx).2)
  have h3 := small_lcm (fun x => decide (x ∈ Ls)) (decide_eq_false fun h0 => absurd (pos 0 h0) (by omega)) (by omega)
  refine Nat.le_trans (Nat.le_of_dvd ?_ ?_) h3
  · exact lcmL_pos fun x hx => pos x (of_decide_eq_true (List.mem_filter.mp hx).2)
  · rw [lcmL_dvd]
    intro x hx
    have hm : x ∈ (List.range 10).filter fun x => decide (x ∈ Ls) := List.mem_filter.mpr ⟨List.mem_range.mpr (by have := bnd x hx; omega), decide_eq_true hx⟩
    exact (lcmL_dvd _ _).mp (Nat.dvd_refl _) x hm
/-- the order: the least power that leads each place to itself -/
theorem Perm.order {n : Nat} {p Ls : List Nat} (h : Perm n p) (hl : Ls.length = n) (hc : ∀ i, i < n → IsCyc p i (at0 Ls i)) : 1 ≤ lcmL Ls ∧ pw p (lcmL Ls) = idN n ∧ ∀ k, 1 ≤ k → k < lcmL Ls → pw p k ≠ idN n := by
  have key : ∀ k, pw p k = idN n ↔ lcmL Ls ∣ k := fun k => by
    have e : idN n = idN p.length := by rw [h.len]
    rw [e, pw_id, lcmL_dvd, h.len]
    constructor
    · intro hall x hx
      obtain ⟨i, hi⟩ := List.mem_iff_getElem?.mp hx
      have hil := (List.getElem?_eq_some_iff.mp hi).1
      rw [at0_some hil] at hi
      rw [← Option.some.inj hi]
      exact (hc i (by omega)).dvd.mp (hall i (by omega))
    · intro hall i hi
      exact (hc i hi).dvd.mpr (hall _ (List.mem_of_getElem? (at0_some (by omega))))
  have pos : ∀ x ∈ Ls, 1 ≤ x := fun x hx => by
    obtain ⟨i, hi⟩ := List.mem_iff_getElem?.mp hx
    have hil := (List.getElem?_eq_some_iff.mp hi).1
    rw [at0_some hil] at hi
    rw [← Option.some.inj hi]
    exact (hc i (by omega)).1
  refine ⟨lcmL_pos pos, (key _).mpr (Nat.dvd_refl _), fun k h1 h2 e => ?_⟩
  have := Nat.le_of_dvd (by omega) ((key k).mp e)
  omega
end G
set_option Elab.async false
set_option linter.all false
set_option maxRecDepth 100000
set_option maxHeartbeats 4000000
namespace G
open PySem PySem.Spec PyProof.Rows L2
section
variable {X : Cx} {K : PySem.W.Frag} {H : Hp} {Q : VK}
def rIdxT (K : PySem.W.Frag) : V → List V → Hp → VK → Prop := fun x xs H Q => ∃ (p : Addr) (g : List Int) (k : Int), x = .ref p ∧ xs = [.int k] ∧ SqT K H p (g.map V.int) ∧ k ∈ g ∧ Q (.int (g.idxOf k : Nat)) H
theorem mt_indexT (hK : X.K = K) : MtR X "tuple.index" (rIdxT K) := by
  subst hK
  intro pins s σ H x xs v us Q I rx rs h
  obtain ⟨p, g, k, rfl, rfl, hq, hk, q⟩ := h
  cases rx
  obtain ⟨u, rfl, t, rfl⟩ := vals1 rs
  obtain ⟨its, r, ⟨⟨cls, dd, dt, sl⟩, ho, hc, n, hd⟩, hz⟩ := I.tuple hq
  obtain rfl : cls = .type "tuple" := hc
  obtain rfl : dt = .seq its.toArray n := hd
  have hl : its.toArray.size = g.length := by rw [List.size_toArray, ← r.length, List.length_map]
  have hj := List.idxOf_lt_length_of_mem hk
  have there : ∀ (m : Nat) (hm : m < its.toArray.size), ∃ t', its.toArray[m] = Value.int (g.getD m 0) t' := fun m hm => by
    have hm' : m < g.length := by omega
    obtain ⟨w, hw, t', hw'⟩ := r.get (i := m) (x := .int (g.getD m 0)) (by rw [List.getElem?_map, List.getD_eq_getElem?_getD, List.getElem?_eq_getElem hm']; rfl)
    refine ⟨t', ?_⟩
    have e := (List.getElem?_eq_some_iff.mp hw).2
    rw [← hw', ← e]
    simp
  have eqs : ∀ w, w ∈ its.toArray → SeqAt.EqAt X.A.in1 s w (.int k t) (eqU (.int k) w) := fun w hw =>
    mem_eqAt (x := .int k) ⟨t, rfl⟩ rfl r (flat_ints g) w (by simpa using hw)
  refine call_meets PySem.F.slot_tuple_index ⟨_, ho, rfl⟩ PySem.F.entry_tuple_index (PySem.F.args_tuple_index_2 _ _)
    (TI.tuple_indexAt p its.toArray n dd sl (.int k t) (eqU (.int k)) (g.idxOf k) (by omega) ?_ ?_) ⟨ho, eqs, ⟨.int _, H, I.tok _, ⟨_, rfl⟩, q⟩⟩
  · obtain ⟨t', h2⟩ := there (g.idxOf k) (by omega)
    rw [h2]
    show (g.getD (g.idxOf k) 0 == k) = true
    rw [List.getD_eq_getElem?_getD, List.getElem?_eq_getElem hj, List.getElem_idxOf hj]
    exact beq_self_eq_true k
  · intro m hm hmj
    obtain ⟨t', h2⟩ := there m hm
    rw [h2]
    show (g.getD m 0 == k) = false
    have hm' : m < g.length := by omega
    have := List.not_of_lt_findIdx (p := (· == k)) (xs := g) (i := m) hmj
    rw [List.getD_eq_getElem?_getD, List.getElem?_eq_getElem hm']
    simpa using this
theorem r_idxT {p : Addr} {g : List Int} {k : Int} (h : SqT K H p (g.map V.int)) (hk : k ∈ g) (q : Q (.int (g.idxOf k : Nat)) H) : rIdxT K (.ref p) [.int k] H Q := ⟨p, g, k, rfl, rfl, h, hk, q⟩
end
theorem nat_ints (r : List Nat) : r.map nD = (r.map fun n : Nat => (n : Int)).map PyData.int := by rw [List.map_map]; rfl
theorem shaped_row (r : List Nat) : SeqAt.shaped (rowD r) = true := by
  refine Bool.and_eq_true_iff.mpr ⟨?_, decide_eq_true ?_⟩
  · show PyData.canLayAll0 (r.map nD) = true
    rw [nat_ints]
    exact lay_ints _
  · show PyData.depthAll (r.map nD) + 1 ≤ 64
    rw [nat_ints, depth_ints]
    decide
theorem cast_inj {a b : List Nat} : (a.map fun n : Nat => (n : Int)) = (b.map fun n : Nat => (n : Int)) ↔ a = b := by
  constructor
  · intro h
    have h2 := congrArg (List.map Int.toNat) h
    rw [List.map_map, List.map_map] at h2
    have e : (Int.toNat ∘ fun n : Nat => (n : Int)) = id := by funext n; exact Int.toNat_natCast n
    rw [e, List.map_id, List.map_id] at h2
    exact h2
  · rintro rfl
    rfl
theorem eqv_rows (a b : List Nat) : PyData.eqv (rowD a) (rowD b) = decide (a = b) := by
  unfold rowD
  rw [PyData.eqv, nat_ints, nat_ints, eqv_ints_all]
  by_cases h : a = b
  · subst h; simp
  · rw [decide_eq_false h, decide_eq_false fun e => h (cast_inj.mp e)]
theorem fits_row {r : List Nat} (n : Nat) (h : r.length ≤ 1000) : fits (n + 2) (rowD r) := by
  have zl : (sizeLine : Nat) = 16777216 := by decide
  refine ⟨by rw [List.length_map]; omega, fun d hd => ?_⟩
  obtain ⟨k, _, rfl⟩ := List.mem_map.mp hd
  exact True.intro
section
variable {σ : L2.St} {H : Hp} {Q : VK} {te ta : TE} {K : PySem.W.Frag}
theorem r_rng2 {ta : TA} {R : It → Hp → Prop} (h : ta σ H fun vs H1 => ∃ i j : Int, vs = [.int i, .int j] ∧ (-(2 ^ 62) ≤ i ∧ i < 2 ^ 62 ∧ -(2 ^ 62) ≤ j ∧ j < 2 ^ 62) ∧ R (Itr i (j - i).toNat) H1) : iRng2 ta σ H R := h
theorem r_rng2' {i j : Int} {C : Int → Int → Prop} (h : -(2 ^ 62) ≤ i ∧ i < 2 ^ 62 ∧ -(2 ^ 62) ≤ j ∧ j < 2 ^ 62) (q : C i j) : ∃ i' j' : Int, [V.int i, V.int j] = [.int i', .int j'] ∧ (-(2 ^ 62) ≤ i' ∧ i' < 2 ^ 62 ∧ -(2 ^ 62) ≤ j' ∧ j' < 2 ^ 62) ∧ C i' j' := ⟨i, j, rfl, h, q⟩
theorem rg_nat (n : Nat) : rgV 0 (n : Int) = (List.range n).map iV := by
  unfold rgV
  rw [show ((n : Int) - 0).toNat = n by omega]
  refine List.map_congr_left fun i _ => ?_
  show V.int (0 + (i : Int)) = V.int (i : Int)
  rw [Int.zero_add]
theorem r_tupRgN {n : Nat} (h1 : n ≤ 16777216) (q : ∀ p, H p = none → Q (.ref p) (upd H p (.tup ((List.range n).map iV)))) (h : ∀ R : VK, R (iV n) H → te σ H R) : tTupRg (tRg1 te) σ H Q := by
  refine h _ ⟨(n : Int), rfl, RgOk.of_le (Int.le_refl _) (by omega) (by decide) (by omega), fun p hp => ?_⟩
  rw [rg_nat]
  exact q p hp
theorem r_lcm {a b : Nat} (ha : a < 2 ^ 64) (hb : b < 2 ^ 64) (q : Q (iV (Nat.lcm a b)) H) : rLcm [.int (a : Int), .int (b : Int)] H Q := ⟨a, b, rfl, ha, hb, q⟩
end
theorem row_of {K : PySem.W.Frag} {H : Hp} {p : Addr} {r : List Nat} (h : SqT K H p (r.map iV)) : Dt K H (.ref p) (rowD r) := .tup h (ofNats r)
theorem at_row {r : List Nat} {i : Nat} (h : i < r.length) : atI (r.map iV) (i : Int) = some (iV (at0 r i)) := at_nat rfl h
/-! ### primes -/
def isPr (e : Nat) : Prop := 2 ≤ e ∧ ∀ f, 2 ≤ f → f < e → ¬ f ∣ e
theorem least_pr : ∀ n, 2 ≤ n → ∃ e, isPr e ∧ e ∣ n := by
  intro n
  induction n using Nat.strongRecOn with
  | _ n ih =>
    intro h2
    by_cases h : ∃ f, 2 ≤ f ∧ f < n ∧ f ∣ n
    · obtain ⟨f, a, b, c⟩ := h
      obtain ⟨e, he, hd⟩ := ih f b a
      exact ⟨e, he, Nat.dvd_trans hd c⟩
    · exact ⟨n, ⟨h2, fun f a b c => h ⟨f, a, b, c⟩⟩, Nat.dvd_refl n⟩
open Classical in
noncomputable def prF (c d : Nat) : List Nat := (List.range d).filter fun e => decide (isPr e ∧ e ∣ c)
theorem prF_yes {c d : Nat} (h : isPr d ∧ d ∣ c) : prF c (d + 1) = prF c d ++ [d] := by
  classical
  unfold prF
  rw [List.range_succ, List.filter_append, List.filter_cons_of_pos (by simpa using h)]
  rfl
theorem prF_no {c d : Nat} (h : ¬ (isPr d ∧ d ∣ c)) : prF c (d + 1) = prF c d := by
  classical
  unfold prF
  rw [List.range_succ, List.filter_append, List.filter_cons_of_neg (by simpa using h), List.filter_nil, List.append_nil]
theorem prF_mem {c d e : Nat} : e ∈ prF c d ↔ e < d ∧ isPr e ∧ e ∣ c := by
  classical
  unfold prF
  rw [List.mem_filter, List.mem_range]
  simp
theorem prF_two (c : Nat) : prF c 2 = [] := by
  refine List.eq_nil_iff_forall_not_mem.mpr fun e he => ?_
  have := prF_mem.mp he
  have := this.2.1.1
  omega
theorem prF_grow {c d : Nat} (h : ∀ e, d ≤ e → isPr e → ¬ e ∣ c) : ∀ k, prF c (d + k) = prF c d
  | 0 => rfl
  | k + 1 => by
    show prF c (d + k + 1) = _
    rw [prF_no (fun z => h (d + k) (Nat.le_add_right _ _) z.1 z.2), prF_grow h k]
theorem pr_cop {e d : Nat} (he : isPr e) (hd : 1 ≤ d) (h : d < e) : Nat.Coprime e d := by
  have g1 := Nat.gcd_dvd_left e d
  have g2 := Nat.gcd_dvd_right e d
  have hle := Nat.le_of_dvd hd g2
  by_cases hg : 2 ≤ Nat.gcd e d
  · exact absurd g1 (he.2 _ hg (by omega))
  · have : 0 < Nat.gcd e d := Nat.gcd_pos_of_pos_right _ hd
    show Nat.gcd e d = 1
    omega
end G
set_option Elab.async false
set_option linter.all false
set_option maxRecDepth 100000
set_option maxHeartbeats 4000000
namespace G
open PySem PySem.Spec PyProof.Rows L2
/-! rows of numbers, sorted -/
def kk (r : List Nat) : List (Int ⊕ List Nat) := r.map fun n : Nat => Sum.inl (n : Int)
def rle (a b : List Nat) : Prop := (listOrd itemOrd).kle (kk a) (kk b)
theorem kk_inj {a b : List Nat} (h : kk a = kk b) : a = b := by
  induction a generalizing b with
  | nil => cases b with
    | nil => rfl
    | cons y b => exact nomatch h
  | cons x a ih => cases b with
    | nil => exact nomatch h
    | cons y b =>
      have h1 := List.cons.inj h
      have h2 : (x : Int) = (y : Int) := Sum.inl.inj h1.1
      rw [show x = y by omega, ih h1.2]
theorem rle_anti {a b : List Nat} (h1 : rle a b) (h2 : rle b a) : a = b := kk_inj (KeyOrd.kle_antisymm h1 h2)
theorem sort_uniq : ∀ {a b : List (List Nat)}, a.Perm b → a.Pairwise rle → b.Pairwise rle → a = b
  | [], b, h, _, _ => (List.Perm.nil_eq h)
  | x :: a, [], h, _, _ => absurd h.length_eq (by simp)
  | x :: a, y :: b, h, ha, hb => by
    have ha' := List.pairwise_cons.mp ha
    have hb' := List.pairwise_cons.mp hb
    have e : x = y := by
      have hx : x ∈ y :: b := h.mem_iff.mp List.mem_cons_self
      have hy : y ∈ x :: a := h.mem_iff.mpr List.mem_cons_self
      rcases List.mem_cons.mp hx with e | hx
      · exact e
      · rcases List.mem_cons.mp hy with e | hy
        · exact e.symm
        · exact rle_anti (ha'.1 y hy) (hb'.1 x hx)
    subst e
    rw [sort_uniq (List.Perm.cons_inv h) ha'.2 hb'.2]
theorem items_key : ∀ (r : List Nat) (its : List Value) (i : Nat), Vals (r.map iV) its → tupItems (fun _ => false) i its = some (kk r)
  | [], _, _, h => by cases h; simp [tupItems, kk]
  | n :: r, _, i, h => by
    cases h with
    | cons h1 h2 =>
      obtain ⟨t, rfl⟩ := h1
      show (if (fun _ => false) i = true then none else (tupItems (fun _ => false) (i + 1) _).map _) = _
      rw [if_neg Bool.false_ne_true, items_key r _ (i + 1) h2]
      rfl
theorem tup_key {h : Heap} {b : Addr} {r : List Nat} {its : List Value} (ht : IsTup h b its.toArray) (hv : Vals (r.map iV) its) : PyProof.Rows.G.tupKeyC h (fun _ => false) (.ref b) = some (kk r) := by
  obtain ⟨o, ho, hc, n, hd⟩ := ht
  unfold PyProof.Rows.G.tupKeyC
  have e1 : PyProof.Rows.G.isTupObj h (.ref b) = true := by
    simp only [PyProof.Rows.G.isTupObj, ho, hc]
    decide
  rw [if_pos e1]
  simp only [tupKey, ho, hd]
  exact items_key r its 0 hv
def RowAt (h : Heap) (b : Addr) (r : List Nat) : Prop := r ≠ [] ∧ ∃ its : List Value, Vals (r.map iV) its ∧ IsTup h b its.toArray
theorem tups_of {h : Heap} : ∀ (ps : List (Addr × List Nat)), (∀ p ∈ ps, RowAt h p.1 p.2) → ∃ fs, TupsOf h (fun _ => false) (ps.map fun p => Value.ref p.1) fs
  | [], _ => ⟨[], .nil⟩
  | p :: ps, hall => by
    obtain ⟨fs, hf⟩ := tups_of ps fun q hq => hall q (List.mem_cons_of_mem _ hq)
    obtain ⟨b, r⟩ := p
    obtain ⟨hne, its, hv, o, ho, hc, n, hd⟩ := hall (b, r) List.mem_cons_self
    cases r with
    | nil => exact absurd rfl hne
    | cons x r =>
      cases hv with
      | @cons _ u _ us h1 h2 =>
        obtain ⟨t, rfl⟩ := h1
        exact ⟨_ :: fs, .cons ⟨b, o, _, n, rfl, ho, hc, hd, rfl, fun _ => ⟨_, _, rfl⟩, fun e => absurd e Bool.false_ne_true⟩ hf⟩
theorem keys_of {h : Heap} {ps : List (Addr × List Nat)} (hall : ∀ p ∈ ps, RowAt h p.1 p.2) : ∀ v, v ∈ (ps.map fun p => Value.ref p.1) → ∃ l, PyProof.Rows.G.tupKeyC h (fun _ => false) v = some l := fun v hv => by
  obtain ⟨p, hp, rfl⟩ := List.mem_map.mp hv
  obtain ⟨_, its, h1, h2⟩ := hall p hp
  exact ⟨_, tup_key h2 h1⟩
theorem out_rows {h : Heap} {ps : List (Addr × List Nat)} (hall : ∀ p ∈ ps, RowAt h p.1 p.2) {xs : Array Keyed} (hp : xs.Perm (pairsOf (ps.map fun p => Value.ref p.1)))
    (hs : SortedToK (PyProof.Rows.G.tupKindC h (fun _ => false)) xs (pairsOf (ps.map fun p => Value.ref p.1)).size) :
    ∃ zs : List (Addr × List Nat), zs.Perm ps ∧ (xs.map (·.2)).toList = zs.map (fun p => Value.ref p.1) ∧ zs.Pairwise fun p q => rle p.2 q.2 := by
  have hl : xs.toList.Perm ((ps.map fun p => Value.ref p.1).zip (ps.map fun p => Value.ref p.1)) := by rw [← pairsOf_toList]; exact Array.perm_iff_toList_perm.mp hp
  have ez : ps.map (fun p => (Value.ref p.1, Value.ref p.1)) = (ps.map fun p => Value.ref p.1).zip (ps.map fun p => Value.ref p.1) := by
    rw [List.zip_map']
  obtain ⟨zs, pz, qz⟩ := perm_lift (fun p : Addr × List Nat => (Value.ref p.1, Value.ref p.1)) hl ps ez
  refine ⟨zs, pz, ?_, ?_⟩
  · rw [Array.toList_map, ← qz, List.map_map]
    rfl
  · rw [List.pairwise_iff_getElem]
    intro i j hi hj hij
    have hsz : (pairsOf (ps.map fun p => Value.ref p.1)).size = zs.length := by rw [pairsOf_size, List.length_map, pz.length_eq]
    have h1 := hs i j (Nat.le_of_lt hij) (by rw [hsz]; exact hj)
    have key : ∀ k (hk : k < zs.length), KK (PyProof.Rows.G.tupKindC h (fun _ => false)) xs k = kk zs[k].2 := by
      intro k hk
      have e : xs[k]? = some (Value.ref zs[k].1, Value.ref zs[k].1) := by
        rw [← Array.getElem?_toList, ← qz, List.getElem?_map, List.getElem?_eq_getElem hk]
        rfl
      unfold KK
      rw [e]
      obtain ⟨_, its, h2, h3⟩ := hall zs[k] (pz.mem_iff.mp (List.getElem_mem hk))
      show (PyProof.Rows.G.tupKeyC h (fun _ => false) (.ref zs[k].1)).getD [] = _
      rw [tup_key h3 h2]
      rfl
    rw [key i hi, key j hj] at h1
    exact h1
theorem RowAt.keep {h h' : Heap} {b : Addr} {r : List Nat} (x : RowAt h b r) (k : ∀ b o, h.get? b = some o → h'.get? b = some o) : RowAt h' b r := by
  obtain ⟨h1, its, h2, o, ho, h3⟩ := x
  exact ⟨h1, its, h2, o, k _ _ ho, h3⟩
def refsV (ps : List (Addr × List Nat)) : List V := ps.map fun p => V.ref p.1
def refsU (ps : List (Addr × List Nat)) : List Value := ps.map fun p => Value.ref p.1
theorem refs_eq : ∀ (ps : List (Addr × List Nat)) (its : List Value), Vals (refsV ps) its → its = refsU ps
  | [], _, h => by cases h; rfl
  | p :: ps, _, h => by
    cases h with
    | cons h1 h2 =>
      cases h1
      rw [refs_eq ps _ h2]
      rfl
theorem refs_vals : ∀ ps : List (Addr × List Nat), Vals (refsV ps) (refsU ps)
  | [] => .nil
  | _ :: ps => .cons rfl (refs_vals ps)
abbrev sortedR (zs : List (Addr × List Nat)) : Prop := zs.Pairwise fun p q => rle p.2 q.2
def rSortT (K : PySem.W.Frag) : List V → Hp → VK → Prop := fun vs H Q => ∃ (a : Addr) (ps : List (Addr × List Nat)), vs = [.ref a] ∧ SqL K H a (refsV ps) ∧ (∀ p ∈ ps, SqT K H p.1 (p.2.map iV) ∧ p.2 ≠ []) ∧
  ∀ (zs : List (Addr × List Nat)) (p : Addr), zs.Perm ps → sortedR zs → H p = none → Q (.ref p) (upd H p (.lst (refsV zs)))
section
variable {X : Cx} {K : PySem.W.Frag}
theorem cr_sortT (hK : X.K = K) : CallR X (.builtin "sorted") (rSortT K) := by
  subst hK
  rintro pins s σ H vs us Q I rs ⟨a, ps, rfl, hs, hall, key⟩
  obtain ⟨its, rv, hl, hz⟩ := I.list hs
  obtain rfl := refs_eq ps its rv
  rw [Vals.ref1 rs]
  have hrow : ∀ p ∈ ps, RowAt s.heap p.1 p.2 := fun p hp => by
    obtain ⟨js, jv, jt, _⟩ := I.tuple (hall p hp).1
    exact ⟨(hall p hp).2, js, jv, jt⟩
  obtain ⟨fs, hfs⟩ := tups_of ps hrow
  have hz2 : (refsU ps).length ≤ sizeLine := by rw [← rv.length]; exact hz
  refine PyProof.Rows.G.sorted_tups hl.isList hfs (keys_of hrow) hz2 fun st p1 p2 _ => ?_
  obtain ⟨zs, g1, g2, g3⟩ := out_rows hrow p1 p2
  obtain ⟨ep, hat⟩ := PyProof.Rows.sortedAll_at s.heap (refsU ps) ((arrOf st).map (·.2))
  have hln : (refsV zs).length ≤ sizeLine := by
    have := g1.length_eq
    have h2 : (refsU ps).length = ps.length := List.length_map _
    show (zs.map _).length ≤ _
    rw [List.length_map]
    omega
  have hvz : Vals (refsV zs) ((arrOf st).map (·.2)).toList := by
    rw [g2]
    exact refs_vals zs
  have new : ObjOk X.prog X.w (upd H (s.heap.objs.size + 1) (.lst (refsV zs))) (sortedAll s.heap (refsU ps) ((arrOf st).map (·.2))) (s.heap.objs.size + 1) (.lst (refsV zs)) := ⟨hln, _, ep, hvz, hat⟩
  exact ⟨.ref (s.heap.objs.size + 1), _, I.laid (t' := s.toks) (fun _ _ => PyProof.Rows.sortedAll_old) (Nat.le_succ _) new, rfl, key zs _ g1 g3 (I.hok.fresh (Nat.le_succ _))⟩
end
/-! dicts whose keys are rows -/
def kN (r : List Nat) : List Key := r.map fun n : Nat => .inl (n : Int)
theorem kN_row (r : List Nat) : (kN r).map kV = r.map iV := by
  unfold kN
  rw [List.map_map]
  rfl
theorem kN_inj {a b : List Nat} (h : kN a = kN b) : a = b := by
  induction a generalizing b with
  | nil => cases b with
    | nil => rfl
    | cons y b => exact nomatch h
  | cons x a ih => cases b with
    | nil => exact nomatch h
    | cons y b =>
      have h1 := List.cons.inj h
      have h2 : (x : Int) = (y : Int) := Sum.inl.inj h1.1
      rw [show x = y by omega, ih h1.2]
def dictN (rs : List (List Nat)) : List (List Key × V) := rs.map fun r => (kN r, V.bl true)
theorem dictN_len (rs : List (List Nat)) : (dictN rs).length = rs.length := List.length_map _
theorem valV_in {rs : List (List Nat)} {r : List Nat} (h : r ∈ rs) : valV (dictN rs) (kN r) = some (.bl true) := by
  induction rs with
  | nil => exact nomatch h
  | cons x rs ih =>
    by_cases e : x = r
    · subst e
      exact valV_pos rfl
    · rcases List.mem_cons.mp h with z | h
      · exact absurd z.symm e
      · show valV ((kN x, V.bl true) :: dictN rs) (kN r) = _
        rw [valV_neg (fun z => e (kN_inj z))]
        exact ih h
theorem valV_out {rs : List (List Nat)} {r : List Nat} (h : r ∉ rs) : valV (dictN rs) (kN r) = none := by
  induction rs with
  | nil => rfl
  | cons x rs ih =>
    show valV ((kN x, V.bl true) :: dictN rs) (kN r) = _
    rw [valV_neg (fun z => h (by rw [← kN_inj z]; exact List.mem_cons_self))]
    exact ih fun z => h (List.mem_cons_of_mem _ z)
theorem putN {rs : List (List Nat)} {r : List Nat} (h : r ∉ rs) : putK (dictN rs) (kN r) (.bl true) = dictN (rs ++ [r]) := by
  rw [putK_new _ (valV_out h)]
  unfold dictN
  rw [List.map_append]
  rfl
theorem rows_of {H : Hp} : ∀ {rs : List (List Nat)} {ks : List (List Key × Addr × Value)}, Paired (fun (p : List Key × V) (q : List Key × Addr × Value) => p.1 = q.1 ∧ H q.2.1 = some (.tup (p.1.map kV)) ∧ RelV p.2 q.2.2) (dictN rs) ks →
    ∃ ps : List (Addr × List Nat), ps.map (·.2) = rs ∧ refsU ps = ks.map (fun x => Value.ref x.2.1) ∧ ∀ p ∈ ps, H p.1 = some (.tup (p.2.map iV))
  | [], _, h => by cases h; exact ⟨[], rfl, rfl, fun p hp => nomatch hp⟩
  | r :: rs, _, h => by
    cases h with
    | @cons _ k _ ks h1 h2 =>
      obtain ⟨ps, e1, e2, e3⟩ := rows_of h2
      have hk : H k.2.1 = some (.tup ((kN r).map kV)) := h1.2.1
      rw [kN_row] at hk
      refine ⟨(k.2.1, r) :: ps, by rw [List.map_cons, e1], ?_, fun p hp => ?_⟩
      · show Value.ref k.2.1 :: refsU ps = _
        rw [e2]
        rfl
      · rcases List.mem_cons.mp hp with rfl | hp
        · exact hk
        · exact e3 p hp
/-- {t: v}, one key, a row -/
def tDispT (tk tv : TE) : TE := fun σ H Q => ∀ p, H p = none → tk σ (upd H p (.dT [])) fun x H1 => tv σ H1 fun y H2 => ∃ b r, x = .ref b ∧ H2 b = some (.tup ((r : List Nat).map iV)) ∧ H2 p = some (.dT []) ∧ y = .bl true ∧ Q (.ref p) (upd H2 p (.dT (dictN [r])))
section
variable {X : Cx} {K : PySem.W.Frag}
theorem pe_dispT {k v : Expr} {tk tv : TE} {pos : Pos} (hu : X.A.units + 1 < cLine) (hk : PE X k tk) (hv : PE X v tv) : PE X (.Dict [some k] [v] pos) (tDispT tk tv) := by
  constructor
  intro pins s σ H Q I q
  have hn := I.hok.fresh (Nat.le_refl s.heap.objs.size)
  have I1 := I.laid (a := s.heap.objs.size) (o := .dT []) (h' := s.heap.push { cls := .type "dict", data := .dict #[] }) (t' := s.toks) (fun _ _ e => Heap.get?_push_of_some _ e) (Nat.le_refl _) (dt_empty s.heap I.big)
  rw [arm_eval_Dict, zip_pairTrees [some k] [v] X.env pos rfl rfl, dictDisplay_pairs (pairTrees [some k] [v] X.env pos) (by simp [pairTrees]) (by simp [pairTrees])]
  refine wpAny_bind (wpAny_standAt (wpAny_bind ?_))
  refine wpAny_subDictH (knd := tupleKind (mixKind X.prog X.w)) (Q := fun d s' => wpAny (model X.prog X.w) X.A (pure (Value.ref d)) (EP X pins σ Q) X.xe s') (show X.A.units < cLine by omega) (by simp [pairTrees]) ?_
  refine pairTrees_cons_walk (thn (hk.run pins _ σ _ _ I1 (q _ hn)) fun u s1 ⟨x, H1, I2, rx, q1⟩ => thn (hv.run pins s1 σ H1 _ I2 q1) fun w2 s2 ⟨y, H2, I3, ry, b, r, ex, hb, hp, ey, q2⟩ => pairTrees_nil_walk ?_)
  subst ex ey
  cases rx
  rw [← kN_row] at hb
  obtain ⟨z, hd, xs, rel, dd⟩ := dt_of I3.hok hp
  cases rel
  refine ⟨[(kN r, b, w2)], ⟨rfl, rfl, key_of I3.hok hb, trivial⟩, dd, fun h' tk dd' hs => wpAny_pure ?_⟩
  obtain ⟨ob, es, ep, hq, h2, h3, h4, _, h5⟩ := dd'
  have I4 := d_write (t' := tk) (ob := .dT (dictN [r])) I3 (by rw [hp]; exact True.intro) hs ⟨ob, hq⟩ ⟨by rw [dictN_len]; show 1 ≤ sizeLine; decide, hd, [(kN r, b, w2)], .cons ⟨rfl, by rw [upd_ne (ne_of hb hp (fun z => nomatch z))]; exact hb, ry⟩ .nil, ob, es, ep, hq, h2, h3, h4, h5⟩
  exact ⟨.ref _, _, I4, rfl, q2⟩
/-- sorted(d) of a dict with rows as keys -/
def rSortD : List V → Hp → VK → Prop := fun vs H Q => ∃ (d : Addr) (rs : List (List Nat)), vs = [.ref d] ∧ Rd H d (.dT (dictN rs)) ∧ (∀ r ∈ rs, r ≠ []) ∧
  ∀ (zs : List (Addr × List Nat)) (p : Addr), (zs.map (·.2)).Perm rs → sortedR zs → (∀ z ∈ zs, H z.1 = some (.tup (z.2.map iV))) → H p = none → Q (.ref p) (upd H p (.lst (refsV zs)))
theorem cr_sortD (hc : X.calm = true) : CallR X (.builtin "sorted") rSortD := by
  rintro pins s σ H vs us Q I rs ⟨d, rows, rfl, hd, hne, key⟩
  rw [Vals.ref1 rs]
  obtain ⟨z, hs, ks, pr, o, es, ep, ho, hx, hdt, he, hn⟩ := (show ObjOk X.prog X.w H s.heap d (.dT (dictN rows)) from hd.ok I.hok)
  obtain ⟨ps, e1, e2, e3⟩ := rows_of pr
  have hes : es.size = ks.length := by rw [← Array.length_toList, he, List.length_map]
  have hps : ps.length = ks.length := by
    have := congrArg List.length e2
    rw [List.length_map] at this
    rw [← this]
    exact (List.length_map _).symm
  have hzl : ps.length ≤ sizeLine := by
    have h1 : (dictN rows).length = rows.length := dictN_len rows
    have h2 := congrArg List.length e1
    rw [List.length_map] at h2
    omega
  refine Calls.call_function_entry PyProof.Rows.kind_sorted PyProof.Rows.plain_sorted PyProof.Rows.entry_sorted (PyProof.Rows.args_sorted1 _) ?_
  unfold Builtin.«sorted»
  refine wpAny_bind (m := checkCount "sorted" 1 1 _) (wpAny_pure ?_)
  refine wpAny_bind (PySem.W.kdu_collect (A := X.A.in1) (kdl_raw hs hx hdt) (I.ok.hd hc) ho (by omega) fun h1 tk acc hk hacc => ?_)
  have ea : acc.toList = refsU ps := by
    rw [e2]
    refine List.ext_getElem (by rw [Array.length_toList, hacc.1, hes, List.length_map]) fun j hj1 hj2 => ?_
    rw [List.length_map] at hj2
    have hg : acc[j]? = some acc.toList[j] := by rw [← Array.getElem?_toList, List.getElem?_eq_getElem hj1]
    obtain ⟨en, hen, hv⟩ := hacc.2 j _ hg
    rw [← Array.getElem?_toList, he, List.getElem?_map, List.getElem?_eq_getElem hj2] at hen
    have h3 := Option.some.inj hen
    rw [hv, ← h3, List.getElem_map]
    rfl
  rw [ea]
  have I1 : Inv X pins σ H { s with heap := h1, toks := tk } := I.kept hk
  have hul : (refsU ps).length = ps.length := List.length_map _
  refine wpAny_bind (wpAny_newList ?_ (by omega))
  have hoL : (h1.push (seqObj "list" (refsU ps).toArray 0)).get? h1.objs.size = some (seqObj "list" (refsU ps).toArray 0) := Heap.get?_push_size _ rfl
  have hrow : ∀ p ∈ ps, RowAt (h1.push (seqObj "list" (refsU ps).toArray 0)) p.1 p.2 := fun p hp => by
    obtain ⟨js, jv, jt, _⟩ := I1.tuple (a := p.1) (xs := p.2.map iV) (.inl (.inl (e3 p hp)))
    have hpne : p.2 ≠ [] := hne _ (by rw [← e1]; exact List.mem_map_of_mem hp)
    exact RowAt.keep ⟨hpne, js, jv, jt⟩ fun b o e => Heap.get?_push_of_some _ e
  obtain ⟨fs, hfs⟩ := tups_of ps hrow
  show wpAny _ _ _ _ _ { s with heap := h1.push (seqObj "list" (refsU ps).toArray 0), toks := tk }
  refine wpAny_bind (wpAny_holding (wpAny_call_entry PyProof.Rows.slot_list_sort ⟨_, hoL, rfl⟩ PyProof.Rows.entry_list_sort
    (PyProof.Rows.G.list_sort_tups (s := { s with heap := h1.push (seqObj "list" (refsU ps).toArray 0), toks := tk }) hoL hfs (keys_of hrow) (by omega) fun st p1 p2 _ => ⟨_, rfl, ?_⟩) (PyProof.Rows.args_list_sort _)))
  obtain ⟨zs, g1, g2, g3⟩ := out_rows hrow p1 p2
  obtain ⟨e', hat⟩ := PyProof.Rows.sortedHeap_at (vs := refsU ps) (out := (arrOf st).map (·.2)) hoL
  have hln : (refsV zs).length ≤ sizeLine := by
    have := g1.length_eq
    show (zs.map _).length ≤ _
    rw [List.length_map]
    omega
  have hvz : Vals (refsV zs) ((arrOf st).map (·.2)).toList := by
    rw [g2]
    exact refs_vals zs
  have fin := I1.laid (a := h1.objs.size) (o := .lst (refsV zs)) (h' := sortedHeap (h1.push (seqObj "list" (refsU ps).toArray 0)) h1.objs.size (refsU ps) ((arrOf st).map (·.2))) (t' := tk) (fun b u e => by
      have hb : b < h1.objs.size := Heap.lt_size e
      rw [PyProof.Rows.sortedHeap_old (Nat.ne_of_lt hb) (by rw [size_push']; exact Nat.lt_succ_of_lt hb)]
      exact Heap.get?_push_of_some _ e) (Nat.le_refl _) ⟨hln, _, e', hvz, hat⟩
  refine wpAny_pure ⟨_, rfl, .ref h1.objs.size, _, fin, rfl, key zs _ ?_ g3 (fun z hz => e3 z (g1.mem_iff.mp hz)) (I1.hok.fresh (Nat.le_refl _))⟩
  rw [← e1]
  exact g1.map _
end
end G
set_option Elab.async false
set_option linter.all false
set_option maxRecDepth 100000
set_option maxHeartbeats 4000000
namespace G
open PySem PySem.Spec PyProof.Rows L2
/-! what some permutations make -/
inductive Gen (n : Nat) (gs : List (List Nat)) : List Nat → Prop
  | one : Gen n gs (idN n)
  | step {x m : List Nat} : Gen n gs x → m ∈ gs → Gen n gs (thenN x m)
def RowN (n : Nat) (r : List Nat) : Prop := r.length = n ∧ ∀ x ∈ r, x < n
theorem Perm.row {n : Nat} {p : List Nat} (h : Perm n p) : RowN n p := ⟨h.len, h.lt⟩
theorem RowN.id (n : Nat) : RowN n (idN n) := ⟨List.length_range, fun x hx => List.mem_range.mp hx⟩
theorem RowN.at {n i : Nat} {r : List Nat} (h : RowN n r) (hi : i < n) : at0 r i < n := h.2 _ (List.mem_of_getElem? (at0_some (by rw [h.1]; exact hi)))
theorem RowN.then {n : Nat} {x m : List Nat} (hx : RowN n x) (hm : RowN n m) : RowN n (thenN x m) := by
  refine ⟨by unfold thenN; rw [List.length_map]; exact hx.1, fun y hy => ?_⟩
  obtain ⟨k, hk, rfl⟩ := List.mem_map.mp hy
  exact hm.at (hx.2 k hk)
theorem Gen.row {n : Nat} {gs : List (List Nat)} (hg : ∀ m ∈ gs, RowN n m) {x : List Nat} (h : Gen n gs x) : RowN n x := by
  induction h with
  | one => exact RowN.id n
  | step _ hm ih => exact ih.then (hg _ hm)
theorem Gen.sub {n : Nat} {gs S : List (List Nat)} (h1 : idN n ∈ S) (h2 : ∀ x ∈ S, ∀ m ∈ gs, thenN x m ∈ S) {x : List Nat} (h : Gen n gs x) : x ∈ S := by
  induction h with
  | one => exact h1
  | step _ hm ih => exact h2 _ ih _ hm
theorem Gen.mono {n : Nat} {gs hs : List (List Nat)} (k : ∀ m ∈ gs, m ∈ hs) {x : List Nat} (h : Gen n gs x) : Gen n hs x := by
  induction h with
  | one => exact .one
  | step _ hm ih => exact .step ih (k _ hm)
theorem id_then {n : Nat} {m : List Nat} (h : m.length = n) : thenN (idN n) m = m := by
  apply List.ext_getElem?
  intro i
  unfold thenN idN
  by_cases hi : i < n
  · rw [List.getElem?_map, List.getElem?_range hi, at0_some (by omega)]
    rfl
  · rw [List.getElem?_eq_none (by rw [List.length_map, List.length_range]; omega), List.getElem?_eq_none (by omega)]
theorem at_id {n i : Nat} (h : i < n) : at0 (idN n) i = i := by
  unfold at0 idN
  rw [List.getD_eq_getElem?_getD, List.getElem?_range h]
  rfl
theorem then_id {n : Nat} {x : List Nat} (h : RowN n x) : thenN x (idN n) = x := by
  unfold thenN
  conv => rhs; rw [← List.map_id x]
  exact List.map_congr_left fun y hy => at_id (h.2 y hy)
theorem at_then {x m : List Nat} {i : Nat} (h : i < x.length) : at0 (thenN x m) i = at0 m (at0 x i) := by
  have e : (thenN x m)[i]? = some (at0 m (at0 x i)) := by
    unfold thenN
    rw [List.getElem?_map, at0_some h]
    rfl
  have e2 := at0_some (p := thenN x m) (i := i) (by unfold thenN; rw [List.length_map]; exact h)
  rw [e2] at e
  exact Option.some.inj e
theorem then_assoc {n : Nat} {x y m : List Nat} (hx : RowN n x) (hy : RowN n y) : thenN x (thenN y m) = thenN (thenN x y) m := by
  show x.map (at0 (thenN y m)) = (x.map (at0 y)).map (at0 m)
  rw [List.map_map]
  exact List.map_congr_left fun k hk => at_then (by rw [hy.1]; exact hx.2 k hk)
theorem Gen.mul {n : Nat} {gs : List (List Nat)} (hg : ∀ m ∈ gs, RowN n m) {x y : List Nat} (hx : Gen n gs x) (hy : Gen n gs y) : Gen n gs (thenN x y) := by
  induction hy with
  | one => rw [then_id (hx.row hg)]; exact hx
  | step h hm ih => rw [then_assoc (hx.row hg) (h.row hg)]; exact .step ih hm
theorem Gen.of {n : Nat} {gs : List (List Nat)} {m : List Nat} (hr : RowN n m) (h : m ∈ gs) : Gen n gs m := by
  have := Gen.step (.one (n := n)) h
  rw [id_then hr.1] at this
  exact this
/-- a list of all that some permutations make -/
structure Group (n : Nat) (gs rs : List (List Nat)) : Prop where
  nd : rs.Nodup
  all : ∀ x, x ∈ rs ↔ Gen n gs x
theorem Group.perm {n : Nat} {gs a b : List (List Nat)} (h1 : Group n gs a) (h2 : Group n gs b) : a.Perm b :=
  (List.perm_ext_iff_of_nodup h1.nd h2.nd).mpr fun x => (h1.all x).trans (h2.all x).symm
/-- a bound of what they make -/
structure Bnd (n : Nat) (gs L : List (List Nat)) (B : Nat) : Prop where
  rows : ∀ m ∈ gs, RowN n m
  one : idN n ∈ L
  step : ∀ x ∈ L, ∀ m ∈ gs, thenN x m ∈ L
  len : L.length ≤ B
theorem Bnd.le {n B : Nat} {gs L ms rs : List (List Nat)} (b : Bnd n gs L B) (hs : ∀ m ∈ ms, m ∈ gs) (nd : rs.Nodup) (h : ∀ x ∈ rs, Gen n ms x) : rs.length ≤ B := by
  refine Nat.le_trans (List.Nodup.length_le_of_subset nd fun x hx => ?_) b.len
  exact ((h x hx).mono hs).sub b.one b.step
/-- makers that make all -/
theorem group_of {n : Nat} {gs ms rs : List (List Nat)} (hg : ∀ m ∈ gs, RowN n m) (hs : ∀ m ∈ ms, m ∈ gs) (nd : rs.Nodup) (h1 : idN n ∈ rs) (h2 : ∀ x ∈ rs, ∀ m ∈ ms, thenN x m ∈ rs) (h3 : ∀ x ∈ rs, Gen n ms x) (h4 : ∀ m ∈ gs, m ∈ rs) : Group n gs rs := by
  have hm : ∀ m ∈ ms, RowN n m := fun m hm => hg m (hs m hm)
  refine ⟨nd, fun x => ⟨fun hx => (h3 x hx).mono hs, fun hx => ?_⟩⟩
  refine hx.sub h1 fun y hy m hmg => ?_
  exact (Gen.mul hm (h3 y hy) (h3 m (h4 m hmg))).sub h1 h2
/-! all permutations of a few places -/
def extP (n : Nat) : Nat → List (List Nat)
  | 0 => [[]]
  | k + 1 => (extP n k).flatMap fun l => ((List.range n).filter fun x => !l.contains x).map fun x => l ++ [x]
theorem ext_mem {n : Nat} : ∀ (k : Nat) (l : List Nat), l.length = k → (∀ x ∈ l, x < n) → l.Nodup → l ∈ extP n k
  | 0, l, hl, _, _ => by
    rw [List.length_eq_zero_iff.mp hl]
    exact List.mem_singleton.mpr rfl
  | k + 1, l, hl, hlt, nd => by
    have hne : l ≠ [] := fun e => by rw [e] at hl; exact nomatch hl
    obtain ⟨m, y, rfl⟩ : ∃ m y, l = m ++ [y] := ⟨l.dropLast, l.getLast hne, (List.dropLast_concat_getLast hne).symm⟩
    rw [List.length_append] at hl
    have nd' := List.nodup_append.mp nd
    refine List.mem_flatMap.mpr ⟨m, ext_mem k m (by simpa using hl) (fun x hx => hlt x (List.mem_append_left _ hx)) nd'.1, List.mem_map.mpr ⟨y, List.mem_filter.mpr ⟨List.mem_range.mpr (hlt y (List.mem_append_right _ List.mem_cons_self)), ?_⟩, rfl⟩⟩
    have : y ∉ m := fun hy => nd'.2.2 y hy y List.mem_cons_self rfl
    simpa using this
theorem Perm.then {n : Nat} {p q : List Nat} (hp : Perm n p) (hq : Perm n q) : Perm n (thenN p q) := by
  have hr := hp.row.then hq.row
  refine ⟨hr.1, hr.2, ?_⟩
  unfold thenN
  refine List.pairwise_iff_getElem.mpr fun i j hi hj hij e => ?_
  rw [List.length_map] at hi hj
  rw [List.getElem_map, List.getElem_map] at e
  have h1 := hq.inj (hp.lt _ (List.getElem_mem hi)) (hp.lt _ (List.getElem_mem hj)) e
  exact absurd h1 (List.pairwise_iff_getElem.mp hp.nd i j hi hj hij)
theorem Perm.id (n : Nat) : Perm n (idN n) := ⟨List.length_range, fun x hx => List.mem_range.mp hx, List.nodup_range⟩
theorem Perm.ext {n : Nat} {p : List Nat} (h : Perm n p) : p ∈ extP n n := ext_mem n p h.len h.lt h.nd
theorem ext_len {n : Nat} (h : n ≤ 6) : (extP n n).length ≤ 720 ∧ (extP n n).length = Nat.rec 1 (fun k f => (k + 1) * f) n := by
  match n, h with
  | 0, _ => decide +kernel
  | 1, _ => decide +kernel
  | 2, _ => decide +kernel
  | 3, _ => decide +kernel
  | 4, _ => decide +kernel
  | 5, _ => decide +kernel
  | 6, _ => decide +kernel
theorem ext_perm {n : Nat} : ∀ (k : Nat) (l : List Nat), l ∈ extP n k → l.length = k ∧ (∀ x ∈ l, x < n) ∧ l.Nodup
  | 0, l, h => by
    rw [List.mem_singleton.mp h]
    exact ⟨rfl, (fun x hx => nomatch hx), List.nodup_nil⟩
  | k + 1, l, h => by
    obtain ⟨m, hm, h2⟩ := List.mem_flatMap.mp h
    obtain ⟨y, hy, rfl⟩ := List.mem_map.mp h2
    obtain ⟨a, b, c⟩ := ext_perm k m hm
    obtain ⟨y1, y2⟩ := List.mem_filter.mp hy
    have hy' : y ∉ m := by simpa using y2
    refine ⟨by rw [List.length_append, a]; rfl, fun x hx => ?_, ?_⟩
    · rcases List.mem_append.mp hx with hx | hx
      · exact b x hx
      · rw [List.mem_singleton.mp hx]; exact List.mem_range.mp y1
    · refine List.nodup_append.mpr ⟨c, by simp, fun x hx z hz e => ?_⟩
      rw [List.mem_singleton.mp hz] at e
      subst e
      exact hy' hx
theorem bnd_small {n : Nat} {gs : List (List Nat)} (hn : n ≤ 6) (hg : ∀ m ∈ gs, Perm n m) : Bnd n gs (extP n n) (extP n n).length where
  rows := fun m hm => (hg m hm).row
  one := (Perm.id n).ext
  step := fun x hx m hm => by
    obtain ⟨a, b, c⟩ := ext_perm n x hx
    exact (Perm.then ⟨a, b, c⟩ (hg m hm)).ext
  len := Nat.le_refl _
theorem fact_ok : ∀ n, n ≤ 64 → ((Builtin.Math.factorialNat n : Nat) : Int).natAbs.log2 < bitsLine ∧ (n ≤ 6 → (extP n n).length ≤ Builtin.Math.factorialNat n) ∧ (7 ≤ n → 999 ≤ Builtin.Math.factorialNat n) := by
  have h : (List.range 65).all (fun n => decide (((Builtin.Math.factorialNat n : Nat) : Int).natAbs.log2 < bitsLine) && decide (n ≤ 6 → (extP n n).length ≤ Builtin.Math.factorialNat n) && decide (7 ≤ n → 999 ≤ Builtin.Math.factorialNat n)) = true := by decide +kernel
  intro n hn
  have h2 := List.all_eq_true.mp h n (List.mem_range.mpr (by omega))
  simp only [Bool.and_eq_true, decide_eq_true_eq] at h2
  exact ⟨h2.1.1, h2.1.2, h2.2⟩
def rFact : List V → Hp → VK → Prop := fun xs H Q => ∃ n : Nat, xs = [.int (n : Int)] ∧ n ≤ 64 ∧ Q (.int ((Builtin.Math.factorialNat n : Nat) : Int)) H
theorem call_factorial {X : Cx} : CallR X (.builtin "math.factorial") rFact := by
  rintro pins s σ H vs us Q I rs ⟨n, rfl, hn, q⟩
  obtain ⟨u, rfl, t, rfl⟩ := vals1 rs
  refine PySem.W.mg_factorial (by simp only [Builtin.Math.maxSsize]; omega) (by omega) (by simp only [Builtin.Math.manyFactors]; omega) (by rw [Int.toNat_natCast]; exact (fact_ok n hn).1) ?_
  rw [Int.toNat_natCast]
  exact ⟨.int _, H, I.tok _, ⟨_, rfl⟩, q⟩
theorem lay_rows : ∀ rs : List (List Nat), PyData.canLayAll0 (rs.map rowD) = true
  | [] => rfl
  | r :: rs => Bool.and_eq_true_iff.mpr ⟨by
      show PyData.canLayAll0 (r.map nD) = true
      rw [nat_ints]
      exact lay_ints _, lay_rows rs⟩
theorem depth_rows : ∀ rs : List (List Nat), PyData.depthAll (rs.map rowD) ≤ 2
  | [] => by decide
  | r :: rs => by
    show max (PyData.depthAll (r.map nD) + 1) (PyData.depthAll (rs.map rowD)) ≤ 2
    have h1 := depth_rows rs
    rw [nat_ints, depth_ints]
    omega
theorem shaped_rows (rs : List (List Nat)) : SeqAt.shaped (.list (rs.map rowD)) = true := by
  refine Bool.and_eq_true_iff.mpr ⟨lay_rows rs, decide_eq_true ?_⟩
  show PyData.depthAll (rs.map rowD) + 1 ≤ 64
  have := depth_rows rs
  omega
theorem eqv_all_rows : ∀ (a b : List (List Nat)), PyData.eqvAll (a.map rowD) (b.map rowD) = decide (a = b)
  | [], [] => by simp [PyData.eqvAll]
  | [], y :: b => by simp [PyData.eqvAll]
  | x :: a, [] => by simp [PyData.eqvAll]
  | x :: a, y :: b => by
    rw [List.map_cons, List.map_cons, PyData.eqvAll, eqv_rows, eqv_all_rows a b]
    simp [Bool.decide_and]
theorem eqv_lrows (a b : List (List Nat)) : PyData.eqv (.list (a.map rowD)) (.list (b.map rowD)) = decide (a = b) := by
  rw [PyData.eqv, eqv_all_rows]
theorem dp_rows {K : PySem.W.Frag} {H : Hp} {p : Addr} {ps : List (Addr × List Nat)} (h : SqL K H p (refsV ps)) (hall : ∀ q ∈ ps, SqT K H q.1 (q.2.map iV)) : Dp K H (.ref p) (.list ((ps.map (·.2)).map rowD)) := by
  refine .lst h ?_
  clear h
  induction ps with
  | nil => exact .nil
  | cons q ps ih => exact .cons ((row_of (hall q List.mem_cons_self)).dp _ _) (ih fun q' hq => hall q' (List.mem_cons_of_mem _ hq))
theorem fits_rows {rs : List (List Nat)} (h : rs.length ≤ 1000) (hr : ∀ r ∈ rs, r.length ≤ 1000) : fits 3 (.list (rs.map rowD)) := by
  have zl : (sizeLine : Nat) = 16777216 := by decide
  refine ⟨by rw [List.length_map]; omega, fun d hd => ?_⟩
  obtain ⟨r, hm, rfl⟩ := List.mem_map.mp hd
  exact fits_row 0 (hr r hm)
/-- rows that stand at addresses, each a tuple of its own -/
def TupR (H : Hp) (ps : List (Addr × List Nat)) : Prop := ∀ p ∈ ps, H p.1 = some (.tup (p.2.map iV))
theorem TupR.k {H H' : Hp} {ps : List (Addr × List Nat)} (h : TupR H ps) (e : Same H H') : TupR H' ps := fun p hp => e _ _ (h p hp)
theorem TupR.snoc {H : Hp} {ps : List (Addr × List Nat)} {b : Addr} {r : List Nat} (h : TupR H ps) (hb : H b = some (.tup (r.map iV))) : TupR H (ps ++ [(b, r)]) := fun p hp => by
  rcases List.mem_append.mp hp with hp | hp
  · exact h p hp
  · rw [List.mem_singleton.mp hp]; exact hb
end G
set_option Elab.async false
set_option linter.all false
set_option maxRecDepth 100000
set_option maxHeartbeats 4000000
namespace G
open PySem PySem.Spec PyProof.Rows L2
def rListN : List V → Hp → VK → Prop := fun xs H Q => ∃ (d : Addr) (rs : List (List Nat)), xs = [V.ref d] ∧ Rd H d (.dT (dictN rs)) ∧
  ∀ (p : Addr) (ps : List (Addr × List Nat)), H p = none → ps.map (·.2) = rs → TupR H ps → Q (.ref p) (upd H p (.lst (refsV ps)))
theorem keys_rows {H : Hp} : ∀ (rs : List (List Nat)) (bs : List Addr), IsKeys H (dictN rs) bs → ∃ ps : List (Addr × List Nat), ps.map (·.2) = rs ∧ TupR H ps ∧ bs.map V.ref = refsV ps
  | [], _, h => by
    cases (show Paired _ _ _ from h)
    exact ⟨[], rfl, (fun p hp => nomatch hp), rfl⟩
  | r :: rs, _, h => by
    cases (show Paired _ _ _ from h) with
    | @cons _ b _ bs h1 h2 =>
      obtain ⟨ps, e1, e2, e3⟩ := keys_rows rs bs h2
      have hb : H b = some (.tup ((kN r).map kV)) := h1
      rw [kN_row] at hb
      refine ⟨(b, r) :: ps, by rw [List.map_cons, e1], fun p hp => ?_, ?_⟩
      · rcases List.mem_cons.mp hp with rfl | hp
        · exact hb
        · exact e2 p hp
      · rw [List.map_cons, e3]
        rfl
section
variable {X : Cx} {H : Hp} {Q : VK} {K : PySem.W.Frag} {σ : L2.St} {te ty td tv : TE}
theorem call_listN (hc : X.calm = true) : CallR X (.type "list") rListN := by
  rintro pins s σ H xs us Q I rs ⟨d, rows, rfl, hd, key⟩
  refine call_list_dT hc pins s σ H _ us Q I rs ⟨d, _, rfl, hd, fun p bs hp hk => ?_⟩
  obtain ⟨ps, e1, e2, e3⟩ := keys_rows rows bs hk
  rw [e3]
  exact key p ps hp e1 e2
theorem r_listN {d : Addr} {rs : List (List Nat)} (h : H d = some (.dT (dictN rs))) (q : ∀ (p : Addr) (ps : List (Addr × List Nat)), H p = none → ps.map (·.2) = rs → TupR H ps → Q (.ref p) (upd H p (.lst (refsV ps)))) : rListN [.ref d] H Q := ⟨d, rs, rfl, .inl h, q⟩
theorem r_sortD {d : Addr} {rs : List (List Nat)} (h : H d = some (.dT (dictN rs))) (hn : ∀ r ∈ rs, r ≠ []) (q : ∀ (zs : List (Addr × List Nat)) (p : Addr), (zs.map (·.2)).Perm rs → sortedR zs → TupR H zs → H p = none → Q (.ref p) (upd H p (.lst (refsV zs)))) : rSortD [.ref d] H Q := ⟨d, rs, rfl, .inl h, hn, q⟩
theorem r_sortT {a : Addr} {ps : List (Addr × List Nat)} (h : SqL K H a (refsV ps)) (hall : ∀ p ∈ ps, SqT K H p.1 (p.2.map iV) ∧ p.2 ≠ []) (q : ∀ (zs : List (Addr × List Nat)) (p : Addr), zs.Perm ps → sortedR zs → H p = none → Q (.ref p) (upd H p (.lst (refsV zs)))) : rSortT K [.ref a] H Q := ⟨a, ps, rfl, h, hall, q⟩
theorem r_lenDT {d : Addr} {rs : List (List Nat)} (h : H d = some (.dT (dictN rs))) (q : Q (.int (rs.length : Nat)) H) : rLenT [.ref d] H Q := by
  refine ⟨d, dictN rs, rfl, h, ?_⟩
  rw [dictN_len]
  exact q
theorem r_dni {ty td : TE} (h : ty σ H fun y H1 => td σ H1 fun x H2 => ∃ a o, x = .ref a ∧ DGet H2 a y o ∧ Q (.bl (!o.isSome)) H2) : tDNotIn ty td σ H Q := h
open Classical in
theorem dni_at {d b : Addr} {rs : List (List Nat)} {r : List Nat} (h : H d = some (.dT (dictN rs))) (hb : H b = some (.tup (r.map iV))) : ∃ o, DGet H d (.ref b) o ∧ (!o.isSome) = decide (r ∉ rs) := by
  rw [← kN_row] at hb
  refine ⟨_, DGet.t h hb, ?_⟩
  by_cases e : r ∈ rs
  · rw [valV_in e, decide_eq_false (fun z => z e)]
    rfl
  · rw [valV_out e, decide_eq_true e]
    rfl
theorem r_dput {D : Ends} {td ty tv : TE} (h : tv σ H fun v H1 => td σ H1 fun x H2 => ty σ H2 fun y H3 => ∃ a H4, x = .ref a ∧ DPut H3 a y v H4 ∧ D.nx σ H4) : sDPut td ty tv D σ H := h
theorem r_dputE {D : Ends} {d b : Addr} {rs : List (List Nat)} {r : List Nat} (h : H d = some (.dT (dictN rs))) (hb : H b = some (.tup (r.map iV))) (hr : r ∉ rs) (hl : rs.length < sizeLine) (q : D.nx σ (upd H d (.dT (dictN (rs ++ [r]))))) : ∃ a H4, V.ref d = .ref a ∧ DPut H a (.ref b) (.bl true) H4 ∧ D.nx σ H4 := by
  rw [← kN_row] at hb
  refine ⟨d, _, rfl, DPut.t h hb (by rw [dictN_len]; exact hl), ?_⟩
  rw [putN hr]
  exact q
theorem r_dispT {tk tv : TE} (h : ∀ p, H p = none → tk σ (upd H p (.dT [])) fun x H1 => tv σ H1 fun y H2 => ∃ b r, x = .ref b ∧ H2 b = some (.tup ((r : List Nat).map iV)) ∧ H2 p = some (.dT []) ∧ y = .bl true ∧ Q (.ref p) (upd H2 p (.dT (dictN [r])))) : tDispT tk tv σ H Q := h
theorem at_refs {ps : List (Addr × List Nat)} {i : Nat} {p : Addr × List Nat} (h : ps[i]? = some p) : atI (refsV ps) (i : Int) = some (.ref p.1) := by
  refine at_of rfl ?_
  unfold refsV
  rw [List.getElem?_map, h]
  rfl
end
end G
set_option Elab.async false
set_option linter.all false
set_option maxRecDepth 100000
set_option maxHeartbeats 4000000
namespace G
open PySem PySem.Spec PyProof.Rows L2
/-! ### dicts from rows to texts -/
abbrev Wm := List (List Nat × List Nat)
def dictW (m : Wm) : List (List Key × V) := m.map fun p => (kN p.1, sV p.2)
theorem dictW_len (m : Wm) : (dictW m).length = m.length := List.length_map _
theorem valW_in : ∀ {m : Wm} {i : Nat} {p : List Nat × List Nat}, (m.map (·.1)).Nodup → m[i]? = some p → valV (dictW m) (kN p.1) = some (sV p.2)
  | x :: m, 0, p, _, h => by
    cases Option.some.inj (show some x = some p from h)
    exact valV_pos rfl
  | x :: m, i + 1, p, nd, h => by
    have h' : m[i]? = some p := h
    obtain ⟨n1, n2⟩ := List.nodup_cons.mp (show (x.1 :: m.map (·.1)).Nodup from nd)
    show valV ((kN x.1, sV x.2) :: dictW m) (kN p.1) = _
    rw [valV_neg (fun z => n1 (by rw [kN_inj z]; exact List.mem_map_of_mem (List.mem_of_getElem? h')))]
    exact valW_in n2 h'
  | [], _, _, _, h => by simp at h
theorem valW_out {m : Wm} {r : List Nat} (h : r ∉ m.map (·.1)) : valV (dictW m) (kN r) = none := by
  induction m with
  | nil => rfl
  | cons x m ih =>
    have h2 : r ∉ x.1 :: m.map (·.1) := h
    show valV ((kN x.1, sV x.2) :: dictW m) (kN r) = _
    rw [valV_neg (fun z => h2 (by rw [← kN_inj z]; exact List.mem_cons_self))]
    exact ih fun z => h2 (List.mem_cons_of_mem _ z)
theorem putW {m : Wm} {r z : List Nat} (h : r ∉ m.map (·.1)) : putK (dictW m) (kN r) (sV z) = dictW (m ++ [(r, z)]) := by
  rw [putK_new _ (valW_out h)]
  unfold dictW
  rw [List.map_append]
  rfl
/-- {t: v}, one key, a row -/
def tDispV (tk tv : TE) : TE := fun σ H Q => ∀ p, H p = none → tk σ (upd H p (.dT [])) fun x H1 => tv σ H1 fun y H2 => ∃ b r, x = .ref b ∧ H2 b = some (.tup ((r : List Nat).map iV)) ∧ H2 p = some (.dT []) ∧ Q (.ref p) (upd H2 p (.dT [(kN r, y)]))
section
variable {X : Cx} {K : PySem.W.Frag} {σ : L2.St} {H : Hp} {Q : VK} {tk tv : TE}
theorem pe_dispV {k v : Expr} {pos : Pos} (hu : X.A.units + 1 < cLine) (hk : PE X k tk) (hv : PE X v tv) : PE X (.Dict [some k] [v] pos) (tDispV tk tv) := by
  constructor
  intro pins s σ H Q I q
  have hn := I.hok.fresh (Nat.le_refl s.heap.objs.size)
  have I1 := I.laid (a := s.heap.objs.size) (o := .dT []) (h' := s.heap.push { cls := .type "dict", data := .dict #[] }) (t' := s.toks) (fun _ _ e => Heap.get?_push_of_some _ e) (Nat.le_refl _) (dt_empty s.heap I.big)
  rw [arm_eval_Dict, zip_pairTrees [some k] [v] X.env pos rfl rfl, dictDisplay_pairs (pairTrees [some k] [v] X.env pos) (by simp [pairTrees]) (by simp [pairTrees])]
  refine wpAny_bind (wpAny_standAt (wpAny_bind ?_))
  refine wpAny_subDictH (knd := tupleKind (mixKind X.prog X.w)) (Q := fun d s' => wpAny (model X.prog X.w) X.A (pure (Value.ref d)) (EP X pins σ Q) X.xe s') (show X.A.units < cLine by omega) (by simp [pairTrees]) ?_
  refine pairTrees_cons_walk (thn (hk.run pins _ σ _ _ I1 (q _ hn)) fun u s1 ⟨x, H1, I2, rx, q1⟩ => thn (hv.run pins s1 σ H1 _ I2 q1) fun w2 s2 ⟨y, H2, I3, ry, b, r, ex, hb, hp, q2⟩ => pairTrees_nil_walk ?_)
  subst ex
  cases rx
  rw [← kN_row] at hb
  obtain ⟨z, hd, xs, rel, dd⟩ := dt_of I3.hok hp
  cases rel
  refine ⟨[(kN r, b, w2)], ⟨rfl, rfl, key_of I3.hok hb, trivial⟩, dd, fun h' tk dd' hs => wpAny_pure ?_⟩
  obtain ⟨ob, es, ep, hq, h2, h3, h4, _, h5⟩ := dd'
  have I4 := d_write (t' := tk) (ob := .dT [(kN r, y)]) I3 (by rw [hp]; exact True.intro) hs ⟨ob, hq⟩ ⟨by show 1 ≤ sizeLine; decide, hd, [(kN r, b, w2)], .cons ⟨rfl, by rw [upd_ne (ne_of hb hp (fun z => nomatch z))]; exact hb, ry⟩ .nil, ob, es, ep, hq, h2, h3, h4, h5⟩
  exact ⟨.ref _, _, I4, rfl, q2⟩
theorem r_dispV (h : ∀ p, H p = none → tk σ (upd H p (.dT [])) fun x H1 => tv σ H1 fun y H2 => ∃ b r, x = .ref b ∧ H2 b = some (.tup ((r : List Nat).map iV)) ∧ H2 p = some (.dT []) ∧ Q (.ref p) (upd H2 p (.dT [(kN r, y)]))) : tDispV tk tv σ H Q := h
open Classical in
theorem dnw_at {d b : Addr} {m : Wm} {r : List Nat} (h : H d = some (.dT (dictW m))) (hb : H b = some (.tup (r.map iV))) (nd : (m.map (·.1)).Nodup) : ∃ o, DGet H d (.ref b) o ∧ (!o.isSome) = decide (r ∉ m.map (·.1)) := by
  rw [← kN_row] at hb
  refine ⟨_, DGet.t h hb, ?_⟩
  by_cases e : r ∈ m.map (·.1)
  · obtain ⟨i, hi⟩ := List.mem_iff_getElem?.mp e
    rw [List.getElem?_map] at hi
    obtain ⟨p, hp, rfl⟩ := Option.map_eq_some_iff.mp hi
    rw [valW_in nd hp, decide_eq_false (fun z => z e)]
    rfl
  · rw [valW_out e, decide_eq_true e]
    rfl
theorem r_dputW {D : Ends} {d b : Addr} {m : Wm} {r z : List Nat} (h : H d = some (.dT (dictW m))) (hb : H b = some (.tup (r.map iV))) (hr : r ∉ m.map (·.1)) (hl : m.length < sizeLine) (q : D.nx σ (upd H d (.dT (dictW (m ++ [(r, z)]))))) :
    ∃ a H4, V.ref d = .ref a ∧ DPut H a (.ref b) (sV z) H4 ∧ D.nx σ H4 := by
  rw [← kN_row] at hb
  refine ⟨d, _, rfl, DPut.t h hb (by rw [dictW_len]; exact hl), ?_⟩
  rw [putW hr]
  exact q
theorem r_dg {td ty : TE} (h : td σ H fun x H1 => ty σ H1 fun y H2 => ∃ a v, x = .ref a ∧ DGet H2 a y (some v) ∧ Q v H2) : tDGet td ty σ H Q := h
theorem r_dgetW {d b : Addr} {m : Wm} {i : Nat} {p : List Nat × List Nat} (h : H d = some (.dT (dictW m))) (hb : H b = some (.tup (p.1.map iV))) (nd : (m.map (·.1)).Nodup) (hi : m[i]? = some p) (q : Q (sV p.2) H) :
    ∃ a v, V.ref d = .ref a ∧ DGet H a (.ref b) (some v) ∧ Q v H := by
  rw [← kN_row] at hb
  refine ⟨d, _, rfl, ?_, q⟩
  have g := DGet.t h hb
  rw [valW_in nd hi] at g
  exact g
theorem r_dg1 {td ty : TE} (h : td σ H fun x H1 => ∃ a, x = .ref a ∧ IsD H1 a ∧ ty σ H1 fun y H2 => ∃ o, DGet H2 a y o ∧ Q (o.getD .non) H2) : tDGet1 td ty σ H Q := h
theorem dget1_at {d b : Addr} {m : Wm} {r : List Nat} (h : H d = some (.dT (dictW m))) (hb : H b = some (.tup (r.map iV))) (nd : (m.map (·.1)).Nodup) :
    ∃ o, DGet H d (.ref b) o ∧ ((∃ (i : Nat) (p : List Nat × List Nat), m[i]? = some p ∧ p.1 = r ∧ o = some (sV p.2)) ∨ (r ∉ m.map (·.1) ∧ o = none)) := by
  rw [← kN_row] at hb
  refine ⟨_, DGet.t h hb, ?_⟩
  by_cases e : r ∈ m.map (·.1)
  · obtain ⟨i, hi⟩ := List.mem_iff_getElem?.mp e
    rw [List.getElem?_map] at hi
    obtain ⟨p, hp, rfl⟩ := Option.map_eq_some_iff.mp hi
    exact .inl ⟨i, p, hp, rfl, valW_in nd hp⟩
  · exact .inr ⟨e, valW_out e⟩
theorem dgetW_at {d b : Addr} {m : Wm} {i : Nat} {p : List Nat × List Nat} (h : H d = some (.dT (dictW m))) (hb : H b = some (.tup (p.1.map iV))) (nd : (m.map (·.1)).Nodup) (hi : m[i]? = some p) : DGet H d (.ref b) (some (sV p.2)) := by
  rw [← kN_row] at hb
  have g := DGet.t h hb
  rw [valW_in nd hi] at g
  exact g
theorem abcd_at {k j c : Nat} (h4 : k ≤ 4) (h : (abcdG k)[j]? = some c) : c = 97 + j := by
  unfold abcdG at h
  rw [List.getElem?_take] at h
  split at h
  · match j, h with
    | 0, h => cases Option.some.inj h; rfl
    | 1, h => cases Option.some.inj h; rfl
    | 2, h => cases Option.some.inj h; rfl
    | 3, h => cases Option.some.inj h; rfl
    | n + 4, h => simp at h
  · exact nomatch h
theorem keys_rowsW {H : Hp} : ∀ (m : Wm) (bs : List Addr), IsKeys H (dictW m) bs → ∃ ps : List (Addr × List Nat), ps.map (·.2) = m.map (·.1) ∧ TupR H ps ∧ bs.map V.ref = refsV ps
  | [], _, h => by
    cases (show Paired _ _ _ from h)
    exact ⟨[], rfl, (fun p hp => nomatch hp), rfl⟩
  | x :: m, _, h => by
    cases (show Paired _ _ _ from h) with
    | @cons _ b _ bs h1 h2 =>
      obtain ⟨ps, e1, e2, e3⟩ := keys_rowsW m bs h2
      have hb : H b = some (.tup ((kN x.1).map kV)) := h1
      rw [kN_row] at hb
      refine ⟨(b, x.1) :: ps, by rw [List.map_cons, List.map_cons, e1], fun p hp => ?_, ?_⟩
      · rcases List.mem_cons.mp hp with rfl | hp
        · exact hb
        · exact e2 p hp
      · rw [List.map_cons, e3]
        rfl
def rListW : List V → Hp → VK → Prop := fun xs H Q => ∃ (d : Addr) (m : Wm), xs = [V.ref d] ∧ Rd H d (.dT (dictW m)) ∧
  ∀ (p : Addr) (ps : List (Addr × List Nat)), H p = none → ps.map (·.2) = m.map (·.1) → TupR H ps → Q (.ref p) (upd H p (.lst (refsV ps)))
theorem call_listW (hc : X.calm = true) : CallR X (.type "list") rListW := by
  rintro pins s σ H xs us Q I rs ⟨d, m, rfl, hd, key⟩
  refine call_list_dT hc pins s σ H _ us Q I rs ⟨d, _, rfl, hd, fun p bs hp hk => ?_⟩
  obtain ⟨ps, e1, e2, e3⟩ := keys_rowsW m bs hk
  rw [e3]
  exact key p ps hp e1 e2
theorem r_lenW {d : Addr} {m : Wm} (h : H d = some (.dT (dictW m))) (q : Q (.int (m.length : Nat)) H) : rLenT [.ref d] H Q := by
  refine ⟨d, dictW m, rfl, h, ?_⟩
  rw [dictW_len]
  exact q
end
theorem at_abcd {c : Nat} (h : c < 4) : atI (Str.ofString "abcd").cps.toList (c : Int) = some (97 + c) := by
  match c, h with
  | 0, _ => decide +kernel
  | 1, _ => decide +kernel
  | 2, _ => decide +kernel
  | 3, _ => decide +kernel
end G
set_option Elab.async false
set_option linter.all false
set_option maxRecDepth 100000
set_option maxHeartbeats 4000000
namespace G
theorem nodup_le_len {α : Type} [BEq α] [LawfulBEq α] : ∀ {a b : List α}, a.Nodup → (∀ x ∈ a, x ∈ b) → a.length ≤ b.length
  | [], _, _, _ => Nat.zero_le _
  | x :: a, b, nd, h => by
    have hx := h x List.mem_cons_self
    obtain ⟨n1, n2⟩ := List.nodup_cons.mp nd
    have ih := nodup_le_len (b := b.erase x) n2 fun y hy => (List.mem_erase_of_ne (fun e => n1 (by rw [← e]; exact hy))).mpr (h y (List.mem_cons_of_mem _ hy))
    rw [List.length_erase_of_mem hx] at ih
    have : 0 < b.length := List.length_pos_of_mem hx
    rw [List.length_cons]
    omega
/-! ### what words lead to, found in their order -/
abbrev Stp := List Nat → Nat → Option (List Nat)
/-- one letter more of the word of x -/
def ext1 (stp : Stp) (m : Wm) (x : List Nat × List Nat) (c : Nat) : Wm := match stp x.1 c with
  | none => m
  | some r => if r ∈ m.map (·.1) then m else m ++ [(r, x.2 ++ [97 + c])]
def extT (stp : Stp) (x : List Nat × List Nat) (m : Wm) (j : Nat) : Wm := (List.range j).foldl (fun m c => ext1 stp m x c) m
theorem extT_zero (stp : Stp) (x : List Nat × List Nat) (m : Wm) : extT stp x m 0 = m := rfl
theorem extT_succ (stp : Stp) (x : List Nat × List Nat) (m : Wm) (j : Nat) : extT stp x m (j + 1) = ext1 stp (extT stp x m j) x j := by
  unfold extT
  rw [List.range_succ, List.foldl_append]
  rfl
def bfs (stp : Stp) (k : Nat) (o : List Nat) : Nat → Wm
  | 0 => [(o, [])]
  | i + 1 => match (bfs stp k o i)[i]? with
    | none => bfs stp k o i
    | some x => extT stp x (bfs stp k o i) k
section
variable {stp : Stp} {k : Nat} {o : List Nat}
theorem ext1_pre (m : Wm) (x : List Nat × List Nat) (c : Nat) : ∃ z, ext1 stp m x c = m ++ z := by
  unfold ext1
  split
  · exact ⟨[], (List.append_nil _).symm⟩
  · split
    · exact ⟨[], (List.append_nil _).symm⟩
    · exact ⟨_, rfl⟩
theorem extT_pre (x : List Nat × List Nat) (m : Wm) : ∀ j, ∃ z, extT stp x m j = m ++ z
  | 0 => ⟨[], (List.append_nil _).symm⟩
  | j + 1 => by
    obtain ⟨z, h⟩ := extT_pre x m j
    obtain ⟨y, h2⟩ := ext1_pre (stp := stp) (extT stp x m j) x j
    exact ⟨z ++ y, by rw [extT_succ, h2, h, List.append_assoc]⟩
theorem bfs_succ {i : Nat} {x : List Nat × List Nat} (h : (bfs stp k o i)[i]? = some x) : bfs stp k o (i + 1) = extT stp x (bfs stp k o i) k := by
  show (match (bfs stp k o i)[i]? with | none => bfs stp k o i | some x => extT stp x (bfs stp k o i) k) = _
  rw [h]
theorem bfs_stop {i : Nat} (h : (bfs stp k o i).length ≤ i) : bfs stp k o (i + 1) = bfs stp k o i := by
  show (match (bfs stp k o i)[i]? with | none => bfs stp k o i | some x => extT stp x (bfs stp k o i) k) = _
  rw [List.getElem?_eq_none h]
theorem bfs_pre1 (i : Nat) : ∃ z, bfs stp k o (i + 1) = bfs stp k o i ++ z := by
  cases h : (bfs stp k o i)[i]? with
  | none => exact ⟨[], by rw [bfs_stop (List.getElem?_eq_none_iff.mp h), List.append_nil]⟩
  | some x =>
    rw [bfs_succ h]
    exact extT_pre x _ k
theorem bfs_pre (i : Nat) : ∀ d, ∃ z, bfs stp k o (i + d) = bfs stp k o i ++ z
  | 0 => ⟨[], (List.append_nil _).symm⟩
  | d + 1 => by
    obtain ⟨z, h⟩ := bfs_pre i d
    obtain ⟨y, h2⟩ := bfs_pre1 (stp := stp) (k := k) (o := o) (i + d)
    exact ⟨z ++ y, by rw [← Nat.add_assoc, h2, h, List.append_assoc]⟩
theorem bfs_at {i j l : Nat} {p : List Nat × List Nat} (h : (bfs stp k o i)[l]? = some p) (hij : i ≤ j) : (bfs stp k o j)[l]? = some p := by
  obtain ⟨z, e⟩ := bfs_pre (stp := stp) (k := k) (o := o) i (j - i)
  rw [show i + (j - i) = j by omega] at e
  rw [e, List.getElem?_append_left (List.getElem?_eq_some_iff.mp h).1]
  exact h
theorem bfs_stops {i : Nat} (h : (bfs stp k o i).length ≤ i) : ∀ d, bfs stp k o (i + d) = bfs stp k o i
  | 0 => rfl
  | d + 1 => by
    have e := bfs_stops h d
    rw [← Nat.add_assoc, bfs_stop (by rw [e]; omega), e]
/-- two searches that have ended found the same -/
theorem bfs_same {i j : Nat} (h1 : (bfs stp k o i).length ≤ i) (h2 : (bfs stp k o j).length ≤ j) : bfs stp k o i = bfs stp k o j := by
  rcases Nat.le_total i j with h | h
  · have := bfs_stops h1 (j - i)
    rw [show i + (j - i) = j by omega] at this
    exact this.symm
  · have := bfs_stops h2 (i - j)
    rw [show j + (i - j) = i by omega] at this
    exact this
/-! what holds of all entries -/
theorem ext1_all {P : List Nat × List Nat → Prop} {m : Wm} {x : List Nat × List Nat} {c : Nat} (hm : ∀ p ∈ m, P p) (hs : ∀ r, stp x.1 c = some r → P (r, x.2 ++ [97 + c])) : ∀ p ∈ ext1 stp m x c, P p := by
  unfold ext1
  split
  · exact hm
  · rename_i r e
    split
    · exact hm
    · intro p hp
      rcases List.mem_append.mp hp with h | h
      · exact hm p h
      · rw [List.mem_singleton.mp h]
        exact hs r e
theorem ext1_nd {m : Wm} {x : List Nat × List Nat} {c : Nat} (h : (m.map (·.1)).Nodup) : ((ext1 stp m x c).map (·.1)).Nodup := by
  unfold ext1
  split
  · exact h
  · split
    · exact h
    · rename_i r _ hn
      rw [List.map_append]
      refine List.nodup_append.mpr ⟨h, by simp, fun a ha b hb e => ?_⟩
      have hb' : b = r := by simpa using hb
      subst e hb'
      exact hn ha
theorem extT_nd {m : Wm} {x : List Nat × List Nat} (h : (m.map (·.1)).Nodup) : ∀ j, ((extT stp x m j).map (·.1)).Nodup
  | 0 => h
  | j + 1 => by
    rw [extT_succ]
    exact ext1_nd (extT_nd h j)
theorem bfs_nd : ∀ i, ((bfs stp k o i).map (·.1)).Nodup
  | 0 => by simp [bfs]
  | i + 1 => by
    cases h : (bfs stp k o i)[i]? with
    | none =>
      rw [bfs_stop (List.getElem?_eq_none_iff.mp h)]
      exact bfs_nd i
    | some x =>
      rw [bfs_succ h]
      exact extT_nd (bfs_nd i) k
theorem extT_all {P : List Nat × List Nat → Prop} {m : Wm} {x : List Nat × List Nat} (hm : ∀ p ∈ m, P p) (n : Nat) (hs : ∀ c r, c < n → stp x.1 c = some r → P (r, x.2 ++ [97 + c])) : ∀ j, j ≤ n → ∀ p ∈ extT stp x m j, P p
  | 0, _ => hm
  | j + 1, hj => by
    rw [extT_succ]
    exact ext1_all (extT_all hm n hs j (by omega)) fun r e => hs j r (by omega) e
theorem bfs_all {P : List Nat × List Nat → Prop} (h0 : P (o, [])) (hs : ∀ x c r, P x → c < k → stp x.1 c = some r → P (r, x.2 ++ [97 + c])) : ∀ i, ∀ p ∈ bfs stp k o i, P p
  | 0 => fun p hp => by rw [List.mem_singleton.mp hp]; exact h0
  | i + 1 => by
    cases h : (bfs stp k o i)[i]? with
    | none =>
      rw [bfs_stop (List.getElem?_eq_none_iff.mp h)]
      exact bfs_all h0 hs i
    | some x =>
      rw [bfs_succ h]
      have hx := bfs_all h0 hs i x (List.mem_of_getElem? h)
      exact extT_all (bfs_all h0 hs i) k (fun c r hc e => hs x c r hx hc e) k (Nat.le_refl _)
/-- all that is found lies in L: the search is as long at most -/
theorem bfs_len {L : List (List Nat)} (h0 : o ∈ L) (hs : ∀ r ∈ L, ∀ c r', c < k → stp r c = some r' → r' ∈ L) (i : Nat) : (bfs stp k o i).length ≤ L.length := by
  have hall := bfs_all (stp := stp) (k := k) (o := o) (P := fun p => p.1 ∈ L) h0 (fun x c r hx hc e => hs x.1 hx c r hc e) i
  have := nodup_le_len (bfs_nd (stp := stp) (k := k) (o := o) i) (fun a ha => by
    obtain ⟨p, hp, rfl⟩ := List.mem_map.mp ha
    exact hall p hp)
  rw [List.length_map] at this
  exact this
theorem extT_len {L : List (List Nat)} {m : Wm} {x : List Nat × List Nat} (hm : ∀ p ∈ m, p.1 ∈ L) (nd : (m.map (·.1)).Nodup) (hs : ∀ c r', c < k → stp x.1 c = some r' → r' ∈ L) {j : Nat} (hj : j ≤ k) : (extT stp x m j).length ≤ L.length := by
  have hall := extT_all (stp := stp) (P := fun p => p.1 ∈ L) hm k (fun c r hc e => hs c r hc e) j hj
  have := nodup_le_len (extT_nd (stp := stp) (x := x) nd j) (fun a ha => by
    obtain ⟨p, hp, rfl⟩ := List.mem_map.mp ha
    exact hall p hp)
  rw [List.length_map] at this
  exact this
/-- where a word leads -/
def walkO (stp : Stp) (o : List Nat) (w : List Nat) : Option (List Nat) := w.foldl (fun r c => r.bind fun r => stp r (c - 97)) (some o)
theorem walkO_snoc (w : List Nat) (c : Nat) : walkO stp o (w ++ [c]) = (walkO stp o w).bind fun r => stp r (c - 97) := by
  unfold walkO
  rw [List.foldl_append]
  rfl
theorem bfs_word (i : Nat) : ∀ p ∈ bfs stp k o i, walkO stp o p.2 = some p.1 ∧ ∀ c ∈ p.2, 97 ≤ c ∧ c < 97 + k :=
  bfs_all (P := fun p => walkO stp o p.2 = some p.1 ∧ ∀ c ∈ p.2, 97 ≤ c ∧ c < 97 + k) ⟨rfl, fun c hc => nomatch hc⟩ (fun x c r hx hc e => ⟨by
    show walkO stp o (x.2 ++ [97 + c]) = some r
    rw [walkO_snoc, hx.1]
    show stp x.1 (97 + c - 97) = some r
    rw [Nat.add_sub_cancel_left]
    exact e, fun d hd => by
    rcases List.mem_append.mp hd with h | h
    · exact hx.2 d h
    · rw [List.mem_singleton.mp h]
      omega⟩) i
/-- the lengths of the words -/
theorem bfs_wlen (i : Nat) : ∀ (j : Nat) (p : List Nat × List Nat), (bfs stp k o i)[j]? = some p → p.2.length ≤ j := by
  have ext : ∀ (x : List Nat × List Nat) (m : Wm), (∀ (j : Nat) (p : List Nat × List Nat), m[j]? = some p → p.2.length ≤ j) → x.2.length < m.length → ∀ n, ∀ (j : Nat) (p : List Nat × List Nat), (extT stp x m n)[j]? = some p → p.2.length ≤ j := by
    intro x m hm hx n
    induction n with
    | zero => exact hm
    | succ n ih =>
      intro j p hp
      rw [extT_succ] at hp
      obtain ⟨z0, e0⟩ := extT_pre (stp := stp) x m n
      unfold ext1 at hp
      split at hp
      · exact ih j p hp
      · split at hp
        · exact ih j p hp
        · by_cases hj : j < (extT stp x m n).length
          · rw [List.getElem?_append_left hj] at hp
            exact ih j p hp
          · rw [List.getElem?_append_right (by omega)] at hp
            have hj0 : j - (extT stp x m n).length = 0 := by
              have := (List.getElem?_eq_some_iff.mp hp).1
              have h1 : [(‹List Nat›, x.2 ++ [97 + n])].length = 1 := rfl
              simp at this
              omega
            rw [hj0] at hp
            rw [← Option.some.inj hp]
            show (x.2 ++ [97 + n]).length ≤ j
            rw [List.length_append]
            have : (extT stp x m n).length ≥ m.length := by rw [e0, List.length_append]; omega
            show x.2.length + 1 ≤ j
            omega
  induction i with
  | zero =>
    intro j p hp
    match j, hp with
    | 0, hp => rw [← Option.some.inj hp]; exact Nat.le_refl 0
    | j + 1, hp => simp [bfs] at hp
  | succ i ih =>
    cases h : (bfs stp k o i)[i]? with
    | none =>
      rw [bfs_stop (List.getElem?_eq_none_iff.mp h)]
      exact ih
    | some x =>
      rw [bfs_succ h]
      exact ext x _ ih (Nat.lt_of_le_of_lt (ih i x h) (List.getElem?_eq_some_iff.mp h).1) k
end
/-! all lots of n states -/
def subsN : Nat → List (List Nat)
  | 0 => [[]]
  | n + 1 => subsN n ++ (subsN n).map fun l => l ++ [n]
theorem subsN_len : ∀ n, (subsN n).length = 2 ^ n
  | 0 => rfl
  | n + 1 => by
    unfold subsN
    rw [List.length_append, List.length_map, subsN_len n, Nat.pow_succ]
    omega
theorem nodup_at {α : Type} {l : List α} {x : α} {i j : Nat} (nd : l.Nodup) (h1 : l[i]? = some x) (h2 : l[j]? = some x) : i = j := by
  obtain ⟨a1, b1⟩ := List.getElem?_eq_some_iff.mp h1
  obtain ⟨a2, b2⟩ := List.getElem?_eq_some_iff.mp h2
  rcases Nat.lt_trichotomy i j with h | h | h
  · exact absurd (b1.trans b2.symm) (List.pairwise_iff_getElem.mp nd i j a1 a2 h)
  · exact h
  · exact absurd (b2.trans b1.symm) (List.pairwise_iff_getElem.mp nd j i a2 a1 h)
/-- a key has one word -/
theorem key_word {m : Wm} {i j : Nat} {p q : List Nat × List Nat} (nd : (m.map (·.1)).Nodup) (h1 : m[i]? = some p) (h2 : m[j]? = some q) (e : p.1 = q.1) : p = q := by
  have z1 : (m.map (·.1))[i]? = some p.1 := by rw [List.getElem?_map, h1]; rfl
  have z2 : (m.map (·.1))[j]? = some p.1 := by rw [List.getElem?_map, h2, e]; rfl
  have := nodup_at nd z1 z2
  subst this
  rw [h1] at h2
  exact Option.some.inj h2
theorem key_mem {m : Wm} {i : Nat} {p : List Nat × List Nat} (h : m[i]? = some p) : p.1 ∈ m.map (·.1) := List.mem_map_of_mem (List.mem_of_getElem? h)
end G
set_option Elab.async false
set_option linter.all false
set_option maxRecDepth 100000
set_option maxHeartbeats 2000000
namespace G
open PySem PySem.Spec PyProof.Rows L2 LamX NdefX
/-! ### lambdas with parameters, handed on: F their words (its body is of no account), e their expression -/
abbrev lamFd (F : NF) (e : Expr) (pm ctv : Value) : FuncData :=
  PySem.W.kla_fn "<lambda>" F.qual F.params e F.scope F.cl pm (.ref F.c) ctv
def LamO (f : Addr) (F : NF) (e : Expr) : HO := .ext fun h => ∃ (od : Option Addr) (sl : Array (Option Value)) (pm ctv : Value),
  h.get? f = some (⟨.type "function", od, .func (lamFd F e pm ctv), sl⟩ : Obj)
theorem lamO_at {P : Program} {w : World} {H : Hp} {h : Heap} {f : Addr} {F : NF} {e : Expr} (hok : HOk P w H h) (q : H f = some (LamO f F e)) :
    ∃ (od : Option Addr) (sl : Array (Option Value)) (pm ctv : Value), h.get? f = some (⟨.type "function", od, .func (lamFd F e pm ctv), sl⟩ : Obj) := (hok f _ q).1
theorem lamO_ne {f : Addr} {F : NF} {e : Expr} (ps : Array Value) : LamO f F e ≠ .tbl ps := fun z => by
  unfold LamO at z
  exact nomatch z
/-- what was there is there -/
def Dom (H H' : Hp) : Prop := ∀ b, H b ≠ none → H' b ≠ none
theorem Dom.upd {H H' : Hp} {a : Addr} {o : HO} (h : Dom H H') : Dom H (L2.upd H' a o) := fun b hb => by
  unfold L2.upd
  split
  · exact fun z => nomatch z
  · exact h b hb
abbrev lamNF (X : Cx) (params : Arguments) (scope : Scope) (c' : Addr) : NF :=
  ⟨"<lambda>", X.env.qual ++ "<lambda>", params, [], scope, cloFrom X.env.cells scope.names [], c'⟩
section
variable {X : Cx} {pins : List (Addr × Obj)} {σ : L2.St} {H : Hp} {s : Shared}
theorem inv_lam {F : NF} {e : Expr} {o : Obj} {tk : Nat} {pm ctv : Value} (I : Inv X pins σ H s) (ho : o = { cls := .type "function", data := .func (lamFd F e pm ctv) }) :
    Inv X pins σ (upd H s.heap.objs.size (LamO s.heap.objs.size F e)) { s with heap := s.heap.push o, toks := tk } := by
  subst ho
  have at_ := Heap.get?_push_size (o := ({ cls := .type "function", data := .func (lamFd F e pm ctv) } : Obj)) s.heap rfl
  exact I.laid (fun b u z => Heap.get?_push_of_some _ z) (Nat.le_refl _)
    ⟨⟨_, _, pm, ctv, at_⟩, ⟨_, at_⟩, fun h1 h2 z st => by
      obtain ⟨od, sl, p1, p2, z⟩ := z
      exact ⟨od, sl, p1, p2, st _ z⟩⟩
theorem lam_make {T : List (Addr × Str)} {c P : Addr} {params : Arguments} {body : Expr} {scope : Scope} {pos : Pos} {E : Value → Shared → Prop} {Q : Value → Shared → Prop}
    (I : Inv X pins σ H s) (TB : TabB X.base X.mg c P) (hcode : X.env.code = .ref c)
    (hm : (P, X.env.qual ++ "<lambda>") ∈ T) (hu : ∀ p ∈ T, p.1 = P → p.2 = X.env.qual ++ "<lambda>") (hT : Tabs T H)
    (hdef : defaultsOf params X.env = ([], [])) (hfree : ∀ y ∈ scope.names, y.2 = .free → ∃ c, X.env.cells.lookup y.1 = some c)
    (h : ∀ (f c' : Addr) (H1 : Hp) (s' : Shared), Inv X pins σ H1 s' → ExtN H H1 → Dom H H1 → Tabs T H1 → H f = none →
      H1 f = some (LamO f (lamNF X params scope c') body) → H1 c' = some (CodeO c' (X.env.qual ++ "<lambda>")) → Q (.ref f) s') :
    wpAny (model X.prog X.w) X.A (eval (.Lambda params body scope pos) X.env) Q E s := by
  obtain ⟨ps, tabP, trip, told⟩ := hT _ hm
  refine PySem.W.kla_eval hdef ?_
  have bmP : s.heap.BuiltinsAt X.mg P := TB.bm.keeps I.bk
  have objP : s.heap.get? P = some { cls := .none, data := .fields ps } := I.hok P _ tabP
  have clo := closure_ok (env := X.env) hfree
  have gl := I.mod.glob.keeps I.bk
  have hd := TB.code.keeps I.bk
  cases found : codeAmong pos ps.toList with
  | some cv =>
    obtain ⟨c', rfl, hco⟩ := told pos cv found
    refine PySem.W.kla_makeFunctionHit (mg := X.mg) (c := c) (P := P) (ps := ps) clo I.ok.glob gl
      hcode hd objP trip found bmP fun ctv h' tk keep big => ?_
    have I1 : Inv X pins σ H { s with heap := h', toks := tk } := I.kept keep
    have new : H h'.objs.size = none := I1.hok.fresh (Nat.le_refl _)
    have I2 := inv_lam (F := lamNF X params scope c') (e := body) (tk := tk) (pm := (X.mg "__name__").getD .none) (ctv := ctv) I1 rfl
    refine h _ c' _ _ I2 (fun b o z _ => (upd_ne (ne_of_none z new)).trans z) (Dom.upd fun b z => z) ?_ new upd_same ((upd_ne (ne_of_none hco new)).trans hco)
    exact hT.ext fun b o z => (upd_ne (ne_of_none z new)).trans z
  | none =>
    refine PySem.W.kla_makeFunction (mg := X.mg) (c := c) (P := P) (ps := ps) clo I.ok.glob gl
      hcode hd objP trip found TB.gP bmP fun c' ctv h' tk keep ge lt rec_ tab => ?_
    obtain ⟨c2, oc, vs, t, e2, a1, a2, a3⟩ := rec_
    obtain rfl := Value.ref.inj e2
    have newC : H c' = none := I.hok.fresh ge
    have I1 := inv_table (q := X.env.qual ++ "<lambda>") (t' := tk) (more := #[rawInt pos.line, rawInt pos.col, .ref c']) I tabP
      (fun b o hb z => keep b o hb z) tab ge ⟨oc, vs, t, a1, a2, a3⟩
    have ext1 : ExtN H (upd (upd H P (.tbl (ps ++ #[rawInt pos.line, rawInt pos.col, .ref c']))) c' (CodeO c' (X.env.qual ++ "<lambda>"))) := fun b o z n => by
      have nb : b ≠ P := fun y => by
        rw [y, tabP] at z
        exact n ps (Option.some.inj z).symm
      rw [upd_ne (ne_of_none z newC), upd_ne nb]
      exact z
    have codeAt : (upd (upd H P (.tbl (ps ++ #[rawInt pos.line, rawInt pos.col, .ref c']))) c' (CodeO c' (X.env.qual ++ "<lambda>"))) c' = _ := upd_same
    have eL : (ps ++ #[rawInt pos.line, rawInt pos.col, Value.ref c']).toList = ps.toList ++ [rawInt pos.line, rawInt pos.col, .ref c'] := by simp
    have tabs1 : Tabs T (upd (upd H P (.tbl (ps ++ #[rawInt pos.line, rawInt pos.col, .ref c']))) c' (CodeO c' (X.env.qual ++ "<lambda>"))) := fun p hp => by
      obtain ⟨qs, b1, b2, b3⟩ := hT p hp
      by_cases hb : p.1 = P
      · refine ⟨ps ++ #[rawInt pos.line, rawInt pos.col, .ref c'], ?_, ?_, fun p' cv hcv => ?_⟩
        · rw [hb, upd_ne (ne_of_none tabP newC)]
          exact upd_same
        · rw [eL]
          exact PySem.TriplesOk_snoc _ _ _ _ trip
        · rw [eL] at hcv
          rw [hu p hp hb]
          rcases among_app _ trip hcv with z | z
          · obtain ⟨c0, d1, d2⟩ := told p' cv z
            exact ⟨c0, d1, ext1 _ _ d2 codeO_ne⟩
          · exact ⟨c', z, codeAt⟩
      · refine ⟨qs, ?_, b2, fun p' cv hcv => ?_⟩
        · rw [upd_ne (ne_of_none b1 newC), upd_ne hb]
          exact b1
        · obtain ⟨c0, d1, d2⟩ := b3 p' cv hcv
          exact ⟨c0, d1, ext1 _ _ d2 codeO_ne⟩
    have newF := I1.hok.fresh (Nat.le_refl _)
    have I2 := inv_lam (F := lamNF X params scope c') (e := body) (tk := tk) (pm := (X.mg "__name__").getD .none) (ctv := ctv) I1 rfl
    refine h _ c' _ _ I2 (fun b o z n => ?_) (Dom.upd (Dom.upd (Dom.upd fun b z => z))) (tabs1.ext fun b o z => (upd_ne (ne_of_none z newF)).trans z) ?_ upd_same ((upd_ne (ne_of_none codeAt newF)).trans codeAt)
    · have z1 := ext1 b o z n
      exact (upd_ne (ne_of_none z1 newF)).trans z1
    · cases z : H h'.objs.size with
      | none => rfl
      | some o =>
        have big : s.heap.objs.size ≤ h'.objs.size := Nat.le_trans ge (Nat.le_of_lt lt)
        rw [I.hok.fresh big] at z
        exact nomatch z
end
/-- the reading of a lambda: a new function object -/
def tLamH (T : List (Addr × Str)) (mk : Addr → NF) (e : Expr) : TE := fun σ H Q => Tabs T H ∧ ∀ (f c' : Addr) (H1 : Hp), ExtN H H1 → Tabs T H1 → H f = none →
  H1 f = some (LamO f (mk c') e) → H1 (mk c').c = some (CodeO (mk c').c (mk c').qual) → Q (.ref f) H1
section
variable {X : Cx}
theorem pe_lamH {T : List (Addr × Str)} {c P : Addr} {params : Arguments} {body : Expr} {scope : Scope} {pos : Pos} (TB : TabB X.base X.mg c P) (hcode : X.env.code = .ref c)
    (hm : (P, X.env.qual ++ "<lambda>") ∈ T) (hu : ∀ p ∈ T, p.1 = P → p.2 = X.env.qual ++ "<lambda>") (hdef : defaultsOf params X.env = ([], []))
    (hfree : ∀ y ∈ scope.names, y.2 = .free → X.env.scope.names.lookup y.1 = some .cell ∨ X.env.scope.names.lookup y.1 = some .free) :
    PE X (.Lambda params body scope pos) (tLamH T (lamNF X params scope) body) := by
  refine ⟨fun pins s σ H Q I h => ?_⟩
  obtain ⟨hT, h⟩ := h
  have fr : ∀ y ∈ scope.names, y.2 = .free → ∃ c, X.env.cells.lookup y.1 = some c := fun y hy e => (hfree y hy e).elim (fun z => I.ok.has _ (.inl z)) fun z => I.ok.has _ (.inr z)
  exact lam_make I TB hcode hm hu hT hdef fr fun f c' H1 s' I1 x1 _ t1 n1 l1 k1 => ⟨.ref f, H1, I1, rfl, h f c' H1 x1 t1 n1 l1 k1⟩
end
/-- what a call leaves: all but the tables stays, nothing is gone -/
structure ExD (H H' : Hp) : Prop where
  n : ExtN H H'
  d : Dom H H'
def tLamD (T : List (Addr × Str)) (mk : Addr → NF) (e : Expr) : TE := fun σ H Q => Tabs T H ∧ ∀ (f c' : Addr) (H1 : Hp), ExD H H1 → Tabs T H1 → H f = none →
  H1 f = some (LamO f (mk c') e) → H1 (mk c').c = some (CodeO (mk c').c (mk c').qual) → Q (.ref f) H1
section
variable {X : Cx}
theorem pe_lamD {T : List (Addr × Str)} {c P : Addr} {params : Arguments} {body : Expr} {scope : Scope} {pos : Pos} (TB : TabB X.base X.mg c P) (hcode : X.env.code = .ref c)
    (hm : (P, X.env.qual ++ "<lambda>") ∈ T) (hu : ∀ p ∈ T, p.1 = P → p.2 = X.env.qual ++ "<lambda>") (hdef : defaultsOf params X.env = ([], []))
    (hfree : ∀ y ∈ scope.names, y.2 = .free → X.env.scope.names.lookup y.1 = some .cell ∨ X.env.scope.names.lookup y.1 = some .free) :
    PE X (.Lambda params body scope pos) (tLamD T (lamNF X params scope) body) := by
  refine ⟨fun pins s σ H Q I h => ?_⟩
  obtain ⟨hT, h⟩ := h
  have fr : ∀ y ∈ scope.names, y.2 = .free → ∃ c, X.env.cells.lookup y.1 = some c := fun y hy e => (hfree y hy e).elim (fun z => I.ok.has _ (.inl z)) fun z => I.ok.has _ (.inr z)
  exact lam_make I TB hcode hm hu hT hdef fr fun f c' H1 s' I1 x1 d1 t1 n1 l1 k1 => ⟨.ref f, H1, I1, rfl, h f c' H1 ⟨x1, d1⟩ t1 n1 l1 k1⟩
end
/-! ### what a lambda promises -/
structure LOk (P : Program) (w : World) (K : PySem.W.Frag) (mg : Str → Option Value) (base : Heap) (CX : CXT) (k : Nat) (f : Addr) (F : NF) (e : Expr) (ps fr : List Str) (sp : List (Option V) → Sp) : Prop where
  len : ∀ ws vs H Q E, sp ws vs H Q E → vs.length = ps.length
  run : ∀ (A : Around) (outer : List Env) (s : Shared) (H : Hp) (us : List Value) (vs : List V) (ws : List (Option V)) (Q : VK) (E : XK),
    Room k A → Env0 P w K mg base A outer s H → H f = some (LamO f F e) → H F.c = some (CodeO F.c F.qual) →
    CellsAt F.cl fr ws s.heap H → Vals vs us → sp ws vs H Q E → codeAny (model P w) A (.call (.ref f) ⟨us, []⟩) (CR CX outer P w H s Q E) s
section
variable {CX : CXT} {P : Program} {w : World} {K : PySem.W.Frag} {mg : Str → Option Value} {base : Heap} {N ps fr : List Str} {F : NF} {e : Expr} {f : Addr} {k j : Nat} {sp : List (Option V) → Sp}
theorem LOk.mono (o : LOk P w K mg base CX j f F e ps fr sp) (h : j ≤ k) : LOk P w K mg base CX k f F e ps fr sp :=
  ⟨o.len, fun A outer s H us vs ws Q E hr => o.run A outer s H us vs ws Q E (hr.mono h)⟩
/-- THE RULE: a lambda by its expression -/
theorem lok_of (S : NScope N ps fr F.scope) (hb : ∀ (pm ctv : Value) (us : List Value), us.length = ps.length → bindArgs (lamFd F e pm ctv) ⟨us, []⟩ = pure (ps.zip us))
    (len : ∀ ws vs H Q E, sp ws vs H Q E → vs.length = ps.length)
    (hbody : ∀ (A : Around) (outer : List Env) (s : Shared) (H : Hp) (vs : List V) (ws : List (Option V)) (Q : VK) (E : XK), Room k (A.deeper (envF F f s.heap.objs.size)) →
      ws.length = fr.length → sp ws vs H Q E → ∃ t, PE (ncx CX P w K mg base N F f A outer s H E) e t ∧ t (startF N vs ws) H Q) :
    LOk P w K mg base CX (k + 1) f F e ps fr sp := by
  refine ⟨len, fun A outer s H us vs ws Q E hr e0 hf hc C r hsp => ?_⟩
  have hl := len _ _ _ _ _ hsp
  have lim : s.heap.NoLimit := e0.mod.nolimit.keeps fun b o z => (e0.bs b o z).1
  obtain ⟨od, sl, pm, ctv, ho⟩ := lamO_at e0.hok hf
  refine PySem.W.kla_callFunE hr.depth ho rfl S.co S.gen rfl (codeO_at e0.hok hc) ?_
  rw [hb pm ctv us (by rw [← r.length]; exact hl)]
  refine wpAny_pure (wpAny_newFunctionEnv S.nocell (fun y hy => S.par y.1 (List.of_mem_zip (b := y.2) hy).1) (fun h₁ hns hsb => ⟨lim.fresh _ hsb, ?_⟩) S.kind)
  show codeAny _ _ (.expr e (envF F f s.heap.objs.size)) _ _
  have kp : ∀ b o, s.heap.get? b = some o → h₁.get? b = some o := fun b o z =>
    hsb.extBut b o (Nat.ne_of_lt (Heap.lt_size z)) (Heap.get?_push_of_some _ z)
  obtain ⟨t, ht, hq⟩ := hbody A outer s H vs ws Q E (hr.deeper _) C.len hsp
  have I := inv_startN (CX := CX) (E := E) (f := f) (tk := s.toks + (ps.zip us).length) S hr.hd e0 hl r C hns kp
  refine PySem.W.kla_codeExpr (wpAny_mono (ht.run [] _ (startF N vs ws) H _ I hq) (fun u s' hs => ?_) fun _ _ hs => hs)
  obtain ⟨v, H', J, rv, q⟩ := hs
  exact ⟨v, H', J.os, J.bare, J.base, J.hok, rv, q⟩
end
/-! ### calls of such a lambda in a def that was handed it -/
structure Clo where
  cl : List (Str × Addr)
  fr : List Str
  ws : List (Option V)
/-- its captured cells hold so, and are no frames of those that run -/
structure HeldC (C : Clo) (l : List Env) (h : Heap) (H : Hp) : Prop where
  at_ : CellsAt C.cl C.fr C.ws h H
  nofr : ∀ y c, C.cl.lookup y = some c → c ∉ frs l
section
variable {X : Cx} {pins : List (Addr × Obj)} {σ : L2.St} {H : Hp} {s : Shared}
theorem held_later {C : Clo} (h : HeldC C X.outer X.s_0.heap X.H_0) (nx : X.ex = []) (I : Inv X pins σ H s) : HeldC C X.stack s.heap H := by
  refine ⟨h.at_.later (fun y c z => h.nofr y c z) (fun y c _ => by rw [nx]; simp) I, fun y c z hc => ?_⟩
  obtain ⟨v, o, ho, hd⟩ := (h.at_.all y c z).2
  rcases List.mem_cons.mp (I.stkSub c hc) with e | e
  · have h1 := I.ok.above
    have h2 := Heap.lt_size ho
    rw [e] at h2
    exact absurd (Nat.lt_of_lt_of_le h2 h1) (Nat.lt_irrefl _)
  · exact h.nofr y c z e
/-- .. of the def that makes it -/
theorem held_made {C : Clo} {js : List Nat} (c : Caps X C.cl C.fr js) (hw : C.ws = js.map (slotAt σ)) (hfn : ∀ x, X.fn x = true) (I : Inv X pins σ H s) : HeldC C X.stack s.heap H := by
  refine ⟨by rw [hw]; exact cells_of I c, fun y a z hc => ?_⟩
  have ha := c.sub y a z
  rcases List.mem_cons.mp (I.stkSub a hc) with e | e
  · exact I.cne y a ha e
  · obtain ⟨_, o, ho, _⟩ := I.ok.funs.mem e
    have h1 := I.ok.cab y a (hfn y) ha
    exact absurd (Nat.lt_of_lt_of_le (Heap.lt_size ho) h1) (Nat.lt_irrefl _)
end
/-- x(..), x a name that holds a lambda that was handed in -/
def tCallH (i : Nat) (F : Addr → NF → Expr → Prop) (sp : NF → Sp) (t : TA) : TE := fun σ H Q => ∃ f F' e, σ[i]? = some (some (.ref f)) ∧ F f F' e ∧ H f = some (LamO f F' e) ∧
  t σ H fun vs H1 => H1 f = some (LamO f F' e) ∧ H1 F'.c = some (CodeO F'.c F'.qual) ∧ sp F' vs H1 Q E0
section
variable {X : Cx} {k j i : Nat} {x : Str} {t : TA} {e : Expr} {es : List Expr} {p pos : Pos} {FP : Addr → NF → Expr → Prop} {sp : NF → Sp}
theorem fnAt_lam {pins : List (Addr × Obj)} {σ : L2.St} {H : Hp} {s : Shared} {f : Addr} {F : NF} {e : Expr} (I : Inv X pins σ H s) (q : H f = some (LamO f F e)) : PySem.W.FnAt f s.heap := by
  obtain ⟨od, sl, pm, ctv, ho⟩ := lamO_at I.hok q
  exact ⟨_, od, _, sl, ho⟩
theorem pe_callH (Fn : ∀ f F e, FP f F e → ∃ (C : Clo) (ps : List Str) (spL : List (Option V) → Sp), C.cl = F.cl ∧ LOk X.prog X.w X.K X.mg X.base CX0 k f F e ps C.fr spL ∧ HeldC C X.outer X.s_0.heap X.H_0 ∧ ∀ vs H Q E, sp F vs H Q E → spL C.ws vs H Q E) (nx : X.ex = [])
    (hr : Room j X.A) (hk : k ≤ j) (hN : X.N[i]? = some x) (hv : Vis X.env.scope x) (ha : PA X (e :: es) t)
    (hd : (x == ("__debug__" : Str)) = false := by decide) (hcd : (x == ("__classdict__" : Str)) = false := by decide)
    (he : starEach (e :: es) X.env = (false, eval e X.env) :: starEach es X.env := by rfl) (hpl : (backTo pos (starEach es X.env)).any (·.1) = false := by rfl) :
    PE X (.Call (.Name x p) (e :: es) [] pos) (tCallH i FP sp t) := by
  refine ⟨fun pins s σ H Q I h => ?_⟩
  obtain ⟨f, F, e', hs, hFP, hf, ht⟩ := h
  obtain ⟨C, ps, spL, eC, L, hC, hS⟩ := Fn f F e' hFP
  have nm := (pe_var (pos := p) hN hv hd hcd).run pins s σ H (fun v H1 => v = .ref f ∧ H1 = H) I ⟨.ref f, hs, rfl, rfl⟩
  refine wpAny_Call_Name_kw (thn nm fun u s1 q1 => ?_)
  obtain ⟨v, H1, I1, r1, ev, eH⟩ := q1
  subst ev
  rw [eH] at I1
  obtain rfl : u = Value.ref f := r1
  refine PySem.W.callWith_F (first := []) (fnAt_lam I1 hf) (thn (ha.run pos pins s1 σ H _ I1 ht) fun us s2 q2 => ?_) he hpl
  obtain ⟨vs, H2, I2, r, h1, h2, q⟩ := q2
  refine ⟨fnAt_lam I2 h1, ?_⟩
  show wpAny _ _ (call (.ref f) us) _ _ _
  have hc2 := (held_later hC nx I2).at_
  rw [eC] at hc2
  refine wpAny_call (codeAny_mono (L.run X.A X.stack s2 H2 us vs C.ws Q E0 (hr.mono hk) I2.env0 h1 h2 hc2 r (hS _ _ _ _ q)) fun r s' hq => ?_)
  cases r with
  | error _ => exact (show False from hq).elim
  | ok fl =>
    cases fl with
    | ret u => exact I2.after hq
    | next => exact (show False from hq).elim
    | brk => exact (show False from hq).elim
    | cont => exact (show False from hq).elim
end
/-! ### a def that is handed lambdas -/
structure FnOkC (P : Program) (w : World) (K : PySem.W.Frag) (mg : Str → Option Value) (base : Heap) (CX : CXT) (k : Nat) (f : Addr) (fd : FuncData) (ps : List Str) (sp : List Clo → Sp) : Prop where
  len : ∀ Cs vs H Q E, sp Cs vs H Q E → vs.length = ps.length
  run : ∀ (Cs : List Clo) (A : Around) (outer : List Env) (s : Shared) (H : Hp) (args : Args) (us : List Value) (vs : List V) (Q : VK) (E : XK), Room k A → Env0 P w K mg base A outer s H → BindsTo s fd args (ps.zip us) → Vals vs us →
    (∀ C ∈ Cs, HeldC C outer s.heap H) → sp Cs vs H Q E → codeAny (model P w) A (.call (.ref f) args) (CR CX outer P w H s Q E) s
theorem FnOkC.mono {P : Program} {w : World} {K : PySem.W.Frag} {mg : Str → Option Value} {base : Heap} {CX : CXT} {k j : Nat} {f : Addr} {fd : FuncData} {ps : List Str} {sp : List Clo → Sp}
    (o : FnOkC P w K mg base CX j f fd ps sp) (h : j ≤ k) : FnOkC P w K mg base CX k f fd ps sp :=
  ⟨o.len, fun Cs A outer s H args us vs Q E hr => o.run Cs A outer s H args us vs Q E (hr.mono h)⟩
section
variable {P : Program} {w : World} {K : PySem.W.Frag} {mg : Str → Option Value} {base : Heap}
/-- THE RULE for such a def -/
theorem Fun.okC {x qual : Str} {st : Stmt} {f : Addr} {fd : FuncData} {N ps : List Str} {k : Nat} {sp : List Clo → Sp} (F : Fun K x qual st f fd) (S : FnScope N ps (defScope st)) (len : ∀ Cs vs H Q E, sp Cs vs H Q E → vs.length = ps.length)
    (hbody : ∀ (cdv : Value) (Cs : List Clo) (A : Around) (outer : List Env) (s : Shared) (H : Hp) (vs : List V) (Q : VK) (E : XK), Room k (A.deeper (envOfC qual (defScope st) s.heap.objs.size f cdv)) → (∀ C ∈ Cs, HeldC C outer s.heap H) → sp Cs vs H Q E →
      ∃ t, PSs (cxOf CX0 P w K mg base N qual (defScope st) f cdv A outer s H E).nox (defBody st) t ∧ t { nx := fun _ H' => Q .non H', rt := Q } (L2.start N vs) H) : FnOkC P w K mg base CX0 (k + 1) f fd ps sp := by
  obtain ⟨oc, od, kV, doc, pm, an, cdv, ct, osl, rfl, lk, hcd⟩ := F.ex
  refine ⟨len, fun Cs A outer s H args us vs Q E hr e0 hb r hC hsp => ?_⟩
  refine run_ofS lk hcd S hr e0 hb r (len _ _ _ _ _ hsp) fun hr2 => ?_
  obtain ⟨t, ht, hq⟩ := hbody cdv Cs A outer s H vs Q E hr2 hC hsp
  exact ⟨t, ht.nox, hq⟩
/-- a def whose code object is named -/
structure FunC (K : PySem.W.Frag) (x qual : Str) (st : Stmt) (f : Addr) (fd : FuncData) (c : Addr) : Prop where
  ex : ∃ (oc : Value) (od : Option Addr) (kV doc pm : Value) (an : Option Addr) (ct : Value) (osl : Array (Option Value)),
    fd = PySem.W.fnOf x qual (defArgs st) (defBody st) (defScope st) .none kV doc pm an (.ref c) ct ∧ K.lookup f = some ⟨oc, od, .func fd, osl⟩ ∧ PySem.W.codeIn K (.ref c) qual = true
  kp : PySem.W.keepIn K (.ref f) = true
theorem FunC.fun_ {x qual : Str} {st : Stmt} {f c : Addr} {fd : FuncData} (F : FunC K x qual st f fd c) : Fun K x qual st f fd := by
  obtain ⟨oc, od, kV, doc, pm, an, ct, osl, e, lk, hcd⟩ := F.ex
  exact ⟨⟨oc, od, kV, doc, pm, an, _, ct, osl, e, lk, hcd⟩, F.kp⟩
/-- THE RULE for a def that makes lambdas -/
theorem FunC.ok {x qual : Str} {st : Stmt} {f c : Addr} {fd : FuncData} {N ps : List Str} {k : Nat} {sp : Sp} (F : FunC K x qual st f fd c) (S : FnScope N ps (defScope st)) (len : ∀ vs H Q E, sp vs H Q E → vs.length = ps.length)
    (hbody : ∀ (A : Around) (outer : List Env) (s : Shared) (H : Hp) (vs : List V) (Q : VK) (E : XK), Room k (A.deeper (envOfC qual (defScope st) s.heap.objs.size f (.ref c))) → sp vs H Q E →
      ∃ t, PSs (cxOf CX0 P w K mg base N qual (defScope st) f (.ref c) A outer s H E).nox (defBody st) t ∧ t { nx := fun _ H' => Q .non H', rt := Q } (L2.start N vs) H) : FnOk P w K mg base CX0 (k + 1) f fd ps sp := by
  obtain ⟨oc, od, kV, doc, pm, an, ct, osl, rfl, lk, hcd⟩ := F.ex
  refine fn_of lk hcd S len fun A outer s H vs Q E hr hsp => ?_
  obtain ⟨t, ht, hq⟩ := hbody A outer s H vs Q E hr hsp
  exact ⟨t, ht.nox, hq⟩
end
def tCallC (Cs : L2.St → List Clo) (sp : List Clo → Sp) (t : TA) : TE := fun σ H Q => t σ H fun vs H1 => sp (Cs σ) vs H1 Q E0
section
variable {X : Cx} {k : Nat} {f : Addr} {fd : FuncData} {ps : List Str} {sp : List Clo → Sp} {x : Str} {p pos : Pos} {e : Expr} {es : List Expr} {t : TA} {Cs : L2.St → List Clo}
theorem pe_callC (F : FnOkC X.prog X.w X.K X.mg X.base CX0 k f fd ps sp) (hC : ∀ pins σ H s, Inv X pins σ H s → ∀ C ∈ Cs σ, HeldC C X.stack s.heap H) (hr : Room k X.A) (hg : Gl X x) (hm : X.mg x = some (.ref f)) (hk : PySem.W.keepIn X.K (.ref f) = true) (hb : Binds X.K fd ps [])
    (ha : PA X (e :: es) t) (hdb : (x == ("__debug__" : Str)) = false := by decide) (he : starEach (e :: es) X.env = (false, eval e X.env) :: starEach es X.env := by rfl) (hpl : (backTo pos (starEach es X.env)).any (·.1) = false := by rfl) :
    PE X (.Call (.Name x p) (e :: es) [] pos) (tCallC Cs sp t) := by
  refine ⟨fun pins s σ H Q I h => ?_⟩
  refine wpAny_Call_Name_kw (ld_glob I hg hm ?_ hdb)
  refine PySem.W.callWith_K (h₀ := X.base) I.ok.mod.kin hk (thn (ha.run pos pins s σ H _ I h) fun us s1 q1 => ?_) he hpl
  obtain ⟨vs, H1, I1, r, q⟩ := q1
  refine ⟨I1.kIn, ?_⟩
  have hl : us.length = ps.length := by
    rw [← r.length]
    exact F.len _ _ _ _ _ q
  have bnd := hb s1 us I1.kIn (by rw [List.append_nil]; exact hl)
  rw [List.append_nil] at bnd
  refine wpAny_call (codeAny_mono (F.run (Cs σ) X.A X.stack s1 H1 ⟨us, []⟩ us vs Q E0 hr I1.env0 bnd r (hC _ _ _ _ I1) q) fun r s' hq => ?_)
  cases r with
  | error _ => exact (show False from hq).elim
  | ok fl =>
    cases fl with
    | ret u => exact I1.after hq
    | next => exact (show False from hq).elim
    | brk => exact (show False from hq).elim
    | cont => exact (show False from hq).elim
end
/-! ### for the writer of terms -/
def eLamArgs : Expr → Arguments | .Lambda ps _ _ _ => ps | _ => { posonlyargs := [], args := [], vararg := none, kwonlyargs := [], kw_defaults := [], kwarg := none, defaults := [] }
def eLamBody : Expr → Expr | .Lambda _ b _ _ => b | _ => noE
def eLamScope : Expr → Scope | .Lambda _ _ sc _ => sc | _ => { kind := .function, names := [], isGenerator := false, isCoroutine := false }
def eKey (k : Nat) : Expr → Expr | .Dict ks _ _ => (ks.getD k none).getD noE | _ => noE
def eVl (k : Nat) : Expr → Expr | .Dict _ vs _ => vs.getD k noE | _ => noE
theorem held_nil {X : Cx} : ∀ (pins : List (Addr × Obj)) (σ : L2.St) (H : Hp) (s : Shared), Inv X pins σ H s → ∀ C ∈ ([] : List Clo), HeldC C X.stack s.heap H := fun _ _ _ _ _ C hC => nomatch hC
theorem held_cons {X : Cx} {scope : Scope} {js : List Nat} {fr : List Str} {Cs : L2.St → List Clo} (hfn : ∀ x, X.fn x = true) (hB : NdefX.ndefB X.env.scope scope fr = true) (hjs : js.map (fun j => X.N[j]?) = fr.map some)
    (rest : ∀ (pins : List (Addr × Obj)) (σ : L2.St) (H : Hp) (s : Shared), Inv X pins σ H s → ∀ C ∈ Cs σ, HeldC C X.stack s.heap H) :
    ∀ (pins : List (Addr × Obj)) (σ : L2.St) (H : Hp) (s : Shared), Inv X pins σ H s → ∀ C ∈ (⟨cloFrom X.env.cells scope.names [], fr, js.map (NdefX.slotAt σ)⟩ : Clo) :: Cs σ, HeldC C X.stack s.heap H := by
  intro pins σ H s I C hC
  rcases List.mem_cons.mp hC with rfl | hC
  · exact held_made (js := js) (NdefX.Caps.made I.ok (NdefX.ndef_free hB) (NdefX.ndef_fr hB) hjs) rfl hfn I
  · exact rest pins σ H s I C hC
theorem tabs_uniq {l : List (Addr × Str)} {P : Addr} {x : Str} (nd : (l.map (·.1)).Nodup) (hm : (P, x) ∈ l) : ∀ p ∈ l, p.1 = P → p.2 = x := by
  induction l with
  | nil => exact nomatch hm
  | cons y l ih =>
    obtain ⟨n1, n2⟩ := List.nodup_cons.mp (show (y.1 :: l.map (·.1)).Nodup from nd)
    intro p hp e
    rcases List.mem_cons.mp hm with h1 | h1
    · rcases List.mem_cons.mp hp with h2 | h2
      · rw [h2, ← h1]
      · have m2 : p.1 ∈ l.map (·.1) := List.mem_map_of_mem h2
        rw [e, show P = y.1 by rw [← h1]] at m2
        exact absurd m2 n1
    · rcases List.mem_cons.mp hp with h2 | h2
      · have m2 : P ∈ l.map (·.1) := List.mem_map_of_mem (f := (·.1)) h1
        rw [← e, h2] at m2
        exact absurd m2 n1
      · exact ih n2 h1 p h2 e
theorem tabs_nil {l : List (Addr × Str)} {H : Hp} (h : ∀ p ∈ l, H p.1 = some (.tbl #[])) : Tabs l H := fun p hp => TabS.nil (h p hp)
theorem fun_of_D {K : PySem.W.Frag} {x : Str} {st : Stmt} {f : Addr} {fd : FuncData} (F : FunD K x x (defArgs st) (defBody st) (defScope st) [] [] f fd) : Fun K x x st f fd := by
  obtain ⟨oc, od, dV, kV, doc, pm, an, cdv, ct, osl, rfl, lk, hcd, hD, _⟩ := F.ex
  rcases hD with ⟨_, rfl⟩ | ⟨e, _⟩
  · exact ⟨⟨oc, od, kV, doc, pm, an, cdv, ct, osl, rfl, lk, hcd⟩, F.kp⟩
  · exact absurd rfl e
theorem funC_of_D {K : PySem.W.Frag} {x : Str} {st : Stmt} {p : Str × Option Str} {fd : FuncData} (F : FunD K x x (defArgs st) (defBody st) (defScope st) [] [] (He.fAd K p) fd) : FunC K x x st (He.fAd K p) fd (He.cT K p).1 := by
  obtain ⟨oc, od, dV, kV, doc, pm, an, cdv, ct, osl, rfl, lk, hcd, hD, _⟩ := F.ex
  obtain ⟨c, rfl⟩ := He.codeIn_ref hcd
  have ec := He.codeOf_eq lk rfl
  rcases hD with ⟨_, rfl⟩ | ⟨e, _⟩
  · show FunC K x x st _ _ (He.codeOf K p)
    rw [ec]
    exact ⟨⟨oc, od, kV, doc, pm, an, ct, osl, rfl, lk, hcd⟩, F.kp⟩
  · exact absurd rfl e
/-! ### what stands where code tables grow -/
section
variable {K : PySem.W.Frag} {H H' : Hp}
theorem _root_.LamX.ExtN.keep {a : Addr} {o : HO} (e : ExtN H H') (h : H a = some o) (n : ∀ ps, o ≠ .tbl ps) : H' a = some o := e a o h n
theorem _root_.LamX.ExtN.sqL {a : Addr} {xs : List V} (e : ExtN H H') (h : SqL K H a xs) : SqL K H' a xs := by
  rcases h with (h | ⟨o, h⟩) | h
  · exact .inl (.inl (e _ _ h fun _ z => nomatch z))
  · exact .inl (.inr ⟨o, e _ _ h fun _ z => nomatch z⟩)
  · exact .inr h
theorem _root_.LamX.ExtN.sqT {a : Addr} {xs : List V} (e : ExtN H H') (h : SqT K H a xs) : SqT K H' a xs := by
  rcases h with (h | ⟨o, h⟩) | h
  · exact .inl (.inl (e _ _ h fun _ z => nomatch z))
  · exact .inl (.inr ⟨o, e _ _ h fun _ z => nomatch z⟩)
  · exact .inr h
theorem _root_.LamX.ExtN.tup {a : Addr} {xs : List V} (e : ExtN H H') (h : H a = some (.tup xs)) : H' a = some (.tup xs) := e _ _ h fun _ z => nomatch z
theorem _root_.LamX.ExtN.lst {a : Addr} {xs : List V} (e : ExtN H H') (h : H a = some (.lst xs)) : H' a = some (.lst xs) := e _ _ h fun _ z => nomatch z
theorem _root_.LamX.ExtN.dT {a : Addr} {kvs : List (List Key × V)} (e : ExtN H H') (h : H a = some (.dT kvs)) : H' a = some (.dT kvs) := e _ _ h fun _ z => nomatch z
theorem _root_.LamX.ExtN.same {H2 : Hp} (e : ExtN H H') (s : Same H' H2) : ExtN H H2 := e.trans (ExtN.of s)
theorem _root_.LamX.ExtN.sT (e : ExtN H H') : SameT H H' := fun b => ⟨fun _ h => e b _ h (fun _ z => nomatch z), fun _ _ h => e b _ h (fun _ z => nomatch z)⟩
theorem ExD.refl (H : Hp) : ExD H H := ⟨ExtN.refl H, fun _ h => h⟩
theorem ExD.trans {H2 : Hp} (e : ExD H H') (f : ExD H' H2) : ExD H H2 := ⟨e.n.trans f.n, fun b h => f.d b (e.d b h)⟩
theorem ExD.of (s : Same H H') : ExD H H' := ⟨ExtN.of s, fun b h z => by
  cases e : H b with
  | none => exact h e
  | some o => rw [s _ _ e] at z; exact nomatch z⟩
theorem ExD.same {H2 : Hp} (e : ExD H H') (s : Same H' H2) : ExD H H2 := e.trans (ExD.of s)
theorem ExD.mut {p : Addr} {o : HO} (e : ExD H H') (h : H p = none) : ExD H (L2.upd H' p o) := ⟨fun b u hb n => by
  rw [upd_ne (ne_of_none hb h)]
  exact e.n b u hb n, Dom.upd e.d⟩
theorem ExD.free {p : Addr} (e : ExD H H') (h : H' p = none) : H p = none := Classical.byContradiction fun z => e.d p z h
theorem ExD.tup {a : Addr} {xs : List V} (e : ExD H H') (h : H a = some (.tup xs)) : H' a = some (.tup xs) := e.n.tup h
theorem ExD.lst {a : Addr} {xs : List V} (e : ExD H H') (h : H a = some (.lst xs)) : H' a = some (.lst xs) := e.n.lst h
theorem ExD.dT {a : Addr} {kvs : List (List Key × V)} (e : ExD H H') (h : H a = some (.dT kvs)) : H' a = some (.dT kvs) := e.n.dT h
theorem ExD.keep {a : Addr} {o : HO} (e : ExD H H') (h : H a = some o) (n : ∀ ps, o ≠ .tbl ps) : H' a = some o := e.n a o h n
theorem ExD.frz {a : Addr} {o : Obj} {u : HO} (e : ExD H H') (h : H a = some (.frz o u)) : H' a = some (.frz o u) := e.n _ _ h fun _ z => nomatch z
theorem ExD.sqL {a : Addr} {xs : List V} (e : ExD H H') (h : SqL K H a xs) : SqL K H' a xs := e.n.sqL h
theorem ExD.sqT {a : Addr} {xs : List V} (e : ExD H H') (h : SqT K H a xs) : SqT K H' a xs := e.n.sqT h
theorem ExD.sT (e : ExD H H') : SameT H H' := e.n.sT
theorem _root_.LamX.Tabs.same {l : List (Addr × Str)} (t : Tabs l H) (s : Same H H') : Tabs l H' := t.ext s
end
section
variable {σ : L2.St} {H : Hp} {Q : VK}
theorem r_callC {Cs : L2.St → List Clo} {sp : List Clo → Sp} {t : TA} (h : t σ H fun vs H1 => sp (Cs σ) vs H1 Q E0) : tCallC Cs sp t σ H Q := h
theorem r_lamH {T : List (Addr × Str)} {mk : Addr → NF} {e : Expr} (hT : Tabs T H) (h : ∀ (f c' : Addr) (H1 : Hp), ExtN H H1 → Tabs T H1 → H f = none → H1 f = some (LamO f (mk c') e) → H1 (mk c').c = some (CodeO (mk c').c (mk c').qual) → Q (.ref f) H1) : tLamH T mk e σ H Q := ⟨hT, h⟩
theorem r_lamD {T : List (Addr × Str)} {mk : Addr → NF} {e : Expr} (hT : Tabs T H) (h : ∀ (f c' : Addr) (H1 : Hp), ExD H H1 → Tabs T H1 → H f = none → H1 f = some (LamO f (mk c') e) → H1 (mk c').c = some (CodeO (mk c').c (mk c').qual) → Q (.ref f) H1) : tLamD T mk e σ H Q := ⟨hT, h⟩
end
end G
set_option Elab.async false
set_option linter.all false
set_option maxRecDepth 100000
set_option maxHeartbeats 4000000
namespace G
open PySem PySem.Spec PyProof.Rows L2
/-! ### {e for x in ..}, e a whole number -/
abbrev noInts : Int → Bool := fun _ => false
abbrev moreI (S : Int → Bool) (k : Int) : Int → Bool := fun j => S j || decide (j = k)
abbrev moreN (S : Int → Bool) (n : Nat) (k : Int) : Nat := if S k = true then n else n + 1
/-- a turn's end: the item y goes into the set at D -/
def putI (w : World) (D : Addr) (R : Hp → Prop) : VK := fun y H => ∃ (k : Int) (S : Int → Bool) (n : Nat),
  y = .int k ∧ H D = some (SetO w D S n) ∧ n + 1 < scanBound ∧ R (upd H D (SetO w D (moreI S k) (moreN S n k)))
def turnI (w : World) (D : Addr) (vs : List Nat) (σ : L2.St) (g : TG) (tt : TT) (te : TE) (x : V) (H : Hp) (R : Hp → Prop) : Prop :=
  g x (wipe σ vs) H fun σ2 H2 => wipe σ2 vs = wipe σ vs ∧ tt σ2 H2 fun b H3 => if b = true then te σ2 H3 (putI w D R) else R H3
def tScI (w : World) (wi : TI) (g : TG) (tt : TT) (te : TE) (vs : List Nat) : TE := fun σ H Q => wi σ H fun J H1 => ∀ D, H1 D = none →
  ∃ W : Nat → Nat → Hp → Prop, (∃ m, W 0 m (upd H1 D (SetO w D noInts 0))) ∧ ∀ i m H, W i m H →
    (J.stop i H ∧ Q (.ref D) H) ∨ (J.go i H ∧ ∃ R : Hp → Prop, (∀ H', R H' → ∃ m', m' < m ∧ W (i + 1) m' H') ∧ ∀ x H', J.yld i H x H' → turnI w D vs σ g tt te x H' R)
section
variable {X : Cx}
theorem add_int {pins : List (Addr × Obj)} {σ : L2.St} {H : Hp} {s : Shared} {E : Value → Shared → Prop} {D : Addr} {v : Value} {y : V} {R : Hp → Prop}
    (I : Inv X pins σ H s) (r : RelV y v) (h : putI X.w D R y H) :
    wpAny (model X.prog X.w) X.A (call (.builtin "set.add") [.ref D, v]) (fun _ s' => ∃ H', Inv X pins σ H' s' ∧ R H') E s := by
  obtain ⟨k, S, n, rfl, hD, room, q⟩ := h
  obtain ⟨tk, rfl⟩ := r
  refine setR_add (setO_get I hD) room fun h' same new => ⟨_, I.write (e := D) (t' := s.toks + 1) ?_ (.inl rfl) (fun b u hb hu => (same.2 b hb).trans hu) ?_ (setO_new new), q⟩
  · rw [hD]
    trivial
  · obtain ⟨o, _, _, _, ho, _⟩ := new
    exact ⟨o, ho⟩
theorem scI_core {pins : List (Addr × Obj)} {s : Shared} {σ : L2.St} {H : Hp} {Q : VK} {elt tg iter : Expr} {ifs : List Expr} {scope : Scope} {own : List (PySem.Str × Nat)} {pos pos' : Pos} {wi : TI} {g : TG} {tt : TT} {te : TE} {use : Option (Value → Sem Unit)} {Qf : Value → Shared → Prop}
    (calm : X.calm = true) (nd : X.N.Nodup) (I : Inv X pins σ H s) (hi : PI X tg iter wi) (ok : BlkOk X.N X.env.scope scope own)
    (hg : ∀ (s : Shared) (H : Hp) (C : Addr) (cl : List (PySem.Str × Addr)) (fp : List Addr), PG (X.blk s H scope (compEnvC scope cl C X.env) fp) tg g)
    (ht : ∀ (s : Shared) (H : Hp) (C : Addr) (cl : List (PySem.Str × Addr)) (fp : List Addr), PTs (X.blk s H scope (compEnvC scope cl C X.env) fp) ifs tt)
    (he : ∀ (s : Shared) (H : Hp) (C : Addr) (cl : List (PySem.Str × Addr)) (fp : List Addr), PE (X.blk s H scope (compEnvC scope cl C X.env) fp) elt te)
    (plain : ∀ x, foldedSetIterable iter X.env x = pure x) (h : tScI X.w wi g tt te (own.map (·.2)) σ H Q)
    (back : ∀ D C s' m H', Inv X pins σ H' s' → Q (.ref D) H' → s'.heap.Ns C m → FpOk X pins H' C → compPost (model X.prog X.w) X.A X.xe use Qf (.ref D) C (.ok .next) s') :
    wpAny (model X.prog X.w) X.A (comprehension (.SetComp elt [⟨tg, iter, ifs, 0⟩] scope pos) scope X.env pos' (newSet (.type "set")) false (eval iter X.env) use) Qf X.xe s := by
  have has : ∀ y ∈ scope.names, y.2 = .free → ∃ c, X.env.cells.lookup y.1 = some c := fun y hy e =>
    (ok.free y hy e).elim (fun k => I.ok.has _ (.inl k)) fun k => I.ok.has _ (.inr k)
  refine wpAny_comprehension_free (use := use) rfl plain (closure_ok has) ok.kind (fun y hy e => by rw [ok.uniq y hy, e]) ?_
  refine thn (hi.run pins s σ H _ I h) fun _ _ hx => thn hx fun _ sa ha => ?_
  obtain ⟨it, fp, at_, J, Ha, rfl, Ia, T, sta, fa, q⟩ := ha
  refine PpSet.newSet_ok (newEnv_comp ?_)
  obtain ⟨D, eD⟩ : ∃ D, sa.heap.objs.size = D := ⟨_, rfl⟩
  rw [eD]
  have freshD : Ha D = none := Ia.hok.fresh (Nat.le_of_eq eD)
  obtain ⟨W, ⟨m0, w0⟩, turn⟩ := q D freshD
  obtain ⟨sb, esb⟩ : ∃ sb : Shared, ({ sa with heap := sa.heap.push { cls := .type "set", dict := none, data := .set #[] 0 (.fresh 0 0 (!X.w.params.followText "set-order")) } } : Shared) = sb := ⟨_, rfl⟩
  have hb : sb.heap = sa.heap.push { cls := .type "set", dict := none, data := .set #[] 0 (.fresh 0 0 (!X.w.params.followText "set-order")) } := by rw [← esb]
  have Ib : Inv X pins σ (upd Ha D (SetO X.w D noInts 0)) sb := by
    subst esb eD
    exact Ia.laid (t' := sa.toks) (fun _ _ e => Heap.get?_push_of_some _ e) (Nat.le_refl _) (setO_new (setR_fresh X.w))
  obtain ⟨Hb, eHb⟩ : ∃ Hb, upd Ha D (SetO X.w D noInts 0) = Hb := ⟨_, rfl⟩
  have fb : ∀ b ∈ fp, FpOk X pins Hb b ∧ b < sb.heap.objs.size := fun b hm => by
    obtain ⟨o, e, _⟩ := T.obj _ _ sta b hm
    have lt := Heap.lt_size e
    refine ⟨⟨?_, (fa b hm).2⟩, ?_⟩
    · rw [← eHb, upd_ne (by rw [← eD]; exact Nat.ne_of_lt lt)]
      exact (fa b hm).1
    · rw [hb, Heap.size_push]
      exact Nat.lt_succ_of_lt lt
  have stb : at_ 0 sb.heap := T.keep _ _ _ sta fun b _ o e => by
    rw [hb]
    exact Heap.get?_push_of_some _ e
  rw [eHb] at Ib w0
  have Ic := block_start Ib ok nd fb
  obtain ⟨C, eC⟩ : ∃ C, sb.heap.objs.size = C := ⟨_, rfl⟩
  have pg := hg sb Hb C (cellsFrom (C + 1) scope.names (cloFrom X.env.cells scope.names [])) fp
  have pt := ht sb Hb C (cellsFrom (C + 1) scope.names (cloFrom X.env.cells scope.names [])) fp
  have pe := he sb Hb C (cellsFrom (C + 1) scope.names (cloFrom X.env.cells scope.names [])) fp
  rw [eC] at Ic
  rw [esb, eC]
  show codeAny _ _ (.compStart (.SetComp elt [⟨tg, iter, ifs, 0⟩] scope pos) 0 (.ref it) (.ref D) (compEnvC scope (cellsFrom (C + 1) scope.names (cloFrom X.env.cells scope.names [])) C X.env))
    (compPost (model X.prog X.w) X.A X.xe use Qf (.ref D) C) { sb with heap := pushCells (sb.heap.push { cls := .type "dict", data := .dict #[] }) scope.names }
  obtain ⟨ce, ece⟩ : ∃ ce, compEnvC scope (cellsFrom (C + 1) scope.names (cloFrom X.env.cells scope.names [])) C X.env = ce := ⟨_, rfl⟩
  rw [ece] at Ic pg pt pe ⊢
  have eL : ce.locals = C := by rw [← ece]; rfl
  obtain ⟨sc, esc⟩ : ∃ sc : Shared, ({ sb with heap := pushCells (sb.heap.push { cls := .type "dict", data := .dict #[] }) scope.names } : Shared) = sc := ⟨_, rfl⟩
  rw [esc] at Ic ⊢
  have stc : at_ 0 sc.heap := T.keep _ _ _ stb fun b _ o e => by
    rw [← esc]
    exact pushCells_keeps _ _ _ _ (Heap.get?_push_of_some _ e)
  have stat : ∀ {τ : L2.St} {G : Hp} {r : Shared}, Inv (X.blk sb Hb scope ce fp) [] τ G r → (∀ b ∈ fp, G b = none) → ∀ b ∈ fp, FpOk (X.blk sb Hb scope ce fp) [] G b :=
    fun {τ G r} J hn b hm => ⟨hn b hm, (J.ok.exf b hm).1, J.ok.exfs b hm, .inl hm, fun x c e => (J.ok.exf b hm).2 x c e, fun p hp => nomatch (show p ∈ ([] : List (Addr × Obj)) ++ [] from hp)⟩
  have loop : codeAny (model X.prog X.w) X.A (.compLoop (.SetComp elt [⟨tg, iter, ifs, 0⟩] scope pos) 0 (.ref it) (.ref D) ce) (compPost (model X.prog X.w) X.A X.xe use Qf (.ref D) C) sc := by
    refine PpSet.compLoopS_any (fun n r => ∃ i G, Inv (X.blk sb Hb scope ce fp) [] (wipe σ (own.map (·.2))) G r ∧ at_ i r.heap ∧ (∀ b ∈ fp, G b = none) ∧ W i n G) ?_ m0
      ⟨0, Hb, Ic, stc, fun b hm => (fb b hm).1.1, w0⟩
    rintro n s5 ⟨i, H5, I5, st5, n5, w5⟩
    rcases turn i n H5 w5 with ⟨stop, fin⟩ | ⟨go, R, hR, step⟩
    · refine thnF (T.done (X.blk sb Hb scope ce fp) rfl rfl rfl calm i [] s5 _ H5 (fun _ _ => False) I5 (stat I5 n5) st5 stop) fun r s6 hr6 => ?_
      obtain ⟨rfl, I6⟩ := hr6
      have I7 : Inv X pins σ H5 s6 := Ib.call' (ch := fp) I6.os I6.base I6.hok I6.bare fun b hm =>
        ⟨(fb b hm).1.2.2.2.1, (fb b hm).1.2.1, (fb b hm).1.2.2.2.2.1, (fb b hm).1.2.2.2.2.2⟩
      have nC : H5 C = none := by
        rw [← eL]
        exact I6.free
      obtain ⟨m, hn, _⟩ := I6.loc
      have hn : s6.heap.Ns ce.locals m := hn
      rw [eL] at hn
      exact back D C s6 m H5 I7 fin hn (Ib.fpOk (Nat.le_of_eq eC) nC)
    · refine thnF (T.item (X.blk sb Hb scope ce fp) rfl rfl rfl calm i [] s5 _ H5 (fun _ _ => False) I5 (stat I5 n5) st5 go) fun r s6 hr6 => ?_
      obtain ⟨u, rfl, h6⟩ := hr6
      refine thnF h6 fun _ s7 h7 => ?_
      obtain ⟨x, H7, I7, r7, y7, st7, n7⟩ := h7
      have P7 := I7.pinned (stat I7 n7) (T.obj _ _ st7)
      refine thnF (pg.run _ s7 _ H7 x u _ P7 r7 (step x H7 y7)) fun _ s8 h8 => ?_
      obtain ⟨σ8, H8, I8, same8, q8⟩ := h8
      have turnEnd : ∀ {r : Shared} {G : Hp}, Inv (X.blk sb Hb scope ce fp) ([] ++ pinsAt fp s7.heap) σ8 G r → R G →
          ∃ m, m < n ∧ ∃ i G, Inv (X.blk sb Hb scope ce fp) [] (wipe σ (own.map (·.2))) G r ∧ at_ i r.heap ∧ (∀ b ∈ fp, G b = none) ∧ W i m G := fun {r G} J rG => by
        obtain ⟨m', lt, w'⟩ := hR G rG
        have pin : ∀ b ∈ fp, ∀ o, s7.heap.get? b = some o → r.heap.get? b = some o ∧ G b = none := fun b hm o e => by
          have z := J.pin (b, o) (List.mem_append_right _ (List.mem_append_right _ (mem_pinsAt hm e)))
          exact ⟨z.1, z.2.1⟩
        have len : (wipe σ (own.map (·.2))).length = σ8.length := by
          rw [← same8]
          exact wipe_length _ _
        refine ⟨m', lt, i + 1, G, (J.unpinned (pins := [])).weak len (fun j v e => ?_), T.keep _ _ _ st7 fun b hm o e => (pin b hm o e).1, fun b hm => ?_, w'⟩
        · rw [← same8] at e
          exact (wipe_some e).1
        · obtain ⟨o, e, _⟩ := T.obj _ _ st7 b hm
          exact (pin b hm o e).2
      refine thnF (pt.run _ s8 σ8 H8 _ I8 q8) fun b s9 h9 => ?_
      obtain ⟨H9, I9, q9⟩ := h9
      cases b with
      | false =>
        rw [if_neg Bool.false_ne_true] at q9
        simp only [Bool.false_eq_true, if_false]
        exact turnEnd I9 q9
      | true =>
        rw [if_pos rfl] at q9
        simp only [if_true]
        refine thnF (pe.run _ s9 σ8 H9 _ I9 q9) fun z s10 h10 => ?_
        obtain ⟨yv, H10, I10, r10, q10⟩ := h10
        refine thnF (add_int (X := X.blk sb Hb scope ce fp) (E := fun _ _ => False) I10 r10 q10) fun _ s11 h11 => ?_
        obtain ⟨H11, I11, q11⟩ := h11
        exact turnEnd I11 q11
  exact PpSet.codeAny_compStart_set loop (T.self X.A 0 _ _ _ stc loop)
/-- as a value -/
theorem pe_scI {elt tg iter : Expr} {ifs : List Expr} {scope : Scope} {own : List (PySem.Str × Nat)} {pos : Pos} {wi : TI} {g : TG} {tt : TT} {te : TE} (calm : X.calm = true) (nd : X.N.Nodup) (hi : PI X tg iter wi) (ok : BlkOk X.N X.env.scope scope own)
    (hg : ∀ (s : Shared) (H : Hp) (C : Addr) (cl : List (PySem.Str × Addr)) (fp : List Addr), PG (X.blk s H scope (compEnvC scope cl C X.env) fp) tg g)
    (ht : ∀ (s : Shared) (H : Hp) (C : Addr) (cl : List (PySem.Str × Addr)) (fp : List Addr), PTs (X.blk s H scope (compEnvC scope cl C X.env) fp) ifs tt)
    (he : ∀ (s : Shared) (H : Hp) (C : Addr) (cl : List (PySem.Str × Addr)) (fp : List Addr), PE (X.blk s H scope (compEnvC scope cl C X.env) fp) elt te)
    (plain : ∀ x, foldedSetIterable iter X.env x = pure x := by intro _; rfl) :
    PE X (.SetComp elt [⟨tg, iter, ifs, 0⟩] scope pos) (tScI X.w wi g tt te (own.map (·.2))) := by
  refine ⟨fun pins s σ H Q I h => ?_⟩
  rw [PpSet.eval_SetComp]
  refine scI_core calm nd I hi ok hg ht he plain h fun D C s' m H' J q hn f => ⟨m, hn, fun h'' sbut => ?_⟩
  obtain ⟨f0, f1, _, f3, f4, f5⟩ := f
  exact ⟨.ref D, H', J.turned (t' := s'.toks) (fun b o hb e => (sbut.2 b hb).trans e) f0 f1 f3 f4 f5, rfl, q⟩
end
theorem r_scI {w : World} {wi : TI} {g : TG} {tt : TT} {te : TE} {vs : List Nat} {σ : L2.St} {H : Hp} {Q : VK} (h : wi σ H fun J H1 => ∀ D, H1 D = none → ∃ W : Nat → Nat → Hp → Prop, (∃ m, W 0 m (upd H1 D (SetO w D noInts 0))) ∧ ∀ i m H, W i m H →
    (J.stop i H ∧ Q (.ref D) H) ∨ (J.go i H ∧ ∃ R : Hp → Prop, (∀ H', R H' → ∃ m', m' < m ∧ W (i + 1) m' H') ∧ ∀ x H', J.yld i H x H' → turnI w D vs σ g tt te x H' R)) : tScI w wi g tt te vs σ H Q := h
/-- over a tuple -/
theorem scI_tup {w : World} {K : PySem.W.Frag} {a : Addr} {xs : List V} {g : TG} {tt : TT} {te : TE} {vs : List Nat} {σ : L2.St} {H1 : Hp} {D : Addr} {Qd : Hp → Prop} (Pv : Nat → Hp → Prop) (h0 : Pv 0 (upd H1 D (SetO w D noInts 0)))
    (hl : ∀ i H, i ≤ xs.length → Pv i H → SqT K H a xs) (hs : ∀ i x H, xs[i]? = some x → Pv i H → turnI w D vs σ g tt te x H (Pv (i + 1))) (hd : ∀ H, Pv xs.length H → Qd H) :
    ∃ W : Nat → Nat → Hp → Prop, (∃ m, W 0 m (upd H1 D (SetO w D noInts 0))) ∧ ∀ i m H, W i m H →
      ((Itt K a).stop i H ∧ Qd H) ∨ ((Itt K a).go i H ∧ ∃ R : Hp → Prop, (∀ H', R H' → ∃ m', m' < m ∧ W (i + 1) m' H') ∧ ∀ x H', (Itt K a).yld i H x H' → turnI w D vs σ g tt te x H' R) := by
  refine ⟨fun i m H => m = xs.length - i ∧ i ≤ xs.length ∧ Pv i H, ⟨xs.length, by simp, Nat.zero_le _, h0⟩, ?_⟩
  rintro i m H ⟨rfl, hi, p⟩
  have q := hl i H hi p
  by_cases lt : i < xs.length
  · refine .inr ⟨⟨xs, xs[i], q, by simp [lt]⟩, Pv (i + 1), fun H' p' => ⟨xs.length - (i + 1), by omega, rfl, lt, p'⟩, fun x H' y => ?_⟩
    obtain ⟨rfl, y⟩ := y
    exact hs i x _ (y xs q) p
  · obtain rfl : i = xs.length := by omega
    exact .inl ⟨⟨xs, q, Nat.le_refl _⟩, hd H p⟩
/-! ### the members of a lot, ascending -/
def normL (n : Nat) (xs : List Nat) : List Nat := (List.range n).filter fun k => decide (k ∈ xs)
theorem normL_mem {n k : Nat} {xs : List Nat} (h : ∀ x ∈ xs, x < n) : k ∈ normL n xs ↔ k ∈ xs := by
  unfold normL
  rw [List.mem_filter, List.mem_range, decide_eq_true_eq]
  exact ⟨fun z => z.2, fun z => ⟨h k z, z⟩⟩
theorem normL_lt {n : Nat} {xs : List Nat} : ∀ k ∈ normL n xs, k < n := fun k hk => by
  unfold normL at hk
  exact List.mem_range.mp (List.mem_filter.mp hk).1
theorem normL_sorted (n : Nat) (xs : List Nat) : (normL n xs).Pairwise (· < ·) := List.Pairwise.filter _ List.pairwise_lt_range
theorem normL_len (n : Nat) (xs : List Nat) : (normL n xs).length ≤ n := by
  have := List.length_filter_le (fun k => decide (k ∈ xs)) (List.range n)
  rw [List.length_range] at this
  exact this
theorem strict_eq : ∀ {a b : List Int}, a.Pairwise (· < ·) → b.Pairwise (· < ·) → (∀ k, k ∈ a ↔ k ∈ b) → a = b
  | [], [], _, _, _ => rfl
  | [], y :: b, _, _, h => nomatch (h y).mpr List.mem_cons_self
  | x :: a, [], _, _, h => nomatch (h x).mp List.mem_cons_self
  | x :: a, y :: b, ha, hb, h => by
    obtain ⟨a1, a2⟩ := List.pairwise_cons.mp ha
    obtain ⟨b1, b2⟩ := List.pairwise_cons.mp hb
    have e : x = y := by
      rcases List.mem_cons.mp ((h x).mp List.mem_cons_self) with e | e
      · exact e
      · rcases List.mem_cons.mp ((h y).mpr List.mem_cons_self) with e2 | e2
        · exact e2.symm
        · have := a1 y e2
          have := b1 x e
          omega
    subst e
    rw [strict_eq a2 b2 fun k => ⟨fun hk => (List.mem_cons.mp ((h k).mp (List.mem_cons_of_mem _ hk))).resolve_left fun z => by
      have := a1 k hk
      omega, fun hk => (List.mem_cons.mp ((h k).mpr (List.mem_cons_of_mem _ hk))).resolve_left fun z => by
      have := b1 k hk
      omega⟩]
theorem norm_ints {n : Nat} {xs : List Nat} {ns : List Int} (pw : ns.Pairwise (· < ·)) (hm : ∀ k : Int, k ∈ ns ↔ ∃ y ∈ xs, k = (y : Int)) (hb : ∀ y ∈ xs, y < n) : ns.map V.int = (normL n xs).map iV := by
  have e : ns = (normL n xs).map fun k : Nat => (k : Int) := by
    refine strict_eq pw ?_ fun k => ?_
    · rw [List.pairwise_map]
      exact (normL_sorted n xs).imp fun h => by omega
    · rw [hm, List.mem_map]
      exact ⟨fun ⟨y, h1, h2⟩ => ⟨y, (normL_mem hb).mpr h1, h2.symm⟩, fun ⟨y, h1, h2⟩ => ⟨y, (normL_mem hb).mp h1, h2.symm⟩⟩
  rw [e, List.map_map]
  rfl
theorem normL_self {n : Nat} {xs : List Nat} (hs : xs.Pairwise (· < ·)) (hb : ∀ x ∈ xs, x < n) : normL n xs = xs := by
  have e : (normL n xs).map (fun k : Nat => (k : Int)) = xs.map fun k : Nat => (k : Int) := by
    refine strict_eq ?_ ?_ fun k => ?_
    · rw [List.pairwise_map]
      exact (normL_sorted n xs).imp fun h => by omega
    · rw [List.pairwise_map]
      exact hs.imp fun h => by omega
    · rw [List.mem_map, List.mem_map]
      exact ⟨fun ⟨y, h1, h2⟩ => ⟨y, (normL_mem hb).mp h1, h2⟩, fun ⟨y, h1, h2⟩ => ⟨y, (normL_mem hb).mpr h1, h2⟩⟩
  exact (List.map_inj_right fun a b h => by omega).mp e
theorem normL_map {n : Nat} {xs : List Nat} {f : Nat → Nat} (hx : ∀ x ∈ xs, x < n) : normL n ((normL n xs).map f) = normL n (xs.map f) := by
  unfold normL
  refine List.filter_congr fun k _ => ?_
  refine decide_eq_decide.mpr ?_
  rw [List.mem_map, List.mem_map]
  exact ⟨fun ⟨y, h1, h2⟩ => ⟨y, (normL_mem hx).mp h1, h2⟩, fun ⟨y, h1, h2⟩ => ⟨y, (normL_mem hx).mpr h1, h2⟩⟩
end G
set_option Elab.async false
set_option linter.all false
set_option maxRecDepth 100000
set_option maxHeartbeats 4000000
namespace G
open PySem PySem.Spec PyProof.Rows L2
/-! ### set(xs), xs a list of ints -/
abbrev newSetO (w : World) : Obj := { cls := .type "set", dict := none, data := .set #[] 0 (.fresh 0 0 (!w.params.followText "set-order")) }
section
variable {P : Program} {w : World} {A : Around} {E : Value → Shared → Prop} {s : Shared}
theorem set_of_list {l : Addr} {its : Array Value} (ns : List Int) {Q : Value → Shared → Prop} (calm : A.handled = none) (hl : s.heap.IsList l its) (hit : IntsAre its.toList ns) (few : ns.length + 1 < scanBound)
    (h : ∀ (h' : Heap) (tk c : Nat), SetR w h' s.heap.objs.size (fun j => decide (j ∈ ns)) c → c ≤ ns.length → (∀ b o, s.heap.get? b = some o → h'.get? b = some o) →
      Q (.ref s.heap.objs.size) { s with heap := h', toks := tk }) :
    wpAny (model P w) A (call (.type "set") [.ref l]) Q E s := by
  have lens : its.size = ns.length := (Array.length_toList (xs := its)).symm.trans (IntsAre.length hit)
  have k0 := F.called_set.mro
  obtain ⟨mc, mtl, k0⟩ := k0
  have k1 := F.called_set.made
  have k2 := F.called_set.sub
  have k3 := F.called_set.notType
  have k4 := F.called_set.canCreate
  have k5 := F.typeCall_set_1 (.ref l)
  refine wpAny_call (codeAny_of_tree (show wpAny _ _ (callAny (.type "set") _) _ _ _ from ?_))
  refine wpAny_pure (And.intro (Code.quiet_builtin _ (by decide +kernel)) (codeAny_builtin F.entry_type_call ?_))
  rw [Around.under_plain (weight_type_call_type "set" [Value.ref l] []) rfl]
  repeat any_goals (first | assumption | wp_step)
  refine codeAny_mono (code_set_led1 (.ref l) (E := E)
    (Q₁ := fun obj s₁ => obj = .ref s.heap.objs.size ∧ s₁ = { s with heap := s.heap.push (newSetO w) }) (And.intro rfl rfl)) fun r s₁ hr => ?_
  cases r with
  | error e => exact hr
  | ok fl =>
    cases fl with
    | ret obj =>
      obtain ⟨eo, es⟩ := hr
      subst eo es
      have atS : (s.heap.push (newSetO w)).get? s.heap.objs.size = some (newSetO w) := Heap.get?_push_size _ rfl
      have isT : Shared.TypeIs { s with heap := s.heap.push (newSetO w) } (.ref s.heap.objs.size) "set" := ⟨_, atS, rfl⟩
      have j1 := F.called_set.init.lookup
      have j2 := F.called_set.init.bind (Value.ref s.heap.objs.size)
      repeat any_goals (first | assumption | wp_step)
      refine codeAny_mono (codeAny_call_builtin
        (R := wants (fun r s₂ => r = .none ∧ ∃ h' tk c, s₂ = { s with heap := h', toks := tk } ∧ SetR w h' s.heap.objs.size (fun j => decide (j ∈ ns)) c ∧ c ≤ ns.length ∧ ∀ b o, s.heap.get? b = some o → h'.get? b = some o) E)
        F.called_set.init.plain F.entry_set_init (check_set_init_1 isT ?_)) fun r₂ s₂ hr₂ => ?_
      · obtain ⟨ol, atL, e1, nl, e2⟩ := hl
        obtain ⟨lc, ld, ldt, lsl⟩ := ol
        dsimp only at e1 e2
        subst e1 e2
        have atL1 : (s.heap.push (newSetO w)).get? l = some { cls := .type "list", dict := ld, data := .seq its nl, slots := lsl } := Heap.get?_push_of_some _ atL
        have n1 := F.sub_list_set
        have n2 := F.sub_list_frozenset
        have n3 : (Value.type "list" == Value.type "dict") = false := by decide
        have isL1 : (s.heap.push (newSetO w)).IsList l its := ⟨_, atL1, rfl, nl, rfl⟩
        unfold Builtin.«set.__init__» noKeywords Builtin.Frozenset.updateFrom
        generalize ePI : pyIter = PI
        wp_walk
        subst ePI
        refine wpAny_pyIter_list isL1 (wpAny_bind (wpAny_runValue ?_))
        have ltL : l < s.heap.objs.size := Heap.lt_size atL
        have sz : (s.heap.push (newSetO w)).objs.size = s.heap.objs.size + 1 := Heap.size_push ..
        have calm3 : A.in1.in1.in1.handled = none := calm
        have apart : s.heap.objs.size ∉ [(s.heap.push (newSetO w)).objs.size, l] := fun z => by
          rw [sz] at z
          rcases List.mem_cons.mp z with z | z
          · exact absurd z (Nat.ne_of_lt (Nat.lt_succ_self _))
          · exact absurd (List.mem_singleton.mp z) (Nat.ne_of_gt ltL)
        have notI : l ≠ (s.heap.push (newSetO w)).objs.size := by
          rw [sz]
          exact Nat.ne_of_lt (Nat.lt_succ_of_lt ltL)
        refine set_update_ints ((Walks.list calm3 _ l notI its).toS) s.heap.objs.size apart ns lens few (fun i v hv => ?_) (its.size - 0) 0 _ (by omega) (Nat.zero_le _)
          ⟨⟨_, Heap.get?_push_size _ rfl, rfl, rfl⟩, isL1.push _⟩ ?start ?stop
        · have hi : i < ns.length := lens ▸ (Array.getElem?_eq_some_iff.mp hv).1
          obtain ⟨t, e⟩ := PyProof.Rows.IntsAre.int_at hit i v ((Array.getElem?_toList (xs := its)).trans hv)
          exact ⟨ns[i], t, List.getElem?_eq_getElem hi, by rw [e, List.getD_eq_getElem?_getD, List.getElem?_eq_getElem hi] <;> rfl⟩
        case start => exact ⟨0, Nat.le_refl 0, setR_new_at (Heap.get?_push_of_some _ atS)⟩
        case stop =>
          intro s' c' hm hc' hS'
          obtain ⟨h2, g2, d2, t2, o2⟩ := s'
          obtain rfl : g2 = s.gens := hm.gens
          obtain rfl : d2 = s.drawn := hm.drawn
          obtain rfl : o2 = s.os := hm.os
          refine wpAny_pure (show wpAny _ _ (ret Value.none) _ _ _ from wpAny_pure ⟨rfl, h2, t2, c', rfl, hS', lens ▸ hc', fun b o e => ?_⟩)
          have lt := Heap.lt_size e
          refine hm.heap b o (fun z => ?_) (Heap.get?_push_of_some _ (Heap.get?_push_of_some _ e))
          rcases List.mem_cons.mp z with z | z
          · exact Nat.ne_of_lt lt z
          · rw [sz] at z
            exact Nat.ne_of_lt (Nat.lt_succ_of_lt lt) (List.mem_singleton.mp z)
      · cases r₂ with
        | error e => exact hr₂
        | ok f2 =>
          cases f2 with
          | ret u =>
            obtain ⟨rfl, h', tk, c', rfl, a1, a2, a3⟩ := hr₂
            repeat any_goals (first | assumption | wp_step)
            exact h h' tk c' a1 a2 a3
          | next => exact hr₂.elim
          | brk => exact hr₂.elim
          | cont => exact hr₂.elim
    | next => exact hr.elim
    | brk => exact hr.elim
    | cont => exact hr.elim
end
def rSetL (K : PySem.W.Frag) (w : World) : List V → Hp → VK → Prop := fun xs H Q => ∃ (l : Addr) (ns : List Int), xs = [.ref l] ∧ SqL K H l (ns.map V.int) ∧ ns.length ≤ 1000 ∧
  ∀ (p : Addr) (c : Nat), c ≤ ns.length → H p = none → Q (.ref p) (upd H p (SetO w p (fun j => decide (j ∈ ns)) c))
theorem cr_setL {X : Cx} {K : PySem.W.Frag} (hK : X.K = K) (hc : X.calm = true) : CallR X (.type "set") (rSetL K X.w) := by
  subst hK
  rintro pins s σ H xs us Q I rs ⟨l, ns, rfl, hs, few, q⟩
  rw [Vals.ref1 rs]
  obtain ⟨its, rv, hl, hz⟩ := I.list hs
  refine set_of_list ns (I.ok.hd hc) hl.isList (by simpa using ints_of_vals rv) (by unfold scanBound; omega) fun h' tk c hS hc keep => ?_
  have hn := I.hok.fresh (Nat.le_refl _)
  exact ⟨.ref s.heap.objs.size, _, I.laid keep (Nat.le_refl _) (setO_new hS), rfl, q _ c hc hn⟩
end G
set_option Elab.async false
set_option linter.all false
set_option maxRecDepth 100000
set_option maxHeartbeats 4000000
namespace G
open PySem PySem.Spec PyProof.Rows L2
/-! ### own errors -/
abbrev veB : List Value := [.type "ValueError", .type "Exception", .type "BaseException", .type "object"]
/-- what is known of an own error class, under ValueError or another own one -/
structure OwnE (K : PySem.W.Frag) (mg : Str → Option Value) (x : Str) (C : Addr) : Prop where
  g : mg x = some (.ref C)
  x : PySem.W.excIn K C veB "ValueError.__new__" = true
  k : PySem.W.keepIn K (.ref C) = true
  s : PySem.W.subIn K (.ref C) (.type "BaseException") = some true
  t : PySem.W.typeIn K (.ref C) = some (.type "type")
  e : ExcC K C
def excCB (K : PySem.W.Frag) (D : Addr) : Bool :=
  decide (PySem.W.findIn K (.ref D) "__getattribute__" = some (some (.builtin "BaseException.__getattribute__"))) && (decide (PySem.W.findIn K (.ref D) "__getattr__" = some none) && (decide (PySem.W.subIn K (.ref D) (.type "BaseException") = some true) && (PySem.W.hasDictIn K D &&
  (decide (PySem.W.findIn K (.ref D) "__class__" = some (some (.builtin "object.__class__"))) && (decide (PySem.W.specialIn K (.builtin "object.__class__") "__get__" = some (some (.builtin "getset_descriptor.__get__"))) && (decide (PySem.W.takesIn K (.builtin "object.__class__") = some true) && decide (PySem.W.mroIn K D (.type "object") = some true)))))))
theorem excCB_ok {K : PySem.W.Frag} {D : Addr} (h : excCB K D = true) : ExcC K D := by
  unfold excCB at h
  simp only [Bool.and_eq_true, decide_eq_true_eq] at h
  obtain ⟨a1, a2, a3, a4, a5, a6, a7, a8⟩ := h
  exact ⟨a1, a2, a3, a4, a5, a6, a7, a8⟩
/-- raise C(e) -/
def tRaise1 (C : Addr) (W : WX) (ta : TE) : TS := fun _ σ H => ta σ H fun _ H1 => W (.ref C) none σ H1
section
variable {X : Cx}
theorem ps_raise1 {K : PySem.W.Frag} {mg : Str → Option Value} {C : Addr} {x : Str} {e : Expr} {ta : TE} {W : WX} {p pos pos2 : Pos} (O : OwnE K mg x C) (hK : X.K = K) (hmg : X.mg = mg) (hc : X.calm = true) (tk : Takes X W) (hg : Gl X x) (he : PE X e ta)
    (hs : starEach [e] X.env = (false, eval e X.env) :: starEach [] X.env := by rfl) (hdb : (x == ("__debug__" : Str)) = false := by decide) :
    PS X (.Raise (some (.Call (.Name x p) [e] [] pos)) none pos2) (tRaise1 C W ta) := by
  subst hK hmg
  exact ps_raise hc tk (SkE.pmk_own1 PySem.F.excBase_ValueError O.x O.g O.k (raises_own O.s O.t) hg he hs hdb)
theorem r_raise1 {C : Addr} {W : WX} {ta : TE} {D : Ends} {σ : L2.St} {H : Hp} (h : ta σ H fun _ H1 => W (.ref C) none σ H1) : tRaise1 C W ta D σ H := h
theorem r_callS {sp : Sp} {E : L2.St → XK} {t : TA} {σ : L2.St} {H : Hp} {Q : VK} (h : t σ H fun vs H1 => sp vs H1 Q (E σ)) : tCallS sp E t σ H Q := h
/-- isinstance(e, c), e the error that the suite holds -/
def rIsEx (K : PySem.W.Frag) (a : Addr) (cls : Value) (d : Option Addr) : List V → Hp → VK → Prop := fun xs H Q => ∃ D, cls = .ref D ∧ d = none ∧ ExcC K D ∧ rIsE K D a xs H Q
theorem call_isEx {a : Addr} {oe : Obj} {cls : Value} {d : Option Addr} {pn : List (Addr × Obj)} (hz : Zc cls d oe) (hf : ∃ vs, oe.data = .fields vs) : CallR (X.suite a ((a, oe) :: pn)) (.builtin "isinstance") (rIsEx X.K a cls d) := by
  intro pins s σ H xs us Q I r h
  obtain ⟨D, rfl, rfl, hE, q⟩ := h
  exact call_isE hE hz hf pins s σ H xs us Q I r q
theorem r_isEx {K : PySem.W.Frag} {a D : Addr} {c : V} {cv : Value} {b : Bool} {H : Hp} {Q : VK} (hE : ExcC K D) (hc : ∀ u, RelV c u → u = cv) (k : PySem.W.kitOne K (.ref D) cv = some b) (q : Q (.bl b) H) : rIsEx K a (.ref D) none [.ref a, c] H Q :=
  ⟨D, rfl, rfl, hE, c, cv, b, rfl, hc, k, q⟩
/-- try: .. except C as n: .. -/
def tTryAs (K : PySem.W.Frag) (c : Value) (i : Nat) (tb : WX → TS) (ts : Addr → Value → Option Addr → TS) (Wout : WX) : TS := fun D σ H => tb (wAs K c i ts Wout D) D σ H
theorem r_tryAs {K : PySem.W.Frag} {c : Value} {i : Nat} {tb : WX → TS} {ts : Addr → Value → Option Addr → TS} {Wout : WX} {D : Ends} {σ : L2.St} {H : Hp} (h : tb (wAs K c i ts Wout D) D σ H) : tTryAs K c i tb ts Wout D σ H := h
theorem ps_tryAs {x n : Str} {c : Value} {i : Nat} {body suite : List Stmt} {b₀ : Stmt} {np pos pos' : Pos} {tb : WX → TS} {ts : Addr → Value → Option Addr → TS} {Wout : WX} (hs : X.stack = X.env :: X.outer) (hf : X.env.frame = some X.env.locals) (hN : X.N.Nodup) (hi : X.N[i]? = some n) (hln : X.env.kindOf n = some .local) (hc : Names X x c) (tk : Takes X Wout)
    (hb : ∀ (W : WX) (pn : List (Addr × Obj)) (xe : Value → Shared → Prop), Takes (X.tr pn xe) W → PassesOwn (model X.prog X.w) X.A X.env xe → PSs (X.tr pn xe) body (tb W))
    (hsu : ∀ (a : Addr) (oe : Obj) (cls : Value) (d : Option Addr) (pn : List (Addr × Obj)), Zc cls d oe → (∃ vs, oe.data = .fields vs) → PSs (X.suite a ((a, oe) :: pn)) (b₀ :: suite) (ts a cls d)) :
    PS X (.Try body [.ExceptHandler (some (.Name x np)) (some n) (b₀ :: suite) pos'] [] [] pos) (tTryAs X.K c i tb ts Wout) := ps_try_as hs hf hN hi hln hc tk hb hsu
end
/-! ### f-strings whose text nobody asks for -/
section
variable {σ : L2.St} {H : Hp}
def Part (σ : L2.St) (H : Hp) (t : TE) : Prop := ∀ Q : VK, (∀ y : Str, y.length ≤ 2000 → Q (.str y) H) → t σ H Q
theorem part_c {z : Str} (h : z.length ≤ 2000) : Part σ H (tC (.str z)) := fun _ q => r_c (q z h)
theorem part_i {te : TE} {i : Int} (hi : i.natAbs.log2 < 1920) (h : ∀ Q : VK, Q (.int i) H → te σ H Q) : Part σ H (tFmt te) := fun Q q =>
  h (fun x H1 => (∃ y, x = .str y ∧ y.length ≤ sizeLine ∧ Q (.str y) H1) ∨ ∃ i, x = .int i ∧ i.natAbs.log2 < 1920 ∧ Q (.str (Str.ofString (toString i))) H1)
    (.inr ⟨i, rfl, hi, q _ (Nat.le_trans (PyProof.Rows.int_text_len_1921 hi) (by decide))⟩)
theorem js_ok {R : Str → Hp → Prop} : ∀ (ts : List TE) (acc : Str), (∀ t ∈ ts, Part σ H t) → acc.length + 2000 * ts.length ≤ 100000 → (∀ out, R out H) → tJs ts acc σ H R
  | [], acc, _, _, r => r acc
  | t :: ts, acc, hp, hl, r => by
    refine hp t List.mem_cons_self _ fun y hy => ?_
    have e : (acc ++ y).length = acc.length + y.length := by
      show (acc.cps ++ y.cps).size = acc.cps.size + y.cps.size
      exact Array.size_append
    rw [List.length_cons] at hl
    have zl : (sizeLine : Nat) = 16777216 := by decide
    exact ⟨y, rfl, by rw [e]; omega, js_ok ts _ (fun t ht => hp t (List.mem_cons_of_mem _ ht)) (by rw [e]; omega) r⟩
end
theorem log_lt {i : Int} (h : i.natAbs < 1000000) : i.natAbs.log2 < 1920 := by
  rcases Nat.eq_zero_or_pos i.natAbs with e | e
  · rw [e]; decide
  · have e2 : i.natAbs.log2 < 20 := (Nat.log2_lt (by omega)).mpr (Nat.lt_of_lt_of_le h (by decide))
    omega
/-! ### enumerate of a list -/
theorem for_enL {K : PySem.W.Frag} {a : Addr} {xs : List V} {g : TG} {tb : TS} {D : Ends} {σ : L2.St} {H : Hp} (Pv : Nat → L2.St → Hp → Prop) (h0 : Pv 0 σ H) (hl : ∀ i σ H, i ≤ xs.length → Pv i σ H → SqL K H a xs)
    (hs : ∀ i x σ H T, xs[i]? = some x → Pv i σ H → H T = none → g (.ref T) σ (upd H T (.tup [.int (i : Nat), x])) fun σ2 H2 => tb { D with nx := Pv (i + 1), ct := Pv (i + 1), bk := D.nx } σ2 H2) (hd : ∀ σ H, Pv xs.length σ H → D.nx σ H) :
    ∃ W : Nat → Nat → L2.St → Hp → Prop, (∃ m, W 0 m σ H) ∧ ∀ i m σ H, W i m σ H → ((Ite K a).stop i H ∧ D.nx σ H) ∨
      ((Ite K a).go i H ∧ ∃ N : L2.St → Hp → Prop, (∀ σ' H', N σ' H' → ∃ m', m' < m ∧ W (i + 1) m' σ' H') ∧ ∀ x H', (Ite K a).yld i H x H' → g x σ H' fun σ2 H2 => tb { D with nx := N, ct := N, bk := D.nx } σ2 H2) := by
  refine ⟨fun i m σ H => m + i = xs.length ∧ Pv i σ H, ⟨xs.length, rfl, h0⟩, ?_⟩
  rintro i m σ H ⟨hm, p⟩
  have q := hl i σ H (by omega) p
  by_cases hlt : i < xs.length
  · refine .inr ⟨⟨xs, xs[i], q, List.getElem?_eq_getElem hlt⟩, Pv (i + 1), fun σ' H' p' => ⟨m - 1, by omega, by omega, p'⟩, ?_⟩
    rintro v H' ⟨T, x, rfl, hT, rfl, hx⟩
    exact hs i x σ H T (hx xs q) p hT
  · have e : i = xs.length := by omega
    subst e
    exact .inl ⟨⟨xs, q, Nat.le_refl _⟩, hd σ H p⟩
theorem pi_enumK {X : Cx} {K : PySem.W.Frag} {e : Expr} {ta : TA} {p pos tpos : Pos} {elts : List Expr} {kk : Nat} (hK : X.K = K) (hg : Gl X "enumerate") (hm : X.mg "enumerate" = none) (ha : PA X [e] ta) (hs : starEach [e] X.env = [(false, eval e X.env)] := by rfl) :
    PI X (.Tuple elts kk tpos) (.Call (.Name "enumerate" p) [e] [] pos) (iEnum K ta) := hK ▸ pi_enum hg hm ha hs
theorem r_iEnum {K : PySem.W.Frag} {ta : TA} {σ : L2.St} {H : Hp} {R : It → Hp → Prop} (h : ta σ H fun vs H1 => ∃ a xs, vs = [.ref a] ∧ SqL K H1 a xs ∧ R (Ite K a) H1) : iEnum K ta σ H R := h
/-! ### lists of lists of ints -/
def refsI (ps : List (Addr × List Int)) : List V := ps.map fun p => V.ref p.1
theorem refsI_len (ps : List (Addr × List Int)) : (refsI ps).length = ps.length := List.length_map _
theorem refsI_at {ps : List (Addr × List Int)} {i : Nat} {x : V} (h : (refsI ps)[i]? = some x) : ∃ p, ps[i]? = some p ∧ V.ref p.1 = x := by
  unfold refsI at h
  rw [List.getElem?_map] at h
  exact Option.map_eq_some_iff.mp h
theorem at_refsI {ps : List (Addr × List Int)} {z : Int} {i : Nat} {p : Addr × List Int} (e : z = (i : Int)) (h : ps[i]? = some p) : atI (refsI ps) z = some (.ref p.1) := by
  refine at_of e ?_
  unfold refsI
  rw [List.getElem?_map, h]
  rfl
theorem ints_at {xs : List Int} {i : Nat} {x : V} (h : (xs.map V.int)[i]? = some x) : ∃ z, xs[i]? = some z ∧ V.int z = x := by
  rw [List.getElem?_map] at h
  exact Option.map_eq_some_iff.mp h
/-! ### the world named -/
theorem cr_setLw {X : Cx} {K : PySem.W.Frag} {w : World} (hK : X.K = K) (hw : X.w = w) (hc : X.calm = true) : CallR X (.type "set") (_root_.G.rSetL K w) := hw ▸ cr_setL hK hc
theorem cr_sortedSetW {X : Cx} {w : World} (hw : X.w = w) (hc : X.calm = true) : CallR X (.builtin "sorted") (rSortedSet w) := hw ▸ cr_sortedSet hc
end G
set_option Elab.async false
set_option linter.all false
set_option maxRecDepth 100000
set_option maxHeartbeats 4000000
namespace G
open PySem PySem.Spec PyProof.Rows L2 LamX NdefX
/-! ### lambdas that a def returns: their cells outlive its frame, and stand among the objects until the lambda is handed on -/
def CellF (o : Obj) (c : Addr) (v : V) : HO := .frz o (.ext fun h => ∃ u, RelV v u ∧ h.IsCell c (some u))
theorem cellF_ok {P : Program} {w : World} {H : Hp} {h : Heap} {c : Addr} {v : V} {u : Value} {o : Obj} (r : RelV v u) (ho : h.get? c = some o) (hd : o.data = .cell (some u)) : ObjOk P w H h c (CellF o c v) :=
  ⟨ho, ⟨u, r, o, ho, hd⟩, ⟨o, ho⟩, fun h1 h2 ⟨u', r', o', ho', hd'⟩ st => ⟨u', r', o', st _ ho', hd'⟩⟩
theorem cellF_at {P : Program} {w : World} {H : Hp} {h : Heap} {c : Addr} {v : V} {o : Obj} (ok : HOk P w H h) (e : H c = some (CellF o c v)) : ∃ u, RelV v u ∧ h.IsCell c (some u) := (ok c _ e).2.1
/-- without the cells -/
def delH (H : Hp) (cs : List Addr) : Hp := fun b => if b ∈ cs then none else H b
theorem delH_ne {H : Hp} {cs : List Addr} {b : Addr} (h : b ∉ cs) : delH H cs b = H b := by unfold delH; rw [if_neg h]
theorem delH_in {H : Hp} {cs : List Addr} {b : Addr} (h : b ∈ cs) : delH H cs b = none := by unfold delH; rw [if_pos h]
theorem delH_none {H : Hp} {cs : List Addr} {b : Addr} (h : H b = none) : delH H cs b = none := by
  unfold delH
  split
  · rfl
  · exact h
theorem delH_some {H : Hp} {cs : List Addr} {b : Addr} {o : HO} (h : delH H cs b = some o) : H b = some o := by
  unfold delH at h
  split at h
  · exact nomatch h
  · exact h
theorem delH_nil {H : Hp} : delH H [] = H := by
  funext b
  exact delH_ne (by simp)
/-- what is no cell stays -/
theorem delH_keep {H : Hp} {cs : List Addr} {b : Addr} {o : HO} (hc : ∀ c ∈ cs, ∃ o v, H c = some (CellF o c v)) (h : H b = some o) (n : ∀ o' φ, o ≠ .frz o' (.ext φ)) : delH H cs b = some o := by
  rw [delH_ne fun hb => ?_]
  · exact h
  · obtain ⟨o', v, e⟩ := hc b hb
    rw [h] at e
    exact n _ _ (Option.some.inj e)
section
variable {X : Cx} {pins : List (Addr × Obj)} {σ : L2.St} {H : Hp} {s : Shared}
theorem hok_del {P : Program} {w : World} {h : Heap} {cs : List Addr} (ok : HOk P w H h) (hc : ∀ c ∈ cs, ∃ o v, H c = some (CellF o c v)) : HOk P w (delH H cs) h := fun a o e =>
  (ok a o (delH_some e)).stay (fun _ _ _ z => z) (fun b z => delH_keep hc z fun _ φ q => nomatch q) fun b xs z => delH_keep hc z fun _ φ q => nomatch q
theorem inv_del {cs : List Addr} (I : Inv X pins σ H s) (hc : ∀ c ∈ cs, X.H_0 c = none ∧ ∃ o v, H c = some (CellF o c v)) : Inv X pins σ (delH H cs) s := by
  have hn : ∀ b u, X.H_0 b = some u → b ∉ cs := fun b u e hb => by rw [(hc b hb).1] at e; exact nomatch e
  refine ⟨I.ok, I.os, I.bare, ⟨I.base.keep, I.base.slot, fun b o e n hx => delH_none (I.base.free b o e n hx), I.base.there, fun b xs e => ?_, fun b o u e => ?_, fun b ps e => ?_⟩,
    I.loc, I.cell, delH_none I.free, fun x c e => delH_none (I.freeC x c e), fun p hp => ?_, hok_del I.hok fun c h => (hc c h).2, I.len⟩
  · rw [delH_ne (hn b _ e)]
    exact I.base.tups b xs e
  · rw [delH_ne (hn b _ e)]
    exact I.base.frzs b o u e
  · rw [delH_ne (hn b _ e)]
    exact I.base.tbls b ps e
  · obtain ⟨a1, a2, a3⟩ := I.pin p hp
    exact ⟨a1, delH_none a2, a3⟩
end
/-- a lambda whose cells stand among the objects -/
structure CloH (C : Clo) (H : Hp) : Prop where
  len : C.ws.length = C.fr.length
  all : ∀ y c, C.cl.lookup y = some c → ∃ o v, H c = some (CellF o c v)
  inj : ∀ x y c, C.cl.lookup x = some c → C.cl.lookup y = some c → x = y
  has : ∀ (i : Nat) (y : Str), C.fr[i]? = some y → ∃ c, C.cl.lookup y = some c ∧ ∀ v, C.ws[i]? = some (some v) → ∃ o, H c = some (CellF o c v)
section
variable {X : Cx} {pins : List (Addr × Obj)} {σ : L2.St} {H : Hp} {s : Shared}
theorem held_of {C : Clo} {cs : List Addr} (I : Inv X pins σ H s) (h : CloH C H) (hs : ∀ y c, C.cl.lookup y = some c → c ∈ cs) : HeldC C X.stack s.heap (delH H cs) := by
  refine ⟨⟨h.len, fun y c e => ⟨delH_in (hs y c e), ?_⟩, h.inj, fun i y e => ?_⟩, fun y c e hc => ?_⟩
  · obtain ⟨o, v, z⟩ := h.all y c e
    obtain ⟨u, _, q⟩ := cellF_at I.hok z
    exact ⟨_, q⟩
  · obtain ⟨c, e1, e2⟩ := h.has i y e
    exact ⟨c, e1, fun v ev => (e2 v ev).elim fun o z => cellF_at I.hok z⟩
  · obtain ⟨o, v, z⟩ := h.all y c e
    rw [I.stkFree c hc] at z
    exact nomatch z
end
/-- f(..) of a def that is handed lambdas: such as were returned (their cells cs go out of sight), and own ones -/
def tCallR (H0 : Hp) (own : L2.St → List Clo) (sp : List Clo → Sp) (E : L2.St → XK) (t : TA) : TE := fun σ H Q => t σ H fun vs H1 => ∃ (cs : List Addr) (Cs : List Clo),
  (∀ c ∈ cs, H0 c = none ∧ ∃ o v, H1 c = some (CellF o c v)) ∧ (∀ C ∈ Cs, CloH C H1 ∧ ∀ y c, C.cl.lookup y = some c → c ∈ cs) ∧ sp (Cs ++ own σ) vs (delH H1 cs) Q (E σ)
section
variable {X : Cx} {CX : CXT} {k : Nat} {f : Addr} {fd : FuncData} {ps : List Str} {sp : List Clo → Sp} {E : L2.St → XK} {x : Str} {p pos : Pos} {e : Expr} {es : List Expr} {t : TA} {own : L2.St → List Clo}
theorem pe_callR (F : FnOkC X.prog X.w X.K X.mg X.base CX k f fd ps sp) (hC : ∀ pins σ H s, Inv X pins σ H s → ∀ C ∈ own σ, HeldC C X.stack s.heap H) (hr : Room k X.A) (hg : Gl X x) (hm : X.mg x = some (.ref f)) (hk : PySem.W.keepIn X.K (.ref f) = true) (hb : Binds X.K fd ps [])
    (hx : ∀ σ, PassesAt CX X σ (E σ)) (ha : PA X (e :: es) t) (hdb : (x == ("__debug__" : Str)) = false := by decide) (hst : starEach (e :: es) X.env = (false, eval e X.env) :: starEach es X.env := by rfl) (hpl : (backTo pos (starEach es X.env)).any (·.1) = false := by rfl) :
    PE X (.Call (.Name x p) (e :: es) [] pos) (tCallR X.H_0 own sp E t) := by
  constructor
  intro pins s σ H Q I h
  refine wpAny_Call_Name_kw (ld_glob I hg hm ?_ hdb)
  refine PySem.W.callWith_K (h₀ := X.base) I.ok.mod.kin hk (thn (ha.run pos pins s σ H _ I h) fun us s1 q1 => ?_) hst hpl
  obtain ⟨vs, H1, I1, r, cs, Cs, hcs, hCs, q⟩ := q1
  have I2 := inv_del I1 hcs
  refine ⟨I2.kIn, ?_⟩
  have hl : us.length = ps.length := by
    rw [← r.length]
    exact F.len _ _ _ _ _ q
  have bnd := hb s1 us I2.kIn (by rw [List.append_nil]; exact hl)
  rw [List.append_nil] at bnd
  have held : ∀ C ∈ Cs ++ own σ, HeldC C X.stack s1.heap (delH H1 cs) := fun C h => by
    rcases List.mem_append.mp h with h | h
    · exact held_of I1 (hCs C h).1 (hCs C h).2
    · exact hC _ _ _ _ I2 C h
  refine wpAny_call (codeAny_mono (F.run (Cs ++ own σ) X.A X.stack s1 (delH H1 cs) ⟨us, []⟩ us vs Q (E σ) hr I2.env0 bnd r held q) fun r s' hq => ?_)
  cases r with
  | error err => exact hx σ pins _ s1 err s' I2 hq
  | ok fl =>
    cases fl with
    | ret u => exact I2.after hq
    | next => exact (show False from hq).elim
    | brk => exact (show False from hq).elim
    | cont => exact (show False from hq).elim
theorem r_callR {H0 H : Hp} {σ : L2.St} {Q : VK} (h : t σ H fun vs H1 => ∃ (cs : List Addr) (Cs : List Clo),
    (∀ c ∈ cs, H0 c = none ∧ ∃ o v, H1 c = some (CellF o c v)) ∧ (∀ C ∈ Cs, CloH C H1 ∧ ∀ y c, C.cl.lookup y = some c → c ∈ cs) ∧ sp (Cs ++ own σ) vs (delH H1 cs) Q (E σ)) : tCallR H0 own sp E t σ H Q := h
end
/-! ### a def that returns a lambda over its two parameters -/
def spRet2 (T : List (Addr × Str)) (qual x0 x1 : Str) (lam : Expr) : Sp := fun vs H Q _ => ∃ v0 v1, vs = [v0, v1] ∧ Tabs T H ∧
  ∀ (H1 : Hp) (g c' c0 c1 : Addr) (o0 o1 : Obj) (cl : List (Str × Addr)), ExD H H1 → Tabs T H1 → H g = none →
    H1 g = some (LamO g ⟨"<lambda>", qual ++ ".<locals>." ++ "<lambda>", eLamArgs lam, [], eLamScope lam, cl, c'⟩ (eLamBody lam)) → H1 c' = some (CodeO c' (qual ++ ".<locals>." ++ "<lambda>")) →
    H1 c0 = none → H1 c1 = none → H c0 = none → H c1 = none → c0 ≠ c1 → (∀ y c, cl.lookup y = some c → c = c0 ∨ c = c1) →
    CloH ⟨cl, [x0, x1], [some v0, some v1]⟩ (upd (upd H1 c0 (CellF o0 c0 v0)) c1 (CellF o1 c1 v1)) → Q (.ref g) (upd (upd H1 c0 (CellF o0 c0 v0)) c1 (CellF o1 c1 v1))
theorem del_two {H : Hp} {c0 c1 : Addr} {u0 u1 : HO} (h0 : H c0 = none) (h1 : H c1 = none) : delH (upd (upd H c0 u0) c1 u1) [c0, c1] = H := by
  funext b
  by_cases e1 : b = c1
  · subst e1
    rw [delH_in (by simp), h1]
  · by_cases e0 : b = c0
    · subst e0
      rw [delH_in (by simp), h0]
    · rw [delH_ne (by simp [e0, e1]), upd_ne e1, upd_ne e0]
section
variable {P : Program} {w : World} {K : PySem.W.Frag} {mg : Str → Option Value} {base : Heap}
theorem exd_add {H H' : Hp} {c : Addr} {o : HO} (e : ExD H H') (hn : H c = none) : ExD H (L2.upd H' c o) := ⟨fun b u hb n => by
  rw [upd_ne (ne_of_none hb hn)]
  exact e.n b u hb n, Dom.upd e.d⟩
theorem FunC.okRet2 {x0 x1 qual : Str} {st : Stmt} {f c Pt : Addr} {fd : FuncData} {k : Nat} {T : List (Addr × Str)} {params : Arguments} {body : Expr} {scope : Scope} {lpos rpos : Pos} (F : FunC K qual qual st f fd c) (S : FnScope [x0, x1] [x0, x1] (defScope st))
    (hb : defBody st = [.Return (some (.Lambda params body scope lpos)) rpos]) (hN : ndefB (defScope st) scope [x0, x1] = true) (TB : TabB base mg c Pt) (hm : (Pt, qual ++ ".<locals>." ++ "<lambda>") ∈ T) (hu : ∀ p ∈ T, p.1 = Pt → p.2 = qual ++ ".<locals>." ++ "<lambda>")
    (hdef : ∀ env, defaultsOf params env = ([], [])) (hfree : ∀ y ∈ scope.names, y.2 = .free → y.1 = x0 ∨ y.1 = x1) :
    FnOk P w K mg base CX0 (k + 1) f fd [x0, x1] (spRet2 T qual x0 x1 (.Lambda params body scope lpos)) := by
  obtain ⟨oc, od, kV, doc, pm, an, ct, osl, rfl, lk, hcd⟩ := F.ex
  have ndx : x0 ≠ x1 := fun e => by
    have := S.nd
    rw [e] at this
    simp at this
  refine ⟨fun vs H Q E h => ?_, fun A outer s H args us vs Q E hr e0 hbd r hsp => ?_⟩
  · obtain ⟨v0, v1, rfl, _⟩ := h
    rfl
  obtain ⟨v0, v1, rfl, hT, q⟩ := hsp
  have kin : K.In s.heap := e0.mod.kin.keeps fun b o z => (e0.bs b o z).1
  have nol : s.heap.NoLimit := e0.mod.nolimit.keeps fun b o z => (e0.bs b o z).1
  refine codeAny_call_function hr.depth (kin _ _ lk) rfl S.co S.gen rfl (PySem.W.codeRec_of kin hcd) (hbd _ _ _ _ ?_)
  refine wpAny_newFunctionEnv_cells S.kind (fun y hy => ?_) fun env he s1 ic => ?_
  · obtain ⟨n, v⟩ := y
    refine (S.par n (List.of_mem_zip hy).1).imp id fun z => ⟨z, PySem.W.cellsFrom_some _ _ _ (.inl z)⟩
  subst he
  refine ⟨nol.keeps ic.toInCall.keep, codeAny_func ?_⟩
  have I : Inv (cxOf CX0 P w K mg base [x0, x1] qual (defScope st) f (.ref c) A outer s H E) [] (L2.start [x0, x1] [v0, v1]) H s1 := inv_start S hr.hd e0 rfl r ic
  rw [hb]
  refine wpAny_execs_cons (wpAny_Return_some ?_)
  have hX : ∀ x, (cxOf CX0 P w K mg base [x0, x1] qual (defScope st) f (.ref c) A outer s H E).fn x = true := fun _ => rfl
  have eq0 : (cxOf CX0 P w K mg base [x0, x1] qual (defScope st) f (.ref c) A outer s H E).env.qual = qual ++ ".<locals>." := rfl
  have caps : Caps (cxOf CX0 P w K mg base [x0, x1] qual (defScope st) f (.ref c) A outer s H E) (cloFrom (cxOf CX0 P w K mg base [x0, x1] qual (defScope st) f (.ref c) A outer s H E).env.cells scope.names []) [x0, x1] [0, 1] :=
    Caps.made I.ok (ndef_free hN) (ndef_fr hN) rfl
  have fr : ∀ y ∈ scope.names, y.2 = .free → ∃ c0, (cxOf CX0 P w K mg base [x0, x1] qual (defScope st) f (.ref c) A outer s H E).env.cells.lookup y.1 = some c0 := fun y hy e =>
    (ndef_free hN y hy e).elim (fun z => I.ok.has _ (.inl z)) fun z => I.ok.has _ (.inr z)
  refine lam_make (T := T) I TB rfl hm hu hT (hdef _) fr fun g c' H1 s' I1 x1' d1 t1 n1 l1 k1 => ?_
  have Ca := cells_of I1 caps
  have Hh := held_made (C := ⟨_, [x0, x1], [some v0, some v1]⟩) caps rfl hX I1
  generalize ecl : cloFrom (cxOf CX0 P w K mg base [x0, x1] qual (defScope st) f (.ref c) A outer s H E).env.cells scope.names [] = cl at *
  have Ca : CellsAt cl [x0, x1] [some v0, some v1] s'.heap H1 := Ca
  obtain ⟨c0, e0', w0⟩ := Ca.has 0 x0 rfl
  obtain ⟨c1, e1', w1⟩ := Ca.has 1 x1 rfl
  obtain ⟨u0, r0, o0, ho0, hd0⟩ := w0 v0 rfl
  obtain ⟨u1, r1, o1, ho1, hd1⟩ := w1 v1 rfl
  have cne : c0 ≠ c1 := fun z => ndx (Ca.inj x0 x1 c0 e0' (by rw [z]; exact e1'))
  have new : ∀ y cc, cl.lookup y = some cc → s.heap.objs.size ≤ cc ∧ H1 cc = none := fun y cc e => by
    have e2 := caps.sub y cc e
    exact ⟨I1.ok.cab y cc rfl e2, I1.freeC y cc e2⟩
  have only : ∀ y cc, cl.lookup y = some cc → cc = c0 ∨ cc = c1 := fun y cc e => by
    have hy : y = x0 ∨ y = x1 := by
      rw [← ecl] at e
      rcases cloFrom_mem (PySem.mem_of_lookup e) with hm' | ⟨h1, h2⟩
      · exact nomatch hm'
      · exact hfree _ h1 rfl
    rcases hy with rfl | rfl
    · rw [e0'] at e
      exact .inl (Option.some.inj e).symm
    · rw [e1'] at e
      exact .inr (Option.some.inj e).symm
  obtain ⟨g0, f0⟩ := new x0 c0 e0'
  obtain ⟨g1, f1⟩ := new x1 c1 e1'
  have hH0 := e0.hok.fresh g0
  have hH1 := e0.hok.fresh g1
  have a0 : (upd (upd H1 c0 (CellF o0 c0 v0)) c1 (CellF o1 c1 v1)) c0 = some (CellF o0 c0 v0) := (upd_ne cne).trans upd_same
  have a1 : (upd (upd H1 c0 (CellF o0 c0 v0)) c1 (CellF o1 c1 v1)) c1 = some (CellF o1 c1 v1) := upd_same
  have keep2 : ∀ b o, H1 b = some o → (upd (upd H1 c0 (CellF o0 c0 v0)) c1 (CellF o1 c1 v1)) b = some o := fun b o z => by
    rw [upd_ne (ne_of_none z f1), upd_ne (ne_of_none z f0)]
    exact z
  refine ⟨.ref g, upd (upd H1 c0 (CellF o0 c0 v0)) c1 (CellF o1 c1 v1), I1.os, I1.bare, ⟨I1.base.keep, I1.base.slot, fun b o e n hx => ?_, I1.base.there, fun b xs e => keep2 _ _ (I1.base.tups b xs e), fun b o u e => keep2 _ _ (I1.base.frzs b o u e), fun b ps e => ?_⟩, ?_, rfl, ?_⟩
  · have lt := Heap.lt_size e
    rw [upd_ne (Nat.ne_of_lt (Nat.lt_of_lt_of_le lt g1)), upd_ne (Nat.ne_of_lt (Nat.lt_of_lt_of_le lt g0))]
    exact I1.base.free b o e n hx
  · obtain ⟨more, z⟩ := I1.base.tbls b ps e
    exact ⟨more, keep2 _ _ z⟩
  · intro a o e
    by_cases h1 : a = c1
    · subst h1
      rw [upd_same] at e
      obtain rfl := Option.some.inj e
      exact cellF_ok r1 ho1 hd1
    · rw [upd_ne h1] at e
      by_cases h0 : a = c0
      · subst h0
        rw [upd_same] at e
        obtain rfl := Option.some.inj e
        exact cellF_ok r0 ho0 hd0
      · rw [upd_ne h0] at e
        exact (I1.hok a o e).stay (fun _ _ _ z => z) (fun b z => keep2 _ _ z) fun b xs z => keep2 _ _ z
  · refine q H1 g c' c0 c1 o0 o1 cl ⟨x1', d1⟩ t1 n1 ?_ k1 f0 f1 hH0 hH1 cne only ⟨rfl, fun y cc e => ?_, fun y z cc h1 h2 => Ca.inj y z cc h1 h2, fun i y e => ?_⟩
    · refine l1.trans ?_
      rw [← ecl]
      rfl
    · rcases only y cc e with rfl | rfl
      · exact ⟨o0, v0, a0⟩
      · exact ⟨o1, v1, a1⟩
    · have hi : i < 2 := (List.getElem?_eq_some_iff.mp e).1
      rcases Nat.lt_or_ge i 1 with hi1 | hi1
      · obtain rfl : i = 0 := by omega
        obtain rfl : x0 = y := Option.some.inj e
        exact ⟨c0, e0', fun v ev => ⟨o0, by rw [← Option.some.inj (Option.some.inj ev)]; exact a0⟩⟩
      · obtain rfl : i = 1 := by omega
        obtain rfl : x1 = y := Option.some.inj e
        exact ⟨c1, e1', fun v ev => ⟨o1, by rw [← Option.some.inj (Option.some.inj ev)]; exact a1⟩⟩
end
/-! what stays without the cells -/
theorem exd_del {H H1 : Hp} {cs : List Addr} (e : ExD H H1) (h : ∀ c ∈ cs, H c = none) : ExD H (delH H1 cs) := ⟨fun b u hb n => by
  rw [delH_ne fun z => by rw [h b z] at hb; exact nomatch hb]
  exact e.n b u hb n, fun b hb => by
  rw [delH_ne fun z => hb (h b z)]
  exact e.d b hb⟩
theorem tabs_del {T : List (Addr × Str)} {H : Hp} {cs : List Addr} (t : Tabs T H) (hc : ∀ c ∈ cs, ∃ o v, H c = some (CellF o c v)) : Tabs T (delH H cs) := fun p hp => by
  obtain ⟨ps, h1, h2, h3⟩ := t p hp
  refine ⟨ps, delH_keep hc h1 (fun _ _ z => nomatch z), h2, fun pos cv hcv => ?_⟩
  obtain ⟨c, e1, e2⟩ := h3 pos cv hcv
  exact ⟨c, e1, delH_keep hc e2 fun _ _ z => nomatch z⟩
end G
set_option Elab.async false
set_option linter.all false
set_option maxRecDepth 100000
set_option maxHeartbeats 4000000
namespace G
open PySem PySem.Spec PyProof.Rows L2 LamX NdefX
/-! ### lambdas that are handed on, with their cells among the objects for as long as they may be called -/
/-- the cells cs stand again as they stood in H1 -/
def addH (H2 H1 : Hp) (cs : List Addr) : Hp := fun b => if b ∈ cs then H1 b else H2 b
theorem addH_in {H2 H1 : Hp} {cs : List Addr} {b : Addr} (h : b ∈ cs) : addH H2 H1 cs b = H1 b := by unfold addH; rw [if_pos h]
theorem addH_ne {H2 H1 : Hp} {cs : List Addr} {b : Addr} (h : b ∉ cs) : addH H2 H1 cs b = H2 b := by unfold addH; rw [if_neg h]
theorem add_del {H : Hp} {cs : List Addr} : addH (delH H cs) H cs = H := by
  funext b
  by_cases h : b ∈ cs
  · exact addH_in h
  · rw [addH_ne h, delH_ne h]
theorem same_add {H1 H2 : Hp} {cs : List Addr} (s : Same (delH H1 cs) H2) : Same H1 (addH H2 H1 cs) := fun b o e => by
  by_cases h : b ∈ cs
  · rw [addH_in h]
    exact e
  · rw [addH_ne h]
    exact s _ _ ((delH_ne h).trans e)
theorem add_keep {H1 H2 : Hp} {cs : List Addr} {b : Addr} {o : HO} (hc : ∀ c ∈ cs, H2 c = none) (h : H2 b = some o) : addH H2 H1 cs b = some o := by
  rw [addH_ne fun z => by rw [hc b z] at h; exact nomatch h]
  exact h
section
variable {P : Program} {w : World} {outer : List Env} {H H2 : Hp} {s s' : Shared} {Q : VK} {u : Value}
/-- a call that did not see the cells: they stand behind it as before -/
theorem ce_add {cs : List Addr} (hok : HOk P w H s.heap) (hc : ∀ c ∈ cs, (∃ o v, H c = some (CellF o c v)) ∧ c ∉ frs outer) (h : CE outer P w (delH H cs) s (fun v H2 => (∀ c ∈ cs, H2 c = none) → Q v (addH H2 H cs)) u s') : CE outer P w H s Q u s' := by
  obtain ⟨v, H2, os, bare, un, ok2, r, q⟩ := h
  have hn : ∀ c ∈ cs, H2 c = none := fun c hcs => by
    obtain ⟨⟨o, v, e⟩, hf⟩ := hc c hcs
    exact un.free c o (hok c _ e).1 (delH_in hcs) (by simp)
  refine ⟨v, _, os, bare, ⟨fun b o e n hb hx => un.keep b o e (delH_none n) hb hx, fun b o e n hb hx => un.slot b o e (delH_none n) hb hx, fun b o e n hx => ?_, un.there, fun b xs e => ?_, fun b o w e => ?_, fun b ps e => ?_⟩, fun a o e => ?_, r, q hn⟩
  · have hb : b ∉ cs := fun z => by
      obtain ⟨⟨o, v, e⟩, _⟩ := hc b z
      rw [n] at e
      exact nomatch e
    rw [addH_ne hb]
    exact un.free b o e (delH_none n) hx
  · exact add_keep hn (un.tups b xs (delH_keep (fun c h => (hc c h).1) e fun _ _ z => nomatch z))
  · by_cases hb : b ∈ cs
    · rw [addH_in hb]
      exact e
    · rw [addH_ne hb]
      exact un.frzs b o w ((delH_ne hb).trans e)
  · obtain ⟨more, z⟩ := un.tbls b ps (delH_keep (fun c h => (hc c h).1) e fun _ _ z => nomatch z)
    exact ⟨more, add_keep hn z⟩
  · by_cases ha : a ∈ cs
    · rw [addH_in ha] at e
      obtain ⟨⟨o2, v2, e2⟩, hf⟩ := hc a ha
      have h1 := hok a o e
      rw [e2] at e
      obtain rfl := Option.some.inj e
      have keep := un.keep a o2 h1.1 (delH_in ha) hf (by simp)
      obtain ⟨u2, r2, z2⟩ := h1.2.1
      obtain ⟨o3, ho3, hd3⟩ := z2
      obtain rfl : o2 = o3 := by
        have := h1.1
        rw [ho3] at this
        exact (Option.some.inj this).symm
      exact cellF_ok r2 keep hd3
    · rw [addH_ne ha] at e
      exact (ok2 a o e).stay (fun _ _ _ z => z) (fun b z => add_keep hn z) fun b xs z => add_keep hn z
end
/-- what is wanted behind such a call -/
def Back (Q : VK) (H1 : Hp) (cs : List Addr) : VK := fun v H2 => (∀ c ∈ cs, H2 c = none) → Q v (addH H2 H1 cs)
/-- x(..), x a name that holds a lambda whose cells stand among the objects -/
def tCallK (P : Program) (w : World) (K : PySem.W.Frag) (mg : Str → Option Value) (base : Heap) (k i : Nat) (t : TA) : TE := fun σ H Q => ∃ f F e, σ[i]? = some (some (.ref f)) ∧ H f = some (LamO f F e) ∧
  t σ H fun vs H1 => H1 f = some (LamO f F e) ∧ ∃ (C : Clo) (ps : List Str) (spL : List (Option V) → Sp) (cs : List Addr), C.cl = F.cl ∧ LOk P w K mg base CX0 k f F e ps C.fr spL ∧ CloH C H1 ∧ (∀ c ∈ cs, ∃ o v, H1 c = some (CellF o c v)) ∧ (∀ y c, C.cl.lookup y = some c → c ∈ cs) ∧
    delH H1 cs f = some (LamO f F e) ∧ delH H1 cs F.c = some (CodeO F.c F.qual) ∧ spL C.ws vs (delH H1 cs) (Back Q H1 cs) E0
section
variable {X : Cx} {k j i : Nat} {x : Str} {t : TA} {e : Expr} {es : List Expr} {p pos : Pos}
theorem env0_del {P : Program} {w : World} {K : PySem.W.Frag} {mg : Str → Option Value} {base : Heap} {A : Around} {outer : List Env} {s : Shared} {H : Hp} {cs : List Addr} (e : Env0 P w K mg base A outer s H) (hc : ∀ c ∈ cs, ∃ o v, H c = some (CellF o c v)) : Env0 P w K mg base A outer s (delH H cs) :=
  ⟨e.frames, e.mod, fun b o z => ⟨(e.bs b o z).1, delH_none (e.bs b o z).2⟩, e.bsz, e.funs, fun b hb => delH_none (e.frf b hb), hok_del e.hok hc, e.bare⟩
theorem pe_callK (hr : Room j X.A) (hk : k ≤ j) (hN : X.N[i]? = some x) (hv : Vis X.env.scope x) (ha : PA X (e :: es) t)
    (hd : (x == ("__debug__" : Str)) = false := by decide) (hcd : (x == ("__classdict__" : Str)) = false := by decide)
    (he : starEach (e :: es) X.env = (false, eval e X.env) :: starEach es X.env := by rfl) (hpl : (backTo pos (starEach es X.env)).any (·.1) = false := by rfl) :
    PE X (.Call (.Name x p) (e :: es) [] pos) (tCallK X.prog X.w X.K X.mg X.base k i t) := by
  constructor
  intro pins s σ H Q I h
  obtain ⟨f, F, e', hs, hf, ht⟩ := h
  have nm := (pe_var (pos := p) hN hv hd hcd).run pins s σ H (fun v H1 => v = .ref f ∧ H1 = H) I ⟨.ref f, hs, rfl, rfl⟩
  refine wpAny_Call_Name_kw (thn nm fun u s1 q1 => ?_)
  obtain ⟨v, H1, I1, r1, ev, eH⟩ := q1
  subst ev
  rw [eH] at I1
  obtain rfl : u = Value.ref f := r1
  refine PySem.W.callWith_F (first := []) (fnAt_lam I1 hf) (thn (ha.run pos pins s1 σ H _ I1 ht) fun us s2 q2 => ?_) he hpl
  obtain ⟨vs, H2, I2, r, h1, C, ps, spL, cs, eC, L, hC, hcs, hin, hf2, hc2, q⟩ := q2
  refine ⟨fnAt_lam I2 h1, ?_⟩
  show wpAny _ _ (call (.ref f) us) _ _ _
  have hh := (held_of I2 hC hin).at_
  rw [eC] at hh
  refine wpAny_call (codeAny_mono (L.run X.A X.stack s2 (delH H2 cs) us vs C.ws _ E0 (hr.mono hk) (env0_del I2.env0 hcs) hf2 hc2 hh r q) fun r s' hq => ?_)
  cases r with
  | error _ => exact (show False from hq).elim
  | ok fl =>
    cases fl with
    | ret u => exact I2.after (ce_add I2.hok (fun c hc => ⟨hcs c hc, fun z => by
        obtain ⟨o, v, e⟩ := hcs c hc
        rw [I2.stkFree c z] at e
        exact nomatch e⟩) hq)
    | next => exact (show False from hq).elim
    | brk => exact (show False from hq).elim
    | cont => exact (show False from hq).elim
end
/-! ### own lambdas handed on: their cells are put among the objects for the call -/
def setL (H : Hp) (l : List (Addr × Obj × V)) : Hp := fun b => match l.find? fun p => decide (p.1 = b) with
  | some p => some (CellF p.2.1 p.1 p.2.2)
  | none => H b
theorem setL_ne {H : Hp} {l : List (Addr × Obj × V)} {b : Addr} (h : ∀ p ∈ l, p.1 ≠ b) : setL H l b = H b := by
  unfold setL
  rw [List.find?_eq_none.mpr fun p hp => by rw [decide_eq_true_eq]; exact h p hp]
theorem setL_in {H : Hp} {l : List (Addr × Obj × V)} (u : ∀ p ∈ l, ∀ q ∈ l, p.1 = q.1 → p = q) {p : Addr × Obj × V} (h : p ∈ l) : setL H l p.1 = some (CellF p.2.1 p.1 p.2.2) := by
  unfold setL
  cases e : l.find? fun q => decide (q.1 = p.1) with
  | none => exact absurd (List.find?_eq_none.mp e p h) (by simp)
  | some q =>
    have h1 := List.mem_of_find?_eq_some e
    have h2 := List.find?_some e
    rw [decide_eq_true_eq] at h2
    rw [u q h1 p h h2]
def ofVal : Value → V
  | .none => .non
  | .bool b => .bl b
  | .int i _ => .int i
  | .str x _ => .str x
  | .bytes b _ => .byt b
  | .float b _ => .flt b
  | .ref a => .ref a
  | .type n => .ty n
  | _ => .non
theorem ofVal_eq : ∀ {v : V} {u : Value}, L2.RelV v u → v = ofVal u
  | .non, u, h => by
    obtain rfl : u = Value.none := h
    rfl
  | .bl b, u, h => by
    obtain rfl : u = Value.bool b := h
    rfl
  | .int i, u, h => by
    obtain ⟨t, rfl⟩ := h
    rfl
  | .str x, u, h => by
    obtain ⟨t, rfl⟩ := h
    rfl
  | .byt b, u, h => by
    obtain ⟨t, rfl⟩ := h
    rfl
  | .flt b, u, h => by
    obtain ⟨t, rfl⟩ := h
    rfl
  | .ref a, u, h => by
    obtain rfl : u = Value.ref a := h
    rfl
  | .ty n, u, h => by
    obtain rfl : u = Value.type n := h
    rfl
/-- the cells of such lambdas, with what they hold -/
theorem cells_list {X : Cx} {h : Heap} {H : Hp} {l : List Env} : ∀ (Cs : List Clo), (∀ C ∈ Cs, HeldC C l h H ∧ ∀ y c, C.cl.lookup y = some c → y ∈ C.fr ∧ X.base.get? c = none) → (∀ C ∈ Cs, ∀ i, i < C.fr.length → ∃ v, C.ws[i]? = some (some v)) →
    ∃ L : List (Addr × Obj × V), (∀ p ∈ L, X.base.get? p.1 = none ∧ H p.1 = none ∧ p.1 ∉ frs l ∧ h.get? p.1 = some p.2.1 ∧ ∃ u, L2.RelV p.2.2 u ∧ p.2.1.data = .cell (some u)) ∧
      (∀ C ∈ Cs, (∀ y c, C.cl.lookup y = some c → ∃ p ∈ L, p.1 = c) ∧ ∀ (i : Nat) (y : Str), C.fr[i]? = some y → ∃ c, C.cl.lookup y = some c ∧ ∀ v, C.ws[i]? = some (some v) → ∃ o, (c, o, v) ∈ L)
  | [], _, _ => ⟨[], (fun p hp => nomatch hp), fun C hC => nomatch hC⟩
  | C :: Cs, hh, hv => by
    obtain ⟨L, l1, l2⟩ := cells_list (X := X) Cs (fun C h => hh C (List.mem_cons_of_mem _ h)) fun C h => hv C (List.mem_cons_of_mem _ h)
    obtain ⟨hC, v1⟩ := hh C List.mem_cons_self
    have v2 := hv C List.mem_cons_self
    have one : ∀ i, i < C.fr.length → ∃ p : Addr × Obj × V, (X.base.get? p.1 = none ∧ H p.1 = none ∧ p.1 ∉ frs l ∧ h.get? p.1 = some p.2.1 ∧ ∃ u, L2.RelV p.2.2 u ∧ p.2.1.data = .cell (some u)) ∧ (∃ y, C.fr[i]? = some y ∧ C.cl.lookup y = some p.1) ∧ C.ws[i]? = some (some p.2.2) := fun i hi => by
      obtain ⟨v, ev⟩ := v2 i hi
      obtain ⟨y, ey⟩ : ∃ y, C.fr[i]? = some y := ⟨_, List.getElem?_eq_getElem hi⟩
      obtain ⟨c, e1, e2⟩ := hC.at_.has i y ey
      obtain ⟨u, r, o, ho, hd⟩ := e2 v ev
      exact ⟨(c, o, v), ⟨(v1 y c e1).2, (hC.at_.all y c e1).1, hC.nofr y c e1, ho, u, r, hd⟩, ⟨y, ey, e1⟩, ev⟩
    have all : ∀ n, n ≤ C.fr.length → ∃ M : List (Addr × Obj × V), (∀ p ∈ M, X.base.get? p.1 = none ∧ H p.1 = none ∧ p.1 ∉ frs l ∧ h.get? p.1 = some p.2.1 ∧ ∃ u, L2.RelV p.2.2 u ∧ p.2.1.data = .cell (some u)) ∧ ∀ i, i < n → ∃ p ∈ M, (∃ y, C.fr[i]? = some y ∧ C.cl.lookup y = some p.1) ∧ C.ws[i]? = some (some p.2.2) := by
      intro n
      induction n with
      | zero => exact fun _ => ⟨[], (fun p hp => nomatch hp), fun i hi => absurd hi (Nat.not_lt_zero i)⟩
      | succ n ih =>
        intro hn
        obtain ⟨M, m1, m2⟩ := ih (by omega)
        obtain ⟨p, p1, p2⟩ := one n (by omega)
        refine ⟨p :: M, fun q hq => ?_, fun i hi => ?_⟩
        · rcases List.mem_cons.mp hq with rfl | hq
          · exact p1
          · exact m1 q hq
        · rcases Nat.lt_succ_iff_lt_or_eq.mp hi with hi | rfl
          · obtain ⟨q, q1, q2⟩ := m2 i hi
            exact ⟨q, List.mem_cons_of_mem _ q1, q2⟩
          · exact ⟨p, List.mem_cons_self, p2⟩
    obtain ⟨M, m1, m2⟩ := all C.fr.length (Nat.le_refl _)
    refine ⟨M ++ L, fun p hp => (List.mem_append.mp hp).elim (m1 p) (l1 p), fun C' hC' => ?_⟩
    rcases List.mem_cons.mp hC' with rfl | hC'
    · refine ⟨fun y c e => ?_, fun i y ey => ?_⟩
      · obtain ⟨i, ei⟩ := List.mem_iff_getElem?.mp (v1 y c e).1
        obtain ⟨p, pm, ⟨y', ey', e1⟩, _⟩ := m2 i (List.getElem?_eq_some_iff.mp ei).1
        rw [ei] at ey'
        obtain rfl := Option.some.inj ey'
        rw [e] at e1
        exact ⟨p, List.mem_append_left _ pm, (Option.some.inj e1).symm⟩
      · obtain ⟨p, pm, ⟨y', ey', e1⟩, e2⟩ := m2 i (List.getElem?_eq_some_iff.mp ey).1
        rw [ey] at ey'
        obtain rfl := Option.some.inj ey'
        refine ⟨p.1, e1, fun v ev => ⟨p.2.1, List.mem_append_left _ ?_⟩⟩
        rw [e2] at ev
        obtain rfl := Option.some.inj (Option.some.inj ev)
        exact pm
    · obtain ⟨a1, a2⟩ := l2 C' hC'
      refine ⟨fun y c e => ?_, fun i y ey => ?_⟩
      · obtain ⟨p, pm, e⟩ := a1 y c e
        exact ⟨p, List.mem_append_right _ pm, e⟩
      · obtain ⟨c, e1, e2⟩ := a2 i y ey
        exact ⟨c, e1, fun v ev => (e2 v ev).imp fun o h => List.mem_append_right _ h⟩
/-- an exception that passes: the cells go out of sight -/
def DelX (P : Program) (w : World) (CX : CXT) : Prop := ∀ (outer : List Env) (H Hp' : Hp) (s : Shared) (E : XK) (e : Value) (s' : Shared) (cs : List Addr), HOk P w Hp' s.heap → (∀ c ∈ cs, H c = none ∧ ∃ o v, Hp' c = some (CellF o c v)) → (∀ b, b ∉ cs → Hp' b = H b) →
  CX outer Hp' s (fun c d H' => E c d (delH H' cs)) e s' → CX outer H s E e s'
theorem delX0 {P : Program} {w : World} : DelX P w CX0 := fun _ _ _ _ _ _ _ _ _ _ _ h => h.elim
theorem delXX {P : Program} {w : World} : DelX P w (L2.CX P w) := fun outer H Hp' s E e s' cs hok hc ho h => by
  obtain ⟨a, B, H', cls, d, rfl, fl, ok', ub, na, os, bare, q⟩ := h
  have hin : ∀ c ∈ cs, ∃ o v, H' c = some (CellF o c v) := fun c hcs => by
    obtain ⟨_, o, v, z⟩ := hc c hcs
    exact ⟨o, v, ub.frzs _ _ _ z⟩
  have nin : ∀ b o, H b = some o → b ∉ cs := fun b o e z => by
    rw [(hc b z).1] at e
    exact nomatch e
  refine ⟨a, B, delH H' cs, cls, d, rfl, fl, hok_del ok' hin, ⟨fun b o e n hb => ?_, ub.slot, fun b o e n => ?_, ub.there, fun b xs e => ?_, fun b o u e => ?_, fun b ps e => ?_⟩, delH_none na, os, bare, q⟩
  · by_cases z : b ∈ cs
    · obtain ⟨_, o', v, e'⟩ := hc b z
      have h1 := (hok b _ e').1
      rw [e] at h1
      obtain rfl := Option.some.inj h1
      exact (ok' b _ (ub.frzs _ _ _ e')).1
    · exact ub.keep b o e ((ho b z).trans n) hb
  · by_cases z : b ∈ cs
    · exact delH_in z
    · exact delH_none (ub.free b o e ((ho b z).trans n))
  · rw [delH_ne (nin b _ e)]
    exact ub.tups b xs ((ho b (nin b _ e)).trans e)
  · rw [delH_ne (nin b _ e)]
    exact ub.frzs b o u ((ho b (nin b _ e)).trans e)
  · rw [delH_ne (nin b _ e)]
    exact ub.tbls b ps ((ho b (nin b _ e)).trans e)
theorem ce_del {P : Program} {w : World} {outer : List Env} {H Hp' : Hp} {s s' : Shared} {Q : VK} {u : Value} {cs : List Addr} (hok : HOk P w Hp' s.heap) (hc : ∀ c ∈ cs, H c = none ∧ ∃ o v, Hp' c = some (CellF o c v)) (ho : ∀ b, b ∉ cs → Hp' b = H b)
    (h : CE outer P w Hp' s (fun v H2 => Q v (delH H2 cs)) u s') : CE outer P w H s Q u s' := by
  obtain ⟨v, H2, os, bare, un, ok2, r, q⟩ := h
  have hin : ∀ c ∈ cs, ∃ o v, H2 c = some (CellF o c v) := fun c hcs => by
    obtain ⟨_, o, v, z⟩ := hc c hcs
    exact ⟨o, v, un.frzs _ _ _ z⟩
  have nin : ∀ b o, H b = some o → b ∉ cs := fun b o e z => by
    rw [(hc b z).1] at e
    exact nomatch e
  have at_ : ∀ b o, s.heap.get? b = some o → b ∈ cs → s'.heap.get? b = some o := fun b o e z => by
    obtain ⟨_, o', v, e'⟩ := hc b z
    have h1 := (hok b _ e').1
    rw [e] at h1
    obtain rfl := Option.some.inj h1
    exact (ok2 b _ (un.frzs _ _ _ e')).1
  refine ⟨v, delH H2 cs, os, bare, ⟨fun b o e n hb hx => ?_, fun b o e n hb hx => ?_, fun b o e n hx => ?_, un.there, fun b xs e => ?_, fun b o u e => ?_, fun b ps e => ?_⟩, hok_del ok2 hin, r, q⟩
  · by_cases z : b ∈ cs
    · exact at_ b o e z
    · exact un.keep b o e ((ho b z).trans n) hb hx
  · by_cases z : b ∈ cs
    · exact ⟨o.slots, at_ b o e z⟩
    · exact un.slot b o e ((ho b z).trans n) hb hx
  · by_cases z : b ∈ cs
    · exact delH_in z
    · exact delH_none (un.free b o e ((ho b z).trans n) hx)
  · rw [delH_ne (nin b _ e)]
    exact un.tups b xs ((ho b (nin b _ e)).trans e)
  · rw [delH_ne (nin b _ e)]
    exact un.frzs b o u ((ho b (nin b _ e)).trans e)
  · rw [delH_ne (nin b _ e)]
    exact un.tbls b ps ((ho b (nin b _ e)).trans e)
/-- f(..) of a def that is handed own lambdas: for the call their cells stand among the objects -/
def tCallO (own : L2.St → List Clo) (sp : Sp) (E : L2.St → XK) (t : TA) : TE := fun σ H Q => t σ H fun vs H1 => (∀ C ∈ own σ, ∀ i, i < C.fr.length → ∃ v, C.ws[i]? = some (some v)) ∧ vs.length = vs.length ∧
  ∀ (H2 : Hp) (cs : List Addr), Same H1 H2 → (∀ c ∈ cs, H1 c = none ∧ ∃ o v, H2 c = some (CellF o c v)) → (∀ b, b ∉ cs → H2 b = H1 b) → (∀ C ∈ own σ, CloH C H2) → (∀ C ∈ own σ, ∀ y c, C.cl.lookup y = some c → c ∈ cs) →
    sp vs H2 (fun v H3 => Q v (delH H3 cs)) (fun c d H3 => E σ c d (delH H3 cs))
/-- own lambdas: what is known of their cells -/
def OwnOk (X : Cx) (own : L2.St → List Clo) : Prop := ∀ pins σ H s, Inv X pins σ H s → ∀ C ∈ own σ, HeldC C X.stack s.heap H ∧ ∀ y c, C.cl.lookup y = some c → y ∈ C.fr ∧ X.base.get? c = none
theorem own_nil {X : Cx} : OwnOk X fun _ => [] := fun _ _ _ _ _ C hC => nomatch hC
def capB (nsc : Scope) (fr : List Str) : Bool := nsc.names.all fun y => !decide (y.2 = .free) || decide (y.1 ∈ fr)
theorem own_cons {X : Cx} {scope : Scope} {js : List Nat} {fr : List Str} {Cs : L2.St → List Clo} (hfn : ∀ x, X.fn x = true) (hB : ndefB X.env.scope scope fr = true) (hc : capB scope fr = true) (hjs : js.map (fun j => X.N[j]?) = fr.map some) (rest : OwnOk X Cs) :
    OwnOk X fun σ => (⟨cloFrom X.env.cells scope.names [], fr, js.map (slotAt σ)⟩ : Clo) :: Cs σ := by
  intro pins σ H s I C hC
  rcases List.mem_cons.mp hC with rfl | hC
  · have cp := Caps.made I.ok (ndef_free hB) (ndef_fr hB) hjs
    refine ⟨held_made (js := js) cp rfl hfn I, fun y c e => ⟨?_, ?_⟩⟩
    · rcases cloFrom_mem (PySem.mem_of_lookup e) with hm | ⟨h1, h2⟩
      · exact nomatch hm
      · unfold capB at hc
        have := List.all_eq_true.mp hc _ h1
        simpa using this
    · exact Heap.get?_none_of_le (Nat.le_trans I.ok.bsz (I.ok.cab y c (hfn y) (cp.sub y c e)))
  · exact rest pins σ H s I C hC
section
variable {X : Cx} {CX : CXT} {k : Nat} {f : Addr} {fd : FuncData} {ps : List Str} {sp : Sp} {E : L2.St → XK} {x : Str} {p pos : Pos} {e : Expr} {es : List Expr} {t : TA} {own : L2.St → List Clo}
theorem pe_callO (F : FnOk X.prog X.w X.K X.mg X.base CX k f fd ps sp) (dx : DelX X.prog X.w CX) (hO : OwnOk X own) (hr : Room k X.A) (hg : Gl X x) (hm : X.mg x = some (.ref f)) (hk : PySem.W.keepIn X.K (.ref f) = true) (hb : Binds X.K fd ps [])
    (hx : ∀ σ, PassesAt CX X σ (E σ)) (ha : PA X (e :: es) t) (hdb : (x == ("__debug__" : Str)) = false := by decide) (hst : starEach (e :: es) X.env = (false, eval e X.env) :: starEach es X.env := by rfl) (hpl : (backTo pos (starEach es X.env)).any (·.1) = false := by rfl) :
    PE X (.Call (.Name x p) (e :: es) [] pos) (tCallO own sp E t) := by
  constructor
  intro pins s σ H Q I h
  refine wpAny_Call_Name_kw (ld_glob I hg hm ?_ hdb)
  refine PySem.W.callWith_K (h₀ := X.base) I.ok.mod.kin hk (thn (ha.run pos pins s σ H _ I h) fun us s1 q1 => ?_) hst hpl
  obtain ⟨vs, H1, I1, r, hws, _, q⟩ := q1
  refine ⟨I1.kIn, ?_⟩
  obtain ⟨L, l1, l2⟩ := cells_list (X := X) (own σ) (hO _ _ _ _ I1) hws
  have uq : ∀ p ∈ L, ∀ q ∈ L, p.1 = q.1 → p = q := fun p hp q hq e => by
    obtain ⟨_, _, _, a3, u, r1, d1⟩ := l1 p hp
    obtain ⟨_, _, _, b3, u', r2, d2⟩ := l1 q hq
    obtain ⟨p1, p2, p3⟩ := p
    obtain ⟨q1, q2, q3⟩ := q
    obtain rfl : p1 = q1 := e
    have a3 : s1.heap.get? p1 = some p2 := a3
    have b3 : s1.heap.get? p1 = some q2 := b3
    rw [a3] at b3
    obtain rfl := Option.some.inj b3
    have d1 : p2.data = .cell (some u) := d1
    have d2 : p2.data = .cell (some u') := d2
    rw [d1] at d2
    injection d2 with d2
    obtain rfl := Option.some.inj d2
    have e1 : p3 = _ := ofVal_eq r1
    have e2 : q3 = _ := ofVal_eq r2
    rw [e1, e2]
  have inL : ∀ p ∈ L, setL H1 L p.1 = some (CellF p.2.1 p.1 p.2.2) := fun p hp => setL_in uq hp
  have outL : ∀ b, b ∉ L.map (·.1) → setL H1 L b = H1 b := fun b hb => setL_ne fun p hp e => hb (by rw [← e]; exact List.mem_map_of_mem hp)
  have sm : Same H1 (setL H1 L) := fun b o eb => by
    rw [outL b fun z => ?_]
    · exact eb
    · obtain ⟨p, hp, rfl⟩ := List.mem_map.mp z
      rw [(l1 p hp).2.1] at eb
      exact nomatch eb
  have hcs : ∀ c ∈ L.map (·.1), H1 c = none ∧ ∃ o v, setL H1 L c = some (CellF o c v) := fun c hc => by
    obtain ⟨p, hp, rfl⟩ := List.mem_map.mp hc
    exact ⟨(l1 p hp).2.1, p.2.1, p.2.2, inL p hp⟩
  have hok : HOk X.prog X.w (setL H1 L) s1.heap := fun a o eo => by
    by_cases ha : a ∈ L.map (·.1)
    · obtain ⟨p, hp, rfl⟩ := List.mem_map.mp ha
      rw [inL p hp] at eo
      obtain rfl := Option.some.inj eo
      obtain ⟨_, _, _, a3, u, r1, d1⟩ := l1 p hp
      exact cellF_ok r1 a3 d1
    · rw [outL a ha] at eo
      exact (I1.hok a o eo).stay (fun _ _ _ z => z) (fun b z => sm _ _ z) fun b xs z => sm _ _ z
  have e0 := I1.env0
  have e0' : Env0 X.prog X.w X.K X.mg X.base X.A X.stack s1 (setL H1 L) := ⟨e0.frames, e0.mod, fun b o z => ⟨(e0.bs b o z).1, by
      rw [outL b fun zz => ?_]
      · exact (e0.bs b o z).2
      · obtain ⟨p, hp, rfl⟩ := List.mem_map.mp zz
        rw [(l1 p hp).1] at z
        exact nomatch z⟩, e0.bsz, e0.funs, fun b hb => by
      rw [outL b fun zz => ?_]
      · exact e0.frf b hb
      · obtain ⟨p, hp, rfl⟩ := List.mem_map.mp zz
        exact (l1 p hp).2.2.1 hb, hok, e0.bare⟩
  have clo : ∀ C ∈ own σ, CloH C (setL H1 L) := fun C hC => by
    obtain ⟨hH, _⟩ := hO _ _ _ _ I1 C hC
    obtain ⟨a1, a2⟩ := l2 C hC
    refine ⟨hH.at_.len, fun y c e => ?_, hH.at_.inj, fun i y ey => ?_⟩
    · obtain ⟨p, hp, rfl⟩ := a1 y c e
      exact ⟨_, _, inL p hp⟩
    · obtain ⟨c, e1, e2⟩ := a2 i y ey
      exact ⟨c, e1, fun v ev => by
        obtain ⟨o, hm⟩ := e2 v ev
        exact ⟨o, inL _ hm⟩⟩
  have inC : ∀ C ∈ own σ, ∀ y c, C.cl.lookup y = some c → c ∈ L.map (·.1) := fun C hC y c e => by
    obtain ⟨p, hp, rfl⟩ := (l2 C hC).1 y c e
    exact List.mem_map_of_mem hp
  have q := q _ _ sm hcs outL clo inC
  have hl : us.length = ps.length := by
    rw [← r.length]
    exact F.len _ _ _ _ q
  have bnd := hb s1 us I1.kIn (by rw [List.append_nil]; exact hl)
  rw [List.append_nil] at bnd
  refine wpAny_call (codeAny_mono (F.run X.A X.stack s1 (setL H1 L) ⟨us, []⟩ us vs _ _ hr e0' bnd r q) fun r s' hq => ?_)
  cases r with
  | error err => exact hx σ pins _ s1 err s' I1 (dx _ _ _ _ _ _ _ _ hok hcs outL hq)
  | ok fl =>
    cases fl with
    | ret u => exact I1.after (ce_del hok hcs outL hq)
    | next => exact (show False from hq).elim
    | brk => exact (show False from hq).elim
    | cont => exact (show False from hq).elim
theorem r_callO {σ : L2.St} {H : Hp} {Q : VK} (h : t σ H fun vs H1 => (∀ C ∈ own σ, ∀ i, i < C.fr.length → ∃ v, C.ws[i]? = some (some v)) ∧ vs.length = vs.length ∧
  ∀ (H2 : Hp) (cs : List Addr), Same H1 H2 → (∀ c ∈ cs, H1 c = none ∧ ∃ o v, H2 c = some (CellF o c v)) → (∀ b, b ∉ cs → H2 b = H1 b) → (∀ C ∈ own σ, CloH C H2) → (∀ C ∈ own σ, ∀ y c, C.cl.lookup y = some c → c ∈ cs) →
    sp vs H2 (fun v H3 => Q v (delH H3 cs)) (fun c d H3 => E σ c d (delH H3 cs))) : tCallO own sp E t σ H Q := h
theorem r_callK {P : Program} {w : World} {K : PySem.W.Frag} {mg : Str → Option Value} {base : Heap} {i : Nat} {σ : L2.St} {H : Hp} {Q : VK} (h : ∃ f F e, σ[i]? = some (some (.ref f)) ∧ H f = some (LamO f F e) ∧
  t σ H fun vs H1 => H1 f = some (LamO f F e) ∧ ∃ (C : Clo) (ps : List Str) (spL : List (Option V) → Sp) (cs : List Addr), C.cl = F.cl ∧ LOk P w K mg base CX0 k f F e ps C.fr spL ∧ CloH C H1 ∧ (∀ c ∈ cs, ∃ o v, H1 c = some (CellF o c v)) ∧ (∀ y c, C.cl.lookup y = some c → c ∈ cs) ∧
    delH H1 cs f = some (LamO f F e) ∧ delH H1 cs F.c = some (CodeO F.c F.qual) ∧ spL C.ws vs (delH H1 cs) (Back Q H1 cs) E0) : tCallK P w K mg base k i t σ H Q := h
end
end G
set_option Elab.async false
set_option linter.all false
set_option maxRecDepth 100000
set_option maxHeartbeats 4000000
namespace G
open PySem PySem.Spec PyProof.Rows L2
/-! ### a row in a list of rows -/
theorem hu65 {k : Nat} {A : Around} (hr : Room k A) : A.units + 65 < cLine := by
  have := hr.un
  omega
theorem hu64 {k : Nat} {A : Around} (hr : Room k A) : A.units + 64 < cLine := by
  have := hr.un
  omega
theorem any_rows (rs : List (List Nat)) (r : List Nat) : ((rs.map rowD).any fun z => PyData.eqv z (rowD r)) = decide (r ∈ rs) := by
  rw [List.any_map]
  by_cases h : r ∈ rs
  · rw [decide_eq_true h]
    exact List.any_eq_true.mpr ⟨r, h, by show PyData.eqv (rowD r) (rowD r) = true; rw [eqv_rows]; simp⟩
  · rw [decide_eq_false h]
    refine List.any_eq_false.mpr fun y hy e => h ?_
    have e2 : PyData.eqv (rowD y) (rowD r) = true := e
    rw [eqv_rows] at e2
    rw [← of_decide_eq_true e2]
    exact hy
section
variable {X : Cx} {K : PySem.W.Frag} {H : Hp} {Q : VK}
theorem op_inDK (hK : X.K = K) (hu : X.A.units + 65 < cLine) : OpR X (compareOp .In) (rInD K) := hK ▸ op_inD hu
theorem op_notInDK (hK : X.K = K) (hu : X.A.units + 65 < cLine) : OpR X (compareOp .NotIn) (rNotInD K) := hK ▸ op_notInD hu
theorem r_inRow {b p : Addr} {r : List Nat} {qs : List (Addr × List Nat)} (h1 : SqT K H b (r.map iV)) (h2 : SqL K H p (refsV qs)) (hall : ∀ q ∈ qs, SqT K H q.1 (q.2.map iV)) (q : Q (.bl (decide (r ∈ qs.map (·.2)))) H) : rInD K (.ref b) (.ref p) H Q :=
  ⟨rowD r, (qs.map (·.2)).map rowD, (row_of h1).dp, dp_rows h2 hall, shaped_row r, shaped_rows _, by rw [any_rows]; exact q⟩
theorem r_notInRow {b p : Addr} {r : List Nat} {qs : List (Addr × List Nat)} (h1 : SqT K H b (r.map iV)) (h2 : SqL K H p (refsV qs)) (hall : ∀ q ∈ qs, SqT K H q.1 (q.2.map iV)) (q : Q (.bl (!decide (r ∈ qs.map (·.2)))) H) : rNotInD K (.ref b) (.ref p) H Q :=
  ⟨rowD r, (qs.map (·.2)).map rowD, (row_of h1).dp, dp_rows h2 hall, shaped_row r, shaped_rows _, by rw [any_rows]; exact q⟩
end
end G
set_option Elab.async false
set_option linter.all false
set_option maxRecDepth 100000
set_option maxHeartbeats 4000000
namespace G
open PySem PySem.Spec PyProof.Rows L2
/-! ### walking a dict whose keys are tuples: it is locked as the walk begins -/
theorem frzTv {X : Cx} {pins : List (Addr × Obj)} {σ : L2.St} {H : Hp} {s : Shared} {d : Addr} {o : Obj} {kvs : List (List Key × V)} (I : Inv X pins σ H s) (h : H d = some (.frz o (.dT kvs))) :
    (d == sysModules) = false ∧ s.heap.get? d = some o ∧ o.ExactDict ∧ ∃ (es : Array DictEntry) (ep : Nat), o.data = .dict es ep ∧ es.size = kvs.length ∧
      ∀ (i : Nat) (k : List Key) (v : V), kvs[i]? = some (k, v) → ∃ (en : DictEntry) (q : Addr), es[i]? = some en ∧ en.key = .ref q ∧ H q = some (.tup (k.map kV)) ∧ RelV v en.val := by
  obtain ⟨hd, z, hs, xs, pr, o', es, ep, ho, hx, hdt, he, _⟩ := I.hok d _ h
  rw [hd] at ho
  cases ho
  refine ⟨hs, hd, hx, es, ep, hdt, ?_, fun i k v e => ?_⟩
  · have l1 : es.size = xs.length := size_of_entries he
    have l2 : kvs.length = xs.length := Paired.length pr
    omega
  · obtain ⟨b, hb, e1, e2, e3⟩ := paired_get pr e
    have q := entry_at he i
    rw [hb] at q
    exact ⟨_, b.2.1, q, rfl, e2, e3⟩
/-- the pairs, each a new tuple of the key's own tuple and the value -/
def Itit (d : Addr) (o : Obj) (kvs : List (List Key × V)) : It :=
  ⟨fun i H => H d = some (.frz o (.dT kvs)) ∧ i < kvs.length, fun i H x H' => ∃ (T : Addr) (k : List Key) (v : V) (q : Addr), kvs[i]? = some (k, v) ∧ x = .ref T ∧ H T = none ∧ H q = some (.tup (k.map kV)) ∧ H' = upd H T (.tup [.ref q, v]), fun i H => H d = some (.frz o (.dT kvs)) ∧ kvs.length ≤ i⟩
section
variable {P : Program} {w : World} {K : PySem.W.Frag} {tg : Expr} {d : Addr} {o : Obj} {es : Array DictEntry} {ep : Nat}
theorem turn_itemsT {kvs : List (List Key × V)} {elts : List Expr} {kk : Nat} {tpos : Pos} (it : Addr) (hod : o.data = .dict es ep) :
    Turn P w K (.Tuple elts kk tpos) (Itit d o kvs) [it] it (fun i h => ∃ ok ov, IsItemIter h it d i kvs.length ep ok ov) where
  mem := by simp
  obj := fun i h st b hb => by
    have e : b = it := by simpa using hb
    subst e
    obtain ⟨ok, ov, e⟩ := st
    exact ⟨_, e, fun v z => nomatch z⟩
  keep := fun i h h' st k => let ⟨ok, ov, e⟩ := st; ⟨ok, ov, k it (by simp) _ e⟩
  item := by
    intro X hP hw hK hc i pins s σ H E I hf st hg
    subst hP hw hK
    obtain ⟨hd, hi⟩ := hg
    obtain ⟨hs, hgd, hx, es', ep', hdt, hsz, ent⟩ := frzTv I hd
    obtain ⟨rfl, rfl⟩ := dict_ep hod hdt
    obtain ⟨⟨k, v⟩, hkv⟩ : ∃ p, kvs[i]? = some p := ⟨kvs[i], List.getElem?_eq_getElem hi⟩
    obtain ⟨en, q, hen, hkey, hq, rv⟩ := ent i k v hkv
    obtain ⟨ok, ov, he⟩ := st
    rw [← hsz] at he
    have hlt : it < s.heap.objs.size := Heap.lt_size he
    have hie : i < es'.size := by omega
    obtain rfl : es'[i] = en := by
      rw [Array.getElem?_eq_getElem hie] at hen
      exact Option.some.inj hen
    refine wpAny_pyNext_items_item_raw he ⟨o, hgd, hx, hdt⟩ hie fun h' ho hT hz hk => ?_
    refine ⟨_, rfl, wpAny_letOwnedTupleGo_items (s := { s with heap := h' }) ho fun h'' he' sb => ?_⟩
    have hT2 : h''.get? s.heap.objs.size = some { cls := .type "tuple", data := .seq #[es'[i].key, es'[i].val] } := (sb.2 _ (Nat.ne_of_gt hlt)).trans hT
    have new : ObjOk X.prog X.w (upd H s.heap.objs.size (.tup [.ref q, v])) h'' s.heap.objs.size (.tup [.ref q, v]) :=
      ⟨by show 2 ≤ sizeLine; decide, [es'[i].key, es'[i].val], .cons hkey (.cons rv .nil), ⟨_, hT2, rfl, _, rfl⟩⟩
    have I1 : Inv X pins σ (upd H s.heap.objs.size (.tup [.ref q, v])) { s with heap := h'' } :=
      I.turnedNew (t' := s.toks) (ch := [it]) (fun b ob hb e => (sb.2 b (by simpa using hb)).trans (hk b ob (by simpa using hb) e)) hf (Nat.le_refl _) new
    refine ⟨.ref s.heap.objs.size, _, I1, rfl, ⟨_, k, v, q, hkv, rfl, I.hok.fresh (Nat.le_refl _), hq, rfl⟩, ⟨es'[i].key, es'[i].val, ?_⟩, fun b hb => ?_⟩
    · rw [← hsz]; exact he'
    · have e : b = it := by simpa using hb
      rw [e, upd_ne (Nat.ne_of_lt hlt)]
      exact (hf it (by simp)).1
  done := by
    intro X hP hw hK hc i pins s σ H E I hf st hg
    subst hP hw hK
    obtain ⟨hd, hi⟩ := hg
    obtain ⟨f0, f1, f2, f3, f4, f5⟩ := hf it (by simp)
    obtain ⟨hs, hgd, hx, es', ep', hdt, hsz, ent⟩ := frzTv I hd
    obtain ⟨rfl, rfl⟩ := dict_ep hod hdt
    obtain ⟨ok, ov, he⟩ := st
    rw [← hsz] at he
    exact wpAny_pyNext_items_end_raw (I.ok.hd hc) he ⟨o, hgd, hx, hdt⟩ (by omega) fun h' eb => ⟨rfl, I.turned (t' := s.toks) (fun b ob hb e => eb b ob hb e) f0 f1 f3 f4 f5⟩
  self := fun A i s Q E st h => let ⟨_, _, e⟩ := st; PySem.W.kcp_self e h
end
def iKeysL (td : TE) : TI := fun σ H R => td σ H fun x H1 => ∃ (d : Addr) (kvs : List (List Key × V)), x = .ref d ∧ ((H1 d = some (.dT kvs) ∧ ∀ o, R (Itkt d o kvs) (upd H1 d (.frz o (.dT kvs)))) ∨ ∃ o, H1 d = some (.frz o (.dT kvs)) ∧ R (Itkt d o kvs) H1)
def iItemsL (td : TE) : TI := fun σ H R => td σ H fun x H1 => ∃ (d : Addr) (kvs : List (List Key × V)), x = .ref d ∧ ((H1 d = some (.dT kvs) ∧ ∀ o, R (Itit d o kvs) (upd H1 d (.frz o (.dT kvs)))) ∨ ∃ o, H1 d = some (.frz o (.dT kvs)) ∧ R (Itit d o kvs) H1)
section
variable {X : Cx} {tg e : Expr} {td : TE} {apos cpos : Pos}
theorem pi_keysL (he : PE X e td) : PI X tg e (iKeysL td) := by
  refine ⟨fun pins s σ H R I h => ?_⟩
  refine thn (he.run pins s σ H _ I h) fun u s1 ⟨x, H1, I1, rx, d, kvs, ex, q⟩ => ?_
  subst ex
  obtain rfl : u = Value.ref d := rx
  rcases q with ⟨hd, q⟩ | ⟨o, hd, q⟩
  · obtain ⟨od, I2⟩ := I1.lock hd trivial
    obtain ⟨hs, hgd, hx, es, ep, hdt, hsz, ent⟩ := I2.frzT upd_same
    refine iter_keys hs hgd hx hdt (pi_one (tk := s1.toks) I2 _ (turn_keysT _ hdt) ⟨_, Heap.get?_push_size _ rfl, rfl, ?_⟩ (q od))
    rw [hsz] <;> rfl
  · obtain ⟨hs, hgd, hx, es, ep, hdt, hsz, ent⟩ := I1.frzT hd
    refine iter_keys hs hgd hx hdt (pi_one (tk := s1.toks) I1 _ (turn_keysT _ hdt) ⟨_, Heap.get?_push_size _ rfl, rfl, ?_⟩ q)
    rw [hsz] <;> rfl
theorem pi_itemsF {pins : List (Addr × Obj)} {σ : L2.St} {H1 : Hp} {s1 : Shared} {R : It → Hp → Prop} {d : Addr} {o : Obj} {kvs : List (List Key × V)} {elts : List Expr} {kk : Nat} {tpos : Pos}
    (I1 : Inv X pins σ H1 s1) (hd : H1 d = some (.frz o (.dT kvs))) (q : R (Itit d o kvs) H1) :
    (s1.TypeIs (.ref d) "dict") ∧ wpAny (model X.prog X.w) X.A (pyIter (.ref s1.heap.objs.size)) (PIE X pins σ (.Tuple elts kk tpos) R) X.xe { s1 with heap := s1.heap.push { cls := .type "dict_items", data := .fields #[.ref d] } } := by
  obtain ⟨hs, hgd, hx, es, ep, hdt, hsz, ent⟩ := frzTv I1 hd
  refine ⟨⟨o, hgd, hx.1⟩, ?_⟩
  have I2 : Inv X pins σ H1 { s1 with heap := s1.heap.push { cls := .type "dict_items", data := .fields #[.ref d] } } := I1.kept (t' := s1.toks) fun b o q => Heap.get?_push_of_some _ q
  refine wpAny_pyIter_items_raw (d := d) ⟨_, Heap.get?_push_size _ rfl, rfl, rfl⟩ ⟨o, Heap.get?_push_of_some _ hgd, hx, hdt⟩ (pi_one (tk := s1.toks) I2 _ (turn_itemsT _ hdt) ⟨.none, .none, ?_⟩ q)
  rw [← hsz]
  exact Heap.get?_push_size _ rfl
theorem pi_itemsL {elts : List Expr} {kk : Nat} {tpos : Pos} (he : PE X e td) (hbase : attributeBase e "items" X.env (eval e X.env) = eval e X.env := by rfl) (hline : (apos.endLine == cpos.line) = true := by rfl) :
    PI X (.Tuple elts kk tpos) (.Call (.Attribute e "items" apos) [] [] cpos) (iItemsL td) := by
  refine ⟨fun pins s σ H R I h => ?_⟩
  refine wpAny_Call_method (T := "dict") (id := "dict.items") hbase rfl hline F.plainAttrs_dict F.slot_dict_items F.type_dict_items (thn (he.run pins s σ H _ I h) fun u s1 ⟨x, H1, I1, rx, d, kvs, ex, q⟩ => ?_)
  subst ex
  obtain rfl : u = Value.ref d := rx
  obtain ⟨H2, o, I2, hd, q2⟩ : ∃ H2 o, Inv X pins σ H2 s1 ∧ H2 d = some (.frz o (.dT kvs)) ∧ R (Itit d o kvs) H2 := by
    rcases q with ⟨hd, q⟩ | ⟨o, hd, q⟩
    · obtain ⟨od, I2⟩ := I1.lock hd trivial
      exact ⟨_, od, I2, upd_same, q od⟩
    · exact ⟨_, o, I1, hd, q⟩
  obtain ⟨hs, hgd, hx, es, ep, hdt, hsz, ent⟩ := frzTv I2 hd
  obtain ⟨ht, fin⟩ := pi_itemsF (elts := elts) (kk := kk) (tpos := tpos) I2 hd q2
  refine ⟨ht, (fun b z => by cases z; exact ⟨o, hgd, hx.2.1⟩), ?_⟩
  show wpAny _ _ (callWith cpos (.builtin "dict.items") [.ref d] [] []) _ X.xe s1
  exact method_meetsIn F.slot_dict_items F.entry_dict_items rfl (PySem.evalArgs_none ⟨rfl, ht, F.args_dict_items_1 _, _, meets_dict_items_raw d hs, ⟨es, ep, o, hgd, hx, hdt⟩, fin⟩)
end
/-! the readings -/
section
variable {σ : L2.St} {H : Hp} {td : TE} {R : It → Hp → Prop} {d : Addr} {kvs : List (List Key × V)}
theorem r_iKeysL (h : td σ H fun x H1 => ∃ (d : Addr) (kvs : List (List Key × V)), x = .ref d ∧ ((H1 d = some (.dT kvs) ∧ ∀ o, R (Itkt d o kvs) (upd H1 d (.frz o (.dT kvs)))) ∨ ∃ o, H1 d = some (.frz o (.dT kvs)) ∧ R (Itkt d o kvs) H1)) : iKeysL td σ H R := h
theorem r_iItemsL (h : td σ H fun x H1 => ∃ (d : Addr) (kvs : List (List Key × V)), x = .ref d ∧ ((H1 d = some (.dT kvs) ∧ ∀ o, R (Itit d o kvs) (upd H1 d (.frz o (.dT kvs)))) ∨ ∃ o, H1 d = some (.frz o (.dT kvs)) ∧ R (Itit d o kvs) H1)) : iItemsL td σ H R := h
theorem lockQ {C : Obj → Prop} {C2 : Obj → Prop} (h : H d = some (.dT kvs)) (q : ∀ o, C o) : (H d = some (.dT kvs) ∧ ∀ o, C o) ∨ ∃ o, H d = some (.frz o (.dT kvs)) ∧ C2 o := .inl ⟨h, q⟩
end
theorem walk_itemsT {d : Addr} {o : Obj} {kvs : List (List Key × V)} : Walk (Itit d o kvs) kvs.length (fun H => H d = some (.frz o (.dT kvs)))
    (fun i H x H' => ∃ (T : Addr) (k : List Key) (v : V) (q : Addr), kvs[i]? = some (k, v) ∧ x = .ref T ∧ H T = none ∧ H q = some (.tup (k.map kV)) ∧ H' = upd H T (.tup [.ref q, v])) :=
  ⟨fun _ _ hi q => ⟨q, hi⟩, fun _ q => ⟨q, Nat.le_refl _⟩, fun _ _ _ _ _ _ y => y⟩
/-! dicts from rows to texts -/
theorem dictW_get {m : Wm} {i : Nat} {p : List Nat × List Nat} (h : m[i]? = some p) : (dictW m)[i]? = some (kN p.1, sV p.2) := by
  unfold dictW
  rw [List.getElem?_map, h]
  rfl
theorem for_keysW {d : Addr} {o : Obj} {m : Wm} {g : TG} {tb : TS} {D : Ends} {σ : L2.St} {H : Hp} (Pv : Nat → L2.St → Hp → Prop) (h0 : Pv 0 σ H) (hG : ∀ i σ H, i ≤ m.length → Pv i σ H → H d = some (.frz o (.dT (dictW m))))
    (hs : ∀ i (p : List Nat × List Nat) (q : Addr) σ H, m[i]? = some p → Pv i σ H → H q = some (.tup (p.1.map iV)) → g (.ref q) σ H fun σ2 H2 => tb { D with nx := Pv (i + 1), ct := Pv (i + 1), bk := D.nx } σ2 H2) (hd : ∀ σ H, Pv m.length σ H → D.nx σ H) :
    ∃ W : Nat → Nat → L2.St → Hp → Prop, (∃ m, W 0 m σ H) ∧ ∀ i m' σ H, W i m' σ H →
      ((Itkt d o (dictW m)).stop i H ∧ D.nx σ H) ∨ ((Itkt d o (dictW m)).go i H ∧ ∃ N : L2.St → Hp → Prop, (∀ σ' H', N σ' H' → ∃ m2, m2 < m' ∧ W (i + 1) m2 σ' H') ∧ ∀ x H', (Itkt d o (dictW m)).yld i H x H' → g x σ H' fun σ2 H2 => tb { D with nx := N, ct := N, bk := D.nx } σ2 H2) := by
  have el : (dictW m).length = m.length := dictW_len m
  refine for_it (walk_keysT (d := d) (o := o) (kvs := dictW m)) Pv h0 (fun i σ H hi p => hG i σ H (by omega) p) (fun i x σ H H' hi p y => ?_) (fun σ H p => hd σ H (by rw [← el]; exact p))
  obtain ⟨rfl, k, v, q, h1, rfl, h2⟩ := y
  obtain ⟨z, hz⟩ : ∃ z, m[i]? = some z := ⟨_, List.getElem?_eq_getElem (by omega)⟩
  rw [dictW_get hz] at h1
  cases Option.some.inj h1
  rw [kN_row] at h2
  exact hs i z q σ _ hz p h2
theorem lc_keysW {d : Addr} {o : Obj} {m : Wm} {g : TG} {tt : TT} {te : TE} {vs : List Nat} {σ : L2.St} {H1 : Hp} {D : Addr} {Qd : Hp → Prop} (Pv : Nat → Hp → Prop) (h0 : Pv 0 (upd H1 D (.lst []))) (hG : ∀ i H, i ≤ m.length → Pv i H → H d = some (.frz o (.dT (dictW m))))
    (hs : ∀ i (p : List Nat × List Nat) (q : Addr) H, m[i]? = some p → Pv i H → H q = some (.tup (p.1.map iV)) → g (.ref q) (wipe σ vs) H fun σ2 H2 => wipe σ2 vs = wipe σ vs ∧ tt σ2 H2 fun b H3 =>
      if b = true then te σ2 H3 fun y H4 => ∃ acc, H4 D = some (.lst acc) ∧ acc.length < sizeLine ∧ Pv (i + 1) (upd H4 D (.lst (acc ++ [y]))) else Pv (i + 1) H3) (hd : ∀ H, Pv m.length H → Qd H) :
    ∃ W : Nat → Nat → Hp → Prop, (∃ m, W 0 m (upd H1 D (.lst []))) ∧ ∀ i m' H, W i m' H →
      ((Itkt d o (dictW m)).stop i H ∧ Qd H) ∨ ((Itkt d o (dictW m)).go i H ∧ ∃ Nx : Hp → Prop, (∀ H', Nx H' → ∃ m2, m2 < m' ∧ W (i + 1) m2 H') ∧ ∀ x H', (Itkt d o (dictW m)).yld i H x H' → g x (wipe σ vs) H' fun σ2 H2 => wipe σ2 vs = wipe σ vs ∧ tt σ2 H2 fun b H3 =>
        if b = true then te σ2 H3 fun y H4 => ∃ acc, H4 D = some (.lst acc) ∧ acc.length < sizeLine ∧ Nx (upd H4 D (.lst (acc ++ [y]))) else Nx H3) := by
  have el : (dictW m).length = m.length := dictW_len m
  refine lc_it (walk_keysT (d := d) (o := o) (kvs := dictW m)) Pv h0 (fun i H hi p => hG i H (by omega) p) (fun i x H H' hi p y => ?_) (fun H p => hd H (by rw [← el]; exact p))
  obtain ⟨rfl, k, v, q, h1, rfl, h2⟩ := y
  obtain ⟨z, hz⟩ : ∃ z, m[i]? = some z := ⟨_, List.getElem?_eq_getElem (by omega)⟩
  rw [dictW_get hz] at h1
  cases Option.some.inj h1
  rw [kN_row] at h2
  exact hs i z q _ hz p h2
theorem for_itemsW {d : Addr} {o : Obj} {m : Wm} {g : TG} {tb : TS} {D : Ends} {σ : L2.St} {H : Hp} (Pv : Nat → L2.St → Hp → Prop) (h0 : Pv 0 σ H) (hG : ∀ i σ H, i ≤ m.length → Pv i σ H → H d = some (.frz o (.dT (dictW m))))
    (hs : ∀ i (p : List Nat × List Nat) (T q : Addr) σ H, m[i]? = some p → Pv i σ H → H q = some (.tup (p.1.map iV)) → H T = none → g (.ref T) σ (upd H T (.tup [.ref q, sV p.2])) fun σ2 H2 => tb { D with nx := Pv (i + 1), ct := Pv (i + 1), bk := D.nx } σ2 H2) (hd : ∀ σ H, Pv m.length σ H → D.nx σ H) :
    ∃ W : Nat → Nat → L2.St → Hp → Prop, (∃ m, W 0 m σ H) ∧ ∀ i m' σ H, W i m' σ H →
      ((Itit d o (dictW m)).stop i H ∧ D.nx σ H) ∨ ((Itit d o (dictW m)).go i H ∧ ∃ N : L2.St → Hp → Prop, (∀ σ' H', N σ' H' → ∃ m2, m2 < m' ∧ W (i + 1) m2 σ' H') ∧ ∀ x H', (Itit d o (dictW m)).yld i H x H' → g x σ H' fun σ2 H2 => tb { D with nx := N, ct := N, bk := D.nx } σ2 H2) := by
  have el : (dictW m).length = m.length := dictW_len m
  refine for_it (walk_itemsT (d := d) (o := o) (kvs := dictW m)) Pv h0 (fun i σ H hi p => hG i σ H (by omega) p) (fun i x σ H H' hi p y => ?_) (fun σ H p => hd σ H (by rw [← el]; exact p))
  obtain ⟨T, k, v, q, h1, rfl, hT, h2, rfl⟩ := y
  obtain ⟨z, hz⟩ : ∃ z, m[i]? = some z := ⟨_, List.getElem?_eq_getElem (by omega)⟩
  rw [dictW_get hz] at h1
  cases Option.some.inj h1
  rw [kN_row] at h2
  exact hs i z T q σ _ hz p h2 hT
/-! min of a list -/
theorem cr_minQ {X : Cx} {K : PySem.W.Frag} (hK : X.K = K) (hc : X.calm = true) : CallR X (.builtin "min") (rMin K) := hK ▸ cr_min hc
theorem r_min {K : PySem.W.Frag} {H : Hp} {Q : VK} {p : Addr} {ns : List Int} (h : SqL K H p (ns.map V.int)) (hn : 0 < ns.length) (q : ∀ m, m ∈ ns → (∀ y, y ∈ ns → m ≤ y) → Q (.int m) H) : rMin K [.ref p] H Q := ⟨p, ns, rfl, h, hn, q⟩
end G
set_option Elab.async false
set_option linter.all false
set_option maxRecDepth 100000
set_option maxHeartbeats 4000000
namespace G
open PySem PySem.Spec PyProof.Rows L2
/-! ### max of a tuple of numbers -/
theorem reads_ints {h : Heap} {its : List Value} {ns : List Int} (r : IntsAre its ns) : ReadsAll h its (ns.map PyData.int) [] := by
  induction r with
  | nil => exact .nil
  | cons n t _ ih => exact ReadsAll.cons (as := []) (.int n t) ih
theorem alike_ints (ns : List Int) : PySem.W.AlikeAll (ns.map PyData.int) := by
  refine ⟨fun x hx y hy => ?_, fun x hx => ?_⟩
  · obtain ⟨i, _, rfl⟩ := List.mem_map.mp hx
    obtain ⟨j, _, rfl⟩ := List.mem_map.mp hy
    rfl
  · obtain ⟨i, _, rfl⟩ := List.mem_map.mp hx
    exact fun z => nomatch z
theorem fold_max : ∀ (ns : List Int) (n : Int), (List.foldl max n ns = n ∨ List.foldl max n ns ∈ ns) ∧ n ≤ List.foldl max n ns ∧ ∀ y ∈ ns, y ≤ List.foldl max n ns
  | [], n => ⟨.inl rfl, Int.le_refl _, fun y hy => nomatch hy⟩
  | x :: ns, n => by
    obtain ⟨h1, h2, h3⟩ := fold_max ns (max n x)
    rw [List.foldl_cons]
    refine ⟨?_, by omega, fun y hy => ?_⟩
    · rcases h1 with h1 | h1
      · rw [h1]
        by_cases e : n ≤ x
        · exact .inr (by rw [show max n x = x by omega]; exact List.mem_cons_self)
        · exact .inl (by omega)
      · exact .inr (List.mem_cons_of_mem _ h1)
    · rcases List.mem_cons.mp hy with rfl | hy
      · omega
      · exact h3 y hy
def rMaxT (K : PySem.W.Frag) : List V → Hp → VK → Prop := fun vs H Q => ∃ (a : Addr) (ns : List Int), vs = [V.ref a] ∧ SqT K H a (ns.map V.int) ∧ 0 < ns.length ∧ ∀ m, m ∈ ns → (∀ y, y ∈ ns → y ≤ m) → Q (.int m) H
theorem cr_maxT {X : Cx} {K : PySem.W.Frag} (hK : X.K = K) (hc : X.calm = true) (hu : X.A.units + 64 < cLine) : CallR X (.builtin "max") (rMaxT K) := by
  subst hK
  rintro pins s σ H vs us Q I rs ⟨a, ns, rfl, hs, h0, q⟩
  rw [Vals.ref1 rs]
  obtain ⟨its, rv, pl, hz⟩ := I.tuple hs
  have hi := rv.ints
  obtain ⟨n, ms, rfl⟩ : ∃ n ms, ns = n :: ms := by
    cases ns with
    | nil => exact absurd h0 (Nat.lt_irrefl 0)
    | cons n ms => exact ⟨n, ms, rfl⟩
  have hd : PyData.depthAll ((n :: ms).map PyData.int) = 0 := depth_ints _
  refine PySem.W.max_tuple_data (x := PyData.int n) (xs := ms.map PyData.int) (as := []) (I.ok.hd hc) (show s.heap.IsTuple a its.toArray from pl) (reads_ints hi) (alike_ints (n :: ms)) (by rw [← List.map_cons, hd]; omega) (fun i v h' tk bs hv hr hk => ?_)
  rw [PySem.W.maxD_ints] at hr
  obtain ⟨f1, f2, f3⟩ := fold_max ms n
  cases hr with
  | int j t =>
    refine ⟨.int (List.foldl max n ms), H, I.kept (t' := tk) (fun b o e => hk b o e), ⟨t, rfl⟩, q _ ?_ fun y hy => ?_⟩
    · rcases f1 with f1 | f1
      · rw [f1]; exact List.mem_cons_self
      · exact List.mem_cons_of_mem _ f1
    · rcases List.mem_cons.mp hy with rfl | hy
      · exact f2
      · exact f3 y hy
theorem cr_maxLK {X : Cx} {K : PySem.W.Frag} (hK : X.K = K) (hc : X.calm = true) : CallR X (.builtin "max") (rMax K) := hK ▸ cr_max hc
theorem op_catAK {X : Cx} {K : PySem.W.Frag} (hK : X.K = K) : OpR X (binaryOp .Add) (rCatA K) := hK ▸ op_catA
/-! ### rows of whole numbers, also such below zero -/
def rowZ (z : List Int) : PyData := .tuple (z.map PyData.int)
theorem rowD_Z (r : List Nat) : rowD r = rowZ (r.map fun n : Nat => (n : Int)) := by
  unfold rowD rowZ
  rw [nat_ints]
theorem shaped_rowZ (z : List Int) : SeqAt.shaped (rowZ z) = true := by
  refine Bool.and_eq_true_iff.mpr ⟨lay_ints _, decide_eq_true ?_⟩
  show PyData.depthAll (z.map PyData.int) + 1 ≤ 64
  rw [depth_ints]
  decide
theorem eqv_rowZ (a b : List Int) : PyData.eqv (rowZ a) (rowZ b) = decide (a = b) := by
  unfold rowZ
  rw [PyData.eqv, eqv_ints_all]
theorem dtZ {K : PySem.W.Frag} {H : Hp} {p : Addr} {z : List Int} (h : SqT K H p (z.map V.int)) : Dt K H (.ref p) (rowZ z) := .tup h (DtAll.map (α := Int) (f := V.int) (g := PyData.int) (fun n => .int n) z)
theorem any_rowsZ (rs : List (List Nat)) (z : List Int) : ((rs.map rowD).any fun y => PyData.eqv y (rowZ z)) = decide (∃ r ∈ rs, z = r.map fun n : Nat => (n : Int)) := by
  rw [List.any_map]
  by_cases h : ∃ r ∈ rs, z = r.map fun n : Nat => (n : Int)
  · rw [decide_eq_true h]
    obtain ⟨r, hr, rfl⟩ := h
    exact List.any_eq_true.mpr ⟨r, hr, by show PyData.eqv (rowD r) (rowZ (r.map fun n : Nat => (n : Int))) = true; rw [rowD_Z, eqv_rowZ]; simp⟩
  · rw [decide_eq_false h]
    refine List.any_eq_false.mpr fun y hy e => h ⟨y, hy, ?_⟩
    have e2 : PyData.eqv (rowD y) (rowZ z) = true := e
    rw [rowD_Z, eqv_rowZ] at e2
    exact (of_decide_eq_true e2).symm
theorem r_inZ {K : PySem.W.Frag} {H : Hp} {Q : VK} {b p : Addr} {z : List Int} {qs : List (Addr × List Nat)} (h1 : SqT K H b (z.map V.int)) (h2 : SqL K H p (refsV qs)) (hall : ∀ q ∈ qs, SqT K H q.1 (q.2.map iV)) (q : Q (.bl (decide (∃ r ∈ qs.map (·.2), z = r.map fun n : Nat => (n : Int)))) H) : rInD K (.ref b) (.ref p) H Q :=
  ⟨rowZ z, (qs.map (·.2)).map rowD, (dtZ h1).dp, dp_rows h2 hall, shaped_rowZ z, shaped_rows _, by rw [any_rowsZ]; exact q⟩
/-! ### dicts with numbers as keys -/
theorem r_dsetd {td ty tx : TE} {σ : L2.St} {H : Hp} {Q : VK} (h : td σ H fun x H1 => ∃ a, x = .ref a ∧ IsD H1 a ∧ ty σ H1 fun y H2 => tx σ H2 fun z H3 => ∃ (kvs : List (Key × V)) (k : Key), H3 a = some (.dK kvs) ∧ y = kV k ∧ kvs.length < sizeLine ∧ (∀ v, valV kvs k = some v → Q v H3) ∧ (valV kvs k = none → Q z (upd H3 a (.dK (putK kvs k z))))) : tDSetd td ty tx σ H Q := h
/-- the marks found, each with its number -/
def dictF : Nat → List Int → List (Key × V)
  | _, [] => []
  | k, x :: l => (.inl x, iV k) :: dictF (k + 1) l
theorem dictF_len : ∀ (l : List Int) (k : Nat), (dictF k l).length = l.length
  | [], _ => rfl
  | x :: l, k => by
    show (dictF (k + 1) l).length + 1 = _
    rw [dictF_len l (k + 1), List.length_cons]
theorem dictF_val : ∀ (l : List Int) (k : Nat) (y : Int), valV (dictF k l) (.inl y) = if y ∈ l then some (iV (k + l.idxOf y)) else none
  | [], k, y => by simp [dictF, valV]
  | x :: l, k, y => by
    have ih := dictF_val l (k + 1) y
    by_cases e : x = y
    · subst e
      rw [if_pos List.mem_cons_self, List.idxOf_cons_self]
      simp [dictF, valV]
    · have e2 : y ≠ x := fun z => e z.symm
      have h1 : valV (dictF k (x :: l)) (Sum.inl y) = valV (dictF (k + 1) l) (Sum.inl y) := by
        show Option.map _ (List.find? _ ((Sum.inl x, iV k) :: dictF (k + 1) l)) = _
        rw [List.find?_cons_of_neg (by simp [e])]
        rfl
      have h3 : (x :: l).idxOf y = l.idxOf y + 1 := by rw [List.idxOf_cons, show (x == y) = false from by simp [e]]; rfl
      rw [h1, ih, h3]
      by_cases m : y ∈ l
      · rw [if_pos m, if_pos (List.mem_cons_of_mem _ m), show k + 1 + l.idxOf y = k + (l.idxOf y + 1) by omega]
      · rw [if_neg m, if_neg (fun z => (List.mem_cons.mp z).elim e2 m)]
theorem dictF_snoc : ∀ (l : List Int) (k : Nat) (y : Int), dictF k (l ++ [y]) = dictF k l ++ [(.inl y, iV (k + l.length))]
  | [], k, y => rfl
  | x :: l, k, y => by
    show (Sum.inl x, iV k) :: dictF (k + 1) (l ++ [y]) = (Sum.inl x, iV k) :: (dictF (k + 1) l ++ _)
    rw [dictF_snoc l (k + 1) y, List.length_cons, show k + 1 + l.length = k + (l.length + 1) by omega]
theorem put_new {kvs : List (Key × V)} {k : Key} {v : V} (h : valV kvs k = none) : putK kvs k v = kvs ++ [(k, v)] := by
  unfold putK
  rw [if_neg]
  intro z
  obtain ⟨p, hp, e⟩ := List.any_eq_true.mp z
  unfold valV at h
  rw [Option.map_eq_none_iff, List.find?_eq_none] at h
  exact h p hp e
/-- rows kept by a number -/
def dictL (ls : List (Int × Addr)) : List (Key × V) := ls.map fun p => (.inl p.1, .ref p.2)
theorem dictL_some {ls : List (Int × Addr)} {y : Int} {v : V} (h : valV (dictL ls) (.inl y) = some v) : ∃ p ∈ ls, p.1 = y ∧ v = .ref p.2 := by
  unfold valV at h
  obtain ⟨kv, h1, rfl⟩ := Option.map_eq_some_iff.mp h
  have h2 := List.mem_of_find?_eq_some h1
  have h3 := of_decide_eq_true (List.find?_some (p := fun kv : Key × V => decide (kv.1 = Sum.inl y)) h1)
  obtain ⟨p, hp, rfl⟩ := List.mem_map.mp h2
  exact ⟨p, hp, Sum.inl.inj h3, rfl⟩
theorem dictL_none {ls : List (Int × Addr)} {y : Int} (h : valV (dictL ls) (.inl y) = none) : ∀ p ∈ ls, p.1 ≠ y := fun p hp e => by
  unfold valV at h
  rw [Option.map_eq_none_iff, List.find?_eq_none] at h
  exact h _ (List.mem_map_of_mem hp) (decide_eq_true (by rw [e]))
/-! ### partitions, as the document writes them -/
def numGo : List Int → List Int → List Nat
  | _, [] => []
  | ds, x :: l => ds.idxOf x :: numGo (if x ∈ ds then ds else ds ++ [x]) l
def rgsGo : Nat → List Int → Prop
  | _, [] => True
  | k, x :: l => (0 ≤ x ∧ x ≤ (k : Int)) ∧ rgsGo (if x = (k : Int) then k + 1 else k) l
def topGo : Nat → List Int → Nat
  | k, [] => k
  | k, x :: l => topGo (if x = (k : Int) then k + 1 else k) l
def upZ (k : Nat) : List Int := (List.range k).map fun n : Nat => (n : Int)
theorem upZ_mem {k : Nat} {x : Int} : x ∈ upZ k ↔ 0 ≤ x ∧ x < (k : Int) := by
  unfold upZ
  rw [List.mem_map]
  constructor
  · rintro ⟨n, hn, rfl⟩
    have := List.mem_range.mp hn
    omega
  · rintro ⟨h1, h2⟩
    exact ⟨x.toNat, List.mem_range.mpr (by omega), by omega⟩
theorem upZ_succ (k : Nat) : upZ (k + 1) = upZ k ++ [(k : Int)] := by
  unfold upZ
  rw [List.range_succ, List.map_append]
  rfl
theorem upZ_len (k : Nat) : (upZ k).length = k := by
  unfold upZ
  rw [List.length_map, List.length_range]
theorem upZ_nd (k : Nat) : (upZ k).Nodup := by
  unfold upZ List.Nodup
  rw [List.pairwise_map]
  exact List.Pairwise.imp (fun h e => h (by omega)) (List.nodup_range (n := k))
theorem upZ_idx {k : Nat} {x : Int} (h : x ∈ upZ k) : (((upZ k).idxOf x : Nat) : Int) = x := by
  have h1 := List.idxOf_lt_length_of_mem h
  have h2 : (upZ k)[(upZ k).idxOf x]? = some x := by
    rw [List.getElem?_eq_getElem h1, List.getElem_idxOf h1]
  unfold upZ at h2
  rw [List.getElem?_map] at h2
  obtain ⟨n, e1, e2⟩ := Option.map_eq_some_iff.mp h2
  have e3 := List.getElem?_eq_some_iff.mp e1
  obtain ⟨e4, e5⟩ := e3
  rw [List.getElem_range] at e5
  unfold upZ
  omega
theorem num_rgs : ∀ (l : List Int) (k : Nat), (numGo (upZ k) l).map (fun n : Nat => (n : Int)) = l ↔ rgsGo k l
  | [], k => ⟨fun _ => trivial, fun _ => rfl⟩
  | x :: l, k => by
    show (((upZ k).idxOf x : Nat) : Int) :: (numGo (if x ∈ upZ k then upZ k else upZ k ++ [x]) l).map (fun n : Nat => (n : Int)) = x :: l ↔ (0 ≤ x ∧ x ≤ (k : Int)) ∧ rgsGo (if x = (k : Int) then k + 1 else k) l
    rw [List.cons.injEq]
    by_cases h : x ∈ upZ k
    · have h1 := upZ_mem.mp h
      rw [if_pos h, if_neg (by omega), num_rgs l k]
      exact ⟨fun z => ⟨by omega, z.2⟩, fun z => ⟨upZ_idx h, z.2⟩⟩
    · have h1 : (upZ k).idxOf x = k := by rw [List.idxOf_eq_length h, upZ_len]
      rw [if_neg h, h1]
      by_cases e : x = (k : Int)
      · subst e
        rw [if_pos rfl, ← upZ_succ, num_rgs l (k + 1)]
        exact ⟨fun z => ⟨by omega, z.2⟩, fun z => ⟨rfl, z.2⟩⟩
      · constructor
        · exact fun z => absurd z.1.symm e
        · intro z
          exact absurd (upZ_mem.mpr ⟨z.1.1, by omega⟩) h
theorem rgs_snoc : ∀ (l : List Int) (k : Nat) (b : Int), rgsGo k (l ++ [b]) ↔ rgsGo k l ∧ 0 ≤ b ∧ b ≤ (topGo k l : Int)
  | [], k, b => by
    show (0 ≤ b ∧ b ≤ (k : Int)) ∧ True ↔ True ∧ 0 ≤ b ∧ b ≤ (k : Int)
    simp
  | x :: l, k, b => by
    show (0 ≤ x ∧ x ≤ (k : Int)) ∧ rgsGo _ (l ++ [b]) ↔ ((0 ≤ x ∧ x ≤ (k : Int)) ∧ rgsGo _ l) ∧ 0 ≤ b ∧ b ≤ (topGo _ l : Int)
    rw [rgs_snoc l _ b]
    simp [and_assoc]
/-- one more than the greatest -/
def mxN (r : List Nat) : Nat := r.foldl (fun m x => max m (x + 1)) 0
theorem top_mx : ∀ (r : List Nat) (k : Nat), rgsGo k (r.map fun n : Nat => (n : Int)) → topGo k (r.map fun n : Nat => (n : Int)) = r.foldl (fun m x => max m (x + 1)) k
  | [], k, _ => rfl
  | x :: r, k, h => by
    obtain ⟨h1, h2⟩ := h
    show topGo (if (x : Int) = (k : Int) then k + 1 else k) _ = r.foldl (fun m x => max m (x + 1)) (max k (x + 1))
    rw [top_mx r _ h2]
    congr 1
    have h3 : (0 : Int) ≤ (x : Int) ∧ (x : Int) ≤ (k : Int) := h1
    by_cases e : x = k
    · subst e
      rw [if_pos rfl]
      exact (Nat.max_eq_right (Nat.le_succ _)).symm
    · rw [if_neg (fun z => e (by have z2 : (x : Int) = (k : Int) := z; omega))]
      exact (Nat.max_eq_left (by omega)).symm
def partsN : Nat → List (List Nat)
  | 0 => [[]]
  | n + 1 => (partsN n).flatMap fun r => (List.range (mxN r + 1)).map fun b => r ++ [b]
theorem parts_len : ∀ n, n < 7 → (partsN n).length ≤ 203 := by decide +kernel
theorem parts_mem : ∀ (n : Nat) (r : List Nat), r ∈ partsN n ↔ r.length = n ∧ rgsGo 0 (r.map fun n : Nat => (n : Int))
  | 0, r => by
    constructor
    · intro h
      rw [List.mem_singleton.mp h]
      exact ⟨rfl, trivial⟩
    · rintro ⟨h, _⟩
      rw [List.length_eq_zero_iff.mp h]
      exact List.mem_singleton.mpr rfl
  | n + 1, r => by
    constructor
    · intro h
      obtain ⟨t, ht, h2⟩ := List.mem_flatMap.mp h
      obtain ⟨b, hb, rfl⟩ := List.mem_map.mp h2
      obtain ⟨a1, a2⟩ := (parts_mem n t).mp ht
      have hb := List.mem_range.mp hb
      refine ⟨by rw [List.length_append, a1]; rfl, ?_⟩
      rw [List.map_append]
      refine (rgs_snoc _ 0 (b : Int)).mpr ⟨a2, by omega, ?_⟩
      rw [top_mx t 0 a2]
      unfold mxN at hb
      omega
    · rintro ⟨h1, h2⟩
      obtain ⟨t, b, rfl⟩ : ∃ t b, r = t ++ [b] := by
        have : r ≠ [] := fun e => by rw [e] at h1; exact nomatch h1
        exact ⟨r.dropLast, r.getLast this, (List.dropLast_concat_getLast this).symm⟩
      rw [List.map_append] at h2
      obtain ⟨a1, a2, a3⟩ := (rgs_snoc _ 0 (b : Int)).mp h2
      rw [top_mx t 0 a1] at a3
      refine List.mem_flatMap.mpr ⟨t, (parts_mem n t).mpr ⟨?_, a1⟩, List.mem_map.mpr ⟨b, List.mem_range.mpr ?_, rfl⟩⟩
      · rw [List.length_append] at h1
        exact Nat.succ.inj h1
      · unfold mxN
        omega
theorem rgs_nat {k : Nat} : ∀ {z : List Int}, rgsGo k z → ∃ r : List Nat, z = r.map fun n : Nat => (n : Int)
  | [], _ => ⟨[], rfl⟩
  | x :: z, h => by
    obtain ⟨r, rfl⟩ := rgs_nat h.2
    exact ⟨x.toNat :: r, by rw [List.map_cons]; congr 1; have := h.1.1; omega⟩
theorem rgs_head {n : Nat} {r : List Nat} (h : r ∈ partsN (n + 1)) : ∃ t, r = 0 :: t := by
  obtain ⟨h1, h2⟩ := (parts_mem (n + 1) r).mp h
  cases r with
  | nil => exact nomatch h1
  | cons x t => exact ⟨t, by have h3 : (0 : Int) ≤ (x : Int) ∧ (x : Int) ≤ ((0 : Nat) : Int) := h2.1; congr 1; omega⟩
theorem rgs_lt : ∀ (r : List Nat) (k : Nat), rgsGo k (r.map fun n : Nat => (n : Int)) → ∀ x ∈ r, x < k + r.length
  | [], _, _, x, hx => nomatch hx
  | y :: r, k, h, x, hx => by
    obtain ⟨h1, h2⟩ := h
    have h3 : (0 : Int) ≤ (y : Int) ∧ (y : Int) ≤ (k : Int) := h1
    rw [List.length_cons]
    rcases List.mem_cons.mp hx with rfl | hx
    · omega
    · have := rgs_lt r _ h2 x hx
      split at this <;> omega
end G
set_option Elab.async false
set_option linter.all false
set_option maxRecDepth 100000
set_option maxHeartbeats 4000000
namespace G
open PySem PySem.Spec PyProof.Rows L2
/-! ### two dicts with tuples as keys that hold the same -/
section
variable {prog : Program} {w : World} {K : Type} [DecidableEq K] {knd : HeapKind prog w K} {A : Around} {E : Value → Shared → Prop} {s : Shared}
theorem samePairsT {nm : String} {a b : Addr} {xa xb : List (K × Addr × Value)} {Q : Bool → Shared → Prop} (hu : knd.room A) (ha : (a == sysModules) = false) (hb : (b == sysModules) = false)
    (da : s.heap.DictOfH knd a xa) (db : s.heap.DictOfH knd b xb) (hl : xa.length = xb.length) (hits : ∀ (i : Nat) (x : K × Addr × Value), xa[i]? = some x → ∃ p : Addr × Value, xb[i]? = some (x.1, p) ∧ SeqAt.EqAt A s x.2.2 p.2 true) (h : Q true s) :
    wpAny (model prog w) A (Builtin.Dict.samePairs nm a b) Q E s := by
  obtain ⟨oa, es, ep, hoa, _, hda, hea, hia, hna⟩ := da
  obtain ⟨ob, es', ep', hob, _, hdb, heb, hib, hnb⟩ := db
  have hla : es.size = xa.length := size_of_entries hea
  have hlb : es'.size = xb.length := size_of_entries heb
  have hsz : es.size = es'.size := by omega
  unfold Builtin.Dict.samePairs Builtin.Dict.showsAll
  rw [if_neg (show ¬ (a == sysModules) = true by rw [ha]; exact Bool.false_ne_true), if_neg (show ¬ (b == sysModules) = true by rw [hb]; exact Bool.false_ne_true)]
  refine wpAny_bind (wpAny_pure (wpAny_bind (wpAny_pure ?_)))
  refine wpAny_bind (wpAny_dictEntries hoa hda ?_)
  dsimp only
  refine wpAny_bind (wpAny_dictEntries hob hdb ?_)
  rw [if_neg (by rw [hsz]; simp)]
  refine wpAny_bind (wpAny_dictEpoch hoa hda ?_)
  refine wpAny_bind ?_
  rw [Std.Legacy.Range.forIn_eq_forIn_range']
  simp only [Std.Legacy.Range.size, Nat.sub_zero, Nat.add_sub_cancel, Nat.div_one]
  refine wpAny_forIn_list _
    (fun rest q s' => s' = s ∧ q = (none, ()) ∧ ∃ i, rest = List.range' i (es.size - i) ∧ i ≤ es.size)
    _ ?_ ?_ _ _ ⟨rfl, rfl, 0, by simp, Nat.zero_le _⟩
  · rintro x rest q s' ⟨rfl, rfl, i, hr, hi⟩
    have hlt : i < es.size := by
      rcases Nat.lt_or_ge i es.size with h | h
      · exact h
      · rw [Nat.sub_eq_zero_of_le h] at hr; simp at hr
    obtain ⟨rfl, hrest⟩ : x = i ∧ rest = List.range' (i + 1) (es.size - (i + 1)) := by
      have e : es.size - i = (es.size - (i + 1)) + 1 := by omega
      rw [e, List.range'_succ] at hr
      injection hr with h1 h2
      exact ⟨h1, h2⟩
    refine wpAny_bind (wpAny_dictEntries hoa hda ?_)
    rw [Array.getElem?_eq_getElem hlt]
    obtain ⟨y, hy⟩ : ∃ y, xa[x]? = some y := ⟨_, List.getElem?_eq_getElem (by omega)⟩
    have hen : es[x] = entryOfKey knd y := by
      have q := entry_at hea x
      rw [hy, Array.getElem?_eq_getElem hlt] at q
      exact Option.some.inj q
    obtain ⟨p, hp, heq⟩ := hits x y hy
    show wpAny _ _ (holding [es[x].key, es[x].val] _ >>= _) _ _ _
    rw [hen]
    refine wpAny_bind (wpAny_holding (wpAny_bind (wpAny_dictFind_heap (k := y.1) hu (hia y (List.mem_of_getElem? hy)) hob hdb heb hib hnb (fun hno => absurd hp (hno x p)) fun j p' hj => ?_)))
    obtain rfl : j = x := by
      have a1 : (xb.map (·.1))[j]? = some y.1 := by rw [List.getElem?_map, hj]; rfl
      have a2 : (xb.map (·.1))[x]? = some y.1 := by rw [List.getElem?_map, hp]; rfl
      obtain ⟨b1, c1⟩ := List.getElem?_eq_some_iff.mp a1
      obtain ⟨b2, c2⟩ := List.getElem?_eq_some_iff.mp a2
      rcases Nat.lt_trichotomy j x with h | h | h
      · exact absurd (c1.trans c2.symm) (List.pairwise_iff_getElem.mp hnb j x b1 b2 h)
      · exact h
      · exact absurd (c2.trans c1.symm) (List.pairwise_iff_getElem.mp hnb x j b2 b1 h)
    refine wpAny_bind (wpAny_dictEntries hob hdb ?_)
    have hjlt : j < es'.size := by omega
    rw [Array.getElem?_eq_getElem hjlt]
    have hen' : es'[j] = entryOfKey knd (y.1, p) := by
      have q := entry_at heb j
      rw [hp, Array.getElem?_eq_getElem hjlt] at q
      exact Option.some.inj q
    show wpAny _ _ (holding [es'[j].val] (eqBool (entryOfKey knd y).val es'[j].val)) _ _ _
    rw [hen']
    refine wpAny_holding (heq prog w _ _ ?_)
    show wpAny _ _ (if (!true) = true then _ else _) _ _ _
    rw [if_neg (by decide)]
    refine wpAny_bind (wpAny_dictEpoch hoa hda ?_)
    rw [if_neg (by simp)]
    exact wpAny_pure ⟨rfl, rfl, j + 1, hrest, hlt⟩
  · rintro q s' ⟨rfl, rfl, i, hr, hi⟩
    exact wpAny_pure h
end
section
variable {prog : Program} {w : World} {K : Type} [DecidableEq K] {knd : HeapKind prog w K} {A : Around} {E : Value → Shared → Prop} {s : Shared}
theorem eqT {a b : Addr} {xa xb : List (K × Addr × Value)} {Q : Value → Shared → Prop} (hr : knd.room A.in1) (ha : (a == sysModules) = false) (hb : (b == sysModules) = false)
    (da : s.heap.DictOfH knd a xa) (db : s.heap.DictOfH knd b xb) (hu : A.units < cLine) (hl : xa.length = xb.length) (hits : ∀ (i : Nat) (x : K × Addr × Value), xa[i]? = some x → ∃ p : Addr × Value, xb[i]? = some (x.1, p) ∧ SeqAt.EqAt A.in1 s x.2.2 p.2 true) (h : Q (.bool true) s) :
    wpAny (model prog w) A (compareOp .Eq (.ref a) (.ref b)) Q E s := by
  refine wpAny_richCompare_same_room (op := .Eq) da.typeIs db.typeIs PySem.F.slot_dict_eq (wpAny_call_entry PySem.F.slot_dict_eq da.typeIs PySem.F.entry_dict_eq ?_ (PySem.F.args_dict_eq_2 _ _)) hu
  show wpAny _ _ (Builtin.Dict.dictSlotArgs "__eq__" ⟨[.ref a, .ref b], []⟩ >>= _) _ _ s
  refine wpAny_bind ?_
  unfold Builtin.Dict.dictSlotArgs
  refine wpAny_bind (wpAny_notOrdered_dict da.typeIs ?_)
  show wpAny _ _ (pure (Value.ref a, Value.ref b)) _ _ s
  refine wpAny_pure ?_
  refine wpAny_bind (wpAny_isInstance (T := "dict") db.typeIs PySem.F.sub_dict_dict ?_)
  simp only [Bool.not_true, Bool.false_eq_true, if_false]
  refine wpAny_bind (wpAny_pure (wpAny_bind (wpAny_pure ?_)))
  refine wpAny_bind (samePairsT hr ha hb da db hl hits ?_)
  refine wpAny_pure ⟨_, rfl, ?_, ?_⟩
  · exact fun x => nomatch x
  · simpa using h
theorem neT {a b : Addr} {xa xb : List (K × Addr × Value)} {Q : Value → Shared → Prop} (hr : knd.room A.in1) (ha : (a == sysModules) = false) (hb : (b == sysModules) = false)
    (da : s.heap.DictOfH knd a xa) (db : s.heap.DictOfH knd b xb) (hu : A.units < cLine) (hl : xa.length = xb.length) (hits : ∀ (i : Nat) (x : K × Addr × Value), xa[i]? = some x → ∃ p : Addr × Value, xb[i]? = some (x.1, p) ∧ SeqAt.EqAt A.in1 s x.2.2 p.2 true) (h : Q (.bool false) s) :
    wpAny (model prog w) A (compareOp .NotEq (.ref a) (.ref b)) Q E s := by
  refine wpAny_richCompare_same_room (op := .NotEq) da.typeIs db.typeIs PySem.F.slot_dict_ne (wpAny_call_entry PySem.F.slot_dict_ne da.typeIs PySem.F.entry_dict_ne ?_ (PySem.F.args_dict_ne_2 _ _)) hu
  show wpAny _ _ (Builtin.Dict.dictSlotArgs "__ne__" ⟨[.ref a, .ref b], []⟩ >>= _) _ _ s
  refine wpAny_bind ?_
  unfold Builtin.Dict.dictSlotArgs
  refine wpAny_bind (wpAny_notOrdered_dict da.typeIs ?_)
  show wpAny _ _ (pure (Value.ref a, Value.ref b)) _ _ s
  refine wpAny_pure ?_
  refine wpAny_bind (wpAny_isInstance (T := "dict") db.typeIs PySem.F.sub_dict_dict ?_)
  simp only [Bool.not_true, Bool.false_eq_true, if_false]
  refine wpAny_bind (wpAny_pure (wpAny_bind (wpAny_pure ?_)))
  refine wpAny_bind (samePairsT hr ha hb da db hl hits ?_)
  refine wpAny_pure ⟨_, rfl, ?_, ?_⟩
  · exact fun x => nomatch x
  · simpa using h
end
theorem paired_at {α β : Type} {G : α → β → Prop} {l₁ : List α} {l₂ : List β} (h : Paired G l₁ l₂) : ∀ {i : Nat} {b : β}, l₂[i]? = some b → ∃ a, l₁[i]? = some a ∧ G a b := by
  induction h with
  | nil => intro i a e; simp at e
  | @cons a b l₁ l₂ r t ih =>
    intro i b' e
    cases i with
    | zero =>
      simp only [List.getElem?_cons_zero, Option.some.injEq] at e
      subst e
      exact ⟨a, rfl, r⟩
    | succ j =>
      simp only [List.getElem?_cons_succ] at e ⊢
      exact ih e
theorem kt_hits {H : Hp} {kvs : List (List Key × V)} {xa xb : List (List Key × Addr × Value)} {A : Around} {s : Shared} (ra : KT H kvs xa) (rb : KT H kvs xb) (fl : ∀ p ∈ kvs, flatB p.2 = true) :
    ∀ (i : Nat) (x : List Key × Addr × Value), xa[i]? = some x → ∃ p : Addr × Value, xb[i]? = some (x.1, p) ∧ SeqAt.EqAt A s x.2.2 p.2 true := fun i x hx => by
  obtain ⟨p, hp, e1, _, e3⟩ := paired_at ra hx
  obtain ⟨y, hy, f1, _, f3⟩ := paired_get rb hp
  refine ⟨y.2, ?_, eqAt_same e3 f3 (fl p (List.mem_of_getElem? hp))⟩
  rw [hy, ← e1, f1]
def rEqT : R2 := fun x y H Q => ∃ (a b : Addr) (kvs : List (List Key × V)), x = .ref a ∧ y = .ref b ∧ Rd H a (.dT kvs) ∧ Rd H b (.dT kvs) ∧ (∀ p ∈ kvs, flatB p.2 = true) ∧ Q (.bl true) H
def rNeT : R2 := fun x y H Q => ∃ (a b : Addr) (kvs : List (List Key × V)), x = .ref a ∧ y = .ref b ∧ Rd H a (.dT kvs) ∧ Rd H b (.dT kvs) ∧ (∀ p ∈ kvs, flatB p.2 = true) ∧ Q (.bl false) H
section
variable {X : Cx}
theorem op_eqT (hu : X.A.units + 1 < cLine) : OpR X (compareOp .Eq) rEqT := by
  intro pins s σ H x y v u Q I rx ry h
  obtain ⟨a, b, kvs, rfl, rfl, ea, eb, fl, q⟩ := h
  obtain rfl : v = Value.ref a := rx
  obtain rfl : u = Value.ref b := ry
  obtain ⟨_, ya, xa, ra, da⟩ := dt_rd I.hok ea
  obtain ⟨_, yb, xb, rb, db⟩ := dt_rd I.hok eb
  exact eqT (tupleKind_room_in1 hu) ya yb da db (by omega) (ra.length.symm.trans rb.length) (kt_hits ra rb fl) (fin_bl I q rfl)
theorem op_neT (hu : X.A.units + 1 < cLine) : OpR X (compareOp .NotEq) rNeT := by
  intro pins s σ H x y v u Q I rx ry h
  obtain ⟨a, b, kvs, rfl, rfl, ea, eb, fl, q⟩ := h
  obtain rfl : v = Value.ref a := rx
  obtain rfl : u = Value.ref b := ry
  obtain ⟨_, ya, xa, ra, da⟩ := dt_rd I.hok ea
  obtain ⟨_, yb, xb, rb, db⟩ := dt_rd I.hok eb
  exact neT (tupleKind_room_in1 hu) ya yb da db (by omega) (ra.length.symm.trans rb.length) (kt_hits ra rb fl) (fin_bl I q rfl)
theorem r_eqT {a b : Addr} {m : Wm} {H : Hp} {Q : VK} (h1 : Rd H a (.dT (dictW m))) (h2 : Rd H b (.dT (dictW m))) (q : Q (.bl true) H) : rEqT (.ref a) (.ref b) H Q :=
  ⟨a, b, _, rfl, rfl, h1, h2, fun p hp => by obtain ⟨x, _, rfl⟩ := List.mem_map.mp hp; rfl, q⟩
theorem r_neT {a b : Addr} {m : Wm} {H : Hp} {Q : VK} (h1 : Rd H a (.dT (dictW m))) (h2 : Rd H b (.dT (dictW m))) (q : Q (.bl false) H) : rNeT (.ref a) (.ref b) H Q :=
  ⟨a, b, _, rfl, rfl, h1, h2, fun p hp => by obtain ⟨x, _, rfl⟩ := List.mem_map.mp hp; rfl, q⟩
/-! d.clear() -/
def rDClearT : V → List V → Hp → VK → Prop := fun x vs H Q => ∃ (a : Addr) (kvs : List (List Key × V)), x = .ref a ∧ vs = [] ∧ H a = some (.dT kvs) ∧ Q .non (upd H a (.dT []))
theorem mt_dclearT : MtR X "dict.clear" rDClearT := by
  intro pins s σ H x vs v us Q I rx rv h
  obtain ⟨a, kvs, ex, ev, e, q⟩ := h
  subst ex
  subst ev
  obtain rfl : v = Value.ref a := rx
  have hus := rv.zero
  subst hus
  obtain ⟨hl, hd, xs, rel, o, es, ep, ho, hx, hdt, he, _⟩ := dt_of I.hok e
  have hsz : es.size ≤ sizeLine := by
    have l1 : es.size = xs.length := size_of_entries he
    have l2 : kvs.length = xs.length := Paired.length rel
    omega
  refine call_meetsIn PySem.F.slot_dict_clear ⟨o, ho, hx.1⟩ PySem.F.entry_dict_clear (PySem.F.args_dict_clear_1 _) (meets_dict_clear_raw a) ⟨es, ep, ⟨o, ho, hx, hdt⟩, hsz, fun h' dr hs => ?_⟩
  obtain ⟨o', ho', hx', hdt'⟩ := dr
  have I4 := d_write (t' := s.toks) (ob := .dT []) I (by rw [e]; exact True.intro) hs ⟨o', ho'⟩ ⟨Nat.zero_le _, hd, [], .nil, o', #[], ep + 1, ho', hx', hdt', rfl, List.nodup_nil⟩
  exact ⟨.non, _, I4, rfl, q⟩
end
end G
set_option Elab.async false
set_option linter.all false
set_option maxRecDepth 100000
set_option maxHeartbeats 4000000
namespace G
open PySem PySem.Spec PyProof.Rows L2
def tLenSetT (K : PySem.W.Frag) (ta : TE) : TE := fun σ H Q => ta σ H fun x H1 =>
  ∃ (l : Addr) (ns : List Int), x = .ref l ∧ SqT K H1 l (ns.map V.int) ∧ ns.length ≤ 4000 ∧
  ∀ ks : List Int, ks.Nodup → (∀ k, k ∈ ks ↔ k ∈ ns) → Q (.int (ks.length : Nat)) H1
theorem pe_lenSetT {X : Cx} {K : PySem.W.Frag} {a : Expr} {ta : TE} {p p2 q pos : Pos} (hK : X.K = K) (hc : X.calm = true)
    (hg : Gl X "len") (hm : X.mg "len" = none) (hg2 : Gl X "set") (hm2 : X.mg "set" = none) (ha : PE X a ta)
    (na : starEach [a] X.env = (false, eval a X.env) :: starEach [] X.env := by rfl) :
    PE X (.Call (.Name "len" p) [.Call (.Name "set" p2) [a] [] q] [] pos) (tLenSetT K ta) := by
  subst hK
  constructor
  intro pins s σ H Q I h
  refine Call_ (ld_blt I hg hm boot_len (callWith_builtin1 (args_cons ?_ rfl) rfl rfl))
  refine Call_ (ld_blt I hg2 hm2 boot_set ?_)
  refine callWith_type1 (args_cons (thn (ha.run pins s σ H _ I h) ?_) na) na rfl
  rintro v s1 ⟨x, H1, I1, r1, l, ns, rfl, hq, hl, q1⟩
  refine args_nil ?_
  cases r1
  obtain ⟨its, r, pl, hz⟩ := I1.tuple hq
  have hi : IntsAre its.toArray.toList ns := ints_of_vals r
  refine call_set_tupI ns (I1.ok.hd hc) (show s1.heap.IsTuple l its.toArray from pl) hi (by unfold scanBound; omega) ?_
  rintro h' tk c ⟨o, es, ep, t, ho, hex, hd, g, nd, hmem, hb, hf, hn, _, _⟩ hcn kk
  refine args_nil ?_
  have I2 : Inv X pins σ H1 { s1 with heap := h', toks := tk } := I1.kept kk
  have e1 : (es.toList.map keyOf).length = es.size := by rw [List.length_map, Array.length_toList]
  have q2 := q1 (es.toList.map keyOf) nd (fun k => ⟨fun hk => of_decide_eq_true ((hmem k).mpr hk), fun hk => (hmem k).mp (decide_eq_true hk)⟩)
  rw [e1] at q2
  exact call_len_set ho hex hd hf (by unfold scanBound at hb; omega) ⟨.int es.size, H1, I2.tok _, ⟨_, rfl⟩, q2⟩
theorem pa_starK {X : Cx} {K : PySem.W.Frag} {e : Expr} {es : List Expr} {te : TE} {t : TA} {p : Pos} (hK : X.K = K) (he : PE X e te) (hr : PA X es t)
    (hs : starEach (.Starred e p :: es) X.env = (true, eval e X.env) :: starEach es X.env := by rfl) : PA X (.Starred e p :: es) (StX.tStar K te t) := hK ▸ StX.pa_star he hr hs
theorem r_star {K : PySem.W.Frag} {σ : L2.St} {H : Hp} {te : TE} {t : TA} {QA : List V → Hp → Prop} (h : te σ H fun x H1 => ∃ p xs, x = V.ref p ∧ (SqT K H1 p xs ∨ SqL K H1 p xs) ∧ t σ H1 fun ys H2 => QA (xs ++ ys) H2) : StX.tStar K te t σ H QA := h
theorem pe_revLK {X : Cx} {K : PySem.W.Frag} {e : Expr} {te : TE} {k : Nat} {p1 p2 p3 pos : Pos} (hK : X.K = K) (he : PE X e te) : PE X (.Subscript e (.Slice none none (some (.UnaryOp .USub (.Constant (.int 1) k p1) p2)) p3) pos) (tRevL K te) := hK ▸ pe_revL he
end G
set_option Elab.async false
set_option linter.all false
set_option maxRecDepth 100000
set_option maxHeartbeats 4000000
namespace G
open PySem PySem.Spec PyProof.Rows L2
/-! ### setdefault with rows for keys -/
section
variable {X : Cx} {K : PySem.W.Frag} {H : Hp} {Q : VK}
def rSetdT : V → List V → Hp → VK → Prop := fun o xs H Q => ∃ (d : Addr) (kvs : List (List Key × V)) (b : Addr) (k : List Key) (z : V), o = .ref d ∧ xs = [.ref b, z] ∧ H d = some (.dT kvs) ∧ H b = some (.tup (k.map kV)) ∧ kvs.length < sizeLine ∧
  (∀ v, valV kvs k = some v → Q v H) ∧ (valV kvs k = none → Q z (upd H d (.dT (putK kvs k z))))
theorem mt_setdT (hu : X.A.units + 1 < cLine) : MtR X "dict.setdefault" rSetdT := by
  intro pins s σ H x vs v us Q I rx rv h
  obtain ⟨d, kvs, b, k, z, ex, ev, e, hb, hl, qs, qn⟩ := h
  subst ex
  subst ev
  obtain rfl : v = Value.ref d := rx
  obtain ⟨u1, u2, rfl, r1, r2⟩ := vals2 rv
  obtain rfl : u1 = Value.ref b := r1
  obtain ⟨_, hd, xs, rel, dd⟩ := dt_of I.hok e
  have lx : kvs.length = xs.length := Paired.length rel
  have hv := rel.val k
  refine call_setdefault_heap (knd := tupleKind (mixKind X.prog X.w)) (tupleKind_room_in1 hu) (key_of I.hok hb) hd dd (fun p hp => ?_) (fun hn h' dd' hs => ?_) (by omega)
  · rw [hp] at hv
    cases ev : valV kvs k with
    | none =>
      rw [ev] at hv
      exact False.elim hv
    | some y =>
      rw [ev] at hv
      exact ⟨y, H, I.tok _, hv, qs y ev⟩
  · rw [hn] at hv
    have ev : valV kvs k = none := by
      cases ev : valV kvs k with
      | none => rfl
      | some y => rw [ev] at hv; exact False.elim hv
    have rel2 := rel.put k hb r2
    obtain ⟨ob, es, ep, hq, h2, h3, h4, _, h5⟩ := dd'
    have I4 := d_write (t' := s.toks + (tupleKind (mixKind X.prog X.w)).draws k) (ob := .dT (putK kvs k z)) I (by rw [e]; exact True.intro) hs ⟨ob, hq⟩ ⟨by rw [putK_new _ ev, List.length_append]; exact hl, hd, _, rel2.keeps (fun b ys hb => by rw [upd_ne (ne_of hb e fun z => nomatch z)]; exact hb), ob, es, ep, hq, h2, h3, h4, h5⟩
    exact ⟨z, _, I4, r2, qn ev⟩
theorem r_setdT {d b : Addr} {kvs : List (List Key × V)} {k : List Key} {z : V} (h : H d = some (.dT kvs)) (hb : H b = some (.tup (k.map kV))) (hl : kvs.length < sizeLine) (qs : ∀ v, valV kvs k = some v → Q v H) (qn : valV kvs k = none → Q z (upd H d (.dT (putK kvs k z)))) : rSetdT (.ref d) [.ref b, z] H Q := ⟨d, kvs, b, k, z, rfl, rfl, h, hb, hl, qs, qn⟩
theorem r_dg2 {td ty tx : TE} {σ : L2.St} (h : td σ H fun x H1 => ∃ a, x = V.ref a ∧ IsD H1 a ∧ ty σ H1 fun y H2 => tx σ H2 fun z H3 => ∃ o, DGet H3 a y o ∧ Q (o.getD z) H3) : tDGet2 td ty tx σ H Q := h
end
/-! ### len(set(..)) of a list -/
def tLenSetL (K : PySem.W.Frag) (ta : TE) : TE := fun σ H Q => ta σ H fun x H1 =>
  ∃ (l : Addr) (ns : List Int), x = .ref l ∧ SqL K H1 l (ns.map V.int) ∧ ns.length ≤ 4000 ∧
  ∀ ks : List Int, ks.Nodup → (∀ k, k ∈ ks ↔ k ∈ ns) → Q (.int (ks.length : Nat)) H1
theorem pe_lenSetL {X : Cx} {K : PySem.W.Frag} {a : Expr} {ta : TE} {p p2 q pos : Pos} (hK : X.K = K) (hc : X.calm = true)
    (hg : Gl X "len") (hm : X.mg "len" = none) (hg2 : Gl X "set") (hm2 : X.mg "set" = none) (ha : PE X a ta)
    (na : starEach [a] X.env = (false, eval a X.env) :: starEach [] X.env := by rfl) :
    PE X (.Call (.Name "len" p) [.Call (.Name "set" p2) [a] [] q] [] pos) (tLenSetL K ta) := by
  subst hK
  constructor
  intro pins s σ H Q I h
  refine Call_ (ld_blt I hg hm boot_len (callWith_builtin1 (args_cons ?_ rfl) rfl rfl))
  refine Call_ (ld_blt I hg2 hm2 boot_set ?_)
  refine callWith_type1 (args_cons (thn (ha.run pins s σ H _ I h) ?_) na) na rfl
  rintro v s1 ⟨x, H1, I1, r1, l, ns, rfl, hq, hl, q1⟩
  refine args_nil ?_
  cases r1
  obtain ⟨its, r, pl, hz⟩ := I1.list hq
  refine set_of_list ns (I1.ok.hd hc) pl.isList (by simpa using ints_of_vals r) (by unfold scanBound; omega) ?_
  rintro h' tk c ⟨o, es, ep, t, ho, hex, hd, g, nd, hmem, hb, hf, hn, _, _⟩ hcn kk
  refine args_nil ?_
  have I2 : Inv X pins σ H1 { s1 with heap := h', toks := tk } := I1.kept kk
  have e1 : (es.toList.map keyOf).length = es.size := by rw [List.length_map, Array.length_toList]
  have q2 := q1 (es.toList.map keyOf) nd (fun k => ⟨fun hk => of_decide_eq_true ((hmem k).mpr hk), fun hk => (hmem k).mp (decide_eq_true hk)⟩)
  rw [e1] at q2
  exact call_len_set ho hex hd hf (by unfold scanBound at hb; omega) ⟨.int es.size, H1, I2.tok _, ⟨_, rfl⟩, q2⟩
end G
set_option Elab.async false
set_option linter.all false
set_option maxRecDepth 100000
set_option maxHeartbeats 4000000
namespace G
open PySem PySem.Spec PyProof.Rows L2
/-! ### dicts whose keys are tuples of any depth -/
mutual
/-- the value is the key: whole numbers (a bool is 0 or 1), texts, None, tuples of such -/
inductive Dn (K : PySem.W.Frag) (H : Hp) : V → NestedKey → Prop
  | non : Dn K H .non .none
  | bl (b : Bool) : Dn K H (.bl b) (.num (if b = true then 1 else 0))
  | int (i : Int) : Dn K H (.int i) (.num i)
  | str (x : Str) : Dn K H (.str x) (.text x)
  | tup {a : Addr} {xs : List V} {ks : List NestedKey} : SqT K H a xs → DnAll K H xs ks → Dn K H (.ref a) (.tup ks)
inductive DnAll (K : PySem.W.Frag) (H : Hp) : List V → List NestedKey → Prop
  | nil : DnAll K H [] []
  | cons {v : V} {vs : List V} {k : NestedKey} {ks : List NestedKey} : Dn K H v k → DnAll K H vs ks → DnAll K H (v :: vs) (k :: ks)
end
mutual
theorem Dn.keep {K : PySem.W.Frag} {H H' : Hp} (e : SameT H H') : ∀ (k : NestedKey) (v : V), Dn K H v k → Dn K H' v k
  | .none, _, h => by cases h; exact .non
  | .num i, _, h => by
    cases h with
    | bl b => exact .bl b
    | int i => exact .int i
  | .text x, _, h => by cases h; exact .str x
  | .tup ks, _, h => by
    cases h with
    | tup hs ha => exact .tup (e.sq hs) (DnAll.keep e ks _ ha)
theorem DnAll.keep {K : PySem.W.Frag} {H H' : Hp} (e : SameT H H') : ∀ (ks : List NestedKey) (vs : List V), DnAll K H vs ks → DnAll K H' vs ks
  | [], _, h => by cases h; exact .nil
  | k :: ks, _, h => by
    cases h with
    | cons h1 h2 => exact .cons (Dn.keep e k _ h1) (DnAll.keep e ks _ h2)
end
theorem Dn.k {K : PySem.W.Frag} {H H' : Hp} {v : V} {k : NestedKey} (h : Dn K H v k) (e : SameT H H') : Dn K H' v k := Dn.keep e k v h
theorem DnAll.k {K : PySem.W.Frag} {H H' : Hp} {vs : List V} {ks : List NestedKey} (h : DnAll K H vs ks) (e : SameT H H') : DnAll K H' vs ks := DnAll.keep e ks vs h
section
variable {X : Cx} {pins : List (Addr × Obj)} {σ : L2.St} {H : Hp} {s : Shared}
mutual
theorem Dn.is (I : Inv X pins σ H s) : ∀ (k : NestedKey) (v : V) (u : Value), Dn X.K H v k → RelV v u → NestedIs s.heap k u
  | .none, v, u, h, r => by
    cases h
    obtain rfl : u = Value.none := r
    exact .none
  | .num i, v, u, h, r => by
    cases h with
    | bl b =>
      obtain rfl : u = Value.bool b := r
      exact .bool rfl
    | int i =>
      obtain ⟨t, rfl⟩ := r
      exact .int i t
  | .text x, v, u, h, r => by
    cases h
    obtain ⟨t, rfl⟩ := r
    exact .text x t
  | .tup ks, v, u, h, r => by
    cases h with
    | @tup a xs _ hs ha =>
      obtain rfl : u = Value.ref a := r
      obtain ⟨its, rv, ⟨⟨cls, dd, dt, sl⟩, ho, hc, n, hd⟩, hz⟩ := I.tuple hs
      exact .tup ho hc hd (by rw [List.toList_toArray]; exact DnAll.is I ks xs its ha rv)
theorem DnAll.is (I : Inv X pins σ H s) : ∀ (ks : List NestedKey) (vs : List V) (us : List Value), DnAll X.K H vs ks → Vals vs us → NestedAll s.heap ks us
  | [], vs, us, h, r => by
    cases h
    cases r
    exact .nil
  | k :: ks, vs, us, h, r => by
    cases h with
    | cons h1 h2 =>
      cases r with
      | cons r1 r2 => exact .cons (Dn.is I k _ _ h1 r1) (DnAll.is I ks _ _ h2 r2)
end
end
/-- the entries: key, its own tuple, value -/
abbrev NL := List (NestedKey × Addr × V)
def atN (L : NL) (k : NestedKey) : Option (Addr × V) := (L.find? fun x => decide (x.1 = k)).map (·.2)
def valN (L : NL) (k : NestedKey) : Option V := (atN L k).map (·.2)
def putNd (L : NL) (k : NestedKey) (a : Addr) (v : V) : NL := if (atN L k).isSome = true then L.map (fun x => if x.1 = k then (x.1, x.2.1, v) else x) else L ++ [(k, a, v)]
def RelN (p : NestedKey × Addr × V) (q : NestedKey × Addr × Value) : Prop := p.1 = q.1 ∧ p.2.1 = q.2.1 ∧ RelV p.2.2 q.2.2
theorem relN_at : ∀ {L : NL} {xs : List (NestedKey × Addr × Value)}, Paired RelN L xs → ∀ k, (atN L k = none ∧ atKey xs k = none) ∨ ∃ a v u, atN L k = some (a, v) ∧ atKey xs k = some (a, u) ∧ RelV v u
  | [], [], .nil, k => .inl ⟨rfl, rfl⟩
  | p :: L, q :: xs, .cons r t, k => by
    obtain ⟨r1, r2, r3⟩ := r
    by_cases e : p.1 = k
    · refine .inr ⟨p.2.1, p.2.2, q.2.2, ?_, ?_, r3⟩
      · show Option.map _ (List.find? _ (p :: L)) = _
        rw [List.find?_cons_of_pos (by exact decide_eq_true e)]
        rfl
      · show Option.map _ (List.find? _ (q :: xs)) = _
        rw [List.find?_cons_of_pos (by rw [← r1]; exact decide_eq_true e), r2]
        rfl
    · have ih := relN_at t k
      have e1 : atN (p :: L) k = atN L k := by
        show Option.map _ (List.find? _ (p :: L)) = _
        rw [List.find?_cons_of_neg (by rw [decide_eq_true_eq]; exact e)]
        rfl
      have e2 : atKey (q :: xs) k = atKey xs k := by
        show Option.map _ (List.find? _ (q :: xs)) = _
        rw [List.find?_cons_of_neg (by rw [← r1, decide_eq_true_eq]; exact e)]
        rfl
      rw [e1, e2]
      exact ih
theorem relN_map {k : NestedKey} {v : V} {u : Value} (r : RelV v u) : ∀ {L : NL} {xs : List (NestedKey × Addr × Value)}, Paired RelN L xs → Paired RelN (L.map fun x => if x.1 = k then (x.1, x.2.1, v) else x) (xs.map (PySem.putAt k u))
  | [], [], .nil => .nil
  | p :: L, q :: xs, .cons h t => by
    refine .cons ?_ (relN_map r t)
    obtain ⟨r1, r2, r3⟩ := h
    unfold PySem.putAt
    dsimp only
    by_cases e : p.1 = k
    · rw [if_pos e, if_pos (by rw [← r1]; exact e)]
      exact ⟨r1, r2, r⟩
    · rw [if_neg e, if_neg (by rw [← r1]; exact e)]
      exact ⟨r1, r2, r3⟩
theorem paired_app {α β : Type} {R : α → β → Prop} : ∀ {l : List α} {m : List β} {l' : List α} {m' : List β}, Paired R l m → Paired R l' m' → Paired R (l ++ l') (m ++ m')
  | [], [], _, _, .nil, h => h
  | _ :: _, _ :: _, _, _, .cons r t, h => .cons r (paired_app t h)
theorem relN_put {L : NL} {xs : List (NestedKey × Addr × Value)} (h : Paired RelN L xs) (k : NestedKey) (a : Addr) {v : V} {u : Value} (r : RelV v u) : Paired RelN (putNd L k a v) (storedH xs k a u) := by
  unfold putNd storedH
  rcases relN_at h k with ⟨e1, e2⟩ | ⟨b, v0, u0, e1, e2, _⟩
  · rw [e1, e2]
    exact paired_app h (.cons ⟨rfl, rfl, r⟩ .nil)
  · rw [e1, e2]
    exact relN_map r h
def ND0 (P : Program) (w : World) (h : Heap) (d : Addr) (L : NL) : Prop := L.length ≤ sizeLine ∧ (d == sysModules) = false ∧ ∃ xs : List (NestedKey × Addr × Value), Paired RelN L xs ∧
  ∃ o es ep, h.get? d = some o ∧ o.ExactDict ∧ o.data = .dict es ep ∧ es.toList = xs.map (entryOfKey (nestedKind P w)) ∧ (xs.map (·.1)).Nodup
/-- the dict at d -/
def NDO (P : Program) (w : World) (d : Addr) (L : NL) : HO := .ext fun h => ND0 P w h d L
theorem ndo_new {P : Program} {w : World} {H : Hp} {h : Heap} {d : Addr} {L : NL} (R : ND0 P w h d L) : ObjOk P w H h d (NDO P w d L) := by
  obtain ⟨_, _, _, _, o, _, _, ho, _⟩ := id R
  refine ⟨R, ⟨o, ho⟩, fun h1 h2 r k => ?_⟩
  obtain ⟨a1, a2, xs, a3, o, es, ep, b1, b2⟩ := r
  exact ⟨a1, a2, xs, a3, o, es, ep, k o b1, b2⟩
/-- the keys stand, and are not too deep -/
def KeysN (K : PySem.W.Frag) (H : Hp) (L : NL) : Prop := ∀ p ∈ L, Dn K H (.ref p.2.1) p.1 ∧ p.1.depth ≤ 8
theorem KeysN.k {K : PySem.W.Frag} {H H' : Hp} {L : NL} (h : KeysN K H L) (e : SameT H H') : KeysN K H' L := fun p hp => ⟨(h p hp).1.k e, (h p hp).2⟩
theorem KeysN.put {K : PySem.W.Frag} {H : Hp} {L : NL} (h : KeysN K H L) {k : NestedKey} {a : Addr} {v : V} (hk : Dn K H (.ref a) k) (hd : k.depth ≤ 8) : KeysN K H (putNd L k a v) := fun p hp => by
  unfold putNd at hp
  split at hp
  · obtain ⟨x, hx, rfl⟩ := List.mem_map.mp hp
    split
    · exact h x hx
    · exact h x hx
  · rcases List.mem_append.mp hp with hp | hp
    · exact h p hp
    · rw [List.mem_singleton.mp hp]
      exact ⟨hk, hd⟩
theorem putNd_len {L : NL} {k : NestedKey} {a : Addr} {v : V} : (putNd L k a v).length ≤ L.length + 1 := by
  unfold putNd
  split
  · rw [List.length_map]; omega
  · rw [List.length_append]; exact Nat.le_refl _
/-- the dict at d, walked or not -/
def RdN (P : Program) (w : World) (H : Hp) (d : Addr) (L : NL) : Prop := H d = some (NDO P w d L) ∨ ∃ o, H d = some (.frz o (NDO P w d L))
section
variable {X : Cx} {pins : List (Addr × Obj)} {σ : L2.St} {H : Hp} {s : Shared} {d : Addr} {L : NL}
theorem nd_of (I : Inv X pins σ H s) (h : RdN X.prog X.w H d L) : ND0 X.prog X.w s.heap d L := by
  rcases h with h | ⟨o, h⟩
  · exact (I.hok d _ h).1
  · exact (I.hok d _ h).2.1
theorem nd_dict (I : Inv X pins σ H s) (h : RdN X.prog X.w H d L) (ks : KeysN X.K H L) : L.length ≤ sizeLine ∧ (d == sysModules) = false ∧ ∃ xs : List (NestedKey × Addr × Value), Paired RelN L xs ∧ s.heap.DictOfH (nestedKind X.prog X.w) d xs := by
  obtain ⟨a1, a2, xs, pr, o, es, ep, b1, b2, b3, b4, b5⟩ := nd_of I h
  refine ⟨a1, a2, xs, pr, o, es, ep, b1, b2, b3, b4, fun x hx => ?_, b5⟩
  have go : ∀ {L : NL} {xs : List (NestedKey × Addr × Value)}, Paired RelN L xs → KeysN X.K H L → ∀ x ∈ xs, Dn X.K H (.ref x.2.1) x.1 ∧ x.1.depth ≤ 8 := by
    intro L xs pr
    induction pr with
    | nil => intro _ x hx; exact nomatch hx
    | cons r _ ih =>
      intro ks x hx
      rcases List.mem_cons.mp hx with rfl | hx
      · have := ks _ List.mem_cons_self
        rw [← r.1, ← r.2.1]
        exact this
      · exact ih (fun p hp => ks p (List.mem_cons_of_mem _ hp)) x hx
  obtain ⟨h1, h2⟩ := go pr ks x hx
  exact ⟨Dn.is I _ _ _ h1 rfl, h2⟩
theorem nd_room {A : Around} (hu : A.units + 64 < cLine) : (nestedKind X.prog X.w).room A.in1 := by
  show A.units + 1 + 8 < cLine
  omega
theorem nd_facts (I : Inv X pins σ H s) (h : RdN X.prog X.w H d L) : s.TypeIs (.ref d) "dict" ∧ (∀ b, Value.ref d = .ref b → ∃ ob, s.heap.get? b = some ob ∧ ob.dict = none) ∧ (d == sysModules) = false := by
  obtain ⟨a1, a2, xs, pr, o, es, ep, b1, b2, b3, b4, b5⟩ := nd_of I h
  exact ⟨⟨o, b1, b2.1⟩, fun b q => by cases q; exact ⟨o, b1, b2.2.1⟩, a2⟩
theorem nd_key (I : Inv X pins σ H s) {b : Addr} {k : NestedKey} (h : Dn X.K H (.ref b) k) (hd : k.depth ≤ 8) : (nestedKind X.prog X.w).is s.heap k b := ⟨Dn.is I k _ _ h rfl, hd⟩
theorem nd_mut (h : H d = some (NDO X.prog X.w d L)) : Mut (H d) := by rw [h]; trivial
end
/-! the readings -/
/-- what is looked up: the dict at d has the entries L, y is the key k -/
def NAt (K : PySem.W.Frag) (P : Program) (w : World) (x y : V) (H : Hp) (C : NL → NestedKey → Prop) : Prop := ∃ (d b : Addr) (k : NestedKey) (L : NL), x = .ref d ∧ y = .ref b ∧ RdN P w H d L ∧ KeysN K H L ∧ Dn K H (.ref b) k ∧ k.depth ≤ 8 ∧ C L k
def tNGet (K : PySem.W.Frag) (P : Program) (w : World) (td ty : TE) : TE := fun σ H Q => td σ H fun x H1 => ty σ H1 fun y H2 => NAt K P w x y H2 fun L k => ∃ v, valN L k = some v ∧ Q v H2
def tNIn (K : PySem.W.Frag) (P : Program) (w : World) (neg : Bool) (ty td : TE) : TE := fun σ H Q => ty σ H fun y H1 => td σ H1 fun x H2 => NAt K P w x y H2 fun L k => Q (.bl (if neg = true then !(valN L k).isSome else (valN L k).isSome)) H2
def tNGet1 (K : PySem.W.Frag) (P : Program) (w : World) (td ty : TE) : TE := fun σ H Q => td σ H fun x H1 => ∃ d L, x = .ref d ∧ RdN P w H1 d L ∧ ty σ H1 fun y H2 => NAt K P w x y H2 fun L k => Q ((valN L k).getD .non) H2
def tNSetd (K : PySem.W.Frag) (P : Program) (w : World) (td ty tx : TE) : TE := fun σ H Q => td σ H fun x H1 => ∃ d L, x = .ref d ∧ RdN P w H1 d L ∧ ty σ H1 fun y H2 => tx σ H2 fun z H3 =>
  ∃ (d b : Addr) (k : NestedKey) (L : NL), x = .ref d ∧ y = .ref b ∧ H3 d = some (NDO P w d L) ∧ KeysN K H3 L ∧ Dn K H3 (.ref b) k ∧ k.depth ≤ 8 ∧ L.length < sizeLine ∧ (∀ v, valN L k = some v → Q v H3) ∧ (valN L k = none → Q z (upd H3 d (NDO P w d (L ++ [(k, b, z)]))))
def sNPut (K : PySem.W.Frag) (P : Program) (w : World) (td ty tv : TE) : TS := fun D σ H => tv σ H fun v H1 => td σ H1 fun x H2 => ty σ H2 fun y H3 =>
  ∃ (d b : Addr) (k : NestedKey) (L : NL), x = .ref d ∧ y = .ref b ∧ H3 d = some (NDO P w d L) ∧ KeysN K H3 L ∧ Dn K H3 (.ref b) k ∧ k.depth ≤ 8 ∧ L.length < sizeLine ∧ D.nx σ (upd H3 d (NDO P w d (putNd L k b v)))
section
variable {X : Cx} {o i e f value : Expr} {pos pos' apos cpos : Pos} {td ty tx tv : TE}
theorem pe_nget (hu : X.A.units + 64 < cLine) (ho : PE X o td) (hi : PE X i ty) (hs : NoSl i) : PE X (.Subscript o i pos) (tNGet X.K X.prog X.w td ty) := by
  refine ⟨fun pins s σ H Q I h => ?_⟩
  refine subD_of PySem.F.slot_dict_getitem.lookup hs (thn (ho.run pins s σ H _ I h) fun u s1 ⟨x, H1, I1, rx, q1⟩ => thn (hi.run pins s1 σ H1 _ I1 q1) fun iv s2 ⟨y, H2, I2, ry, d, b, k, L, ex, ey, g, ks, hk, hd, v, hv, q2⟩ => ?_)
  subst ex ey
  obtain rfl : u = Value.ref d := rx
  obtain rfl : iv = Value.ref b := ry
  obtain ⟨_, _, xs, pr, dd⟩ := nd_dict I2 g ks
  refine ⟨(nd_facts I2 g).1, ?_⟩
  rcases relN_at pr k with ⟨e1, e2⟩ | ⟨a, v0, u0, e1, e2, r⟩
  · unfold valN at hv
    rw [e1] at hv
    exact nomatch hv
  · unfold valN at hv
    rw [e1] at hv
    obtain rfl : v0 = v := Option.some.inj hv
    exact wpAny_getItem_heap (nd_room hu) (nd_key I2 hk hd) dd e2 ⟨v0, H2, I2.tok _, r, q2⟩
theorem pe_nin {neg : Bool} {op : CmpOp} (hop : op = if neg = true then .NotIn else .In) (hu : X.A.units + 64 < cLine) (hi : PE X i ty) (ho : PE X o td) : PC X op i o (tNIn X.K X.prog X.w neg ty td) := by
  refine ⟨fun pins s σ H Q I h => ?_⟩
  refine thn (hi.run pins s σ H _ I h) fun iv s1 ⟨y, H1, I1, ry, q1⟩ => thn (ho.run pins s1 σ H1 _ I1 q1) fun u s2 ⟨x, H2, I2, rx, d, b, k, L, ex, ey, g, ks, hk, hd, q2⟩ => ?_
  subst ex ey
  obtain rfl : u = Value.ref d := rx
  obtain rfl : iv = Value.ref b := ry
  obtain ⟨_, hsm, xs, pr, dd⟩ := nd_dict I2 g ks
  have ev : (valN L k).isSome = (atKey xs k).isSome := by
    unfold valN
    rcases relN_at pr k with ⟨e1, e2⟩ | ⟨a, v0, u0, e1, e2, r⟩ <;> rw [e1, e2] <;> rfl
  cases neg with
  | false =>
    subst hop
    refine wpAny_in_heap (nd_room hu) (nd_key I2 hk hd) hsm dd ?_
    rw [← ev]
    exact ⟨.bl (valN L k).isSome, H2, I2.tok _, rfl, q2⟩
  | true =>
    subst hop
    refine wpAny_notIn_heap (nd_room hu) (nd_key I2 hk hd) hsm dd ?_
    rw [← ev]
    exact ⟨.bl (!(valN L k).isSome), H2, I2.tok _, rfl, q2⟩
theorem pe_nget1 (hu : X.A.units + 64 < cLine) (ho : PE X o td) (he : PE X e ty) (m : M1 X o "get" apos e cpos) : PE X (.Call (.Attribute o "get" apos) [e] [] cpos) (tNGet1 X.K X.prog X.w td ty) := by
  refine ⟨fun pins s σ H Q I h => ?_⟩
  refine wpAny_Call_method m.base m.few m.line PySem.F.plainAttrs_dict PySem.F.slot_dict_get PySem.F.type_dict_get (thn (ho.run pins s σ H _ I h) fun u s1 ⟨x, H1, I1, rx, d0, L0, ex0, g0, q1⟩ => ?_)
  subst ex0
  obtain rfl : u = Value.ref d0 := rx
  obtain ⟨t1, t2, _⟩ := nd_facts I1 g0
  refine ⟨t1, t2, ?_⟩
  rw [m.trees]
  refine Calls.callWith_builtin rfl (Calls.evalArgs_plain (Calls.spliced_cons (thn (he.run pins s1 σ H1 _ I1 q1) fun iv s2 ⟨y, H2, I2, ry, d, b, k, L, ex, ey, g, ks, hk, hd, q2⟩ => Calls.spliced_nil ?_)))
  subst ey
  cases ex
  obtain rfl : iv = Value.ref b := ry
  obtain ⟨_, hsm, xs, pr, dd⟩ := nd_dict I2 g ks
  refine call_meetsIn F.slot_dict_get dd.typeIs F.entry_dict_get (F.args_dict_get_2 _ _) (meetsH_dict_get (nestedKind X.prog X.w) d0 b hsm) ⟨nd_room hu, k, xs, nd_key I2 hk hd, dd, ?_⟩
  have ev : RelV ((valN L k).getD .non) (((atKey xs k).map (·.2)).getD .none) := by
    unfold valN
    rcases relN_at pr k with ⟨e1, e2⟩ | ⟨a, v0, u0, e1, e2, r⟩ <;> rw [e1, e2]
    · exact rfl
    · exact r
  exact ⟨_, H2, I2.tok _, ev, q2⟩
theorem pe_nsetd (hu : X.A.units + 64 < cLine) (ho : PE X o td) (he : PE X e ty) (hf : PE X f tx) (m : M2 X o "setdefault" apos e f cpos) : PE X (.Call (.Attribute o "setdefault" apos) [e, f] [] cpos) (tNSetd X.K X.prog X.w td ty tx) := by
  refine ⟨fun pins s σ H Q I h => ?_⟩
  refine wpAny_Call_method m.base m.few m.line PySem.F.plainAttrs_dict PySem.F.slot_dict_setdefault PySem.F.type_dict_setdefault (thn (ho.run pins s σ H _ I h) fun u s1 ⟨x, H1, I1, rx, d0, L0, ex0, g0, q1⟩ => ?_)
  subst ex0
  obtain rfl : u = Value.ref d0 := rx
  obtain ⟨t1, t2, _⟩ := nd_facts I1 g0
  refine ⟨t1, t2, ?_⟩
  rw [m.trees]
  refine Calls.callWith_builtin rfl (Calls.evalArgs_plain (Calls.spliced_cons (thn (he.run pins s1 σ H1 _ I1 q1) fun iv s2 ⟨y, H2, I2, ry, q2⟩ =>
    Calls.spliced_cons (thn (hf.run pins s2 σ H2 _ I2 q2) fun fv s3 ⟨z, H3, I3, rz, d, b, k, L, ex, ey, g, ks, hk, hd, hl, q3, q4⟩ => Calls.spliced_nil ?_))))
  subst ey
  cases ex
  obtain rfl : iv = Value.ref b := ry
  obtain ⟨_, hsm, xs, pr, dd⟩ := nd_dict I3 (.inl g) ks
  have lx : L.length = xs.length := Paired.length pr
  refine call_setdefault_heap (nd_room hu) (nd_key I3 hk hd) hsm dd (fun p hp => ?_) (fun hn h' dd' hs => ?_) (by omega)
  · rcases relN_at pr k with ⟨e1, e2⟩ | ⟨a, v0, u0, e1, e2, r⟩
    · rw [e2] at hp
      exact nomatch hp
    · rw [e2] at hp
      cases hp
      exact ⟨v0, H3, I3.tok _, r, q3 v0 (by unfold valN; rw [e1]; rfl)⟩
  · rcases relN_at pr k with ⟨e1, e2⟩ | ⟨a, v0, u0, e1, e2, r⟩
    · have rel2 := relN_put pr k b rz
      have e3 : putNd L k b z = L ++ [(k, b, z)] := by
        unfold putNd
        rw [e1]
        rfl
      rw [e3] at rel2
      obtain ⟨ob, es, ep, hq, h2, h3, h4, _, h5⟩ := dd'
      refine ⟨z, _, d_write (t' := s3.toks + (nestedKind X.prog X.w).draws k) I3 (nd_mut g) hs ⟨ob, hq⟩ (ndo_new ⟨?_, hsm, _, rel2, ob, es, ep, hq, h2, h3, h4, h5⟩), rz, q4 (by unfold valN; rw [e1]; rfl)⟩
      rw [List.length_append]
      exact hl
    · rw [e2] at hn
      exact nomatch hn
theorem ps_nput (hu : X.A.units + 64 < cLine) (ho : PE X o td) (hi : PE X i ty) (hv : PE X value tv) (hs : swapsWith value (some (.Subscript o i pos')) pos.line X.env = pure false) :
    PS X (.Assign [.Subscript o i pos'] value pos) (sNPut X.K X.prog X.w td ty tv) := by
  refine ⟨fun pins s σ H D I h => ?_⟩
  refine wpAny_Assign_Subscript (thn (hv.run pins s σ H _ I h) fun r s1 ⟨v, H1, I1, rv, q1⟩ => thn (ho.run pins s1 σ H1 _ I1 q1) fun u s2 ⟨x, H2, I2, rx, q2⟩ => thn (hi.run pins s2 σ H2 _ I2 q2) fun iv s3 ⟨y, H3, I3, ry, d, b, k, L, ex, ey, g, ks, hk, hd, hl, q3⟩ => ?_) hs
  subst ex ey
  obtain rfl : u = Value.ref d := rx
  obtain rfl : iv = Value.ref b := ry
  obtain ⟨_, hsm, xs, pr, dd⟩ := nd_dict I3 (.inl g) ks
  have lx : L.length = xs.length := Paired.length pr
  refine wpAny_setItem_heap (nd_room hu) (nd_key I3 hk hd) dd (fun h' dd' hs' => ?_) (by omega)
  obtain ⟨ob, es, ep, hq, h2, h3, h4, _, h5⟩ := dd'
  refine ⟨σ, _, d_write (t' := s3.toks + (nestedKind X.prog X.w).draws k) I3 (nd_mut g) hs' ⟨ob, hq⟩ (ndo_new ⟨?_, hsm, _, relN_put pr k b rv, ob, es, ep, hq, h2, h3, h4, h5⟩), q3⟩
  exact Nat.le_trans putNd_len hl
end
/-- a new one -/
def tDNewN (P : Program) (w : World) : TE := fun _ H Q => ∀ p, H p = none → Q (.ref p) (upd H p (NDO P w p []))
theorem nd_empty {P : Program} {w : World} {H : Hp} (h : Heap) (hb : sysModules < h.objs.size) : ObjOk P w H (h.push { cls := .type "dict", data := .dict #[] }) h.objs.size (NDO P w h.objs.size []) :=
  ndo_new ⟨Nat.zero_le _, beq_eq_false_iff_ne.mpr (Ne.symm (Nat.ne_of_lt hb)), [], .nil, _, #[], 0, Heap.get?_push_size _ rfl, ⟨rfl, rfl, rfl⟩, rfl, rfl, List.nodup_nil⟩
theorem pe_dnewN {X : Cx} {pos : Pos} : PE X (.Dict [] [] pos) (tDNewN X.prog X.w) := ⟨fun pins s σ H Q I h =>
  wpAny_Dict_empty ⟨.ref s.heap.objs.size, _, I.laid (t' := s.toks) (fun _ _ q => Heap.get?_push_of_some _ q) (Nat.le_refl _) (nd_empty s.heap I.big), rfl, h _ (I.hok.fresh (Nat.le_refl _))⟩⟩
/-! len -/
def rLenN (K : PySem.W.Frag) (P : Program) (w : World) : List V → Hp → VK → Prop := fun vs H Q => ∃ d L, vs = [.ref d] ∧ RdN P w H d L ∧ KeysN K H L ∧ Q (.int (L.length : Nat)) H
theorem call_lenN {X : Cx} : CallR X (.builtin "len") (rLenN X.K X.prog X.w) := by
  intro pins s σ H xs us Q I r h
  obtain ⟨d, L, rfl, hp, ks, q⟩ := h
  obtain ⟨u, rfl, rx⟩ := vals1 r
  obtain rfl : u = .ref d := rx
  obtain ⟨z, hd, ys, rel, dd⟩ := nd_dict I hp ks
  have hl : L.length = ys.length := Paired.length rel
  refine call_len_dictH hd dd (by rw [← hl]; rw [sizeLine_eq] at z; omega) ?_
  rw [← hl]
  exact ⟨.int ((L.length : Nat) : Int), H, I.tok _, ⟨_, rfl⟩, q⟩
end G
set_option Elab.async false
set_option linter.all false
set_option maxRecDepth 100000
set_option maxHeartbeats 4000000
namespace G
open PySem PySem.Spec PyProof.Rows L2
/-! ### walking a dict with keys of any depth: it is locked as the walk begins -/
theorem paired_getN : ∀ {L : NL} {xs : List (NestedKey × Addr × Value)}, Paired RelN L xs → ∀ {i : Nat} {p : NestedKey × Addr × V}, L[i]? = some p → ∃ q, xs[i]? = some q ∧ RelN p q
  | [], _, _, i, _, e => by simp at e
  | p :: L, q :: xs, .cons r t, 0, _, e => by
    cases Option.some.inj (show some p = some _ from e)
    exact ⟨q, rfl, r⟩
  | p :: L, q :: xs, .cons r t, i + 1, p', e => by
    obtain ⟨q', h1, h2⟩ := paired_getN t (i := i) (p := p') e
    exact ⟨q', h1, h2⟩
theorem frzN {X : Cx} {pins : List (Addr × Obj)} {σ : L2.St} {H : Hp} {s : Shared} {d : Addr} {o : Obj} {L : NL} (I : Inv X pins σ H s) (h : H d = some (.frz o (NDO X.prog X.w d L))) :
    (d == sysModules) = false ∧ s.heap.get? d = some o ∧ o.ExactDict ∧ L.length ≤ sizeLine ∧ ∃ (es : Array DictEntry) (ep : Nat), o.data = .dict es ep ∧ es.size = L.length ∧
      ∀ (i : Nat) (k : NestedKey) (a : Addr) (v : V), L[i]? = some (k, a, v) → ∃ en : DictEntry, es[i]? = some en ∧ en.key = .ref a ∧ RelV v en.val := by
  obtain ⟨hd, ⟨z, hs, xs, pr, o', es, ep, ho, hx, hdt, he, _⟩, _⟩ := I.hok d _ h
  rw [hd] at ho
  cases ho
  refine ⟨hs, hd, hx, z, es, ep, hdt, ?_, fun i k a v e => ?_⟩
  · have l1 : es.size = xs.length := size_of_entries he
    have l2 : L.length = xs.length := Paired.length pr
    omega
  · obtain ⟨b, hb, e1, e2, e3⟩ := paired_getN pr e
    have q := entry_at he i
    rw [hb] at q
    exact ⟨_, q, congrArg Value.ref e2.symm, e3⟩
/-- the keys: each key's own tuple -/
def Itkn (P : Program) (w : World) (d : Addr) (o : Obj) (L : NL) : It :=
  ⟨fun i H => H d = some (.frz o (NDO P w d L)) ∧ i < L.length, fun i H x H' => H' = H ∧ ∃ k a v, L[i]? = some (k, a, v) ∧ x = .ref a, fun i H => H d = some (.frz o (NDO P w d L)) ∧ L.length ≤ i⟩
/-- the pairs, each a new tuple of the key's own tuple and the value -/
def Itin (P : Program) (w : World) (d : Addr) (o : Obj) (L : NL) : It :=
  ⟨fun i H => H d = some (.frz o (NDO P w d L)) ∧ i < L.length, fun i H x H' => ∃ (T : Addr) (k : NestedKey) (a : Addr) (v : V), L[i]? = some (k, a, v) ∧ x = .ref T ∧ H T = none ∧ H' = upd H T (.tup [.ref a, v]), fun i H => H d = some (.frz o (NDO P w d L)) ∧ L.length ≤ i⟩
section
variable {P : Program} {w : World} {K : PySem.W.Frag} {tg : Expr} {d : Addr} {o : Obj} {es : Array DictEntry} {ep : Nat} {L : NL}
theorem turn_keysN (it : Addr) (hod : o.data = .dict es ep) : Turn P w K tg (Itkn P w d o L) [it] it (fun i h => h.IsKeyIter it d i L.length ep) where
  mem := by simp
  obj := fun i h st b hb => by
    have e : b = it := by simpa using hb
    rw [e]
    obtain ⟨oi, e1, c, dd⟩ := st
    exact ⟨oi, e1, fun v z => by rw [dd] at z; cases z⟩
  keep := fun i h h' st k => st.at fun oi e => k it (by simp) oi e
  item := by
    intro X hP hw hK hc i pins s σ H E I hf st hg
    subst hP hw hK
    obtain ⟨hd, hi⟩ := hg
    obtain ⟨g0, g1, g2, g3, g4, g5⟩ := hf it (List.mem_singleton.mpr rfl)
    obtain ⟨hs, hgd, hx, _, es', ep', hdt, hsz, ent⟩ := frzN I hd
    obtain ⟨rfl, rfl⟩ := dict_ep hod hdt
    obtain ⟨⟨k, a, v⟩, hkv⟩ : ∃ p, L[i]? = some p := ⟨L[i], List.getElem?_eq_getElem hi⟩
    obtain ⟨en, hen, hkey, hrv⟩ := ent i k a v hkv
    refine next_key_item st hgd hdt hsz hen fun h' st' sb => ?_
    have I1 : Inv X pins σ H { s with heap := h' } := I.turned (t' := s.toks) (fun b ob hb e => (sb.2 b hb).trans e) g0 g1 g3 g4 g5
    obtain ⟨oi, e, c, dd⟩ := id st'
    exact ⟨en.key, rfl, go_of (s := { s with heap := h' }) e c dd (by decide) ⟨.ref a, H, I1, hkey, ⟨rfl, k, a, v, hkv, rfl⟩, st', fun b hb => (hf b hb).1⟩⟩
  done := by
    intro X hP hw hK hc i pins s σ H E I hf st hg
    subst hP hw hK
    obtain ⟨hd, hi⟩ := hg
    obtain ⟨g0, g1, g2, g3, g4, g5⟩ := hf it (List.mem_singleton.mpr rfl)
    obtain ⟨hs, hgd, hx, _, es', ep', hdt, hsz, ent⟩ := frzN I hd
    obtain ⟨rfl, rfl⟩ := dict_ep hod hdt
    exact next_key_end (I.ok.hd hc) st hgd hdt hsz hi fun h1 ek => ⟨rfl, I.turned (t' := s.toks) (fun b ob nb e => ek b ob nb e) g0 g1 g3 g4 g5⟩
  self := fun A i s Q E st h => by
    have ty := st.typeIs
    refine wpAny_pyIter_slot ty F.slot_dict_keyiterator_iter (wpAny_call_entry F.slot_dict_keyiterator_iter ty F.entry_dict_keyiterator_iter ?_ (F.args_dict_keyiterator_iter_1 _))
    show wpAny _ _ (ret (Value.ref it)) _ _ _
    exact wpAny_pure ⟨_, rfl, "dict_keyiterator", _, ty, F.slot_dict_keyiterator_next.lookup, h⟩
theorem turn_itemsN {elts : List Expr} {kk : Nat} {tpos : Pos} (it : Addr) (hod : o.data = .dict es ep) :
    Turn P w K (.Tuple elts kk tpos) (Itin P w d o L) [it] it (fun i h => ∃ ok ov, IsItemIter h it d i L.length ep ok ov) where
  mem := by simp
  obj := fun i h st b hb => by
    have e : b = it := by simpa using hb
    subst e
    obtain ⟨ok, ov, e⟩ := st
    exact ⟨_, e, fun v z => nomatch z⟩
  keep := fun i h h' st k => let ⟨ok, ov, e⟩ := st; ⟨ok, ov, k it (by simp) _ e⟩
  item := by
    intro X hP hw hK hc i pins s σ H E I hf st hg
    subst hP hw hK
    obtain ⟨hd, hi⟩ := hg
    obtain ⟨hs, hgd, hx, _, es', ep', hdt, hsz, ent⟩ := frzN I hd
    obtain ⟨rfl, rfl⟩ := dict_ep hod hdt
    obtain ⟨⟨k, a, v⟩, hkv⟩ : ∃ p, L[i]? = some p := ⟨L[i], List.getElem?_eq_getElem hi⟩
    obtain ⟨en, hen, hkey, rv⟩ := ent i k a v hkv
    obtain ⟨ok, ov, he⟩ := st
    rw [← hsz] at he
    have hlt : it < s.heap.objs.size := Heap.lt_size he
    have hie : i < es'.size := by omega
    obtain rfl : es'[i] = en := by
      rw [Array.getElem?_eq_getElem hie] at hen
      exact Option.some.inj hen
    refine wpAny_pyNext_items_item_raw he ⟨o, hgd, hx, hdt⟩ hie fun h' ho hT hz hk => ?_
    refine ⟨_, rfl, wpAny_letOwnedTupleGo_items (s := { s with heap := h' }) ho fun h'' he' sb => ?_⟩
    have hT2 : h''.get? s.heap.objs.size = some { cls := .type "tuple", data := .seq #[es'[i].key, es'[i].val] } := (sb.2 _ (Nat.ne_of_gt hlt)).trans hT
    have new : ObjOk X.prog X.w (upd H s.heap.objs.size (.tup [.ref a, v])) h'' s.heap.objs.size (.tup [.ref a, v]) :=
      ⟨by show 2 ≤ sizeLine; decide, [es'[i].key, es'[i].val], .cons hkey (.cons rv .nil), ⟨_, hT2, rfl, _, rfl⟩⟩
    have I1 : Inv X pins σ (upd H s.heap.objs.size (.tup [.ref a, v])) { s with heap := h'' } :=
      I.turnedNew (t' := s.toks) (ch := [it]) (fun b ob hb e => (sb.2 b (by simpa using hb)).trans (hk b ob (by simpa using hb) e)) hf (Nat.le_refl _) new
    refine ⟨.ref s.heap.objs.size, _, I1, rfl, ⟨_, k, a, v, hkv, rfl, I.hok.fresh (Nat.le_refl _), rfl⟩, ⟨es'[i].key, es'[i].val, ?_⟩, fun b hb => ?_⟩
    · rw [← hsz]; exact he'
    · have e : b = it := by simpa using hb
      rw [e, upd_ne (Nat.ne_of_lt hlt)]
      exact (hf it (by simp)).1
  done := by
    intro X hP hw hK hc i pins s σ H E I hf st hg
    subst hP hw hK
    obtain ⟨hd, hi⟩ := hg
    obtain ⟨g0, g1, g2, g3, g4, g5⟩ := hf it (List.mem_singleton.mpr rfl)
    obtain ⟨hs, hgd, hx, _, es', ep', hdt, hsz, ent⟩ := frzN I hd
    obtain ⟨rfl, rfl⟩ := dict_ep hod hdt
    obtain ⟨ok, ov, he⟩ := st
    rw [← hsz] at he
    exact wpAny_pyNext_items_end_raw (I.ok.hd hc) he ⟨o, hgd, hx, hdt⟩ (by omega) fun h' eb => ⟨rfl, I.turned (t' := s.toks) (fun b ob hb e => eb b ob hb e) g0 g1 g3 g4 g5⟩
  self := fun A i s Q E st h => let ⟨_, _, e⟩ := st; PySem.W.kcp_self e h
end
/-- locked as the walk begins, or locked already -/
def LockN (P : Program) (w : World) (d : Addr) (L : NL) (H : Hp) (C : Obj → Hp → Prop) : Prop := (H d = some (NDO P w d L) ∧ ∀ o, C o (upd H d (.frz o (NDO P w d L)))) ∨ ∃ o, H d = some (.frz o (NDO P w d L)) ∧ C o H
theorem LockN.get {X : Cx} {pins : List (Addr × Obj)} {σ : L2.St} {H : Hp} {s : Shared} {d : Addr} {L : NL} {C : Obj → Hp → Prop} (I : Inv X pins σ H s) (h : LockN X.prog X.w d L H C) : ∃ o H2, Inv X pins σ H2 s ∧ H2 d = some (.frz o (NDO X.prog X.w d L)) ∧ C o H2 := by
  rcases h with ⟨hd, q⟩ | ⟨o, hd, q⟩
  · obtain ⟨od, I2⟩ := I.lock hd trivial
    exact ⟨od, _, I2, upd_same, q od⟩
  · exact ⟨o, _, I, hd, q⟩
def iKeysN (P : Program) (w : World) (td : TE) : TI := fun σ H R => td σ H fun x H1 => ∃ (d : Addr) (L : NL), x = .ref d ∧ LockN P w d L H1 fun o H2 => R (Itkn P w d o L) H2
def iItemsN (P : Program) (w : World) (td : TE) : TI := fun σ H R => td σ H fun x H1 => ∃ (d : Addr) (L : NL), x = .ref d ∧ LockN P w d L H1 fun o H2 => R (Itin P w d o L) H2
section
variable {X : Cx} {tg e : Expr} {td : TE} {apos cpos : Pos}
theorem pi_keysN (he : PE X e td) : PI X tg e (iKeysN X.prog X.w td) := by
  refine ⟨fun pins s σ H R I h => ?_⟩
  refine thn (he.run pins s σ H _ I h) fun u s1 ⟨x, H1, I1, rx, d, L, ex, q⟩ => ?_
  subst ex
  obtain rfl : u = Value.ref d := rx
  obtain ⟨o, H2, I2, hd, q2⟩ := q.get I1
  obtain ⟨hs, hgd, hx, _, es, ep, hdt, hsz, ent⟩ := frzN I2 hd
  refine iter_keys hs hgd hx hdt (pi_one (tk := s1.toks) I2 _ (turn_keysN _ hdt) ⟨_, Heap.get?_push_size _ rfl, rfl, ?_⟩ q2)
  rw [hsz] <;> rfl
theorem pi_itemsN {elts : List Expr} {kk : Nat} {tpos : Pos} (he : PE X e td) (hbase : attributeBase e "items" X.env (eval e X.env) = eval e X.env := by rfl) (hline : (apos.endLine == cpos.line) = true := by rfl) :
    PI X (.Tuple elts kk tpos) (.Call (.Attribute e "items" apos) [] [] cpos) (iItemsN X.prog X.w td) := by
  refine ⟨fun pins s σ H R I h => ?_⟩
  refine wpAny_Call_method (T := "dict") (id := "dict.items") hbase rfl hline F.plainAttrs_dict F.slot_dict_items F.type_dict_items (thn (he.run pins s σ H _ I h) fun u s1 ⟨x, H1, I1, rx, d, L, ex, q⟩ => ?_)
  subst ex
  obtain rfl : u = Value.ref d := rx
  obtain ⟨o, H2, I2, hd, q2⟩ := q.get I1
  obtain ⟨hs, hgd, hx, _, es, ep, hdt, hsz, ent⟩ := frzN I2 hd
  have ht : s1.TypeIs (.ref d) "dict" := ⟨o, hgd, hx.1⟩
  have fin : wpAny (model X.prog X.w) X.A (pyIter (.ref s1.heap.objs.size)) (PIE X pins σ (.Tuple elts kk tpos) R) X.xe { s1 with heap := s1.heap.push { cls := .type "dict_items", data := .fields #[.ref d] } } := by
    have I3 : Inv X pins σ H2 { s1 with heap := s1.heap.push { cls := .type "dict_items", data := .fields #[.ref d] } } := I2.kept (t' := s1.toks) fun b o q => Heap.get?_push_of_some _ q
    refine wpAny_pyIter_items_raw (d := d) ⟨_, Heap.get?_push_size _ rfl, rfl, rfl⟩ ⟨o, Heap.get?_push_of_some _ hgd, hx, hdt⟩ (pi_one (tk := s1.toks) I3 _ (turn_itemsN _ hdt) ⟨.none, .none, ?_⟩ q2)
    rw [← hsz]
    exact Heap.get?_push_size _ rfl
  refine ⟨ht, (fun b z => by cases z; exact ⟨o, hgd, hx.2.1⟩), ?_⟩
  show wpAny _ _ (callWith cpos (.builtin "dict.items") [.ref d] [] []) _ X.xe s1
  exact method_meetsIn F.slot_dict_items F.entry_dict_items rfl (PySem.evalArgs_none ⟨rfl, ht, F.args_dict_items_1 _, _, meets_dict_items_raw d hs, ⟨es, ep, o, hgd, hx, hdt⟩, fin⟩)
end
theorem walk_keysN {P : Program} {w : World} {d : Addr} {o : Obj} {L : NL} : Walk (Itkn P w d o L) L.length (fun H => H d = some (.frz o (NDO P w d L))) (fun i H x H' => H' = H ∧ ∃ k a v, L[i]? = some (k, a, v) ∧ x = .ref a) :=
  ⟨fun _ _ hi q => ⟨q, hi⟩, fun _ q => ⟨q, Nat.le_refl _⟩, fun _ _ _ _ _ _ y => y⟩
theorem walk_itemsN {P : Program} {w : World} {d : Addr} {o : Obj} {L : NL} : Walk (Itin P w d o L) L.length (fun H => H d = some (.frz o (NDO P w d L))) (fun i H x H' => ∃ (T : Addr) (k : NestedKey) (a : Addr) (v : V), L[i]? = some (k, a, v) ∧ x = .ref T ∧ H T = none ∧ H' = upd H T (.tup [.ref a, v])) :=
  ⟨fun _ _ hi q => ⟨q, hi⟩, fun _ q => ⟨q, Nat.le_refl _⟩, fun _ _ _ _ _ _ y => y⟩
end G
set_option Elab.async false
set_option linter.all false
set_option maxRecDepth 100000
set_option maxHeartbeats 4000000
namespace G
open PySem PySem.Spec PyProof.Rows L2
/-! ### set(xs), xs a list of tuples of ints, fewer than 64 of them different -/
/-- fewer than 64 differ -/
def Few (ks : List (Addr × List Int)) : Prop := ∀ L : List (Addr × List Int), (L.map (·.2)).Nodup → (∀ p ∈ L, p ∈ ks) → L.length < 64
section
variable {P : Program} {w : World} {A : Around} {E : Value → Shared → Prop} {s : Shared}
theorem put_row {a : Addr} {L : List (Addr × List Int)} {es : Array (Int × Value)} {ep : Nat} {t : SetTable} (R : SetTR P w s.heap a L es ep t) {x : Addr} {k : List Int} (hx : IsT P w s.heap k x) (room : A.units < cLine) (few : k ∉ L.map (·.2) → L.length + 1 < 64)
    {Q : Bool → Shared → Prop} (key : ∀ b h1 L1 es1 ep1 t1, Heap.SameBut a s.heap h1 → SetTR P w h1 a L1 es1 ep1 t1 → (k ∈ L.map (·.2) → L1 = L) → (k ∉ L.map (·.2) → L1.Perm ((x, k) :: L)) → Q b { s with heap := h1 }) :
    wpAny (model P w) A (setAddHashed a (.ref x) (thash P w k)) Q E s := by
  rcases Classical.em (k ∈ L.map (·.2)) with there | new
  · obtain ⟨o, at_, _, dat⟩ := R.ob
    unfold setAddHashed
    refine wpAny_holding (show wpAny _ _ (setAddHashedIn a (.ref x) _ (99999 + 1)) _ _ _ from ?_)
    rw [setAddHashedIn_succ]
    refine wpAny_bind (wpAny_setState_of at_ dat R.fits (show wpAny _ _ _ _ _ _ from ?_))
    refine wp_if_neg (show ¬ _ from by simp [byScan, Value.scannable]) ?_
    try refine wpAny_bind (wpAny_pure (show wpAny _ _ _ _ _ _ from ?_))
    refine wpAny_bind (search_at R hx room (fun _ => (show wpAny _ _ _ _ _ _ from ?_)) fun _ no _ _ => absurd there no)
    exact wpAny_pure (key false _ _ _ _ _ (Heap.SameBut.refl _ _) R (fun _ => rfl) fun no => absurd there no)
  · exact add_at R hx room (few new) key
theorem update_rows {I S : Addr} {fp wr : List Addr} {G : Array GenState → Array GenState → Prop} {n : Nat} {Pv : Nat → Value → Prop} {St : Nat → Shared → Prop} {R : Result → Shared → Prop} (W : WalksS P w A.in1 I fp wr G n Pv St) (apart : S ∉ fp)
    {ks : List (Addr × List Int)} (en : n = ks.length) (few : Few ks) (val : ∀ i v, Pv i v → ∃ p, ks[i]? = some p ∧ v = .ref p.1) {g : Heap} (rows : ∀ p ∈ ks, IsT P w g p.2 p.1) (gS : g.get? S = none) (gw : ∀ b ∈ wr, g.get? b = none) (room : A.in1.units < cLine)
    (stop : ∀ s1 L es ep t, Moved (S :: wr) G s s1 → SetTR P w s1.heap S L es ep t → Got ks n L → (∀ b o, g.get? b = some o → s1.heap.get? b = some o) → R (.ok (.ret .none)) s1) :
    ∀ (m i : Nat) (s2 : Shared), n - i = m → i ≤ n → St i s2 → (∀ b o, g.get? b = some o → s2.heap.get? b = some o) → (∃ L es ep t, SetTR P w s2.heap S L es ep t ∧ Got ks i L) → (∀ s3, Moved (S :: wr) G s2 s3 → Moved (S :: wr) G s s3) →
      codeAny (model P w) A (.builtin "set.update.loop" ⟨[.ref S, .ref I], []⟩) R s2 := by
  have sw : S ∉ wr := fun z => apart (W.sub _ z)
  have wide : ∀ b ∈ wr, b ∈ S :: wr := fun b z => List.mem_cons_of_mem _ z
  have stay : ∀ {x y : Shared}, Moved wr G x y → (∀ b o, g.get? b = some o → x.heap.get? b = some o) → ∀ b o, g.get? b = some o → y.heap.get? b = some o := fun mv k b o e =>
    mv.heap b o (fun z => absurd ((gw b z).symm.trans e) (by simp)) (k b o e)
  intro m
  induction m with
  | zero =>
    intro i s2 em hi st k ⟨L, es, ep, t, hR, got⟩ way
    obtain rfl : i = n := by omega
    refine codeAny_builtin F.entry_set_update_loop (show wpAny _ _ _ _ _ _ from ?_)
    rw [Around.under_plainId F.plain_set_update_loop _]
    refine wpAny_bind (show wpAny _ A.in1 (pyNext (.ref I)) _ _ _ from W.done s2 _ _ st fun s3 mv => wpAny_pure (stop s3 L es ep t (way s3 (mv.mono wide)) ?_ got (stay mv k)))
    exact hR.keep (fun o e => mv.heap S o sw e) fun p z => isT_keep (rows p (List.mem_of_mem_take (got.sub p z))) (stay mv k)
  | succ m ih =>
    intro i s2 em hi st k ⟨L, es, ep, t, hR, got⟩ way
    have lt : i < n := by omega
    refine codeAny_builtin F.entry_set_update_loop (show wpAny _ _ _ _ _ _ from ?_)
    rw [Around.under_plainId F.plain_set_update_loop _]
    refine wpAny_bind (show wpAny _ A.in1 (pyNext (.ref I)) _ _ _ from W.item i s2 _ _ lt st fun v s3 pv st3 mv => ?_)
    obtain ⟨p, hp, rfl⟩ := val i v pv
    have k3 := stay mv k
    have inside : ∀ q ∈ L, q ∈ ks := fun q z => List.mem_of_mem_take (got.sub q z)
    have R3 : SetTR P w s3.heap S L es ep t := hR.keep (fun o e => mv.heap S o sw e) fun q z => isT_keep (rows q (inside q z)) k3
    have row : IsT P w s3.heap p.2 p.1 := isT_keep (rows p (List.mem_of_getElem? hp)) k3
    refine wpAny_bind (wpAny_holding (show wpAny _ A.in1 (setAdd S (.ref p.1)) _ _ _ from ?_))
    unfold setAdd
    refine wpAny_holding (wpAny_bind (wpAny_pyHash_tuple room row (show wpAny _ _ (setAddHashed S (.ref p.1) (thash P w p.2)) _ _ _ from ?_)))
    refine put_row (s := { s3 with toks := s3.toks + (p.2.length + 1) }) R3 row room (fun no => ?_) fun b h1 L1 es1 ep1 t1 but R1 same more => ?_
    · exact few (p :: L) (by rw [List.map_cons]; exact List.nodup_cons.mpr ⟨no, hR.nd⟩) fun q z => (List.mem_cons.mp z).elim (fun e => e ▸ List.mem_of_getElem? hp) (inside q)
    · have got1 : Got ks (i + 1) L1 := (Classical.em (p.2 ∈ L.map (·.2))).elim (fun y => by rw [same y]; exact got.same hp y) fun y => got.more hp (more y)
      have k4 : ∀ b o, g.get? b = some o → h1.get? b = some o := fun b o e => (but.2 b (fun z => absurd (gS.symm.trans (z ▸ e)) (by simp))).trans (k3 b o e)
      refine wpAny_pure ⟨plainId_quiet F.plain_set_update_loop _, ih (i + 1) _ (by omega) lt (W.frame _ s3 _ _ st3 (Nat.le_add_right _ _) fun b z o e => ?_) k4 ⟨L1, es1, ep1, t1, R1, got1⟩ fun s5 mv5 => way s5 ?_⟩
      · exact (but.2 b fun z2 => apart (z2 ▸ z)).trans e
      · exact Moved.trans W.gtrans ((mv.mono wide).then_heap (Nat.le_add_right _ _) fun b o z e => (but.2 b fun z2 => z (z2 ▸ List.mem_cons_self)).trans e) mv5
theorem set_of_rows {l : Addr} {its : Array Value} (ks : List (Addr × List Int)) {Q : Value → Shared → Prop} (calm : A.handled = none) (hl : s.heap.IsList l its) (hit : its.toList = ks.map fun p => Value.ref p.1) (rows : ∀ p ∈ ks, IsT P w s.heap p.2 p.1) (few : Few ks) (room : A.units + 3 < cLine)
    (h : ∀ (h' : Heap) (tk : Nat) L es ep t, SetTR P w h' s.heap.objs.size L es ep t → Got ks ks.length L → (∀ b o, s.heap.get? b = some o → h'.get? b = some o) →
      Q (.ref s.heap.objs.size) { s with heap := h', toks := tk }) :
    wpAny (model P w) A (call (.type "set") [.ref l]) Q E s := by
  have lens : its.size = ks.length := (Array.length_toList (xs := its)).symm.trans (by rw [hit, List.length_map])
  have k0 := F.called_set.mro
  obtain ⟨mc, mtl, k0⟩ := k0
  have k1 := F.called_set.made
  have k2 := F.called_set.sub
  have k3 := F.called_set.notType
  have k4 := F.called_set.canCreate
  have k5 := F.typeCall_set_1 (.ref l)
  refine wpAny_call (codeAny_of_tree (show wpAny _ _ (callAny (.type "set") _) _ _ _ from ?_))
  refine wpAny_pure (And.intro (Code.quiet_builtin _ (by decide +kernel)) (codeAny_builtin F.entry_type_call ?_))
  rw [Around.under_plain (weight_type_call_type "set" [Value.ref l] []) rfl]
  repeat any_goals (first | assumption | wp_step)
  refine codeAny_mono (code_set_led1 (.ref l) (E := E)
    (Q₁ := fun obj s₁ => obj = .ref s.heap.objs.size ∧ s₁ = { s with heap := s.heap.push (newSetO w) }) (And.intro rfl rfl)) fun r s₁ hr => ?_
  cases r with
  | error e => exact hr
  | ok fl =>
    cases fl with
    | ret obj =>
      obtain ⟨eo, es⟩ := hr
      subst eo es
      have atS : (s.heap.push (newSetO w)).get? s.heap.objs.size = some (newSetO w) := Heap.get?_push_size _ rfl
      have isT : Shared.TypeIs { s with heap := s.heap.push (newSetO w) } (.ref s.heap.objs.size) "set" := ⟨_, atS, rfl⟩
      have j1 := F.called_set.init.lookup
      have j2 := F.called_set.init.bind (Value.ref s.heap.objs.size)
      repeat any_goals (first | assumption | wp_step)
      refine codeAny_mono (codeAny_call_builtin
        (R := wants (fun r s₂ => r = .none ∧ ∃ h' tk L es ep t, s₂ = { s with heap := h', toks := tk } ∧ SetTR P w h' s.heap.objs.size L es ep t ∧ Got ks ks.length L ∧ ∀ b o, s.heap.get? b = some o → h'.get? b = some o) E)
        F.called_set.init.plain F.entry_set_init (check_set_init_1 isT ?_)) fun r₂ s₂ hr₂ => ?_
      · obtain ⟨ol, atL, e1, nl, e2⟩ := hl
        obtain ⟨lc, ld, ldt, lsl⟩ := ol
        dsimp only at e1 e2
        subst e1 e2
        have atL1 : (s.heap.push (newSetO w)).get? l = some { cls := .type "list", dict := ld, data := .seq its nl, slots := lsl } := Heap.get?_push_of_some _ atL
        have n1 := F.sub_list_set
        have n2 := F.sub_list_frozenset
        have n3 : (Value.type "list" == Value.type "dict") = false := by decide
        have isL1 : (s.heap.push (newSetO w)).IsList l its := ⟨_, atL1, rfl, nl, rfl⟩
        unfold Builtin.«set.__init__» noKeywords Builtin.Frozenset.updateFrom
        generalize ePI : pyIter = PI
        wp_walk
        subst ePI
        refine wpAny_pyIter_list isL1 (wpAny_bind (wpAny_runValue ?_))
        have ltL : l < s.heap.objs.size := Heap.lt_size atL
        have sz : (s.heap.push (newSetO w)).objs.size = s.heap.objs.size + 1 := Heap.size_push ..
        have calm3 : A.in1.in1.in1.handled = none := calm
        have apart : s.heap.objs.size ∉ [(s.heap.push (newSetO w)).objs.size, l] := fun z => by
          rw [sz] at z
          rcases List.mem_cons.mp z with z | z
          · exact absurd z (Nat.ne_of_lt (Nat.lt_succ_self _))
          · exact absurd (List.mem_singleton.mp z) (Nat.ne_of_gt ltL)
        have notI : l ≠ (s.heap.push (newSetO w)).objs.size := by
          rw [sz]
          exact Nat.ne_of_lt (Nat.lt_succ_of_lt ltL)
        have free : ∀ b, s.heap.objs.size ≤ b → s.heap.get? b = none := fun b hb => by
          cases q : s.heap.get? b with
          | none => rfl
          | some o => exact absurd (Nat.lt_of_lt_of_le (Heap.lt_size q) hb) (Nat.lt_irrefl _)
        refine update_rows (g := s.heap) ((Walks.list calm3 _ l notI its).toS) apart lens few (fun i v hv => ?val) rows (free _ (Nat.le_refl _)) (fun b hb => ?out) room ?stop (its.size - 0) 0 _ (by omega) (Nat.zero_le _)
          ⟨⟨_, Heap.get?_push_size _ rfl, rfl, rfl⟩, isL1.push _⟩ (fun b o e => Heap.get?_push_of_some _ (Heap.get?_push_of_some _ e)) ⟨[], #[], 0, _, setTR_fresh (Heap.get?_push_of_some _ atS), Got.zero ks⟩ (fun _ z => z)
        case val =>
          have q : its.toList[i]? = some v := (Array.getElem?_toList (xs := its)).trans hv
          rw [hit, List.getElem?_map] at q
          obtain ⟨p, e1, e2⟩ := Option.map_eq_some_iff.mp q
          exact ⟨p, e1, e2.symm⟩
        case out =>
          rw [List.mem_singleton.mp hb, sz]
          exact free _ (Nat.le_succ _)
        case stop =>
          intro s' L es ep t hm hS' got k
          obtain ⟨h2, g2, d2, t2, o2⟩ := s'
          obtain rfl : g2 = s.gens := hm.gens
          obtain rfl : d2 = s.drawn := hm.drawn
          obtain rfl : o2 = s.os := hm.os
          refine wpAny_pure (show wpAny _ _ (ret Value.none) _ _ _ from wpAny_pure ⟨rfl, h2, t2, L, es, ep, t, rfl, hS', lens ▸ got, k⟩)
      · cases r₂ with
        | error e => exact hr₂
        | ok f2 =>
          cases f2 with
          | ret u =>
            obtain ⟨rfl, h', tk, L, es, ep, t, rfl, a1, a2, a3⟩ := hr₂
            repeat any_goals (first | assumption | wp_step)
            exact h h' tk L es ep t a1 a2 a3
          | next => exact hr₂.elim
          | brk => exact hr₂.elim
          | cont => exact hr₂.elim
    | next => exact hr.elim
    | brk => exact hr.elim
    | cont => exact hr.elim
end
/-! ### rows of whole numbers as such tuples -/
def toI (p : Addr × List Nat) : Addr × List Int := (p.1, p.2.map fun n : Nat => (n : Int))
theorem toI_row (r : List Nat) : (r.map fun n : Nat => (n : Int)).map V.int = r.map iV := by rw [List.map_map]; rfl
theorem ofNat_inj {a b : List Nat} (h : (a.map fun n : Nat => (n : Int)) = b.map fun n : Nat => (n : Int)) : a = b := by
  have e : ∀ r : List Nat, (r.map fun n : Nat => (n : Int)).map Int.toNat = r := fun r => by
    rw [List.map_map]
    exact (List.map_congr_left fun x _ => Int.toNat_natCast x).trans (List.map_id' r)
  rw [← e a, h, e b]
theorem back_of {qs : List (Addr × List Nat)} : ∀ L : List (Addr × List Int), (∀ p ∈ L, p ∈ qs.map toI) → ∃ ps : List (Addr × List Nat), L = ps.map toI ∧ ∀ p ∈ ps, p ∈ qs
  | [], _ => ⟨[], rfl, fun _ h => nomatch h⟩
  | x :: L, h => by
    obtain ⟨ps, e, hs⟩ := back_of L fun p hp => h p (List.mem_cons_of_mem _ hp)
    obtain ⟨q, hq, rfl⟩ := List.mem_map.mp (h x List.mem_cons_self)
    refine ⟨q :: ps, by rw [e]; rfl, fun p hp => ?_⟩
    rcases List.mem_cons.mp hp with rfl | hp
    · exact hq
    · exact hs p hp
/-- fewer than 64 rows differ -/
def FewN (qs : List (Addr × List Nat)) : Prop := ∀ rs : List (List Nat), rs.Nodup → (∀ r ∈ rs, r ∈ qs.map (·.2)) → rs.length < 64
theorem FewN.few {qs : List (Addr × List Nat)} (h : FewN qs) : Few (qs.map toI) := fun L nd hs => by
  obtain ⟨ps, rfl, hp⟩ := back_of L hs
  have e : (ps.map toI).map (·.2) = (ps.map (·.2)).map fun r : List Nat => r.map fun n : Nat => (n : Int) := by rw [List.map_map, List.map_map]; rfl
  rw [e] at nd
  have := h (ps.map (·.2)) (nodup_of_map nd) fun r hr => by
    obtain ⟨p, z, rfl⟩ := List.mem_map.mp hr
    exact List.mem_map_of_mem (hp p z)
  rw [List.length_map] at this ⊢
  exact this
def rSetR (K : PySem.W.Frag) (P : Program) (w : World) : List V → Hp → VK → Prop := fun xs H Q => ∃ (l : Addr) (qs : List (Addr × List Nat)), xs = [.ref l] ∧ SqL K H l (refsV qs) ∧ (∀ p ∈ qs, SqT K H p.1 (p.2.map iV)) ∧ FewN qs ∧
  ∀ (a : Addr) (ps : List (Addr × List Nat)), H a = none → (∀ p ∈ ps, p ∈ qs) → (∀ q ∈ qs, q.2 ∈ ps.map (·.2)) → (ps.map (·.2)).Nodup → Q (.ref a) (upd H a (SetTO P w a (ps.map toI)))
theorem cr_setR {X : Cx} {K : PySem.W.Frag} {P : Program} {w : World} (hK : X.K = K) (hP : X.prog = P) (hw : X.w = w) (hc : X.calm = true) (room : X.A.units + 64 < cLine) : CallR X (.type "set") (rSetR K P w) := by
  subst hK hP hw
  rintro pins s σ H xs us Q I rs ⟨l, qs, rfl, hl, hrow, few, key⟩
  rw [Vals.ref1 rs]
  obtain ⟨its, rv, pl, hz⟩ := I.list hl
  obtain rfl := refs_eq qs its rv
  refine set_of_rows (P := X.prog) (w := X.w) (qs.map toI) (I.ok.hd hc) pl.isList (by rw [List.map_map]; simp [refsU, toI]) (fun p hp => ?_) few.few (by omega) fun h' tk L es ep t R got k => ?_
  · obtain ⟨q, hq, rfl⟩ := List.mem_map.mp hp
    exact I.isT (by rw [show (toI q).2.map V.int = q.2.map iV from toI_row q.2]; exact hrow q hq)
  · obtain ⟨ps, rfl, hs⟩ := back_of (qs := qs) L fun p hp => List.mem_of_mem_take (got.sub p hp)
    refine ⟨.ref s.heap.objs.size, _, I.laid (t' := tk) k (Nat.le_refl _) (setTO_new R.t0), rfl, key _ ps (I.hok.fresh (Nat.le_refl _)) hs (fun q hq => ?_) ?_⟩
    · have := got.all (toI q) (by rw [List.take_length]; exact List.mem_map_of_mem hq)
      rw [List.map_map] at this
      obtain ⟨p, hp, e⟩ := List.mem_map.mp this
      exact List.mem_map.mpr ⟨p, hp, ofNat_inj e⟩
    · have nd := R.nd
      rw [List.map_map] at nd
      refine nodup_of_map (f := fun r : List Nat => r.map fun n : Nat => (n : Int)) ?_
      rw [List.map_map]
      exact nd
/-! ### sorted(s), s such a set: rows of any lengths -/
def rSortSR (K : PySem.W.Frag) (P : Program) (w : World) : List V → Hp → VK → Prop := fun vs H Q => ∃ (a : Addr) (ps : List (Addr × List Nat)), vs = [.ref a] ∧ H a = some (SetTO P w a (ps.map toI)) ∧ (∀ p ∈ ps, SqT K H p.1 (p.2.map iV) ∧ p.2 ≠ []) ∧
  ∀ (zs : List (Addr × List Nat)) (p : Addr), zs.Perm ps → sortedR zs → H p = none → Q (.ref p) (upd H p (.lst (refsV zs)))
theorem cr_sortSR {X : Cx} {K : PySem.W.Frag} {P : Program} {w : World} (hK : X.K = K) (hP : X.prog = P) (hw : X.w = w) (hc : X.calm = true) : CallR X (.builtin "sorted") (rSortSR K P w) := by
  subst hK hP hw
  rintro pins s σ H vs us Q I rs ⟨a, ps, rfl, hS, hall, key⟩
  have R0 : SetT0 X.prog X.w s.heap a (ps.map toI) := (I.hok a _ hS).1
  obtain ⟨es, ep, t, R⟩ := R0.full fun p hp => by
    obtain ⟨q, hq, rfl⟩ := List.mem_map.mp hp
    exact I.isT (by rw [show (toI q).2.map V.int = q.2.map iV from toI_row q.2]; exact (hall q hq).1)
  obtain ⟨o, at_, ex, dat⟩ := R.ob
  have size := R.size
  have few := R.few
  rw [List.length_map] at size few
  rw [Vals.ref1 rs]
  refine Calls.call_function_entry kind_sorted plain_sorted entry_sorted (args_sorted1 _) (show wpAny _ _ _ _ _ _ from ?_)
  unfold Builtin.«sorted»
  refine wpAny_bind (show wpAny _ _ (checkCount "sorted" 1 1 _) _ _ _ from wpAny_pure (show wpAny _ _ _ _ _ _ from ?_))
  refine wpAny_bind (collect_set (A := X.A.in1) (I.ok.hd hc) ⟨o, at_, ex.1, dat⟩ R.fits (by rw [size]; unfold scanBound; omega) R.tab.ris R.led fun s1 us1 k1 z1 g1 o1 pm => ?_)
  have ees : es.toList.map (·.2) = refsU ps := by
    rw [R.rows]
    simp [rowsOf, refsU, toI]
  rw [ees] at pm
  obtain ⟨qs, pq, eq⟩ := perm_lift (fun p : Addr × List Nat => Value.ref p.1) pm ps rfl
  obtain rfl : us1 = refsU qs := eq.symm
  have lq : (refsU qs).length = ps.length := by rw [show (refsU qs).length = qs.length from List.length_map _, pq.length_eq]
  have zl : (sizeLine : Nat) = 16777216 := by decide
  refine wpAny_bind (wpAny_newList (show wpAny _ _ _ _ _ _ from ?_) (by omega))
  have hl : (s1.heap.push (seqObj "list" (refsU qs).toArray 0)).get? s1.heap.objs.size = some (seqObj "list" (refsU qs).toArray 0) := Heap.get?_push_size _ rfl
  have hrow : ∀ p ∈ qs, RowAt (s1.heap.push (seqObj "list" (refsU qs).toArray 0)) p.1 p.2 := fun p hp => by
    have hp := pq.mem_iff.mp hp
    obtain ⟨js, jv, jt, _⟩ := I.tuple (hall p hp).1
    exact RowAt.keep (h := s.heap) ⟨(hall p hp).2, js, jv, jt⟩ fun b u e => Heap.get?_push_of_some _ (k1 b u e)
  obtain ⟨fs, hfs⟩ := tups_of qs hrow
  refine wpAny_bind (wpAny_holding (wpAny_call_entry slot_list_sort ⟨_, hl, rfl⟩ entry_list_sort (PyProof.Rows.G.list_sort_tups (s := { s1 with heap := s1.heap.push (seqObj "list" (refsU qs).toArray 0) }) hl hfs (keys_of hrow) (by omega) fun st p1 p2 _ => ⟨_, rfl, ?_⟩) (args_list_sort _)))
  obtain ⟨zs, g4, g5, g6⟩ := out_rows hrow p1 p2
  obtain ⟨c, hat⟩ := sortedHeap_at (vs := refsU qs) (out := (arrOf st).map (·.2)) hl
  obtain ⟨h1, n1, d1, tk1, os1⟩ := s1
  obtain rfl : n1 = s.gens := g1
  obtain rfl : os1 = s.os := o1
  have keep : ∀ b u, s.heap.get? b = some u → (sortedHeap (h1.push (seqObj "list" (refsU qs).toArray 0)) h1.objs.size (refsU qs) ((arrOf st).map (·.2))).get? b = some u := fun b u e => by
    have e1 := k1 b u e
    have lt := Heap.lt_size e1
    rw [sortedHeap_old (Nat.ne_of_lt lt) (by rw [size_push']; exact Nat.lt_succ_of_lt lt)]
    exact Heap.get?_push_of_some _ e1
  have free : H h1.objs.size = none := I.hok.fresh z1
  have lz : (refsV zs).length ≤ sizeLine := by
    rw [show (refsV zs).length = zs.length from List.length_map _, g4.length_eq, pq.length_eq]
    omega
  have vz : Vals (refsV zs) ((arrOf st).map (·.2)).toList := by
    rw [g5]
    exact refs_vals zs
  have new : ObjOk X.prog X.w (upd H h1.objs.size (.lst (refsV zs))) (sortedHeap (h1.push (seqObj "list" (refsU qs).toArray 0)) h1.objs.size (refsU qs) ((arrOf st).map (·.2))) h1.objs.size (.lst (refsV zs)) := ⟨lz, _, c, vz, hat⟩
  have J := I.call (ch := []) (d' := d1) (t' := tk1) (Un.laid keep z1 free) (I.hok.laid keep z1 new) I.bare (fun _ z => nomatch z)
  exact wpAny_pure ⟨_, rfl, .ref h1.objs.size, _, J, rfl, key zs _ (g4.trans pq) g6 free⟩
end G
set_option Elab.async false
set_option linter.all false
set_option maxRecDepth 100000
set_option maxHeartbeats 4000000
namespace G
open PySem PySem.Spec PyProof.Rows L2
theorem cr_allK {X : Cx} {K : PySem.W.Frag} (h : X.K = K) (hc : X.calm = true) : CallR X (.builtin "all") (rAll K) := h ▸ cr_all hc
/-! ### {e for x in ..}, e a row of whole numbers; fewer than 64 of them differ -/
/-- a turn's end: the row y goes into the set at D -/
def putRw (K : PySem.W.Frag) (P : Program) (w : World) (D : Addr) (R : Hp → Prop) : VK := fun y H => ∃ (b : Addr) (r : List Nat) (ps : List (Addr × List Nat)),
  y = .ref b ∧ SqT K H b (r.map iV) ∧ H D = some (SetTO P w D (ps.map toI)) ∧ (∀ p ∈ ps, SqT K H p.1 (p.2.map iV)) ∧ (r ∉ ps.map (·.2) → ps.length + 1 < 64) ∧
  ∀ ps' : List (Addr × List Nat), ((r ∈ ps.map (·.2) ∧ ps' = ps) ∨ (r ∉ ps.map (·.2) ∧ ps'.Perm ((b, r) :: ps))) → R (upd H D (SetTO P w D (ps'.map toI)))
def turnR (K : PySem.W.Frag) (P : Program) (w : World) (D : Addr) (vs : List Nat) (σ : L2.St) (g : TG) (tt : TT) (te : TE) (x : V) (H : Hp) (R : Hp → Prop) : Prop :=
  g x (wipe σ vs) H fun σ2 H2 => wipe σ2 vs = wipe σ vs ∧ tt σ2 H2 fun b H3 => if b = true then te σ2 H3 (putRw K P w D R) else R H3
def tScR (K : PySem.W.Frag) (P : Program) (w : World) (wi : TI) (g : TG) (tt : TT) (te : TE) (vs : List Nat) : TE := fun σ H Q => wi σ H fun J H1 => ∀ D, H1 D = none →
  ∃ W : Nat → Nat → Hp → Prop, (∃ m, W 0 m (upd H1 D (SetTO P w D []))) ∧ ∀ i m H, W i m H →
    (J.stop i H ∧ Q (.ref D) H) ∨ (J.go i H ∧ ∃ R : Hp → Prop, (∀ H', R H' → ∃ m', m' < m ∧ W (i + 1) m' H') ∧ ∀ x H', J.yld i H x H' → turnR K P w D vs σ g tt te x H' R)
section
variable {X : Cx}
theorem add_row {pins : List (Addr × Obj)} {σ : L2.St} {H : Hp} {s : Shared} {E : Value → Shared → Prop} {D : Addr} {v : Value} {y : V} {R : Hp → Prop} (un : X.A.units + 64 < cLine)
    (I : Inv X pins σ H s) (r : RelV y v) (h : putRw X.K X.prog X.w D R y H) :
    wpAny (model X.prog X.w) X.A (call (.builtin "set.add") [.ref D, v]) (fun _ s' => ∃ H', Inv X pins σ H' s' ∧ R H') E s := by
  obtain ⟨b, r0, ps, rfl, hb, hD, hall, few, q⟩ := h
  cases r
  have R0 : SetT0 X.prog X.w s.heap D (ps.map toI) := (I.hok D _ hD).1
  obtain ⟨es, ep, t, R⟩ := R0.full fun p hp => by
    obtain ⟨q, hq, rfl⟩ := List.mem_map.mp hp
    exact I.isT (by rw [show (toI q).2.map V.int = q.2.map iV from toI_row q.2]; exact hall q hq)
  have row : IsT X.prog X.w s.heap (toI (b, r0)).2 b := I.isT (by rw [show (toI (b, r0)).2.map V.int = r0.map iV from toI_row r0]; exact hb)
  obtain ⟨o, at_, ex, dat⟩ := R.ob
  have hT : Shared.TypeIs s (.ref D) "set" := ⟨o, at_, ex.1⟩
  have e0 : (ps.map toI).map (·.2) = (ps.map (·.2)).map fun r : List Nat => r.map fun n : Nat => (n : Int) := by rw [List.map_map, List.map_map]; rfl
  have hin : (toI (b, r0)).2 ∈ (ps.map toI).map (·.2) ↔ r0 ∈ ps.map (·.2) := by
    rw [e0]
    exact ⟨fun z => by
      obtain ⟨x, hx, e⟩ := List.mem_map.mp z
      have e2 : x = r0 := ofNat_inj e
      rw [← e2]
      exact hx, fun z => List.mem_map_of_mem z⟩
  refine wpAny_call_entry F.slot_set_add hT F.entry_set_add ?_ (F.args_set_add_2 _ _)
  unfold Builtin.«set.add» Builtin.Frozenset.oneOther
  simp only [List.isEmpty_nil, bind_assoc]
  unfold Builtin.Frozenset.addrOf setAdd
  refine wpAny_bind (wpAny_pure ?_)
  try dsimp only
  refine wpAny_bind (wpAny_pure ?_)
  try dsimp only
  refine wpAny_bind ?_
  refine wpAny_holding ?_
  have room : X.A.in1.units < cLine := by
    show X.A.units + 1 < cLine
    omega
  refine wpAny_bind (wpAny_pyHash_tuple room row (show wpAny _ _ (setAddHashed D (.ref b) (thash X.prog X.w (toI (b, r0)).2)) _ _ _ from ?_))
  refine put_row (s := { s with toks := s.toks + ((toI (b, r0)).2.length + 1) }) R row room (fun no => ?_) fun bb h1 L1 es1 ep1 t1 but R1 same more => ?_
  · rw [List.length_map]
    exact few fun z => no (hin.mpr z)
  · obtain ⟨ps1, rfl, hs⟩ : ∃ ps1 : List (Addr × List Nat), L1 = ps1.map toI ∧ ((r0 ∈ ps.map (·.2) ∧ ps1 = ps) ∨ (r0 ∉ ps.map (·.2) ∧ ps1.Perm ((b, r0) :: ps))) := by
      rcases Classical.em (r0 ∈ ps.map (·.2)) with z | z
      · exact ⟨ps, same (hin.mpr z), .inl ⟨z, rfl⟩⟩
      · have pm := more fun y => z (hin.mp y)
        obtain ⟨qs, pq, eq⟩ := perm_lift toI pm ((b, r0) :: ps) rfl
        exact ⟨qs, eq.symm, .inr ⟨z, pq⟩⟩
    show wpAny _ _ (ret Value.none) _ _ _
    refine wpAny_pure ⟨_, rfl, upd H D (SetTO X.prog X.w D (ps1.map toI)), I.write (e := D) (t' := s.toks + ((toI (b, r0)).2.length + 1)) ?_ (.inl rfl) (fun c u hc hu => (but.2 c hc).trans hu) ?_ (setTO_new R1.t0), q ps1 hs⟩
    · rw [hD]
      trivial
    · obtain ⟨o, ho, _⟩ := R1.ob
      exact ⟨o, ho⟩
theorem scR_core {pins : List (Addr × Obj)} {s : Shared} {σ : L2.St} {H : Hp} {Q : VK} {elt tg iter : Expr} {ifs : List Expr} {scope : Scope} {own : List (PySem.Str × Nat)} {pos pos' : Pos} {wi : TI} {g : TG} {tt : TT} {te : TE} {use : Option (Value → Sem Unit)} {Qf : Value → Shared → Prop}
    (un : X.A.units + 64 < cLine) (calm : X.calm = true) (nd : X.N.Nodup) (I : Inv X pins σ H s) (hi : PI X tg iter wi) (ok : BlkOk X.N X.env.scope scope own)
    (hg : ∀ (s : Shared) (H : Hp) (C : Addr) (cl : List (PySem.Str × Addr)) (fp : List Addr), PG (X.blk s H scope (compEnvC scope cl C X.env) fp) tg g)
    (ht : ∀ (s : Shared) (H : Hp) (C : Addr) (cl : List (PySem.Str × Addr)) (fp : List Addr), PTs (X.blk s H scope (compEnvC scope cl C X.env) fp) ifs tt)
    (he : ∀ (s : Shared) (H : Hp) (C : Addr) (cl : List (PySem.Str × Addr)) (fp : List Addr), PE (X.blk s H scope (compEnvC scope cl C X.env) fp) elt te)
    (plain : ∀ x, foldedSetIterable iter X.env x = pure x) (h : tScR X.K X.prog X.w wi g tt te (own.map (·.2)) σ H Q)
    (back : ∀ D C s' m H', Inv X pins σ H' s' → Q (.ref D) H' → s'.heap.Ns C m → FpOk X pins H' C → compPost (model X.prog X.w) X.A X.xe use Qf (.ref D) C (.ok .next) s') :
    wpAny (model X.prog X.w) X.A (comprehension (.SetComp elt [⟨tg, iter, ifs, 0⟩] scope pos) scope X.env pos' (newSet (.type "set")) false (eval iter X.env) use) Qf X.xe s := by
  have has : ∀ y ∈ scope.names, y.2 = .free → ∃ c, X.env.cells.lookup y.1 = some c := fun y hy e =>
    (ok.free y hy e).elim (fun k => I.ok.has _ (.inl k)) fun k => I.ok.has _ (.inr k)
  refine wpAny_comprehension_free (use := use) rfl plain (closure_ok has) ok.kind (fun y hy e => by rw [ok.uniq y hy, e]) ?_
  refine thn (hi.run pins s σ H _ I h) fun _ _ hx => thn hx fun _ sa ha => ?_
  obtain ⟨it, fp, at_, J, Ha, rfl, Ia, T, sta, fa, q⟩ := ha
  refine PpSet.newSet_ok (newEnv_comp ?_)
  obtain ⟨D, eD⟩ : ∃ D, sa.heap.objs.size = D := ⟨_, rfl⟩
  rw [eD]
  have freshD : Ha D = none := Ia.hok.fresh (Nat.le_of_eq eD)
  obtain ⟨W, ⟨m0, w0⟩, turn⟩ := q D freshD
  obtain ⟨sb, esb⟩ : ∃ sb : Shared, ({ sa with heap := sa.heap.push { cls := .type "set", dict := none, data := .set #[] 0 (.fresh 0 0 (!X.w.params.followText "set-order")) } } : Shared) = sb := ⟨_, rfl⟩
  have hb : sb.heap = sa.heap.push { cls := .type "set", dict := none, data := .set #[] 0 (.fresh 0 0 (!X.w.params.followText "set-order")) } := by rw [← esb]
  have Ib : Inv X pins σ (upd Ha D (SetTO X.prog X.w D [])) sb := by
    subst esb eD
    exact Ia.laid (t' := sa.toks) (fun _ _ e => Heap.get?_push_of_some _ e) (Nat.le_refl _) (setTO_new (setTR_fresh (Heap.get?_push_size _ rfl)).t0)
  obtain ⟨Hb, eHb⟩ : ∃ Hb, upd Ha D (SetTO X.prog X.w D []) = Hb := ⟨_, rfl⟩
  have fb : ∀ b ∈ fp, FpOk X pins Hb b ∧ b < sb.heap.objs.size := fun b hm => by
    obtain ⟨o, e, _⟩ := T.obj _ _ sta b hm
    have lt := Heap.lt_size e
    refine ⟨⟨?_, (fa b hm).2⟩, ?_⟩
    · rw [← eHb, upd_ne (by rw [← eD]; exact Nat.ne_of_lt lt)]
      exact (fa b hm).1
    · rw [hb, Heap.size_push]
      exact Nat.lt_succ_of_lt lt
  have stb : at_ 0 sb.heap := T.keep _ _ _ sta fun b _ o e => by
    rw [hb]
    exact Heap.get?_push_of_some _ e
  rw [eHb] at Ib w0
  have Ic := block_start Ib ok nd fb
  obtain ⟨C, eC⟩ : ∃ C, sb.heap.objs.size = C := ⟨_, rfl⟩
  have pg := hg sb Hb C (cellsFrom (C + 1) scope.names (cloFrom X.env.cells scope.names [])) fp
  have pt := ht sb Hb C (cellsFrom (C + 1) scope.names (cloFrom X.env.cells scope.names [])) fp
  have pe := he sb Hb C (cellsFrom (C + 1) scope.names (cloFrom X.env.cells scope.names [])) fp
  rw [eC] at Ic
  rw [esb, eC]
  show codeAny _ _ (.compStart (.SetComp elt [⟨tg, iter, ifs, 0⟩] scope pos) 0 (.ref it) (.ref D) (compEnvC scope (cellsFrom (C + 1) scope.names (cloFrom X.env.cells scope.names [])) C X.env))
    (compPost (model X.prog X.w) X.A X.xe use Qf (.ref D) C) { sb with heap := pushCells (sb.heap.push { cls := .type "dict", data := .dict #[] }) scope.names }
  obtain ⟨ce, ece⟩ : ∃ ce, compEnvC scope (cellsFrom (C + 1) scope.names (cloFrom X.env.cells scope.names [])) C X.env = ce := ⟨_, rfl⟩
  rw [ece] at Ic pg pt pe ⊢
  have eL : ce.locals = C := by rw [← ece]; rfl
  obtain ⟨sc, esc⟩ : ∃ sc : Shared, ({ sb with heap := pushCells (sb.heap.push { cls := .type "dict", data := .dict #[] }) scope.names } : Shared) = sc := ⟨_, rfl⟩
  rw [esc] at Ic ⊢
  have stc : at_ 0 sc.heap := T.keep _ _ _ stb fun b _ o e => by
    rw [← esc]
    exact pushCells_keeps _ _ _ _ (Heap.get?_push_of_some _ e)
  have stat : ∀ {τ : L2.St} {G : Hp} {r : Shared}, Inv (X.blk sb Hb scope ce fp) [] τ G r → (∀ b ∈ fp, G b = none) → ∀ b ∈ fp, FpOk (X.blk sb Hb scope ce fp) [] G b :=
    fun {τ G r} J hn b hm => ⟨hn b hm, (J.ok.exf b hm).1, J.ok.exfs b hm, .inl hm, fun x c e => (J.ok.exf b hm).2 x c e, fun p hp => nomatch (show p ∈ ([] : List (Addr × Obj)) ++ [] from hp)⟩
  have loop : codeAny (model X.prog X.w) X.A (.compLoop (.SetComp elt [⟨tg, iter, ifs, 0⟩] scope pos) 0 (.ref it) (.ref D) ce) (compPost (model X.prog X.w) X.A X.xe use Qf (.ref D) C) sc := by
    refine PpSet.compLoopS_any (fun n r => ∃ i G, Inv (X.blk sb Hb scope ce fp) [] (wipe σ (own.map (·.2))) G r ∧ at_ i r.heap ∧ (∀ b ∈ fp, G b = none) ∧ W i n G) ?_ m0
      ⟨0, Hb, Ic, stc, fun b hm => (fb b hm).1.1, w0⟩
    rintro n s5 ⟨i, H5, I5, st5, n5, w5⟩
    rcases turn i n H5 w5 with ⟨stop, fin⟩ | ⟨go, R, hR, step⟩
    · refine thnF (T.done (X.blk sb Hb scope ce fp) rfl rfl rfl calm i [] s5 _ H5 (fun _ _ => False) I5 (stat I5 n5) st5 stop) fun r s6 hr6 => ?_
      obtain ⟨rfl, I6⟩ := hr6
      have I7 : Inv X pins σ H5 s6 := Ib.call' (ch := fp) I6.os I6.base I6.hok I6.bare fun b hm =>
        ⟨(fb b hm).1.2.2.2.1, (fb b hm).1.2.1, (fb b hm).1.2.2.2.2.1, (fb b hm).1.2.2.2.2.2⟩
      have nC : H5 C = none := by
        rw [← eL]
        exact I6.free
      obtain ⟨m, hn, _⟩ := I6.loc
      have hn : s6.heap.Ns ce.locals m := hn
      rw [eL] at hn
      exact back D C s6 m H5 I7 fin hn (Ib.fpOk (Nat.le_of_eq eC) nC)
    · refine thnF (T.item (X.blk sb Hb scope ce fp) rfl rfl rfl calm i [] s5 _ H5 (fun _ _ => False) I5 (stat I5 n5) st5 go) fun r s6 hr6 => ?_
      obtain ⟨u, rfl, h6⟩ := hr6
      refine thnF h6 fun _ s7 h7 => ?_
      obtain ⟨x, H7, I7, r7, y7, st7, n7⟩ := h7
      have P7 := I7.pinned (stat I7 n7) (T.obj _ _ st7)
      refine thnF (pg.run _ s7 _ H7 x u _ P7 r7 (step x H7 y7)) fun _ s8 h8 => ?_
      obtain ⟨σ8, H8, I8, same8, q8⟩ := h8
      have turnEnd : ∀ {r : Shared} {G : Hp}, Inv (X.blk sb Hb scope ce fp) ([] ++ pinsAt fp s7.heap) σ8 G r → R G →
          ∃ m, m < n ∧ ∃ i G, Inv (X.blk sb Hb scope ce fp) [] (wipe σ (own.map (·.2))) G r ∧ at_ i r.heap ∧ (∀ b ∈ fp, G b = none) ∧ W i m G := fun {r G} J rG => by
        obtain ⟨m', lt, w'⟩ := hR G rG
        have pin : ∀ b ∈ fp, ∀ o, s7.heap.get? b = some o → r.heap.get? b = some o ∧ G b = none := fun b hm o e => by
          have z := J.pin (b, o) (List.mem_append_right _ (List.mem_append_right _ (mem_pinsAt hm e)))
          exact ⟨z.1, z.2.1⟩
        have len : (wipe σ (own.map (·.2))).length = σ8.length := by
          rw [← same8]
          exact wipe_length _ _
        refine ⟨m', lt, i + 1, G, (J.unpinned (pins := [])).weak len (fun j v e => ?_), T.keep _ _ _ st7 fun b hm o e => (pin b hm o e).1, fun b hm => ?_, w'⟩
        · rw [← same8] at e
          exact (wipe_some e).1
        · obtain ⟨o, e, _⟩ := T.obj _ _ st7 b hm
          exact (pin b hm o e).2
      refine thnF (pt.run _ s8 σ8 H8 _ I8 q8) fun b s9 h9 => ?_
      obtain ⟨H9, I9, q9⟩ := h9
      cases b with
      | false =>
        rw [if_neg Bool.false_ne_true] at q9
        simp only [Bool.false_eq_true, if_false]
        exact turnEnd I9 q9
      | true =>
        rw [if_pos rfl] at q9
        simp only [if_true]
        refine thnF (pe.run _ s9 σ8 H9 _ I9 q9) fun z s10 h10 => ?_
        obtain ⟨yv, H10, I10, r10, q10⟩ := h10
        refine thnF (add_row (X := X.blk sb Hb scope ce fp) (E := fun _ _ => False) un I10 r10 q10) fun _ s11 h11 => ?_
        obtain ⟨H11, I11, q11⟩ := h11
        exact turnEnd I11 q11
  exact PpSet.codeAny_compStart_set loop (T.self X.A 0 _ _ _ stc loop)
/-- as a value -/
theorem pe_scR {elt tg iter : Expr} {ifs : List Expr} {scope : Scope} {own : List (PySem.Str × Nat)} {pos : Pos} {wi : TI} {g : TG} {tt : TT} {te : TE} (un : X.A.units + 64 < cLine) (calm : X.calm = true) (nd : X.N.Nodup) (hi : PI X tg iter wi) (ok : BlkOk X.N X.env.scope scope own)
    (hg : ∀ (s : Shared) (H : Hp) (C : Addr) (cl : List (PySem.Str × Addr)) (fp : List Addr), PG (X.blk s H scope (compEnvC scope cl C X.env) fp) tg g)
    (ht : ∀ (s : Shared) (H : Hp) (C : Addr) (cl : List (PySem.Str × Addr)) (fp : List Addr), PTs (X.blk s H scope (compEnvC scope cl C X.env) fp) ifs tt)
    (he : ∀ (s : Shared) (H : Hp) (C : Addr) (cl : List (PySem.Str × Addr)) (fp : List Addr), PE (X.blk s H scope (compEnvC scope cl C X.env) fp) elt te)
    (plain : ∀ x, foldedSetIterable iter X.env x = pure x := by intro _; rfl) :
    PE X (.SetComp elt [⟨tg, iter, ifs, 0⟩] scope pos) (tScR X.K X.prog X.w wi g tt te (own.map (·.2))) := by
  refine ⟨fun pins s σ H Q I h => ?_⟩
  rw [PpSet.eval_SetComp]
  refine scR_core un calm nd I hi ok hg ht he plain h fun D C s' m H' J q hn f => ⟨m, hn, fun h'' sbut => ?_⟩
  obtain ⟨f0, f1, _, f3, f4, f5⟩ := f
  exact ⟨.ref D, H', J.turned (t' := s'.toks) (fun b o hb e => (sbut.2 b hb).trans e) f0 f1 f3 f4 f5, rfl, q⟩
end
theorem r_scR {K : PySem.W.Frag} {P : Program} {w : World} {wi : TI} {g : TG} {tt : TT} {te : TE} {vs : List Nat} {σ : L2.St} {H : Hp} {Q : VK} (h : wi σ H fun J H1 => ∀ D, H1 D = none → ∃ W : Nat → Nat → Hp → Prop, (∃ m, W 0 m (upd H1 D (SetTO P w D []))) ∧ ∀ i m H, W i m H →
    (J.stop i H ∧ Q (.ref D) H) ∨ (J.go i H ∧ ∃ R : Hp → Prop, (∀ H', R H' → ∃ m', m' < m ∧ W (i + 1) m' H') ∧ ∀ x H', J.yld i H x H' → turnR K P w D vs σ g tt te x H' R)) : tScR K P w wi g tt te vs σ H Q := h
/-- over a tuple -/
theorem scR_tup {P : Program} {w : World} {K : PySem.W.Frag} {a : Addr} {xs : List V} {g : TG} {tt : TT} {te : TE} {vs : List Nat} {σ : L2.St} {H1 : Hp} {D : Addr} {Qd : Hp → Prop} (Pv : Nat → Hp → Prop) (h0 : Pv 0 (upd H1 D (SetTO P w D [])))
    (hl : ∀ i H, i ≤ xs.length → Pv i H → SqT K H a xs) (hs : ∀ i x H, xs[i]? = some x → Pv i H → turnR K P w D vs σ g tt te x H (Pv (i + 1))) (hd : ∀ H, Pv xs.length H → Qd H) :
    ∃ W : Nat → Nat → Hp → Prop, (∃ m, W 0 m (upd H1 D (SetTO P w D []))) ∧ ∀ i m H, W i m H →
      ((Itt K a).stop i H ∧ Qd H) ∨ ((Itt K a).go i H ∧ ∃ R : Hp → Prop, (∀ H', R H' → ∃ m', m' < m ∧ W (i + 1) m' H') ∧ ∀ x H', (Itt K a).yld i H x H' → turnR K P w D vs σ g tt te x H' R) := by
  refine ⟨fun i m H => m = xs.length - i ∧ i ≤ xs.length ∧ Pv i H, ⟨xs.length, by simp, Nat.zero_le _, h0⟩, ?_⟩
  rintro i m H ⟨rfl, hi, p⟩
  have q := hl i H hi p
  by_cases lt : i < xs.length
  · refine .inr ⟨⟨xs, xs[i], q, by simp [lt]⟩, Pv (i + 1), fun H' p' => ⟨xs.length - (i + 1), by omega, rfl, lt, p'⟩, fun x H' y => ?_⟩
    obtain ⟨rfl, y⟩ := y
    exact hs i x _ (y xs q) p
  · obtain rfl : i = xs.length := by omega
    exact .inl ⟨⟨xs, q, Nat.le_refl _⟩, hd H p⟩
/-- over a list -/
theorem scR_list {P : Program} {w : World} {K : PySem.W.Frag} {a : Addr} {xs : List V} {g : TG} {tt : TT} {te : TE} {vs : List Nat} {σ : L2.St} {H1 : Hp} {D : Addr} {Qd : Hp → Prop} (Pv : Nat → Hp → Prop) (h0 : Pv 0 (upd H1 D (SetTO P w D [])))
    (hl : ∀ i H, i ≤ xs.length → Pv i H → SqL K H a xs) (hs : ∀ i x H, xs[i]? = some x → Pv i H → turnR K P w D vs σ g tt te x H (Pv (i + 1))) (hd : ∀ H, Pv xs.length H → Qd H) :
    ∃ W : Nat → Nat → Hp → Prop, (∃ m, W 0 m (upd H1 D (SetTO P w D []))) ∧ ∀ i m H, W i m H →
      ((Itl K a).stop i H ∧ Qd H) ∨ ((Itl K a).go i H ∧ ∃ R : Hp → Prop, (∀ H', R H' → ∃ m', m' < m ∧ W (i + 1) m' H') ∧ ∀ x H', (Itl K a).yld i H x H' → turnR K P w D vs σ g tt te x H' R) := by
  refine ⟨fun i m H => m = xs.length - i ∧ i ≤ xs.length ∧ Pv i H, ⟨xs.length, by simp, Nat.zero_le _, h0⟩, ?_⟩
  rintro i m H ⟨rfl, hi, p⟩
  have q := hl i H hi p
  by_cases lt : i < xs.length
  · refine .inr ⟨⟨xs, xs[i], q, by simp [lt]⟩, Pv (i + 1), fun H' p' => ⟨xs.length - (i + 1), by omega, rfl, lt, p'⟩, fun x H' y => ?_⟩
    obtain ⟨rfl, y⟩ := y
    exact hs i x _ (y xs q) p
  · obtain rfl : i = xs.length := by omega
    exact .inl ⟨⟨xs, q, Nat.le_refl _⟩, hd H p⟩
end G
set_option Elab.async false
set_option linter.all false
set_option maxRecDepth 100000
set_option maxHeartbeats 4000000
namespace G
open PySem PySem.Spec PyProof.Rows L2
/-! ### {k: v for x in ..}, the keys tuples of any depth -/
/-- a turn's end: the value z goes to the key y in the dict at D -/
def putDc (K : PySem.W.Frag) (P : Program) (w : World) (D : Addr) (R : Hp → Prop) (y z : V) (H : Hp) : Prop := ∃ (b : Addr) (k : NestedKey) (L : NL),
  y = .ref b ∧ H D = some (NDO P w D L) ∧ KeysN K H L ∧ Dn K H (.ref b) k ∧ k.depth ≤ 8 ∧ L.length < sizeLine ∧ R (upd H D (NDO P w D (putNd L k b z)))
def turnDc (K : PySem.W.Frag) (P : Program) (w : World) (D : Addr) (vs : List Nat) (σ : L2.St) (g : TG) (tt : TT) (tk tv : TE) (x : V) (H : Hp) (R : Hp → Prop) : Prop :=
  g x (wipe σ vs) H fun σ2 H2 => wipe σ2 vs = wipe σ vs ∧ tt σ2 H2 fun b H3 => if b = true then tk σ2 H3 fun y H4 => tv σ2 H4 fun z H5 => putDc K P w D R y z H5 else R H3
def tDcN (K : PySem.W.Frag) (P : Program) (w : World) (wi : TI) (g : TG) (tt : TT) (tk tv : TE) (vs : List Nat) : TE := fun σ H Q => wi σ H fun J H1 => ∀ D, H1 D = none →
  ∃ W : Nat → Nat → Hp → Prop, (∃ m, W 0 m (upd H1 D (NDO P w D []))) ∧ ∀ i m H, W i m H →
    (J.stop i H ∧ Q (.ref D) H) ∨ (J.go i H ∧ ∃ R : Hp → Prop, (∀ H', R H' → ∃ m', m' < m ∧ W (i + 1) m' H') ∧ ∀ x H', J.yld i H x H' → turnDc K P w D vs σ g tt tk tv x H' R)
theorem r_dcN {K : PySem.W.Frag} {P : Program} {w : World} {wi : TI} {g : TG} {tt : TT} {tk tv : TE} {vs : List Nat} {σ : L2.St} {H : Hp} {Q : VK} (h : wi σ H fun J H1 => ∀ D, H1 D = none →
  ∃ W : Nat → Nat → Hp → Prop, (∃ m, W 0 m (upd H1 D (NDO P w D []))) ∧ ∀ i m H, W i m H →
    (J.stop i H ∧ Q (.ref D) H) ∨ (J.go i H ∧ ∃ R : Hp → Prop, (∀ H', R H' → ∃ m', m' < m ∧ W (i + 1) m' H') ∧ ∀ x H', J.yld i H x H' → turnDc K P w D vs σ g tt tk tv x H' R)) : tDcN K P w wi g tt tk tv vs σ H Q := h
section
variable {X : Cx}
theorem nd_dictSet {pins : List (Addr × Obj)} {σ : L2.St} {H : Hp} {s : Shared} {E : Value → Shared → Prop} {D : Addr} {u1 u2 : Value} {y z : V} {R : Hp → Prop} {Q : Unit → Shared → Prop} (un : X.A.units + 64 < cLine)
    (I : Inv X pins σ H s) (r1 : RelV y u1) (r2 : RelV z u2) (h : putDc X.K X.prog X.w D R y z H) (q : ∀ s' H', Inv X pins σ H' s' → R H' → Q () s') :
    wpAny (model X.prog X.w) X.A (dictSet D u1 u2) Q E s := by
  obtain ⟨b, k, L, rfl, hD, ks, hk, hd, hl, hR⟩ := h
  obtain rfl : u1 = Value.ref b := r1
  obtain ⟨_, hsm, xs, pr, dd⟩ := nd_dict I (.inl hD) ks
  have lx : L.length = xs.length := Paired.length pr
  have room : (nestedKind X.prog X.w).room X.A := by
    show X.A.units + 8 < cLine
    omega
  refine wpAny_dictSet_heap (hsz := by omega) room (nd_key I hk hd) dd fun h' dd' hs' => ?_
  obtain ⟨ob, es, ep, hq, h2, h3, h4, _, h5⟩ := dd'
  exact q _ _ (d_write (t' := s.toks + (nestedKind X.prog X.w).draws k) I (nd_mut hD) hs' ⟨ob, hq⟩ (ndo_new ⟨Nat.le_trans putNd_len hl, hsm, _, relN_put pr k b r2, ob, es, ep, hq, h2, h3, h4, h5⟩)) hR
theorem dcN_core {pins : List (Addr × Obj)} {s : Shared} {σ : L2.St} {H : Hp} {Q : VK} {kx vx tg iter : Expr} {ifs : List Expr} {scope : Scope} {own : List (PySem.Str × Nat)} {pos pos' : Pos} {wi : TI} {g : TG} {tt : TT} {tk tv : TE} {use : Option (Value → Sem Unit)} {Qf : Value → Shared → Prop}
    (un : X.A.units + 64 < cLine) (calm : X.calm = true) (nd : X.N.Nodup) (I : Inv X pins σ H s) (hi : PI X tg iter wi) (ok : BlkOk X.N X.env.scope scope own)
    (hg : ∀ (s : Shared) (H : Hp) (C : Addr) (cl : List (PySem.Str × Addr)) (fp : List Addr), PG (X.blk s H scope (compEnvC scope cl C X.env) fp) tg g)
    (ht : ∀ (s : Shared) (H : Hp) (C : Addr) (cl : List (PySem.Str × Addr)) (fp : List Addr), PTs (X.blk s H scope (compEnvC scope cl C X.env) fp) ifs tt)
    (hk : ∀ (s : Shared) (H : Hp) (C : Addr) (cl : List (PySem.Str × Addr)) (fp : List Addr), PE (X.blk s H scope (compEnvC scope cl C X.env) fp) kx tk)
    (he : ∀ (s : Shared) (H : Hp) (C : Addr) (cl : List (PySem.Str × Addr)) (fp : List Addr), PE (X.blk s H scope (compEnvC scope cl C X.env) fp) vx tv)
    (plain : ∀ x, foldedSetIterable iter X.env x = pure x) (h : tDcN X.K X.prog X.w wi g tt tk tv (own.map (·.2)) σ H Q)
    (back : ∀ D C s' m H', Inv X pins σ H' s' → Q (.ref D) H' → s'.heap.Ns C m → FpOk X pins H' C → compPost (model X.prog X.w) X.A X.xe use Qf (.ref D) C (.ok .next) s') :
    wpAny (model X.prog X.w) X.A (comprehension (.DictComp kx vx [⟨tg, iter, ifs, 0⟩] scope pos) scope X.env pos' newDict false (eval iter X.env) use) Qf X.xe s := by
  have has : ∀ y ∈ scope.names, y.2 = .free → ∃ c, X.env.cells.lookup y.1 = some c := fun y hy e =>
    (ok.free y hy e).elim (fun k => I.ok.has _ (.inl k)) fun k => I.ok.has _ (.inr k)
  refine wpAny_comprehension_free (use := use) rfl plain (closure_ok has) ok.kind (fun y hy e => by rw [ok.uniq y hy, e]) ?_
  refine thn (hi.run pins s σ H _ I h) fun _ _ hx => thn hx fun _ sa ha => ?_
  obtain ⟨it, fp, at_, J, Ha, rfl, Ia, T, sta, fa, q⟩ := ha
  refine wpAny_newObj_type (newEnv_comp ?_)
  obtain ⟨D, eD⟩ : ∃ D, sa.heap.objs.size = D := ⟨_, rfl⟩
  rw [eD]
  have freshD : Ha D = none := Ia.hok.fresh (Nat.le_of_eq eD)
  obtain ⟨W, ⟨m0, w0⟩, turn⟩ := q D freshD
  obtain ⟨sb, esb⟩ : ∃ sb : Shared, ({ sa with heap := sa.heap.push { cls := .type "dict", data := .dict #[] } } : Shared) = sb := ⟨_, rfl⟩
  have hb : sb.heap = sa.heap.push { cls := .type "dict", data := .dict #[] } := by rw [← esb]
  have Ib : Inv X pins σ (upd Ha D (NDO X.prog X.w D [])) sb := by
    subst esb eD
    exact Ia.laid (t' := sa.toks) (fun _ _ e => Heap.get?_push_of_some _ e) (Nat.le_refl _) (nd_empty sa.heap Ia.big)
  obtain ⟨Hb, eHb⟩ : ∃ Hb, upd Ha D (NDO X.prog X.w D []) = Hb := ⟨_, rfl⟩
  have fb : ∀ b ∈ fp, FpOk X pins Hb b ∧ b < sb.heap.objs.size := fun b hm => by
    obtain ⟨o, e, _⟩ := T.obj _ _ sta b hm
    have lt := Heap.lt_size e
    refine ⟨⟨?_, (fa b hm).2⟩, ?_⟩
    · rw [← eHb, upd_ne (by rw [← eD]; exact Nat.ne_of_lt lt)]
      exact (fa b hm).1
    · rw [hb, Heap.size_push]
      exact Nat.lt_succ_of_lt lt
  have stb : at_ 0 sb.heap := T.keep _ _ _ sta fun b _ o e => by
    rw [hb]
    exact Heap.get?_push_of_some _ e
  rw [eHb] at Ib w0
  have Ic := block_start Ib ok nd fb
  obtain ⟨C, eC⟩ : ∃ C, sb.heap.objs.size = C := ⟨_, rfl⟩
  have pg := hg sb Hb C (cellsFrom (C + 1) scope.names (cloFrom X.env.cells scope.names [])) fp
  have pt := ht sb Hb C (cellsFrom (C + 1) scope.names (cloFrom X.env.cells scope.names [])) fp
  have pk := hk sb Hb C (cellsFrom (C + 1) scope.names (cloFrom X.env.cells scope.names [])) fp
  have pe := he sb Hb C (cellsFrom (C + 1) scope.names (cloFrom X.env.cells scope.names [])) fp
  rw [eC] at Ic
  rw [esb, eC]
  show codeAny _ _ (.compStart (.DictComp kx vx [⟨tg, iter, ifs, 0⟩] scope pos) 0 (.ref it) (.ref D) (compEnvC scope (cellsFrom (C + 1) scope.names (cloFrom X.env.cells scope.names [])) C X.env))
    (compPost (model X.prog X.w) X.A X.xe use Qf (.ref D) C) { sb with heap := pushCells (sb.heap.push { cls := .type "dict", data := .dict #[] }) scope.names }
  obtain ⟨ce, ece⟩ : ∃ ce, compEnvC scope (cellsFrom (C + 1) scope.names (cloFrom X.env.cells scope.names [])) C X.env = ce := ⟨_, rfl⟩
  rw [ece] at Ic pg pt pk pe ⊢
  have eL : ce.locals = C := by rw [← ece]; rfl
  obtain ⟨sc, esc⟩ : ∃ sc : Shared, ({ sb with heap := pushCells (sb.heap.push { cls := .type "dict", data := .dict #[] }) scope.names } : Shared) = sc := ⟨_, rfl⟩
  rw [esc] at Ic ⊢
  have stc : at_ 0 sc.heap := T.keep _ _ _ stb fun b _ o e => by
    rw [← esc]
    exact pushCells_keeps _ _ _ _ (Heap.get?_push_of_some _ e)
  have stat : ∀ {τ : L2.St} {G : Hp} {r : Shared}, Inv (X.blk sb Hb scope ce fp) [] τ G r → (∀ b ∈ fp, G b = none) → ∀ b ∈ fp, FpOk (X.blk sb Hb scope ce fp) [] G b :=
    fun {τ G r} J hn b hm => ⟨hn b hm, (J.ok.exf b hm).1, J.ok.exfs b hm, .inl hm, fun x c e => (J.ok.exf b hm).2 x c e, fun p hp => nomatch (show p ∈ ([] : List (Addr × Obj)) ++ [] from hp)⟩
  have loop : codeAny (model X.prog X.w) X.A (.compLoop (.DictComp kx vx [⟨tg, iter, ifs, 0⟩] scope pos) 0 (.ref it) (.ref D) ce) (compPost (model X.prog X.w) X.A X.xe use Qf (.ref D) C) sc := by
    refine compLoop_anyD (fun n r => ∃ i G, Inv (X.blk sb Hb scope ce fp) [] (wipe σ (own.map (·.2))) G r ∧ at_ i r.heap ∧ (∀ b ∈ fp, G b = none) ∧ W i n G) ?_ m0
      ⟨0, Hb, Ic, stc, fun b hm => (fb b hm).1.1, w0⟩
    rintro n s5 ⟨i, H5, I5, st5, n5, w5⟩
    rcases turn i n H5 w5 with ⟨stop, fin⟩ | ⟨go, R, hR, step⟩
    · refine thnF (T.done (X.blk sb Hb scope ce fp) rfl rfl rfl calm i [] s5 _ H5 (fun _ _ => False) I5 (stat I5 n5) st5 stop) fun r s6 hr6 => ?_
      obtain ⟨rfl, I6⟩ := hr6
      have I7 : Inv X pins σ H5 s6 := Ib.call' (ch := fp) I6.os I6.base I6.hok I6.bare fun b hm =>
        ⟨(fb b hm).1.2.2.2.1, (fb b hm).1.2.1, (fb b hm).1.2.2.2.2.1, (fb b hm).1.2.2.2.2.2⟩
      have nC : H5 C = none := by
        rw [← eL]
        exact I6.free
      obtain ⟨m, hn, _⟩ := I6.loc
      have hn : s6.heap.Ns ce.locals m := hn
      rw [eL] at hn
      exact back D C s6 m H5 I7 fin hn (Ib.fpOk (Nat.le_of_eq eC) nC)
    · refine thnF (T.item (X.blk sb Hb scope ce fp) rfl rfl rfl calm i [] s5 _ H5 (fun _ _ => False) I5 (stat I5 n5) st5 go) fun r s6 hr6 => ?_
      obtain ⟨u, rfl, h6⟩ := hr6
      refine thnF h6 fun _ s7 h7 => ?_
      obtain ⟨x, H7, I7, r7, y7, st7, n7⟩ := h7
      have P7 := I7.pinned (stat I7 n7) (T.obj _ _ st7)
      refine thnF (pg.run _ s7 _ H7 x u _ P7 r7 (step x H7 y7)) fun _ s8 h8 => ?_
      obtain ⟨σ8, H8, I8, same8, q8⟩ := h8
      have turnEnd : ∀ {r : Shared} {G : Hp}, Inv (X.blk sb Hb scope ce fp) ([] ++ pinsAt fp s7.heap) σ8 G r → R G →
          ∃ m, m < n ∧ ∃ i G, Inv (X.blk sb Hb scope ce fp) [] (wipe σ (own.map (·.2))) G r ∧ at_ i r.heap ∧ (∀ b ∈ fp, G b = none) ∧ W i m G := fun {r G} J rG => by
        obtain ⟨m', lt, w'⟩ := hR G rG
        have pin : ∀ b ∈ fp, ∀ o, s7.heap.get? b = some o → r.heap.get? b = some o ∧ G b = none := fun b hm o e => by
          have z := J.pin (b, o) (List.mem_append_right _ (List.mem_append_right _ (mem_pinsAt hm e)))
          exact ⟨z.1, z.2.1⟩
        have len : (wipe σ (own.map (·.2))).length = σ8.length := by
          rw [← same8]
          exact wipe_length _ _
        refine ⟨m', lt, i + 1, G, (J.unpinned (pins := [])).weak len (fun j v e => ?_), T.keep _ _ _ st7 fun b hm o e => (pin b hm o e).1, fun b hm => ?_, w'⟩
        · rw [← same8] at e
          exact (wipe_some e).1
        · obtain ⟨o, e, _⟩ := T.obj _ _ st7 b hm
          exact (pin b hm o e).2
      refine thnF (pt.run _ s8 σ8 H8 _ I8 q8) fun b s9 h9 => ?_
      obtain ⟨H9, I9, q9⟩ := h9
      cases b with
      | false =>
        rw [if_neg Bool.false_ne_true] at q9
        simp only [Bool.false_eq_true, if_false]
        exact turnEnd I9 q9
      | true =>
        rw [if_pos rfl] at q9
        simp only [if_true]
        refine thnF (pk.run _ s9 σ8 H9 _ I9 q9) fun z s10 h10 => ?_
        obtain ⟨yk, H10, I10, r10, q10⟩ := h10
        refine thnF (pe.run _ s10 σ8 H10 _ I10 q10) fun z2 s11 h11 => ?_
        obtain ⟨yv, H11, I11, r11, q11⟩ := h11
        exact nd_dictSet (X := X.blk sb Hb scope ce fp) un I11 r10 r11 q11 fun s12 H12 I12 q12 => turnEnd I12 q12
  exact codeAny_compStart_dict loop (T.self X.A 0 _ _ _ stc loop)
/-- as a value -/
theorem pe_dcN {kx vx tg iter : Expr} {ifs : List Expr} {scope : Scope} {own : List (PySem.Str × Nat)} {pos : Pos} {wi : TI} {g : TG} {tt : TT} {tk tv : TE} (un : X.A.units + 64 < cLine) (calm : X.calm = true) (nd : X.N.Nodup) (hi : PI X tg iter wi) (ok : BlkOk X.N X.env.scope scope own)
    (hg : ∀ (s : Shared) (H : Hp) (C : Addr) (cl : List (PySem.Str × Addr)) (fp : List Addr), PG (X.blk s H scope (compEnvC scope cl C X.env) fp) tg g)
    (ht : ∀ (s : Shared) (H : Hp) (C : Addr) (cl : List (PySem.Str × Addr)) (fp : List Addr), PTs (X.blk s H scope (compEnvC scope cl C X.env) fp) ifs tt)
    (hk : ∀ (s : Shared) (H : Hp) (C : Addr) (cl : List (PySem.Str × Addr)) (fp : List Addr), PE (X.blk s H scope (compEnvC scope cl C X.env) fp) kx tk)
    (he : ∀ (s : Shared) (H : Hp) (C : Addr) (cl : List (PySem.Str × Addr)) (fp : List Addr), PE (X.blk s H scope (compEnvC scope cl C X.env) fp) vx tv)
    (plain : ∀ x, foldedSetIterable iter X.env x = pure x := by intro _; rfl) :
    PE X (.DictComp kx vx [⟨tg, iter, ifs, 0⟩] scope pos) (tDcN X.K X.prog X.w wi g tt tk tv (own.map (·.2))) := by
  refine ⟨fun pins s σ H Q I h => ?_⟩
  rw [arm_eval_DictComp]
  refine dcN_core un calm nd I hi ok hg ht hk he plain h fun D C s' m H' J q hn f => ⟨m, hn, fun h'' sbut => ?_⟩
  obtain ⟨f0, f1, _, f3, f4, f5⟩ := f
  exact ⟨.ref D, H', J.turned (t' := s'.toks) (fun b o hb e => (sbut.2 b hb).trans e) f0 f1 f3 f4 f5, rfl, q⟩
end
end G
set_option Elab.async false
set_option linter.all false
set_option maxRecDepth 100000
set_option maxHeartbeats 4000000
namespace G
open PySem PySem.Spec PyProof.Rows L2
/-! a tuple that is known to be plain: methods may be asked of it -/
def PlT (H : Hp) (p : Addr) (xs : List V) : Prop := ∃ ob : Obj, H p = some (.frz ob (.tup xs)) ∧ ob.cls = .type "tuple" ∧ ob.dict = none
theorem PlT.k {H H' : Hp} {p : Addr} {xs : List V} (h : PlT H p xs) (e : Same H H') : PlT H' p xs := by
  obtain ⟨ob, h1, h2⟩ := h
  exact ⟨ob, e _ _ h1, h2⟩
theorem PlT.sq {K : PySem.W.Frag} {H : Hp} {p : Addr} {xs : List V} (h : PlT H p xs) : SqT K H p xs := by
  obtain ⟨ob, h1, _⟩ := h
  exact .inl (.inr ⟨ob, h1⟩)
def rTupZ (K : PySem.W.Frag) : List V → Hp → VK → Prop := fun xs H Q => ∃ p ys, xs = [.ref p] ∧ SqL K H p ys ∧ ∀ l G, Same H G → PlT G l ys → Q (.ref l) G
def tBMZ (r : V → List V → Hp → VK → Prop) (to : TE) (t : TA) : TE := fun σ H Q => to σ H fun x H1 => (∃ p xs, x = .ref p ∧ PlT H1 p xs) ∧ t σ H1 fun xs H2 => r x xs H2 Q
section
variable {X : Cx} {K : PySem.W.Frag}
theorem call_tupZ (hK : X.K = K) : CallR X (.type "tuple") (rTupZ K) := by
  subst hK
  rintro pins s σ H xs us Q I rs ⟨p, ys, rfl, hs, key⟩
  obtain ⟨u, rfl, rx⟩ := vals1 rs
  cases rx
  obtain ⟨its, rv, pl, hz⟩ := I.list hs
  have hsz : its.length = ys.length := rv.length.symm
  refine call_tuple_list pl.isList (fun g kp => ?_) (by rw [List.size_toArray, hsz]; omega)
  have I1 : Inv X pins σ H { s with heap := g } := I.kept (t' := s.toks) kp
  have hfree := I1.hok.fresh (Nat.le_refl g.objs.size)
  have gnew : (g.push { cls := .type "tuple", data := .seq its.toArray }).get? g.objs.size = some { cls := .type "tuple", data := .seq its.toArray } := Heap.get?_push_size _ rfl
  refine ⟨.ref g.objs.size, upd H g.objs.size (.frz { cls := .type "tuple", data := .seq its.toArray } (.tup ys)), ?_, rfl, key _ _ (same_new hfree) ⟨_, upd_same, rfl, rfl⟩⟩
  exact I1.laid (t' := s.toks) (fun b o e => Heap.get?_push_of_some _ e) (Nat.le_refl _) ⟨gnew, hz, its, rv, IsTup.new _ _⟩
variable {o e : Expr} {es : List Expr} {to : TE} {t : TA} {name : Str} {apos cpos : Pos} {id : String} {r : V → List V → Hp → VK → Prop}
theorem pe_bmZ (pa : PlainAttrs "tuple") (slot : Slot "tuple" name id) (hty : typeOf (.builtin id) = pure (.type "method_descriptor")) (hm : MtR X id r) (ho : PE X o to) (ha : PA X (e :: es) t)
    (h1 : attributeBase o name X.env (eval o X.env) = eval o X.env := by rfl)
    (h2 : ((backTo cpos (starEach (e :: es) X.env)).all (fun x => !x.1) && (backToKw cpos (keywordEach [] X.env)).all (fun x => x.1.isSome) && decide ((e :: es).length + ([] : List Keyword).length + (if ([] : List Keyword).isEmpty then 0 else 1) < 30)) = true := by rfl)
    (h3 : (apos.endLine == cpos.line) = true := by rfl) (h4 : starEach (e :: es) X.env = (false, eval e X.env) :: starEach es X.env := by rfl) (h5 : (backTo cpos (starEach es X.env)).any (·.1) = false := by rfl) :
    PE X (.Call (.Attribute o name apos) (e :: es) [] cpos) (tBMZ r to t) := by
  constructor
  intro pins s σ H Q I h
  refine wpAny_Call_method_late h1 h2 h3 rfl (thn (ho.run pins s σ H _ I h) fun v s1 ⟨x, H1, I1, r1, hx, q1⟩ => ?_)
  obtain ⟨p, ys, rfl, ob, hp, hc, hd⟩ := hx
  cases r1
  have hg : s1.heap.get? p = some ob := (I1.hok p _ hp).1
  have hA := ha.run cpos pins s1 σ H1 _ I1 q1
  refine ⟨"tuple", id, pa, slot, hty, ⟨ob, hg, hc⟩, fun a e => by cases e; exact ⟨ob, hg, hd⟩, ?_⟩
  rw [h4] at hA ⊢
  exact Calls.callWith_builtin (by show (false || (backTo cpos (starEach es X.env)).any (·.1)) = false; rw [h5] <;> rfl)
    (Calls.evalArgs_plain (thn hA fun us s2 ⟨vs, H2, I2, r2, q2⟩ => hm pins s2 σ H2 (.ref p) vs _ us Q I2 rfl r2 q2))
theorem r_tupZ {H : Hp} {Q : VK} {p : Addr} {ys : List V} (h : SqL K H p ys) (q : ∀ l G, Same H G → PlT G l ys → Q (.ref l) G) : rTupZ K [.ref p] H Q := ⟨p, ys, rfl, h, q⟩
theorem r_bmZ {σ : L2.St} {H : Hp} {Q : VK} {to : TE} {t : TA} {r : V → List V → Hp → VK → Prop} (h : to σ H fun x H1 => (∃ p xs, x = .ref p ∧ PlT H1 p xs) ∧ t σ H1 fun xs H2 => r x xs H2 Q) : tBMZ r to t σ H Q := h
end
end G
set_option Elab.async false
set_option linter.all false
set_option maxRecDepth 100000
set_option maxHeartbeats 4000000
namespace G
open PySem PySem.Spec PyProof.Rows L2
/-! ### rows as keys that stay known as plain tuples: dicts with nested keys -/
def rowK (r : List Nat) : NestedKey := .tup (r.map fun n : Nat => NestedKey.num (n : Int))
theorem rowK_inj {a b : List Nat} (h : rowK a = rowK b) : a = b := by
  have h1 : (a.map fun n : Nat => NestedKey.num (n : Int)) = b.map fun n : Nat => NestedKey.num (n : Int) := by
    injection h
  clear h
  induction a generalizing b with
  | nil => cases b with
    | nil => rfl
    | cons y b => exact nomatch h1
  | cons x a ih => cases b with
    | nil => exact nomatch h1
    | cons y b =>
      rw [List.map_cons, List.map_cons] at h1
      injection h1 with h2 h3
      injection h2 with h4
      rw [ih h3, Int.ofNat.inj h4]
theorem dn_row {K : PySem.W.Frag} {H : Hp} {b : Addr} {r : List Nat} (h : SqT K H b (r.map iV)) : Dn K H (.ref b) (rowK r) := by
  refine .tup h ?_
  clear h
  induction r with
  | nil => exact .nil
  | cons x r ih => exact .cons (.int _) ih
theorem rowK_depth (r : List Nat) : (rowK r).depth ≤ 8 := by
  have h : NestedKey.depthAll (r.map fun n : Nat => NestedKey.num (n : Int)) = 0 := by
    induction r with
    | nil => rfl
    | cons x r ih =>
      rw [List.map_cons]
      show max 0 (NestedKey.depthAll _) = 0
      rw [ih]
      rfl
  show NestedKey.depthAll _ + 1 ≤ 8
  rw [h]
  decide
def NLs (qs : List (Addr × List Nat)) : NL := qs.map fun q => (rowK q.2, q.1, V.bl true)
theorem NLs_len (qs : List (Addr × List Nat)) : (NLs qs).length = qs.length := List.length_map _
def PlR (H : Hp) (qs : List (Addr × List Nat)) : Prop := ∀ q ∈ qs, PlT H q.1 (q.2.map iV)
theorem PlR.k {H H' : Hp} {qs : List (Addr × List Nat)} (h : PlR H qs) (e : Same H H') : PlR H' qs := fun q hq => (h q hq).k e
theorem PlR.sq {K : PySem.W.Frag} {H : Hp} {qs : List (Addr × List Nat)} (h : PlR H qs) : ∀ q ∈ qs, SqT K H q.1 (q.2.map iV) := fun q hq => (h q hq).sq
theorem PlR.snoc {H : Hp} {qs : List (Addr × List Nat)} {t : Addr} {r : List Nat} (h : PlR H qs) (ht : PlT H t (r.map iV)) : PlR H (qs ++ [(t, r)]) := fun q hq => by
  rcases List.mem_append.mp hq with hq | hq
  · exact h q hq
  · rw [List.mem_singleton.mp hq]
    exact ht
/-- a plain tuple is none of the lists and dicts that change -/
theorem PlT.put {H : Hp} {p c : Addr} {xs : List V} {o : HO} {u : HO} (h : PlT H p xs) (hc : H c = some u) (hu : ∀ ob, u ≠ .frz ob (.tup xs)) : PlT (upd H c o) p xs := by
  obtain ⟨ob, h1, h2⟩ := h
  refine ⟨ob, ?_, h2⟩
  rw [upd_ne (fun e => by rw [e, hc] at h1; exact hu ob (Option.some.inj h1))]
  exact h1
theorem PlR.put {H : Hp} {c : Addr} {qs : List (Addr × List Nat)} {o : HO} {u : HO} (h : PlR H qs) (hc : H c = some u) (hu : ∀ ob xs, u ≠ .frz ob (.tup xs)) : PlR (upd H c o) qs := fun q hq => (h q hq).put hc fun ob => hu ob _
theorem keysR {K : PySem.W.Frag} {H : Hp} {qs : List (Addr × List Nat)} (h : ∀ q ∈ qs, SqT K H q.1 (q.2.map iV)) : KeysN K H (NLs qs) := fun p hp => by
  obtain ⟨q, hq, rfl⟩ := List.mem_map.mp hp
  exact ⟨dn_row (h q hq), rowK_depth _⟩
theorem val_in {qs : List (Addr × List Nat)} {r : List Nat} (h : r ∈ qs.map (·.2)) : (valN (NLs qs) (rowK r)).isSome = true := by
  unfold valN atN
  rw [Option.isSome_map, Option.isSome_map, List.find?_isSome]
  obtain ⟨q, hq, rfl⟩ := List.mem_map.mp h
  exact ⟨(rowK q.2, q.1, V.bl true), List.mem_map_of_mem hq, decide_eq_true rfl⟩
theorem at_out {qs : List (Addr × List Nat)} {r : List Nat} (h : r ∉ qs.map (·.2)) : atN (NLs qs) (rowK r) = none := by
  unfold atN
  rw [Option.map_eq_none_iff, List.find?_eq_none]
  intro x hx e
  obtain ⟨q, hq, rfl⟩ := List.mem_map.mp hx
  have e2 := rowK_inj (of_decide_eq_true e)
  rw [← e2] at h
  exact h (List.mem_map_of_mem hq)
theorem val_out {qs : List (Addr × List Nat)} {r : List Nat} (h : r ∉ qs.map (·.2)) : (valN (NLs qs) (rowK r)).isSome = false := by
  unfold valN
  rw [at_out h]
  rfl
theorem put_R {qs : List (Addr × List Nat)} {r : List Nat} {b : Addr} (h : r ∉ qs.map (·.2)) : putNd (NLs qs) (rowK r) b (.bl true) = NLs (qs ++ [(b, r)]) := by
  unfold putNd
  rw [at_out h]
  show NLs qs ++ [(rowK r, b, V.bl true)] = _
  unfold NLs
  rw [List.map_append]
  rfl
/-! the readings -/
section
variable {K : PySem.W.Frag} {P : Program} {w : World} {H : Hp} {Q : VK} {σ : L2.St} {D : Ends} {td ty tv : TE}
open Classical in
theorem r_ninR {d b : Addr} {qs : List (Addr × List Nat)} {r : List Nat} (h : H d = some (NDO P w d (NLs qs))) (hq : ∀ q ∈ qs, SqT K H q.1 (q.2.map iV)) (hb : SqT K H b (r.map iV)) (q : Q (.bl (decide (r ∉ qs.map (·.2)))) H) : NAt K P w (.ref d) (.ref b) H fun L k => Q (.bl (if true = true then !(valN L k).isSome else (valN L k).isSome)) H := by
  refine ⟨d, b, rowK r, NLs qs, rfl, rfl, .inl h, keysR hq, dn_row hb, rowK_depth _, ?_⟩
  show Q (.bl (!(valN (NLs qs) (rowK r)).isSome)) H
  by_cases e : r ∈ qs.map (·.2)
  · rw [val_in e]
    rw [decide_eq_false (fun z => z e)] at q
    exact q
  · rw [val_out e]
    rw [decide_eq_true e] at q
    exact q
open Classical in
theorem r_ninT {C : Bool → Prop} {d b : Addr} {qs : List (Addr × List Nat)} {r : List Nat} (h : H d = some (NDO P w d (NLs qs))) (hq : ∀ q ∈ qs, SqT K H q.1 (q.2.map iV)) (hb : SqT K H b (r.map iV)) (q : C (decide (r ∉ qs.map (·.2)))) : NAt K P w (.ref d) (.ref b) H fun L k => ∃ k1, V.bl (if true = true then !(valN L k).isSome else (valN L k).isSome) = V.bl k1 ∧ C k1 :=
  r_ninR (Q := fun v _ => ∃ k1, v = V.bl k1 ∧ C k1) h hq hb ⟨_, rfl, q⟩
theorem r_nputR {d b : Addr} {qs : List (Addr × List Nat)} {r : List Nat} (h : H d = some (NDO P w d (NLs qs))) (hq : ∀ q ∈ qs, SqT K H q.1 (q.2.map iV)) (hb : SqT K H b (r.map iV)) (hr : r ∉ qs.map (·.2)) (hl : qs.length < sizeLine) (q : D.nx σ (upd H d (NDO P w d (NLs (qs ++ [(b, r)]))))) :
    ∃ (d' b' : Addr) (k : NestedKey) (L : NL), V.ref d = .ref d' ∧ V.ref b = .ref b' ∧ H d' = some (NDO P w d' L) ∧ KeysN K H L ∧ Dn K H (.ref b') k ∧ k.depth ≤ 8 ∧ L.length < sizeLine ∧ D.nx σ (upd H d' (NDO P w d' (putNd L k b' (.bl true)))) := by
  refine ⟨d, b, rowK r, NLs qs, rfl, rfl, h, keysR hq, dn_row hb, rowK_depth _, by rw [NLs_len]; exact hl, ?_⟩
  rw [put_R hr]
  exact q
end
theorem r_nin {K : PySem.W.Frag} {P : Program} {w : World} {neg : Bool} {ty td : TE} {σ : L2.St} {H : Hp} {Q : VK} (h : ty σ H fun y H1 => td σ H1 fun x H2 => NAt K P w x y H2 fun L k => Q (.bl (if neg = true then !(valN L k).isSome else (valN L k).isSome)) H2) : tNIn K P w neg ty td σ H Q := h
theorem r_nput {K : PySem.W.Frag} {P : Program} {w : World} {td ty tv : TE} {D : Ends} {σ : L2.St} {H : Hp} (h : tv σ H fun v H1 => td σ H1 fun x H2 => ty σ H2 fun y H3 =>
  ∃ (d b : Addr) (k : NestedKey) (L : NL), x = .ref d ∧ y = .ref b ∧ H3 d = some (NDO P w d L) ∧ KeysN K H3 L ∧ Dn K H3 (.ref b) k ∧ k.depth ≤ 8 ∧ L.length < sizeLine ∧ D.nx σ (upd H3 d (NDO P w d (putNd L k b v)))) : sNPut K P w td ty tv D σ H := h
/-- {t: True}, t a row -/
def tDispZ (K : PySem.W.Frag) (P : Program) (w : World) (tk tv : TE) : TE := fun σ H Q => ∀ p, H p = none → tk σ (upd H p (NDO P w p [])) fun x H1 => tv σ H1 fun y H2 => ∃ b r, x = .ref b ∧ SqT K H2 b ((r : List Nat).map iV) ∧ H2 p = some (NDO P w p []) ∧ y = .bl true ∧ Q (.ref p) (upd H2 p (NDO P w p (NLs [(b, r)])))
theorem r_dispZ {K : PySem.W.Frag} {P : Program} {w : World} {tk tv : TE} {σ : L2.St} {H : Hp} {Q : VK} (h : ∀ p, H p = none → tk σ (upd H p (NDO P w p [])) fun x H1 => tv σ H1 fun y H2 => ∃ b r, x = .ref b ∧ SqT K H2 b ((r : List Nat).map iV) ∧ H2 p = some (NDO P w p []) ∧ y = .bl true ∧ Q (.ref p) (upd H2 p (NDO P w p (NLs [(b, r)])))) : tDispZ K P w tk tv σ H Q := h
/-- list(d) -/
def rListZ (P : Program) (w : World) : List V → Hp → VK → Prop := fun xs H Q => ∃ (d : Addr) (qs : List (Addr × List Nat)), xs = [V.ref d] ∧ H d = some (NDO P w d (NLs qs)) ∧ ∀ p, H p = none → Q (.ref p) (upd H p (.lst (refsV qs)))
theorem r_listZ {P : Program} {w : World} {H : Hp} {Q : VK} {d : Addr} {qs : List (Addr × List Nat)} (h : H d = some (NDO P w d (NLs qs))) (q : ∀ p, H p = none → Q (.ref p) (upd H p (.lst (refsV qs)))) : rListZ P w [.ref d] H Q := ⟨d, qs, rfl, h, q⟩
/-- tuple(range(n)), known as plain -/
def tTupRgZ (te : L2.St → Hp → (Int → Int → Hp → Prop) → Prop) : TE := fun σ H Q => te σ H fun a b H1 => RgOk a b ∧ ∀ q G, Same H1 G → PlT G q (rgV a b) → Q (.ref q) G
theorem r_tupRgZ {n : Nat} {te : TE} {σ : L2.St} {H : Hp} {Q : VK} (h1 : n ≤ 16777216) (q : ∀ p G, Same H G → PlT G p ((List.range n).map iV) → Q (.ref p) G) (h : ∀ R : VK, R (iV n) H → te σ H R) : tTupRgZ (tRg1 te) σ H Q := by
  refine h _ ⟨(n : Int), rfl, RgOk.of_le (Int.le_refl _) (by omega) (by decide) (by omega), fun p G s hp => ?_⟩
  rw [rg_nat] at hp
  exact q p G s hp
section
variable {X : Cx} {K : PySem.W.Frag} {P : Program} {w : World}
theorem pe_dispZ {k v : Expr} {tk tv : TE} {pos : Pos} (eK : X.K = K) (eP : X.prog = P) (ew : X.w = w) (hu : X.A.units + 64 < cLine) (hk : PE X k tk) (hv : PE X v tv) : PE X (.Dict [some k] [v] pos) (tDispZ K P w tk tv) := by
  subst eK eP ew
  constructor
  intro pins s σ H Q I q
  have hn := I.hok.fresh (Nat.le_refl s.heap.objs.size)
  have I1 := I.laid (a := s.heap.objs.size) (o := NDO X.prog X.w s.heap.objs.size []) (h' := s.heap.push { cls := .type "dict", data := .dict #[] }) (t' := s.toks) (fun _ _ e => Heap.get?_push_of_some _ e) (Nat.le_refl _) (nd_empty s.heap I.big)
  rw [arm_eval_Dict, zip_pairTrees [some k] [v] X.env pos rfl rfl, dictDisplay_pairs (pairTrees [some k] [v] X.env pos) (by simp [pairTrees]) (by simp [pairTrees])]
  refine wpAny_bind (wpAny_standAt (wpAny_bind ?_))
  refine wpAny_subDictH (knd := nestedKind X.prog X.w) (Q := fun d s' => wpAny (model X.prog X.w) X.A (pure (Value.ref d)) (EP X pins σ Q) X.xe s') (show X.A.units + 8 < cLine by omega) (by simp [pairTrees]) ?_
  refine pairTrees_cons_walk (thn (hk.run pins _ σ _ _ I1 (q _ hn)) fun u s1 ⟨x, H1, I2, rx, q1⟩ => thn (hv.run pins s1 σ H1 _ I2 q1) fun w2 s2 ⟨y, H2, I3, ry, b, r, ex, hb, hp, ey, q2⟩ => pairTrees_nil_walk ?_)
  subst ex ey
  cases rx
  obtain ⟨z, hd, xs, rel, dd⟩ := nd_dict I3 (.inl hp) fun p hp => (nomatch hp)
  cases rel
  refine ⟨[(rowK r, b, w2)], ⟨rfl, rfl, nd_key I3 (dn_row hb) (rowK_depth r), trivial⟩, dd, fun h' tk dd' hs => wpAny_pure ?_⟩
  obtain ⟨ob, es, ep, hq, h2, h3, h4, _, h5⟩ := dd'
  have I4 := d_write (t' := tk) (ob := NDO X.prog X.w s.heap.objs.size (NLs [(b, r)])) I3 (nd_mut hp) hs ⟨ob, hq⟩ (ndo_new ⟨by show 1 ≤ sizeLine; decide, hd, [(rowK r, b, w2)], .cons ⟨rfl, rfl, ry⟩ .nil, ob, es, ep, hq, h2, h3, h4, h5⟩)
  exact ⟨.ref _, _, I4, rfl, q2⟩
theorem pe_ninK {op : CmpOp} {i o : Expr} {ty td : TE} {neg : Bool} (eK : X.K = K) (eP : X.prog = P) (ew : X.w = w) (hop : op = if neg = true then .NotIn else .In) (hu : X.A.units + 64 < cLine) (hi : PE X i ty) (ho : PE X o td) : PC X op i o (tNIn K P w neg ty td) := by
  subst eK eP ew
  exact pe_nin hop hu hi ho
theorem ps_nputK {o i value : Expr} {pos pos' : Pos} {td ty tv : TE} (eK : X.K = K) (eP : X.prog = P) (ew : X.w = w) (hu : X.A.units + 64 < cLine) (ho : PE X o td) (hi : PE X i ty) (hv : PE X value tv) (hs : swapsWith value (some (.Subscript o i pos')) pos.line X.env = pure false) :
    PS X (.Assign [.Subscript o i pos'] value pos) (sNPut K P w td ty tv) := by
  subst eK eP ew
  exact ps_nput hu ho hi hv hs
theorem call_listZ (hc : X.calm = true) (eP : X.prog = P) (ew : X.w = w) : CallR X (.type "list") (rListZ P w) := by
  subst eP ew
  intro pins s σ H xs us Q I r h
  obtain ⟨d, qs, rfl, hd, q⟩ := h
  obtain ⟨u, rfl, rx⟩ := vals1 r
  cases rx
  obtain ⟨z, hs, ks, pr, o, es, ep, ho, hx, hdt, he, hn⟩ := nd_of I (.inl hd)
  have l1 : es.size = ks.length := size_of_entries he
  have l2 : (NLs qs).length = ks.length := Paired.length pr
  have l3 := NLs_len qs
  refine PySem.W.kdl_call (kdl_raw hs hx hdt) (I.ok.hd hc) ho (by omega) fun h' tk acc' c' kp e it => ?_
  have ea : acc'.toList = (qs.map (·.1)).map Value.ref := by
    have hl : acc'.toList.length = ks.length := by rw [Array.length_toList, it.1]; exact l1
    apply List.ext_getElem?
    intro j
    rw [List.getElem?_map, List.getElem?_map]
    cases hj : acc'.toList[j]? with
    | none =>
      have h1 := List.getElem?_eq_none_iff.mp hj
      rw [List.getElem?_eq_none (by omega)]
      rfl
    | some v =>
      obtain ⟨en, hen, hv⟩ := it.2 j v (by rw [← Array.getElem?_toList]; exact hj)
      have hjl := (List.getElem?_eq_some_iff.mp hj).1
      have hq : qs[j]? = some qs[j] := List.getElem?_eq_getElem (by omega)
      have hL : (NLs qs)[j]? = some (rowK qs[j].2, qs[j].1, V.bl true) := by
        unfold NLs
        rw [List.getElem?_map, hq]
        rfl
      obtain ⟨b, hb, e1, e2, _⟩ := paired_getN pr hL
      have qe := entry_at he j
      rw [hen, hb] at qe
      rw [hq, hv, Option.some.inj qe]
      show some (Value.ref b.2.1) = some (Value.ref qs[j].1)
      rw [← e2]
  have rv : Vals (refsV qs) acc'.toList := by
    rw [ea]
    have : refsV qs = (qs.map (·.1)).map V.ref := by unfold refsV; rw [List.map_map]; rfl
    rw [this]
    exact vals_refs _
  have hz : (refsV qs).length ≤ sizeLine := by
    show (qs.map _).length ≤ _
    rw [List.length_map]
    omega
  refine ⟨.ref s.heap.objs.size, _, I.laid (t' := tk) (o := .lst (refsV qs)) kp (Nat.le_refl _) ?_, rfl, q _ (I.hok.fresh (Nat.le_refl _))⟩
  exact ⟨hz, acc'.toList, c', rv, by rw [Array.toArray_toList]; exact e⟩
theorem pe_tupRgZ {e : Expr} {te : L2.St → Hp → (Int → Int → Hp → Prop) → Prop} {p pos : Pos} (hc : X.calm = true) (hg : Gl X "tuple") (hm : X.mg "tuple" = none) (he : PRg X e te) (na : starEach [e] X.env = (false, eval e X.env) :: starEach [] X.env := by rfl) : PE X (.Call (.Name "tuple" p) [e] [] pos) (tTupRgZ te) := by
  refine ⟨fun pins s σ H Q I h => ?_⟩
  refine Call_ (ld_blt I hg hm boot_tuple (PyProof.Rows.callWith_type1 (args_cons (thn (he pins s σ H _ I h) fun x s1 ⟨r, a, b, t, u, v, H1, ex, hr, I1, ok, q⟩ => args_nil ?_) na) na))
  subst ex
  obtain ⟨b1, b2, b3, b4, b5⟩ := ok
  refine call_tuple_range (n := (b - a).toNat) (I1.ok.hd hc) hr (small_one b1 b2 b3 b4) (rangeSize_nat a b) b5 fun h' tk acc hk hi => ?_
  have I2 : Inv X pins σ H1 { s1 with heap := h', toks := tk } := I1.kept hk
  have hfree := I2.hok.fresh (Nat.le_refl h'.objs.size)
  have gnew : (h'.push { cls := .type "tuple", data := .seq acc }).get? h'.objs.size = some { cls := .type "tuple", data := .seq acc } := Heap.get?_push_size _ rfl
  refine ⟨.ref h'.objs.size, upd H1 h'.objs.size (.frz { cls := .type "tuple", data := .seq acc } (.tup (rgV a b))), I2.laid (t' := tk) (fun c o e => Heap.get?_push_of_some _ e) (Nat.le_refl _) ⟨gnew, ?_, acc.toList, vals_rg hi, ?_⟩, rfl, q _ _ (same_new hfree) ⟨_, upd_same, rfl, rfl⟩⟩
  · rw [rgV_length, sizeLine_eq]; omega
  · rw [Array.toArray_toList]; exact IsTup.new _ _
end
end G
set_option Elab.async false
set_option linter.all false
set_option maxRecDepth 100000
set_option maxHeartbeats 4000000
namespace G
open PySem PySem.Spec PyProof.Rows L2
/-! ### places of three kinds, each told by a row of numbers: a number, a text, a row; dicts whose keys are such -/
inductive Kd where
  | i | s | r
def PlV (kd : Kd) (H : Hp) (v : V) (p : List Nat) : Prop := match kd with
  | .i => ∃ z, p = [z] ∧ v = iV z
  | .s => v = sV p
  | .r => ∃ b, v = .ref b ∧ H b = some (.tup (p.map iV))
theorem PlV.k {kd : Kd} {H H' : Hp} {v : V} {p : List Nat} (h : PlV kd H v p) (e : ∀ b xs, H b = some (.tup xs) → H' b = some (.tup xs)) : PlV kd H' v p := by
  cases kd with
  | i => exact h
  | s => exact h
  | r =>
    obtain ⟨b, e1, e2⟩ := h
    exact ⟨b, e1, e _ _ e2⟩
theorem PlV.same {kd : Kd} {H H' : Hp} {v : V} {p : List Nat} (h : PlV kd H v p) (s : Same H H') : PlV kd H' v p := h.k fun b _ e => s b _ e
theorem PlV.ne {kd : Kd} {H : Hp} {v : V} {p : List Nat} (h : PlV kd H v p) : v ≠ .non := by
  cases kd with
  | i =>
    obtain ⟨z, _, rfl⟩ := h
    exact fun e => nomatch e
  | s =>
    obtain rfl : v = sV p := h
    exact fun e => nomatch e
  | r =>
    obtain ⟨b, rfl, _⟩ := h
    exact fun e => nomatch e
def okP (kd : Kd) (p : List Nat) : Prop := kd = .i → ∃ z, p = [z]
theorem PlV.ok {kd : Kd} {H : Hp} {v : V} {p : List Nat} (h : PlV kd H v p) : okP kd p := fun e => by
  subst e
  obtain ⟨z, e, _⟩ := h
  exact ⟨z, e⟩
abbrev Pd := List (List Nat × V)
def kI (p : List Nat) : Key := .inl ((p.getD 0 0 : Nat) : Int)
def kS (p : List Nat) : Key := .inr ⟨p.toArray⟩
/-- such a dict -/
def dO (kd : Kd) (m : Pd) : HO := match kd with
  | .i => .dK (m.map fun p => (kI p.1, p.2))
  | .s => .dK (m.map fun p => (kS p.1, p.2))
  | .r => .dT (m.map fun p => (kN p.1, p.2))
theorem dO_nt {kd : Kd} {m : Pd} (xs : List V) : dO kd m ≠ .tup xs := by cases kd <;> exact fun z => nomatch z
theorem dO_nl {kd : Kd} {m : Pd} (xs : List V) : dO kd m ≠ .lst xs := by cases kd <;> exact fun z => nomatch z
theorem dO_nb {kd : Kd} {m : Pd} (ps : Array Value) : dO kd m ≠ .tbl ps := by cases kd <;> exact fun z => nomatch z
theorem dO_ne {kd : Kd} {m : Pd} (φ : Heap → Prop) : dO kd m ≠ .ext φ := by cases kd <;> exact fun z => nomatch z
def lkP (m : Pd) (p : List Nat) : Option V := (m.find? fun q => decide (q.1 = p)).map (·.2)
theorem lkP_out {m : Pd} {p : List Nat} (h : p ∉ m.map (·.1)) : lkP m p = none := by
  unfold lkP
  rw [List.find?_eq_none.mpr fun q hq => by rw [decide_eq_true_eq]; exact fun e => h (by rw [← e]; exact List.mem_map_of_mem hq)]
  rfl
theorem lkP_in : ∀ {m : Pd} {i : Nat} {q : List Nat × V}, (m.map (·.1)).Nodup → m[i]? = some q → lkP m q.1 = some q.2
  | [], _, _, _, h => nomatch h
  | x :: m, 0, q, _, h => by
    obtain rfl : x = q := Option.some.inj h
    show Option.map _ (List.find? _ (x :: m)) = _
    rw [List.find?_cons_of_pos (by exact decide_eq_true rfl)]
    rfl
  | x :: m, i + 1, q, nd, h => by
    have h : m[i]? = some q := h
    obtain ⟨n1, n2⟩ := List.nodup_cons.mp (show (x.1 :: m.map (·.1)).Nodup from nd)
    have ne : x.1 ≠ q.1 := fun e => n1 (by rw [e]; exact List.mem_map_of_mem (List.mem_of_getElem? h))
    have ih := lkP_in (i := i) n2 h
    unfold lkP at ih ⊢
    rw [List.find?_cons_of_neg (by rw [decide_eq_true_eq]; exact ne)]
    exact ih
theorem lkP_mem {m : Pd} {p : List Nat} (nd : (m.map (·.1)).Nodup) (h : p ∈ m.map (·.1)) : ∃ v, lkP m p = some v ∧ (p, v) ∈ m := by
  obtain ⟨q, hq, rfl⟩ := List.mem_map.mp h
  obtain ⟨i, hi⟩ := List.mem_iff_getElem?.mp hq
  exact ⟨q.2, lkP_in nd hi, hq⟩
section
variable {κ : Type} [DecidableEq κ] {f : List Nat → κ}
theorem valV_f {m : Pd} {p : List Nat} (inj : ∀ q ∈ m, f q.1 = f p → q.1 = p) : valV (m.map fun q => (f q.1, q.2)) (f p) = lkP m p := by
  induction m with
  | nil => rfl
  | cons x m ih =>
    have ih := ih fun q hq => inj q (List.mem_cons_of_mem _ hq)
    rw [List.map_cons]
    by_cases e : x.1 = p
    · rw [valV_pos (congrArg f e)]
      show some x.2 = Option.map _ (List.find? _ (x :: m))
      rw [List.find?_cons_of_pos (by exact decide_eq_true e)]
      rfl
    · rw [valV_neg fun z => e (inj x List.mem_cons_self z), ih]
      unfold lkP
      rw [List.find?_cons_of_neg (by rw [decide_eq_true_eq]; exact e)]
theorem putK_f {m : Pd} {p : List Nat} {v : V} (inj : ∀ q ∈ m, f q.1 = f p → q.1 = p) (h : p ∉ m.map (·.1)) : putK (m.map fun q => (f q.1, q.2)) (f p) v = (m ++ [(p, v)]).map fun q => (f q.1, q.2) := by
  have : ((m.map fun q => (f q.1, q.2)).any fun kv => decide (kv.1 = f p)) = false := by
    rw [valV_any, valV_f inj, lkP_out h]
    rfl
  unfold putK
  rw [if_neg (by rw [this]; exact Bool.false_ne_true), List.map_append]
  rfl
end
theorem kI_inj {p q : List Nat} (hp : ∃ z, p = [z]) (hq : ∃ z, q = [z]) (e : kI q = kI p) : q = p := by
  obtain ⟨z, rfl⟩ := hp
  obtain ⟨y, rfl⟩ := hq
  have e : ((y : Nat) : Int) = ((z : Nat) : Int) := Sum.inl.inj e
  rw [show y = z by omega]
theorem kS_inj {p q : List Nat} (e : kS q = kS p) : q = p := by
  have e := Sum.inr.inj e
  injection e with e
  have := congrArg Array.toList e
  simpa using this
section
variable {kd : Kd} {H : Hp} {d : Addr} {m : Pd} {v z : V} {p : List Nat}
theorem dget_kd (h : H d = some (dO kd m)) (hv : PlV kd H v p) (hk : ∀ q ∈ m, okP kd q.1) : DGet H d v (lkP m p) := by
  cases kd with
  | i =>
    obtain ⟨y, rfl, rfl⟩ := hv
    have := DGet.k (k := kI [y]) (show H d = some (.dK (m.map fun q => (kI q.1, q.2))) from h)
    rw [valV_f (f := kI) fun q hq e => kI_inj ⟨y, rfl⟩ (hk q hq rfl) e] at this
    exact this
  | s =>
    obtain rfl : v = sV p := hv
    have := DGet.k (k := kS p) (show H d = some (.dK (m.map fun q => (kS q.1, q.2))) from h)
    rw [valV_f (f := kS) fun q hq e => kS_inj e] at this
    exact this
  | r =>
    obtain ⟨b, rfl, hb⟩ := hv
    rw [← kN_row] at hb
    have := DGet.t (k := kN p) (show H d = some (.dT (m.map fun q => (kN q.1, q.2))) from h) hb
    rw [valV_f (f := kN) fun q hq e => kN_inj e] at this
    exact this
theorem dput_kd (h : H d = some (dO kd m)) (hv : PlV kd H v p) (hk : ∀ q ∈ m, okP kd q.1) (hp : p ∉ m.map (·.1)) (hl : m.length < sizeLine) : DPut H d v z (upd H d (dO kd (m ++ [(p, z)]))) := by
  cases kd with
  | i =>
    obtain ⟨y, rfl, rfl⟩ := hv
    have := DPut.k (k := kI [y]) (v := z) (show H d = some (.dK (m.map fun q => (kI q.1, q.2))) from h) (by rw [List.length_map]; exact hl)
    rw [putK_f (f := kI) (fun q hq e => kI_inj ⟨y, rfl⟩ (hk q hq rfl) e) hp] at this
    exact this
  | s =>
    obtain rfl : v = sV p := hv
    have := DPut.k (k := kS p) (v := z) (show H d = some (.dK (m.map fun q => (kS q.1, q.2))) from h) (by rw [List.length_map]; exact hl)
    rw [putK_f (f := kS) (fun q hq e => kS_inj e) hp] at this
    exact this
  | r =>
    obtain ⟨b, rfl, hb⟩ := hv
    rw [← kN_row] at hb
    have := DPut.t (k := kN p) (v := z) (show H d = some (.dT (m.map fun q => (kN q.1, q.2))) from h) hb (by rw [List.length_map]; exact hl)
    rw [putK_f (f := kN) (fun q hq e => kN_inj e) hp] at this
    exact this
end
def eScopeD : Expr → Scope | .DictComp _ _ _ sc _ => sc | _ => { kind := .function, names := [], isGenerator := false, isCoroutine := false }
/-! either of two readings -/
def tEither (t1 t2 : TE) : TE := fun σ H Q => t1 σ H Q ∨ t2 σ H Q
theorem pe_either {X : Cx} {e : Expr} {t1 t2 : TE} (h1 : PE X e t1) (h2 : PE X e t2) : PE X e (tEither t1 t2) := ⟨fun pins s σ H Q I h => h.elim (h1.run pins s σ H Q I) (h2.run pins s σ H Q I)⟩
theorem pe_dispE {X : Cx} {k v : Expr} {pos : Pos} {tk tv : TE} (hu : X.A.units + 1 < cLine) (hk : PE X k tk) (hv : PE X v tv) : PE X (.Dict [some k] [v] pos) (tEither (tDisp [(tk, tv)]) (tDispV tk tv)) :=
  pe_either (pe_disp (pps_cons hk hv pps_nil) rfl rfl (fun z => nomatch z) (by show 1 ≤ 15; decide)) (pe_dispV hu hk hv)
section
variable {kd : Kd} {H : Hp} {σ : L2.St} {Q : VK}
/-- {x: c} -/
theorem r_dispE {i : Nat} {v y : V} {p : List Nat} (hs : σ[i]? = some (some v)) (hv : PlV kd H v p) (q : ∀ d, H d = none → Q (.ref d) (upd H d (dO kd [(p, y)]))) : tEither (tDisp [(tVar i, tC y)]) (tDispV (tVar i) (tC y)) σ H Q := by
  cases kd with
  | i =>
    obtain ⟨z, rfl, rfl⟩ := hv
    refine .inl fun d hd => ⟨_, hs, upd_same, [(kI [z], y)], rfl, by show 1 ≤ 15; decide, ?_⟩
    rw [upd_upd]
    exact q d hd
  | s =>
    obtain rfl : v = sV p := hv
    refine .inl fun d hd => ⟨_, hs, upd_same, [(kS p, y)], rfl, by show 1 ≤ 15; decide, ?_⟩
    rw [upd_upd]
    exact q d hd
  | r =>
    obtain ⟨b, rfl, hb⟩ := hv
    refine .inr fun d hd => ⟨_, hs, b, p, rfl, (upd_ne (ne_of_none hb hd)).trans hb, upd_same, ?_⟩
    rw [upd_upd]
    exact q d hd
end
/-- list(d) -/
def rListE : List V → Hp → VK → Prop := fun xs H Q => rListD xs H Q ∨ ∃ d kvs, xs = [V.ref d] ∧ Rd H d (.dT kvs) ∧ ∀ p bs, H p = none → IsKeys H kvs bs → Q (.ref p) (upd H p (.lst (bs.map V.ref)))
theorem call_listE {X : Cx} (hc : X.calm = true) : CallR X (.type "list") rListE := fun pins s σ H xs us Q I r h => h.elim (fun h => call_list_dK hc pins s σ H xs us Q I r h) fun h => call_list_dT hc pins s σ H xs us Q I r h
def PlsR (kd : Kd) (H : Hp) (vs : List V) (ps : List (List Nat)) : Prop := vs.length = ps.length ∧ ∀ (i : Nat) (v : V) (p : List Nat), vs[i]? = some v → ps[i]? = some p → PlV kd H v p
theorem PlsR.k {kd : Kd} {H H' : Hp} {vs : List V} {ps : List (List Nat)} (h : PlsR kd H vs ps) (e : ∀ b xs, H b = some (.tup xs) → H' b = some (.tup xs)) : PlsR kd H' vs ps := ⟨h.1, fun i v p h1 h2 => (h.2 i v p h1 h2).k e⟩
theorem PlsR.same {kd : Kd} {H H' : Hp} {vs : List V} {ps : List (List Nat)} (h : PlsR kd H vs ps) (s : Same H H') : PlsR kd H' vs ps := h.k fun b _ e => s b _ e
theorem PlsR.snoc {kd : Kd} {H : Hp} {vs : List V} {ps : List (List Nat)} {v : V} {p : List Nat} (h : PlsR kd H vs ps) (hv : PlV kd H v p) : PlsR kd H (vs ++ [v]) (ps ++ [p]) := by
  refine ⟨by rw [List.length_append, List.length_append, h.1]; rfl, fun i w q h1 h2 => ?_⟩
  rcases Nat.lt_or_ge i vs.length with hi | hi
  · rw [List.getElem?_append_left hi] at h1
    rw [List.getElem?_append_left (by rw [← h.1]; exact hi)] at h2
    exact h.2 i w q h1 h2
  · rw [List.getElem?_append_right hi] at h1
    rw [List.getElem?_append_right (by rw [← h.1]; exact hi), ← h.1] at h2
    obtain ⟨j, ej⟩ : ∃ j, i - vs.length = j := ⟨_, rfl⟩
    rw [ej] at h1 h2
    cases j with
    | zero =>
      obtain rfl := Option.some.inj h1
      obtain rfl := Option.some.inj h2
      exact hv
    | succ j => exact nomatch h1
theorem keys_get : ∀ {H : Hp} {m : Pd} {bs : List Addr}, IsKeys H (m.map fun q => (kN q.1, q.2)) bs → PlsR .r H (bs.map V.ref) (m.map (·.1))
  | H, [], [], _ => ⟨rfl, fun i v p h1 _ => nomatch h1⟩
  | H, [], b :: bs, h => by cases h
  | H, q :: m, [], h => by cases h
  | H, q :: m, b :: bs, h => by
    cases h with
    | cons h1 h2 =>
      have ih := keys_get h2
      refine ⟨by rw [List.map_cons, List.map_cons, List.length_cons, List.length_cons, ih.1], fun i v p e1 e2 => ?_⟩
      cases i with
      | zero =>
        obtain rfl := Option.some.inj e1
        obtain rfl := Option.some.inj e2
        refine ⟨b, rfl, ?_⟩
        rw [← kN_row]
        exact h1
      | succ i => exact ih.2 i v p e1 e2
theorem r_listE {kd : Kd} {H : Hp} {d : Addr} {m : Pd} {Q : VK} (h : H d = some (dO kd m)) (hk : ∀ q ∈ m, okP kd q.1) (q : ∀ l vs, H l = none → PlsR kd H vs (m.map (·.1)) → Q (.ref l) (upd H l (.lst vs))) : rListE [.ref d] H Q := by
  cases kd with
  | i =>
    refine .inl ⟨d, _, rfl, h, fun l hl => q l _ hl ⟨by rw [List.length_map, List.length_map, List.length_map], fun i v p h1 h2 => ?_⟩⟩
    rw [List.map_map, List.getElem?_map] at h1
    rw [List.getElem?_map] at h2
    obtain ⟨x, hx, rfl⟩ := Option.map_eq_some_iff.mp h2
    rw [hx] at h1
    obtain rfl := Option.some.inj h1
    obtain ⟨z, ez⟩ := hk x (List.mem_of_getElem? hx) rfl
    exact ⟨z, ez, by show V.int ((x.1.getD 0 0 : Nat) : Int) = iV z; rw [ez]; rfl⟩
  | s =>
    refine .inl ⟨d, _, rfl, h, fun l hl => q l _ hl ⟨by rw [List.length_map, List.length_map, List.length_map], fun i v p h1 h2 => ?_⟩⟩
    rw [List.map_map, List.getElem?_map] at h1
    rw [List.getElem?_map] at h2
    obtain ⟨x, hx, rfl⟩ := Option.map_eq_some_iff.mp h2
    rw [hx] at h1
    exact (Option.some.inj h1).symm
  | r => exact .inr ⟨d, _, rfl, .inl h, fun l bs hl hb => q l _ hl (keys_get hb)⟩
section
variable {X : Cx} {K : PySem.W.Frag} {P : Program} {w : World}
theorem pe_ngetK {o i : Expr} {td ty : TE} {pos : Pos} (eK : X.K = K) (eP : X.prog = P) (ew : X.w = w) (hu : X.A.units + 64 < cLine) (ho : PE X o td) (hi : PE X i ty) (hs : NoSl i) : PE X (.Subscript o i pos) (tNGet K P w td ty) := by
  subst eK eP ew
  exact pe_nget hu ho hi hs
theorem pe_dcNK {kx vx tg iter : Expr} {ifs : List Expr} {scope : Scope} {own : List (PySem.Str × Nat)} {pos : Pos} {wi : TI} {g : TG} {tt : TT} {tk tv : TE} (eK : X.K = K) (eP : X.prog = P) (ew : X.w = w) (un : X.A.units + 64 < cLine) (calm : X.calm = true) (nd : X.N.Nodup) (hi : PI X tg iter wi) (ok : BlkOk X.N X.env.scope scope own)
    (hg : ∀ (s : Shared) (H : Hp) (C : Addr) (cl : List (PySem.Str × Addr)) (fp : List Addr), PG (X.blk s H scope (compEnvC scope cl C X.env) fp) tg g)
    (ht : ∀ (s : Shared) (H : Hp) (C : Addr) (cl : List (PySem.Str × Addr)) (fp : List Addr), PTs (X.blk s H scope (compEnvC scope cl C X.env) fp) ifs tt)
    (hk : ∀ (s : Shared) (H : Hp) (C : Addr) (cl : List (PySem.Str × Addr)) (fp : List Addr), PE (X.blk s H scope (compEnvC scope cl C X.env) fp) kx tk)
    (he : ∀ (s : Shared) (H : Hp) (C : Addr) (cl : List (PySem.Str × Addr)) (fp : List Addr), PE (X.blk s H scope (compEnvC scope cl C X.env) fp) vx tv)
    (plain : ∀ x, foldedSetIterable iter X.env x = pure x := by intro _; rfl) :
    PE X (.DictComp kx vx [⟨tg, iter, ifs, 0⟩] scope pos) (tDcN K P w wi g tt tk tv (own.map (·.2))) := by
  subst eK eP ew
  exact pe_dcN un calm nd hi ok hg ht hk he plain
theorem pe_dnewNK {pos : Pos} (eP : X.prog = P) (ew : X.w = w) : PE X (.Dict [] [] pos) (tDNewN P w) := by
  subst eP ew
  exact pe_dnewN
theorem call_lenNK (eK : X.K = K) (eP : X.prog = P) (ew : X.w = w) : CallR X (.builtin "len") (rLenN K P w) := by
  subst eK eP ew
  exact call_lenN
theorem pe_nsetdK {o e f : Expr} {td ty tx : TE} {apos cpos : Pos} (eK : X.K = K) (eP : X.prog = P) (ew : X.w = w) (hu : X.A.units + 64 < cLine) (ho : PE X o td) (he : PE X e ty) (hf : PE X f tx) (m : M2 X o "setdefault" apos e f cpos) : PE X (.Call (.Attribute o "setdefault" apos) [e, f] [] cpos) (tNSetd K P w td ty tx) := by
  subst eK eP ew
  exact pe_nsetd hu ho he hf m
theorem pe_callKK {K' : PySem.W.Frag} {P' : Program} {w' : World} {mg' : Str → Option Value} {base' : Heap} {k j i : Nat} {x : Str} {t : TA} {e : Expr} {es : List Expr} {p pos : Pos} (eP : X.prog = P') (ew : X.w = w') (eK : X.K = K') (em : X.mg = mg') (eb : X.base = base') (hr : Room j X.A) (hk : k ≤ j) (hN : X.N[i]? = some x) (hv : Vis X.env.scope x) (ha : PA X (e :: es) t)
    (hd : (x == ("__debug__" : Str)) = false := by decide) (hcd : (x == ("__classdict__" : Str)) = false := by decide)
    (he : starEach (e :: es) X.env = (false, eval e X.env) :: starEach es X.env := by rfl) (hpl : (backTo pos (starEach es X.env)).any (·.1) = false := by rfl) :
    PE X (.Call (.Name x p) (e :: es) [] pos) (tCallK P' w' K' mg' base' k i t) := by
  subst eP ew eK em eb
  exact pe_callK hr hk hN hv ha hd hcd he hpl
end
/-! numbers of places -/
def enumP (ps : List (List Nat)) : Pd := (List.range ps.length).map fun i => (ps.getD i [], iV i)
theorem enumP_len (ps : List (List Nat)) : (enumP ps).length = ps.length := by unfold enumP; rw [List.length_map, List.length_range]
theorem enumP_at {ps : List (List Nat)} {i : Nat} {p : List Nat} (h : ps[i]? = some p) : (enumP ps)[i]? = some (p, iV i) := by
  unfold enumP
  rw [List.getElem?_map, List.getElem?_range (List.getElem?_eq_some_iff.mp h).1]
  show some (ps.getD i [], iV i) = _
  rw [List.getD_eq_getElem?_getD, h]
  rfl
theorem enumP_keys (ps : List (List Nat)) : (enumP ps).map (·.1) = ps := by
  refine List.ext_getElem? fun i => ?_
  rw [List.getElem?_map]
  cases h : ps[i]? with
  | none => rw [List.getElem?_eq_none (by rw [enumP_len]; exact List.getElem?_eq_none_iff.mp h)]; rfl
  | some p => rw [enumP_at h]; rfl
theorem enumP_snoc (ps : List (List Nat)) (p : List Nat) : enumP (ps ++ [p]) = enumP ps ++ [(p, iV ps.length)] := by
  unfold enumP
  rw [List.length_append, List.length_singleton, List.range_succ, List.map_append]
  congr 1
  · refine List.map_congr_left fun i hi => ?_
    rw [List.getD_eq_getElem?_getD, List.getD_eq_getElem?_getD, List.getElem?_append_left (List.mem_range.mp hi)]
  · rw [List.map_singleton, List.getD_eq_getElem?_getD, List.getElem?_append_right (Nat.le_refl _), Nat.sub_self]
    rfl
def NumR (ps : List (List Nat)) (L : NL) : Prop := L.length = ps.length ∧ ∀ (i : Nat) (p : List Nat), ps[i]? = some p → ∃ a, L[i]? = some (rowK p, a, iV i)
/-- the dict at d numbers the places -/
def NumsO (K : PySem.W.Frag) (P : Program) (w : World) (kd : Kd) (H : Hp) (d : Addr) (ps : List (List Nat)) : Prop := match kd with
  | .r => ∃ L : NL, H d = some (NDO P w d L) ∧ KeysN K H L ∧ NumR ps L
  | kd => H d = some (dO kd (enumP ps))
theorem NumsO.k {K : PySem.W.Frag} {P : Program} {w : World} {kd : Kd} {H H' : Hp} {d : Addr} {ps : List (List Nat)} (h : NumsO K P w kd H d ps) (s : Same H H') : NumsO K P w kd H' d ps := by
  cases kd with
  | i => exact s _ _ h
  | s => exact s _ _ h
  | r =>
    obtain ⟨L, h1, h2, h3⟩ := h
    exact ⟨L, s _ _ h1, h2.k (sT_of s), h3⟩
theorem find_first {α : Type} {f : α → Bool} : ∀ {m : List α} {i : Nat} {p : α}, m[i]? = some p → f p = true → (∀ x ∈ m.take i, f x = false) → m.find? f = some p
  | [], _, _, h, _, _ => nomatch h
  | x :: m, 0, p, h, hp, _ => by
    obtain rfl : x = p := Option.some.inj h
    rw [List.find?_cons_of_pos hp]
  | x :: m, i + 1, p, h, hp, hb => by
    have hx : f x = false := hb x (by rw [List.take_succ_cons]; exact List.mem_cons_self)
    rw [List.find?_cons_of_neg (by rw [hx]; exact Bool.false_ne_true)]
    exact find_first (i := i) h hp fun y hy => hb y (by rw [List.take_succ_cons]; exact List.mem_cons_of_mem _ hy)
theorem numR_val {ps : List (List Nat)} {L : NL} (h : NumR ps L) (nd : ps.Nodup) {i : Nat} {p : List Nat} (hp : ps[i]? = some p) : valN L (rowK p) = some (iV i) := by
  obtain ⟨a, ha⟩ := h.2 i p hp
  have : L.find? (fun x => decide (x.1 = rowK p)) = some (rowK p, a, iV i) := find_first ha (decide_eq_true rfl) fun x hx => by
    obtain ⟨j, hj⟩ := List.mem_iff_getElem?.mp hx
    rw [List.getElem?_take] at hj
    split at hj
    · rename_i hlt
      obtain ⟨q, hq⟩ : ∃ q, ps[j]? = some q := ⟨_, List.getElem?_eq_getElem (by rw [← h.1]; exact (List.getElem?_eq_some_iff.mp hj).1)⟩
      obtain ⟨b, hb⟩ := h.2 j q hq
      rw [hj] at hb
      obtain rfl := Option.some.inj hb
      refine decide_eq_false fun e => ?_
      have e := rowK_inj e
      subst e
      have := nodup_at nd hp hq
      omega
    · exact nomatch hj
  unfold valN atN
  rw [this]
  rfl
/-- numbers[e] -/
theorem r_numE {K : PySem.W.Frag} {P : Program} {w : World} {kd : Kd} {σ : L2.St} {H : Hp} {Q : VK} {j : Nat} {d : Addr} {ps : List (List Nat)} {ty : TE} (hs : σ[j]? = some (some (.ref d))) (nd : ps.Nodup) (hk : ∀ p ∈ ps, okP kd p)
    (h : ∀ R : VK, (∀ (H' : Hp) (v : V) (p : List Nat) (i : Nat), ps[i]? = some p → PlV kd H' v p → NumsO K P w kd H' d ps → Q (iV i) H' → R v H') → ty σ H R) : tEither (tDGet (tVar j) ty) (tNGet K P w (tVar j) ty) σ H Q := by
  have flat : kd ≠ .r → tEither (tDGet (tVar j) ty) (tNGet K P w (tVar j) ty) σ H Q := fun hr => by
    refine .inl ⟨_, hs, h _ fun H' v p i hp hv hn q => ⟨d, iV i, rfl, ?_, q⟩⟩
    have hd : H' d = some (dO kd (enumP ps)) := by
      cases kd with
      | i => exact hn
      | s => exact hn
      | r => exact absurd rfl hr
    have g := dget_kd hd hv fun q hq => hk _ (by
      have := List.mem_map_of_mem (f := (·.1)) hq
      rw [enumP_keys] at this
      exact this)
    rw [lkP_in (i := i) (q := (p, iV i)) (by rw [enumP_keys]; exact nd) (enumP_at hp)] at g
    exact g
  cases kd with
  | i => exact flat fun z => nomatch z
  | s => exact flat fun z => nomatch z
  | r =>
    refine .inr ⟨_, hs, h _ fun H' v p i hp hv hn q => ?_⟩
    obtain ⟨L, h1, h2, h3⟩ := hn
    obtain ⟨b, rfl, hb⟩ := hv
    exact ⟨d, b, rowK p, L, rfl, rfl, .inl h1, h2, dn_row (SqT.of hb), rowK_depth p, _, numR_val h3 nd hp, q⟩
/-- walks over enumerate(list), of any turn -/
theorem it_enL {K : PySem.W.Frag} {a : Addr} {xs : List V} {H0 : Hp} {Qd : Hp → Prop} {TURN : V → Hp → (Hp → Prop) → Prop} (Pv : Nat → Hp → Prop) (h0 : Pv 0 H0) (hl : ∀ i H, i ≤ xs.length → Pv i H → SqL K H a xs)
    (hs : ∀ i x H T, xs[i]? = some x → Pv i H → H T = none → TURN (.ref T) (upd H T (.tup [.int (i : Nat), x])) (Pv (i + 1))) (hd : ∀ H, Pv xs.length H → Qd H) :
    ∃ W : Nat → Nat → Hp → Prop, (∃ m, W 0 m H0) ∧ ∀ i m H, W i m H → ((Ite K a).stop i H ∧ Qd H) ∨ ((Ite K a).go i H ∧ ∃ R : Hp → Prop, (∀ H', R H' → ∃ m', m' < m ∧ W (i + 1) m' H') ∧ ∀ x H', (Ite K a).yld i H x H' → TURN x H' R) := by
  refine ⟨fun i m H => m + i = xs.length ∧ Pv i H, ⟨xs.length, rfl, h0⟩, ?_⟩
  rintro i m H ⟨hm, p⟩
  have q := hl i H (by omega) p
  by_cases hlt : i < xs.length
  · refine .inr ⟨⟨xs, xs[i], q, List.getElem?_eq_getElem hlt⟩, Pv (i + 1), fun H' p' => ⟨m - 1, by omega, by omega, p'⟩, ?_⟩
    rintro v H' ⟨T, x, rfl, hT, rfl, hx⟩
    exact hs i x H T (hx xs q) p hT
  · have e : i = xs.length := by omega
    subst e
    exact .inl ⟨⟨xs, q, Nat.le_refl _⟩, hd H p⟩
theorem putE {kd : Kd} (hr : kd ≠ .r) {H : Hp} {D : Addr} {m : Pd} {y z : V} {p : List Nat} {R : Hp → Prop} (h : H D = some (dO kd m)) (hv : PlV kd H y p) (hk : ∀ q ∈ m, okP kd q.1) (hp : p ∉ m.map (·.1)) (hl : m.length < sizeLine) (q : R (upd H D (dO kd (m ++ [(p, z)])))) :
    ∃ kvs k, y = kV k ∧ H D = some (.dK kvs) ∧ kvs.length < sizeLine ∧ R (upd H D (.dK (putK kvs k z))) := by
  cases kd with
  | i =>
    obtain ⟨x, rfl, rfl⟩ := hv
    refine ⟨_, kI [x], rfl, h, by rw [List.length_map]; exact hl, ?_⟩
    rw [putK_f (f := kI) (fun q hq e => kI_inj ⟨x, rfl⟩ (hk q hq rfl) e) hp]
    exact q
  | s =>
    obtain rfl : y = sV p := hv
    refine ⟨_, kS p, rfl, h, by rw [List.length_map]; exact hl, ?_⟩
    rw [putK_f (f := kS) (fun q hq e => kS_inj e) hp]
    exact q
  | r => exact absurd rfl hr
theorem numR_snoc {ps : List (List Nat)} {L : NL} (h : NumR ps L) (p : List Nat) (b : Addr) : NumR (ps ++ [p]) (L ++ [(rowK p, b, iV ps.length)]) := by
  refine ⟨by rw [List.length_append, List.length_append, h.1]; rfl, fun i k' e => ?_⟩
  rcases Nat.lt_or_ge i ps.length with hi | hi
  · rw [List.getElem?_append_left hi] at e
    obtain ⟨a, ha⟩ := h.2 i k' e
    exact ⟨a, by rw [List.getElem?_append_left (by rw [h.1]; exact hi)]; exact ha⟩
  · rw [List.getElem?_append_right hi] at e
    have : i = ps.length := by
      have := (List.getElem?_eq_some_iff.mp e).1
      rw [List.length_singleton] at this
      omega
    subst this
    rw [Nat.sub_self] at e
    obtain rfl := Option.some.inj e
    exact ⟨b, by rw [List.getElem?_append_right (by rw [h.1]; exact Nat.le_refl _), h.1, Nat.sub_self]; rfl⟩
theorem numR_at {ps : List (List Nat)} {L : NL} (h : NumR ps L) {p : List Nat} (hp : p ∉ ps) : atN L (rowK p) = none := by
  have : L.find? (fun x => decide (x.1 = rowK p)) = none := List.find?_eq_none.mpr fun x hx => by
    obtain ⟨j, hj⟩ := List.mem_iff_getElem?.mp hx
    obtain ⟨q, hq⟩ : ∃ q, ps[j]? = some q := ⟨_, List.getElem?_eq_getElem (by rw [← h.1]; exact (List.getElem?_eq_some_iff.mp hj).1)⟩
    obtain ⟨b, hb⟩ := h.2 j q hq
    rw [hj] at hb
    obtain rfl := Option.some.inj hb
    rw [decide_eq_true_eq]
    intro e
    have e := rowK_inj e
    subst e
    exact hp (List.mem_of_getElem? hq)
  unfold atN
  rw [this]
  rfl
end G
set_option Elab.async false
set_option linter.all false
set_option maxRecDepth 100000
set_option maxHeartbeats 4000000
namespace G
open PySem PySem.Spec PyProof.Rows L2 LamX NdefX
open PySem.W (KeyPure EachIs dataLe AllAlike Sortable)
def eKwv (k : Nat) : Expr → Expr
  | .Call _ _ ks _ => (ks[k]?.map (·.value)).getD noE
  | _ => noE
/-! ### sorted(rows, key = a lambda that gives -len(row), or (-len(row), row)) -/
def IsNegLen (x : Str) (e : Expr) : Prop := ∃ (p1 p2 p3 p4 : Pos), e = .UnaryOp .USub (.Call (.Name "len" p1) [.Name x p2] [] p3) p4
section
variable {X : Cx} {pins : List (Addr × Obj)} {σ : L2.St} {H : Hp} {s : Shared} {E : Value → Shared → Prop}
theorem name_ref {x : Str} {pos : Pos} {i : Nat} {b : Addr} {Q : Value → Shared → Prop} (I : Inv X pins σ H s) (hN : X.N[i]? = some x) (hs : σ[i]? = some (some (.ref b))) (hv : Vis X.env.scope x) (hd : (x == ("__debug__" : Str)) = false) (hcd : (x == ("__classdict__" : Str)) = false)
    (h : Q (.ref b) s) : wpAny (model X.prog X.w) X.A (eval (.Name x pos) X.env) Q E s := by
  obtain ⟨m, hn, hl⟩ := I.loc
  obtain ⟨u, r, l⟩ := hl i x _ hN hs hv
  obtain rfl : u = Value.ref b := r
  rcases l with ⟨hk, hm⟩ | ⟨hk, c, hc, hcell⟩
  · exact wpAny_Name (wpAny_loadName_local I.ok.kind hk hn hm h) hd
  · rcases hk with hk | hk
    · exact wpAny_Name (wpAny_loadName_cell I.ok.kind hk hc hcell h) hd
    · exact wpAny_Name (wpAny_loadName_free I.ok.kind hk hc hcell h hcd) hd
theorem neglen_run {x : Str} {e : Expr} {i : Nat} {b : Addr} {xs : List V} {Q : Value → Shared → Prop} (he : IsNegLen x e) (I : Inv X pins σ H s) (hN : X.N[i]? = some x) (hs : σ[i]? = some (some (.ref b))) (hv : Vis X.env.scope x) (hd : (x == ("__debug__" : Str)) = false) (hcd : (x == ("__classdict__" : Str)) = false)
    (hg : Gl X "len") (hm : X.mg "len" = none) (hT : SqT X.K H b xs) (h : ∀ t k, Q (.int (-(xs.length : Nat)) t) { s with toks := k }) : wpAny (model X.prog X.w) X.A (eval e X.env) Q E s := by
  obtain ⟨p1, p2, p3, p4, rfl⟩ := he
  obtain ⟨its, r', pl, hz⟩ := I.tuple hT
  have hlen := r'.length
  have hn := line63
  have zl : (sizeLine : Nat) = 16777216 := by decide
  have e1 : starEach [Expr.Name x p2] X.env = (false, eval (.Name x p2) X.env) :: starEach [] X.env := rfl
  refine UnaryOp_ ?_
  refine wpAny_Call_Name_kw (ld_blt (u := Value.builtin "len") I hg hm (by decide +kernel) ?_)
  refine PyProof.Rows.callWith_builtin1 ?_ e1 rfl
  rw [e1]
  show wpAny _ _ (spliced ((false, eval (.Name x p2) X.env) :: backTo p3 (starEach [] X.env))) _ _ s
  refine Calls.spliced_cons (name_ref I hN hs hv hd hcd ?_)
  show wpAny _ _ (spliced (backTo p3 (starEach [] X.env))) _ _ s
  refine Calls.spliced_nil ?_
  obtain ⟨o, ho, hc, n, hdt⟩ := pl
  refine len_tuple ⟨o, ho, hc, n, hdt⟩ (by simp only [List.size_toArray]; omega) ?_
  refine neg_int ?_
  rw [List.size_toArray, ← hlen]
  exact h _ _
end
/-! the lambda is called -/
section
variable {P : Program} {w : World} {K : PySem.W.Frag} {mg : Str → Option Value} {base : Heap} {A : Around} {outer : List Env} {s : Shared} {H : Hp} {f b : Addr} {F : NF} {e : Expr} {x : Str}
theorem keyLam_run {k : PyData} (S : NScope [x] [x] [] F.scope) (hcl : F.cl = []) (hb : ∀ (pm ctv u : Value), bindArgs (lamFd F e pm ctv) ⟨[u], []⟩ = pure [(x, u)]) (hr : Room 1 A) (e0 : Env0 P w K mg base A outer s H)
    (hf : H f = some (LamO f F e)) (hc : H F.c = some (CodeO F.c F.qual))
    (body : ∀ (s1 : Shared) (E : Value → Shared → Prop), Inv (ncx CX0 P w K mg base [x] F f A outer s H E0) [] [some (.ref b)] H s1 → wpAny (model P w) (A.deeper (envF F f s.heap.objs.size)) (eval e (envF F f s.heap.objs.size)) (KeyPure k s1) E s1) :
    wpAny (model P w) A (call (.ref f) [.ref b]) (KeyPure k s) (fun _ _ => False) s := by
  have lim : s.heap.NoLimit := e0.mod.nolimit.keeps fun b o z => (e0.bs b o z).1
  obtain ⟨od, sl, pm, ctv, ho⟩ := lamO_at e0.hok hf
  refine wpAny_call ?_
  refine PySem.W.kla_callFunE hr.depth ho rfl S.co S.gen rfl (codeO_at e0.hok hc) ?_
  rw [hb pm ctv (.ref b)]
  refine wpAny_pure (wpAny_newFunctionEnv S.nocell (fun y hy => S.par y.1 (by rw [List.mem_singleton.mp hy]; exact List.mem_singleton.mpr rfl)) (fun h₁ hns hsb => ⟨lim.fresh _ hsb, ?_⟩) S.kind)
  show codeAny _ _ (.expr e (envF F f s.heap.objs.size)) _ _
  have kp : ∀ b o, s.heap.get? b = some o → h₁.get? b = some o := fun b o z =>
    hsb.extBut b o (Nat.ne_of_lt (Heap.lt_size z)) (Heap.get?_push_of_some _ z)
  have C : CellsAt F.cl [] [] s.heap H := by
    rw [hcl]
    exact ⟨rfl, (fun y c z => nomatch z), (fun y z c h => nomatch h), (fun i y h => nomatch h)⟩
  have I := inv_startN (CX := CX0) (E := E0) (f := f) (tk := s.toks + ([x].zip [Value.ref b]).length) (N := [x]) (ps := [x]) (fr := []) (ws := []) (vs := [V.ref b]) (us := [Value.ref b]) S hr.hd e0 rfl (.cons rfl .nil) C hns kp
  refine PySem.W.kla_codeExpr (wpAny_mono (body _ _ I) (fun u s' hs => ?_) fun _ _ hs => hs)
  obtain ⟨h', tk, rfl, kp', rd⟩ := hs
  exact ⟨h', tk, rfl, fun c o z => kp' c o (kp c o z), rd⟩
end
def keyLen (r : List Nat) : PyData := .int (-(r.length : Nat))
def keyLot (r : List Nat) : PyData := .tuple [.int (-(r.length : Nat)), rowD r]
theorem reads_row {h : Heap} : ∀ (r : List Nat) (its : List Value), Vals (r.map iV) its → ReadsAll h its (r.map nD) []
  | [], _, v => by
    cases v
    exact .nil
  | n :: r, _, v => by
    cases v with
    | cons v1 v2 =>
      obtain ⟨t, rfl⟩ := v1
      exact ReadsAll.cons (as := []) (bs := []) (Reads.int _ _) (reads_row r _ v2)
/-- which lambda it is -/
inductive KeyE (x : Str) : Expr → (List Nat → PyData) → Prop
  | len {e : Expr} : IsNegLen x e → KeyE x e keyLen
  | lot {e : Expr} {p2 p5 : Pos} {c : Nat} : IsNegLen x e → KeyE x (.Tuple [e, .Name x p2] c p5) keyLot
section
variable {P : Program} {w : World} {K : PySem.W.Frag} {mg : Str → Option Value} {base : Heap} {A : Around} {outer : List Env} {s : Shared} {H : Hp} {f b : Addr} {F : NF} {e : Expr} {x : Str}
theorem keyE_run {kd : List Nat → PyData} {r : List Nat} (ke : KeyE x e kd) (S : NScope [x] [x] [] F.scope) (hcl : F.cl = []) (hb : ∀ (pm ctv u : Value), bindArgs (lamFd F e pm ctv) ⟨[u], []⟩ = pure [(x, u)]) (hr : Room 1 A) (e0 : Env0 P w K mg base A outer s H)
    (hf : H f = some (LamO f F e)) (hc : H F.c = some (CodeO F.c F.qual)) (hg : F.scope.names.lookup ("len" : Str) = some NameKind.globalImplicit) (hm : mg "len" = none) (hd : (x == ("__debug__" : Str)) = false) (hcd : (x == ("__classdict__" : Str)) = false) (hT : SqT K H b (r.map iV)) :
    wpAny (model P w) A (call (.ref f) [.ref b]) (KeyPure (kd r) s) (fun _ _ => False) s := by
  refine keyLam_run S hcl hb hr e0 hf hc fun s1 E I => ?_
  have hv : Vis (ncx CX0 P w K mg base [x] F f A outer s H E0).env.scope x := .inl (S.par x (List.mem_singleton.mpr rfl))
  cases ke with
  | len he =>
    refine neglen_run (i := 0) (b := b) (X := ncx CX0 P w K mg base [x] F f A outer s H E0) he I rfl rfl hv hd hcd hg hm hT fun t k => ?_
    refine ⟨s1.heap, k, rfl, fun b o z => z, ?_⟩
    rw [List.length_map]
    exact Reads.int _ _
  | @lot e' p2 p5 c he =>
    refine wpAny_Tuple_spliced ?_
    have e1 : starEach [e', Expr.Name x p2] (envF F f s.heap.objs.size) = (false, eval e' (envF F f s.heap.objs.size)) :: starEach [Expr.Name x p2] (envF F f s.heap.objs.size) := by
      obtain ⟨q1, q2, q3, q4, rfl⟩ := he
      rfl
    rw [e1]
    show wpAny _ _ (spliced ((false, eval e' _) :: backTo p5 (starEach [Expr.Name x p2] _))) _ _ s1
    refine Calls.spliced_cons (neglen_run (i := 0) (b := b) (X := ncx CX0 P w K mg base [x] F f A outer s H E0) he I rfl rfl hv hd hcd hg hm hT fun t k => ?_)
    have I2 : Inv (ncx CX0 P w K mg base [x] F f A outer s H E0) [] [some (.ref b)] H { s1 with toks := k } := I.tok k
    show wpAny _ _ (spliced ((false, eval (.Name x p2) _) :: backTo p5 (starEach [] _))) _ _ _
    refine Calls.spliced_cons (name_ref (i := 0) (X := ncx CX0 P w K mg base [x] F f A outer s H E0) I2 rfl rfl hv hd hcd ?_)
    show wpAny _ _ (spliced (backTo p5 (starEach [] _))) _ _ _
    refine Calls.spliced_nil ⟨by show 2 ≤ sizeLine; decide, ?_⟩
    obtain ⟨its, rv, ⟨o, ho, hcc, n, hdt⟩, _⟩ := I.tuple hT
    refine ⟨_, k, rfl, fun c o z => Heap.get?_push_of_some _ z, ?_⟩
    refine Reads.tuple (as := []) (Heap.get?_push_size _ rfl) rfl rfl ?_
    rw [List.length_map]
    refine ReadsAll.cons (as := []) (bs := []) (Reads.int _ _) (ReadsAll.cons (as := []) (bs := []) ?_ .nil)
    exact Reads.tuple (as := []) (Heap.get?_push_of_some _ ho) hcc hdt (reads_row r its rv)
end

theorem r_ckw {r : List V → List V → Hp → VK → Prop} {t tk : TA} {σ : L2.St} {H : Hp} {Q : VK} (h : t σ H fun vs H1 => tk σ H1 fun zs H2 => r vs zs H2 Q) : tCKw r t tk σ H Q := h
def leD (kd : List Nat → PyData) (a b : Addr × List Nat) : Bool := !PySem.W.dataLt (kd b.2) (kd a.2)
theorem eachRef : ∀ ps : List (Addr × List Nat), EachIs (fun (v : Value) (q : Addr × List Nat) => v = .ref q.1) (ps.map fun q => Value.ref q.1) ps
  | [] => .nil
  | q :: ps => .cons rfl (eachRef ps)
theorem valsRef : ∀ (ps : List (Addr × List Nat)) (out : List Value), EachIs (fun (v : Value) (q : Addr × List Nat) => v = .ref q.1) out ps → Vals (refsV ps) out
  | [], _, h => by
    cases h
    exact .nil
  | q :: ps, _, h => by
    cases h with
    | cons h1 h2 => exact .cons h1 (valsRef ps _ h2)
theorem alike_row (a b : List Nat) : PySem.W.alike (rowD a) (rowD b) = true := by
  unfold rowD
  show PySem.W.alikeAll (a.map nD) (b.map nD) = true
  rw [nat_ints, nat_ints]
  exact PySem.W.alike_ints _ _
theorem keyE_alike {x : Str} {e : Expr} {kd : List Nat → PyData} (h : KeyE x e kd) (a b : List Nat) : PySem.W.alike (kd a) (kd b) = true := by
  cases h with
  | len _ => rfl
  | lot _ =>
    show PySem.W.alikeAll [.int _, rowD a] [.int _, rowD b] = true
    simp only [PySem.W.alikeAll, PySem.W.alike, alike_row]
    simp [alike_row]
theorem keyE_sortable {x : Str} {e : Expr} {kd : List Nat → PyData} (h : KeyE x e kd) (ps : List (Addr × List Nat)) : Sortable (ps.map fun q => kd q.2) := by
  cases h with
  | len _ => exact Sortable.others fun b => ⟨fun z => (nomatch z), fun xs z => (nomatch z)⟩
  | lot _ => exact Sortable.tuples fun b => ⟨_, _, rfl⟩
theorem keyE_depth {x : Str} {e : Expr} {kd : List Nat → PyData} (h : KeyE x e kd) (r : List Nat) : (kd r).depth ≤ 2 := by
  cases h with
  | len _ => exact Nat.zero_le _
  | lot _ =>
    have e1 : (rowD r).depth = PyData.depthAll (r.map nD) + 1 := rfl
    have e2 : PyData.depthAll (r.map nD) = 0 := by rw [nat_ints]; exact depth_ints _
    show PyData.depthAll [.int _, rowD r] + 1 ≤ 2
    show max 0 (max (rowD r).depth 0) + 1 ≤ 2
    rw [e1, e2]
    decide
def rSortKey (K : PySem.W.Frag) (kd : List Nat → PyData) : List V → List V → Hp → VK → Prop := fun vs zs H Q => ∃ (p : Addr) (ps : List (Addr × List Nat)) (f : Addr) (F : NF) (e : Expr) (x : Str), vs = [.ref p] ∧ zs = [.ref f] ∧ SqL K H p (refsV ps) ∧ (∀ q ∈ ps, SqT K H q.1 (q.2.map iV)) ∧
  KeyE x e kd ∧ NScope [x] [x] [] F.scope ∧ F.cl = [] ∧ (∀ (pm ctv u : Value), bindArgs (lamFd F e pm ctv) ⟨[u], []⟩ = pure [(x, u)]) ∧ F.scope.names.lookup ("len" : Str) = some NameKind.globalImplicit ∧ (x == ("__debug__" : Str)) = false ∧ (x == ("__classdict__" : Str)) = false ∧
  H f = some (LamO f F e) ∧ H F.c = some (CodeO F.c F.qual) ∧ ∀ p', H p' = none → Q (.ref p') (upd H p' (.lst (refsV (ps.mergeSort (leD kd)))))
theorem cr_sortKey {X : Cx} {K : PySem.W.Frag} {kd : List Nat → PyData} (hK : X.K = K) (hr : Room 3 X.A) (hm : X.mg "len" = none) : CallRK X (.builtin "sorted") [Str.ofString "key"] (rSortKey K kd) := by
  subst hK
  intro pins s σ H vs zs us ws Q I r rz h
  obtain ⟨p, ps, f, F, e, x, rfl, rfl, hs, hrow, ke, S, hcl, hb, hg, hd, hcd, hf, hc, q⟩ := h
  obtain rfl := Vals.ref1 r
  obtain ⟨w1, rfl, e1⟩ := vals1 rz
  obtain rfl : w1 = Value.ref f := e1
  obtain ⟨its, rv, hl, hz⟩ := I.list hs
  obtain rfl := refs_eq ps its rv
  have un := hr.un
  refine PySem.W.sorted_key_data (b := false) (β := Addr × List Nat) (R := fun (v : Value) (q : Addr × List Nat) => v = .ref q.1) (fun q => kd q.2) hl.isList (eachRef ps) (AllAlike.of fun a b => keyE_alike ke a.2 b.2) (keyE_sortable ke ps) (by
      have : (refsV ps).length = ps.length := List.length_map _
      omega) (fun q _ => ?_) (PyProof.Rows.ksk_s1 _ _) (fun _ => PyProof.Rows.ksk_l1 _ _) (fun _ => PyProof.Rows.ksk_t1 _ _) (fun v q hv hq h tk kp => ?_) fun out c h' tk kp hn hD hlen eo => ?_
  · have := keyE_depth ke q.2
    omega
  · subst hv
    have I' : Inv X pins σ H { s with heap := h, toks := tk } := I.kept (t' := tk) kp
    have e0 := I'.env0
    exact keyE_run ke S hcl hb hr.in1.in1 ⟨e0.frames, e0.mod, e0.bs, e0.bsz, e0.funs, e0.frf, e0.hok, e0.bare⟩ hf hc hg hm hd hcd (hrow q hq)
  · have hlen2 : (refsV (ps.mergeSort (leD kd))).length ≤ sizeLine := by
      have e2 : (refsV (ps.mergeSort (leD kd))).length = ps.length := by
        show (List.map _ _).length = _
        rw [List.length_map, List.length_mergeSort]
      have : (refsV ps).length = ps.length := List.length_map _
      omega
    refine ⟨.ref _, upd H (s.heap.objs.size + 1) (.lst (refsV (ps.mergeSort (leD kd)))), I.laid (t' := tk) (fun b o z => kp b o z) (Nat.le_succ _) ⟨hlen2, out, c, valsRef _ _ eo, hD⟩, rfl, q _ (I.hok.fresh (Nat.le_succ _))⟩
end G
set_option Elab.async false
set_option linter.all false
set_option maxRecDepth 100000
set_option maxHeartbeats 4000000
namespace G
open PySem PySem.Spec PyProof.Rows L2
/-! ### the order of lots: those with more states first, the others as rows -/
def leLot (a b : List Nat) : Prop := b.length < a.length ∨ (a.length = b.length ∧ rle a b)
theorem leLot_anti {a b : List Nat} (h1 : leLot a b) (h2 : leLot b a) : a = b := by
  rcases h1 with h1 | ⟨e1, h1⟩ <;> rcases h2 with h2 | ⟨e2, h2⟩
  · omega
  · omega
  · omega
  · exact rle_anti h1 h2
theorem perm_uniq {α : Type} {R : α → α → Prop} (anti : ∀ a b, R a b → R b a → a = b) : ∀ {a b : List α}, a.Perm b → a.Pairwise R → b.Pairwise R → a = b
  | [], b, h, _, _ => by rw [h.nil_eq]
  | x :: a, [], h, _, _ => by have := h.length_eq; simp at this
  | x :: a, y :: b, h, ha, hb => by
    obtain ⟨ha1, ha2⟩ := List.pairwise_cons.mp ha
    obtain ⟨hb1, hb2⟩ := List.pairwise_cons.mp hb
    have e : x = y := by
      rcases List.mem_cons.mp (h.mem_iff.mp List.mem_cons_self) with e | hx
      · exact e
      · rcases List.mem_cons.mp (h.mem_iff.mpr List.mem_cons_self) with e | hy
        · exact e.symm
        · exact anti _ _ (ha1 y hy) (hb1 x hx)
    subst e
    rw [perm_uniq anti (List.Perm.cons_inv h) ha2 hb2]
theorem lex_kk : ∀ a b : List Nat, PyProof.Rows.lexLt itemOrd (kk a) (kk b) = decide ((a.map fun n : Nat => (n : Int)) < (b.map fun n : Nat => (n : Int)))
  | [], [] => by
    rw [decide_eq_false (by simp)]
    rfl
  | [], y :: b => by
    rw [decide_eq_true (by simp)]
    rfl
  | x :: a, [] => by
    rw [decide_eq_false (by simp)]
    rfl
  | x :: a, y :: b => by
    have ih := lex_kk a b
    show PyProof.Rows.lexLt itemOrd (Sum.inl (x : Int) :: kk a) (Sum.inl (y : Int) :: kk b) = _
    rw [PyProof.Rows.lex_cons, ih]
    have e1 : itemOrd.blt (Sum.inl (x : Int)) (Sum.inl (y : Int)) = decide ((x : Int) < (y : Int)) := rfl
    have e2 : itemOrd.blt (Sum.inl (y : Int)) (Sum.inl (x : Int)) = decide ((y : Int) < (x : Int)) := rfl
    rw [e1, e2, List.map_cons, List.map_cons]
    by_cases h1 : (x : Int) < (y : Int)
    · rw [decide_eq_true h1, Bool.true_or, decide_eq_true (List.cons_lt_cons_iff.mpr (.inl h1))]
    · by_cases h2 : (y : Int) < (x : Int)
      · rw [decide_eq_false h1, decide_eq_true h2, Bool.not_true, Bool.false_and, Bool.false_or, decide_eq_false (fun z => by
          rcases List.cons_lt_cons_iff.mp z with z | z
          · omega
          · omega)]
      · have e : (x : Int) = (y : Int) := by omega
        rw [decide_eq_false h1, decide_eq_false h2, Bool.not_false, Bool.true_and, Bool.false_or, e]
        by_cases h3 : (a.map fun n : Nat => (n : Int)) < (b.map fun n : Nat => (n : Int))
        · rw [decide_eq_true h3, decide_eq_true (List.cons_lt_cons_iff.mpr (.inr ⟨rfl, h3⟩))]
        · rw [decide_eq_false h3, decide_eq_false (fun z => by
            rcases List.cons_lt_cons_iff.mp z with z | z
            · omega
            · exact h3 z.2)]
theorem rowLt_lex (a b : List Nat) : PySem.W.dataLt (rowD a) (rowD b) = PyProof.Rows.lexLt itemOrd (kk a) (kk b) := by
  unfold rowD
  rw [PySem.W.dataLt_tuple, lex_kk, nat_ints, nat_ints]
  exact PySem.W.dataLt_ints _ _
theorem rowLt_rle (a b : List Nat) : PySem.W.dataLt (rowD b) (rowD a) = false ↔ rle a b := by
  rw [rowLt_lex]
  exact Iff.rfl
theorem rle_trans {a b c : List Nat} (h1 : rle a b) (h2 : rle b c) : rle a c := KeyOrd.kle_trans h1 h2
theorem rle_lt (a b : List Nat) : rle a b ↔ ¬ (b.map fun n : Nat => (n : Int)) < (a.map fun n : Nat => (n : Int)) := by
  show PyProof.Rows.lexLt itemOrd (kk b) (kk a) = false ↔ _
  rw [lex_kk, decide_eq_false_iff_not]
theorem rle_total (a b : List Nat) : rle a b ∨ rle b a := by
  rw [rle_lt, rle_lt]
  by_cases h : (b.map fun n : Nat => (n : Int)) < (a.map fun n : Nat => (n : Int))
  · exact .inr fun z => List.lt_irrefl _ (List.lt_trans h z)
  · exact .inl h
theorem leLot_trans {a b c : List Nat} (h1 : leLot a b) (h2 : leLot b c) : leLot a c := by
  rcases h1 with h1 | ⟨e1, h1⟩ <;> rcases h2 with h2 | ⟨e2, h2⟩
  · exact .inl (by omega)
  · exact .inl (by omega)
  · exact .inl (by omega)
  · exact .inr ⟨by omega, rle_trans h1 h2⟩
theorem leLot_total (a b : List Nat) : leLot a b ∨ leLot b a := by
  rcases Nat.lt_trichotomy a.length b.length with h | h | h
  · exact .inr (.inl h)
  · exact (rle_total a b).elim (fun z => .inl (.inr ⟨h, z⟩)) fun z => .inr (.inr ⟨h.symm, z⟩)
  · exact .inl (.inl h)
theorem leD_len (p q : Addr × List Nat) : leD keyLen p q = decide (q.2.length ≤ p.2.length) := by
  unfold leD keyLen
  rw [PySem.W.dataLt_int, PySem.W.not_lt_int]
  by_cases h : q.2.length ≤ p.2.length
  · rw [decide_eq_true h, decide_eq_true (by omega)]
  · rw [decide_eq_false h, decide_eq_false (by omega)]
theorem leD_lot (p q : Addr × List Nat) : leD keyLot p q = true ↔ leLot p.2 q.2 := by
  have e : leD keyLot p q = !(if PyData.eqv (.int (-(q.2.length : Nat))) (.int (-(p.2.length : Nat))) = true then (if PyData.eqv (rowD q.2) (rowD p.2) = true then false else PySem.W.dataLt (rowD q.2) (rowD p.2)) else PySem.W.dataLt (.int (-(q.2.length : Nat))) (.int (-(p.2.length : Nat)))) := by
    unfold leD keyLot
    rw [PySem.W.dataLt_pair (by simp [PySem.W.alike]) (alike_row _ _)]
  rw [e, eqv_rows, PySem.W.dataLt_int]
  have ei : PyData.eqv (.int (-(q.2.length : Nat))) (.int (-(p.2.length : Nat))) = decide (q.2.length = p.2.length) := by
    rw [PyData.eqv]
    by_cases h : q.2.length = p.2.length
    · rw [decide_eq_true h, h]
      exact beq_self_eq_true _
    · rw [decide_eq_false h]
      exact beq_eq_false_iff_ne.mpr fun z => h (by omega)
  rw [ei]
  unfold leLot
  by_cases h : q.2.length = p.2.length
  · rw [decide_eq_true h, if_pos rfl]
    by_cases h2 : q.2 = p.2
    · rw [decide_eq_true h2, if_pos rfl, Bool.not_false]
      refine ⟨fun _ => .inr ⟨h.symm, ?_⟩, fun _ => rfl⟩
      rw [h2]
      exact (rle_total p.2 p.2).elim id id
    · rw [decide_eq_false h2, if_neg Bool.false_ne_true]
      constructor
      · intro z
        exact .inr ⟨h.symm, (rowLt_rle _ _).mp (by simpa using z)⟩
      · rintro (z | ⟨_, z⟩)
        · omega
        · rw [(rowLt_rle _ _).mpr z]
          rfl
  · rw [decide_eq_false h, if_neg Bool.false_ne_true]
    constructor
    · intro z
      have : ¬ (-(q.2.length : Int) < -(p.2.length : Int)) := by simpa using z
      exact .inl (by omega)
    · rintro (z | ⟨z, _⟩)
      · rw [decide_eq_false (by omega)]
        rfl
      · exact absurd z.symm h
theorem sorted_lot (ps : List (Addr × List Nat)) : (ps.mergeSort (leD keyLot)).Pairwise fun p q => leLot p.2 q.2 :=
  (List.pairwise_mergeSort (le := leD keyLot) (fun a b c h1 h2 => (leD_lot a c).mpr (leLot_trans ((leD_lot a b).mp h1) ((leD_lot b c).mp h2))) (fun a b => by
    rw [Bool.or_eq_true]
    exact (leLot_total a.2 b.2).elim (fun z => .inl ((leD_lot a b).mpr z)) fun z => .inr ((leD_lot b a).mpr z)) ps).imp fun h => (leD_lot _ _).mp h
theorem stable_len {zs : List (Addr × List Nat)} (h : sortedR zs) : (zs.mergeSort (leD keyLen)).Pairwise fun p q => leLot p.2 q.2 := by
  have tr : ∀ a b c : Addr × List Nat, leD keyLen a b = true → leD keyLen b c = true → leD keyLen a c = true := fun a b c h1 h2 => by
    rw [leD_len] at h1 h2 ⊢
    have := of_decide_eq_true h1
    have := of_decide_eq_true h2
    exact decide_eq_true (by omega)
  have to : ∀ a b : Addr × List Nat, (leD keyLen a b || leD keyLen b a) = true := fun a b => by
    rw [leD_len, leD_len, Bool.or_eq_true, decide_eq_true_eq, decide_eq_true_eq]
    omega
  refine List.pairwise_iff_forall_sublist.mpr fun {a b} hab => ?_
  have h1 := List.pairwise_iff_forall_sublist.mp (List.pairwise_mergeSort tr to zs) hab
  rw [leD_len, decide_eq_true_eq] at h1
  rcases Nat.lt_or_ge b.2.length a.2.length with hl | hl
  · exact .inl hl
  · have e : a.2.length = b.2.length := by omega
    refine .inr ⟨e, ?_⟩
    let f : Addr × List Nat → Bool := fun q => decide (q.2.length = a.2.length)
    have s1 : (zs.filter f).Sublist (zs.mergeSort (leD keyLen)) := List.sublist_mergeSort tr to (List.pairwise_iff_forall_sublist.mpr fun {x y} hxy => by
      have hx := (List.mem_filter.mp (hxy.subset (show x ∈ [x, y] from List.mem_cons_self))).2
      have hy := (List.mem_filter.mp (hxy.subset (show y ∈ [x, y] from List.mem_cons_of_mem _ List.mem_cons_self))).2
      have hx := of_decide_eq_true hx
      have hy := of_decide_eq_true hy
      rw [leD_len]
      exact decide_eq_true (by omega)) List.filter_sublist
    have s2 : (zs.filter f).Sublist ((zs.mergeSort (leD keyLen)).filter f) := by
      have := s1.filter f
      rw [List.filter_filter] at this
      simpa using this
    have el : (zs.filter f).length = ((zs.mergeSort (leD keyLen)).filter f).length := ((List.mergeSort_perm zs (leD keyLen)).filter f).length_eq.symm
    have eq := s2.eq_of_length el
    have s3 : [a, b].Sublist ((zs.mergeSort (leD keyLen)).filter f) := by
      have := hab.filter f
      have fa : f a = true := decide_eq_true rfl
      have fb : f b = true := decide_eq_true e.symm
      rw [List.filter_cons_of_pos fa, List.filter_cons_of_pos fb, List.filter_nil] at this
      exact this
    rw [← eq] at s3
    exact List.pairwise_iff_forall_sublist.mp h (s3.trans List.filter_sublist)
theorem lots_uniq {a b : List (Addr × List Nat)} (h : (a.map (·.2)).Perm (b.map (·.2))) (ha : a.Pairwise fun p q => leLot p.2 q.2) (hb : b.Pairwise fun p q => leLot p.2 q.2) : a.map (·.2) = b.map (·.2) :=
  perm_uniq (fun _ _ => leLot_anti) h (List.pairwise_map.mpr ha) (List.pairwise_map.mpr hb)
end G
set_option Elab.async false
set_option linter.all false
set_option maxRecDepth 100000
set_option maxHeartbeats 4000000
namespace PyProof.Rows
open PySem
section
variable {prog : Program} {w : World} {A : Around} {E : Value → Shared → Prop} {s : Shared}
theorem collect_tupG {l : Addr} {vs : List Value} {Q : List Value → Shared → Prop} (hl : IsTup s.heap l vs.toArray)
    (h : Q vs { s with heap := (s.heap.push (seqObj "list" #[] 0)).update s.heap.objs.size (Obj.mapSeq (· ++ vs.toArray)) }) (hsz : vs.length ≤ sizeLine := by size_fits) :
    wpAny (model prog w) A (collect (.ref l)) Q E s := by
  obtain ⟨o, ho, hc, n, hd⟩ := id hl
  unfold collect
  refine wpAny_bind (wpAny_runValue (codeAny_builtin entry_proto_collect' ?_))
  show wpAny _ _ (do again (.builtin "list.__iadd__" ⟨[← newList [], .ref l], []⟩)) _ _ s
  refine wpAny_bind (wpAny_newList (wpAny_pure ⟨Code.quiet_builtin _ (by decide +kernel), codeAny_builtin entry_list_iadd' ?_⟩))
  show wpAny _ _ (Builtin.List.listExtendWith (.ref s.heap.objs.size) (.ref l) (.ref s.heap.objs.size)) _ _ { s with heap := s.heap.push (seqObj "list" #[] 0) }
  unfold Builtin.List.listExtendWith
  have ho' : (s.heap.push (seqObj "list" #[] 0)).get? l = some o := Heap.get?_push_of_some _ ho
  refine wpAny_bind (wpAny_typeOf (T := "tuple") ⟨o, ho', hc⟩ ?_)
  have ht : (Value.type "tuple" == Value.type "tuple") = true := by rfl
  rw [if_pos (by rw [ht]; simp)]
  refine wpAny_bind (listItems_at ho' hd ?_)
  refine wpAny_bind (listItems_at (xs := #[]) (n := 0) (Heap.get?_push_size _ rfl) rfl ?_)
  rw [if_neg (by simp)]
  refine wpAny_bind (listUpdate_at (xs := #[]) (n := 0) (Heap.get?_push_size _ rfl) rfl ?_ (Nat.zero_le _) (by show (#[] ++ vs.toArray).size ≤ sizeLine + 1; simp only [Array.size_append, List.size_toArray, List.length_nil]; omega))
  refine wpAny_pure ?_
  show wpAny (model prog w) A (do
      let o ← load s.heap.objs.size
      match o.data with
      | .seq xs _ => pure xs.toList
      | _ => unsupported "internal:collect") Q E { s with heap := (s.heap.push (seqObj "list" #[] 0)).update s.heap.objs.size (Obj.mapSeq (· ++ vs.toArray)) }
  refine wpAny_bind (wpAny_load (get?_update_seq (Heap.get?_push_size _ rfl) _) ?_)
  show wpAny _ _ (pure ((#[] : Array Value) ++ vs.toArray).toList) Q E _
  rw [show ((#[] : Array Value) ++ vs.toArray).toList = vs by simp]
  exact wpAny_pure h
theorem sorted_tupG {l : Addr} {vs : List Value} {ns : List Int} {Q : Value → Shared → Prop} (hl : IsTup s.heap l vs.toArray) (hI : IntsAre vs ns) (h64 : vs.length < 64)
    (h : ∀ (out : Array Value) (ns' : List Int), IntsAre out.toList ns' → ns'.Perm ns → ns'.Pairwise (· ≤ ·) → Q (.ref (s.heap.objs.size + 1)) { s with heap := sortedAll s.heap vs out }) :
    wpAny (model prog w) A (call (.builtin "sorted") [.ref l]) Q E s := by
  refine Calls.call_function_entry kind_sorted plain_sorted entry_sorted (args_sorted1 _) ?_
  unfold Builtin.«sorted»
  refine wpAny_bind (m := checkCount "sorted" 1 1 _) (wpAny_pure ?_)
  refine wpAny_bind (collect_tupG hl ?_)
  refine wpAny_bind (wpAny_newList ?_)
  have hsz : ((s.heap.push (seqObj "list" #[] 0)).update s.heap.objs.size (Obj.mapSeq (· ++ vs.toArray))).objs.size = s.heap.objs.size + 1 := by
    rw [Heap.size_update, size_push']
  have hoL : (((s.heap.push (seqObj "list" #[] 0)).update s.heap.objs.size (Obj.mapSeq (· ++ vs.toArray))).push (seqObj "list" vs.toArray 0)).get? (s.heap.objs.size + 1) = some (seqObj "list" vs.toArray 0) := by
    rw [← hsz]; exact Heap.get?_push_size _ rfl
  show wpAny _ _ _ _ _ { s with heap := ((s.heap.push (seqObj "list" #[] 0)).update s.heap.objs.size (Obj.mapSeq (· ++ vs.toArray))).push (seqObj "list" vs.toArray 0) }
  rw [hsz]
  refine wpAny_bind (wpAny_holding (wpAny_call_entry slot_list_sort ⟨_, hoL, rfl⟩ entry_list_sort (list_sort_tree hoL hI h64 fun out ns' a1 a2 a3 => ⟨_, rfl, ?_⟩) (args_list_sort _)))
  exact wpAny_pure ⟨_, rfl, h out ns' a1 a2 a3⟩
end
end PyProof.Rows
namespace G
open PySem PySem.Spec PyProof.Rows L2
/-! ### sorted of a tuple of numbers -/
def rSortTI (K : PySem.W.Frag) : List V → Hp → VK → Prop := fun vs H Q => ∃ (a : Addr) (r : List Nat), vs = [V.ref a] ∧ SqT K H a (r.map iV) ∧ r.length < 64 ∧ ∀ (r' : List Nat) (p : Addr), r'.Perm r → r'.Pairwise (· ≤ ·) → H p = none → Q (.ref p) (upd H p (.lst (r'.map iV)))
theorem back_nats : ∀ (ns : List Int) (r : List Nat), ns.Perm (r.map fun n : Nat => (n : Int)) → ∃ r' : List Nat, ns = r'.map fun n : Nat => (n : Int) := fun ns r h => by
  refine ⟨ns.map Int.toNat, ?_⟩
  rw [List.map_map]
  refine (List.map_id ns).symm.trans (List.map_congr_left fun z hz => ?_)
  obtain ⟨n, _, rfl⟩ := List.mem_map.mp (h.mem_iff.mp hz)
  rfl
theorem cr_sortTI {X : Cx} {K : PySem.W.Frag} (hK : X.K = K) : CallR X (.builtin "sorted") (rSortTI K) := by
  subst hK
  rintro pins s σ H vs us Q I rs ⟨a, r, rfl, hs, h64, q⟩
  rw [Vals.ref1 rs]
  obtain ⟨its, rv, pl, hz⟩ := I.tuple hs
  rw [ints_nat] at rv
  have hi := rv.ints
  have hl := rv.length
  rw [List.length_map, List.length_map] at hl
  refine sorted_tupG pl hi (by omega) fun out ns' k1 k2 k3 => ?_
  obtain ⟨r', rfl⟩ := back_nats ns' r k2
  obtain ⟨ep, he'⟩ := PyProof.Rows.sortedAll_at s.heap its out
  have pr : r'.Perm r := by
    have h1 := k2.map Int.toNat
    rw [List.map_map, List.map_map] at h1
    have e : ∀ x : List Nat, x.map (Int.toNat ∘ fun n : Nat => (n : Int)) = x := fun x => (List.map_congr_left fun z _ => rfl).trans (List.map_id x)
    rw [e, e] at h1
    exact h1
  have hlen : (r'.map iV).length ≤ sizeLine := by
    rw [List.length_map, pr.length_eq]
    rw [List.length_map] at hz
    exact hz
  have e0 : out.toList.toArray = out := by rw [Array.toArray_toList]
  refine ⟨.ref _, upd H (s.heap.objs.size + 1) (.lst (r'.map iV)), I.laid (t' := s.toks) (fun _ _ => PyProof.Rows.sortedAll_old) (Nat.le_succ _) ⟨hlen, _, ep, by rw [ints_nat]; exact vals_of_ints k1, by rw [e0]; exact he'⟩, rfl, q _ _ pr ?_ (I.hok.fresh (Nat.le_succ _))⟩
  exact (List.pairwise_map.mp k3).imp fun h => by omega
end G
set_option Elab.async false
set_option linter.all false
set_option maxRecDepth 100000
set_option maxHeartbeats 4000000
namespace G
open PySem PySem.Spec PyProof.Rows L2
/-! ### what can be reached -/
inductive Rch (stp : Stp) (k : Nat) (o : List Nat) : List Nat → Prop
  | here : Rch stp k o o
  | step {r r' : List Nat} {c : Nat} : Rch stp k o r → c < k → stp r c = some r' → Rch stp k o r'
section
variable {stp : Stp} {k : Nat} {o : List Nat}
theorem Rch.all {P : List Nat → Prop} (h0 : P o) (hs : ∀ r c r', P r → c < k → stp r c = some r' → P r') {r : List Nat} (g : Rch stp k o r) : P r := by
  induction g with
  | here => exact h0
  | step _ hc e ih => exact hs _ _ _ ih hc e
theorem bfs_rch (i : Nat) : ∀ p ∈ bfs stp k o i, Rch stp k o p.1 := bfs_all (P := fun p => Rch stp k o p.1) .here (fun x c r hx hc e => .step hx hc e) i
theorem ext1_has {m : Wm} {x : List Nat × List Nat} {c : Nat} {r : List Nat} (e : stp x.1 c = some r) : r ∈ (ext1 stp m x c).map (·.1) := by
  unfold ext1
  rw [e]
  show r ∈ (if r ∈ m.map (·.1) then m else m ++ [(r, x.2 ++ [97 + c])]).map (·.1)
  split
  · assumption
  · rw [List.map_append]
    exact List.mem_append_right _ List.mem_cons_self
theorem ext1_mono {m : Wm} {x : List Nat × List Nat} {c : Nat} {r : List Nat} (h : r ∈ m.map (·.1)) : r ∈ (ext1 stp m x c).map (·.1) := by
  obtain ⟨z, e⟩ := ext1_pre (stp := stp) m x c
  rw [e, List.map_append]
  exact List.mem_append_left _ h
theorem extT_has {m : Wm} {x : List Nat × List Nat} {c : Nat} {r : List Nat} (e : stp x.1 c = some r) : ∀ j, c < j → r ∈ (extT stp x m j).map (·.1)
  | 0, h => absurd h (Nat.not_lt_zero _)
  | j + 1, h => by
    rw [extT_succ]
    by_cases q : c = j
    · subst q
      exact ext1_has e
    · exact ext1_mono (extT_has e j (by omega))
theorem bfs_closed {i : Nat} (h : (bfs stp k o i).length ≤ i) {x : List Nat × List Nat} (hx : x ∈ bfs stp k o i) {c : Nat} {r : List Nat} (hc : c < k) (e : stp x.1 c = some r) : r ∈ (bfs stp k o i).map (·.1) := by
  obtain ⟨j, hj⟩ := List.mem_iff_getElem?.mp hx
  have hjl := (List.getElem?_eq_some_iff.mp hj).1
  have hji : j < i := by omega
  have hj2 : j < (bfs stp k o j).length := by
    rcases Nat.lt_or_ge j (bfs stp k o j).length with q | q
    · exact q
    · have := bfs_stops q (i - j)
      rw [show j + (i - j) = i by omega] at this
      rw [this] at hjl
      omega
  obtain ⟨y, hy⟩ : ∃ y, (bfs stp k o j)[j]? = some y := ⟨_, List.getElem?_eq_getElem hj2⟩
  have hy2 := bfs_at hy (Nat.le_of_lt hji)
  rw [hj] at hy2
  cases Option.some.inj hy2
  obtain ⟨z, ez⟩ := bfs_pre (stp := stp) (k := k) (o := o) (j + 1) (i - (j + 1))
  rw [show j + 1 + (i - (j + 1)) = i by omega] at ez
  rw [ez, bfs_succ hy, List.map_append]
  exact List.mem_append_left _ (extT_has e k hc)
theorem bfs_has {i : Nat} (h : (bfs stp k o i).length ≤ i) {r : List Nat} (g : Rch stp k o r) : r ∈ (bfs stp k o i).map (·.1) := by
  induction g with
  | here => exact key_mem (bfs_at (i := 0) (j := i) (l := 0) (p := (o, [])) rfl (Nat.zero_le i))
  | step _ hc e ih =>
    obtain ⟨x, hx, rfl⟩ := List.mem_map.mp ih
    exact bfs_closed h hx hc e
theorem bfs_iff {i : Nat} (h : (bfs stp k o i).length ≤ i) (r : List Nat) : r ∈ (bfs stp k o i).map (·.1) ↔ Rch stp k o r :=
  ⟨fun q => by
    obtain ⟨x, hx, rfl⟩ := List.mem_map.mp q
    exact bfs_rch i x hx, bfs_has h⟩
end
/-! rows that wait for their turn -/
structure WaitS (stp : Stp) (k : Nat) (o : List Nat) (rows ws : List (List Nat)) (x0 : Option (List Nat)) : Prop where
  nd : rows.Nodup
  one : o ∈ rows
  gen : ∀ x ∈ rows, Rch stp k o x
  sub : ∀ x ∈ ws, x ∈ rows
  done : ∀ x ∈ rows, x ∈ ws ∨ some x = x0 ∨ ∀ c r, c < k → stp x c = some r → r ∈ rows
section
variable {stp : Stp} {k : Nat} {o : List Nat} {rows ws : List (List Nat)} {x0 : Option (List Nat)}
theorem WaitS.add (h : WaitS stp k o rows ws x0) {r : List Nat} (hr : r ∉ rows) (g : Rch stp k o r) : WaitS stp k o (rows ++ [r]) (ws ++ [r]) x0 where
  nd := List.nodup_append.mpr ⟨h.nd, by simp, fun x hx y hy e => by
    rw [List.mem_singleton.mp hy] at e
    subst e
    exact hr hx⟩
  one := List.mem_append_left _ h.one
  gen := fun x hx => by
    rcases List.mem_append.mp hx with hx | hx
    · exact h.gen x hx
    · rw [List.mem_singleton.mp hx]; exact g
  sub := fun x hx => by
    rcases List.mem_append.mp hx with hx | hx
    · exact List.mem_append_left _ (h.sub x hx)
    · exact List.mem_append_right _ hx
  done := fun x hx => by
    rcases List.mem_append.mp hx with hx | hx
    · rcases h.done x hx with h | h | h
      · exact .inl (List.mem_append_left _ h)
      · exact .inr (.inl h)
      · exact .inr (.inr fun c r hc e => List.mem_append_left _ (h c r hc e))
    · exact .inl (List.mem_append_right _ hx)
theorem WaitS.pop {wi : List (List Nat)} {x : List Nat} (h : WaitS stp k o rows (wi ++ [x]) none) : WaitS stp k o rows wi (some x) where
  nd := h.nd
  one := h.one
  gen := h.gen
  sub := fun y hy => h.sub y (List.mem_append_left _ hy)
  done := fun y hy => by
    rcases h.done y hy with h | h | h
    · rcases List.mem_append.mp h with h | h
      · exact .inl h
      · rw [List.mem_singleton.mp h]
        exact .inr (.inl rfl)
    · exact nomatch h
    · exact .inr (.inr h)
theorem WaitS.close {x : List Nat} (h : WaitS stp k o rows ws (some x)) (hk : ∀ c r, c < k → stp x c = some r → r ∈ rows) : WaitS stp k o rows ws none where
  nd := h.nd
  one := h.one
  gen := h.gen
  sub := h.sub
  done := fun y hy => by
    rcases h.done y hy with h | h | h
    · exact .inl h
    · rw [Option.some.inj h]
      exact .inr (.inr hk)
    · exact .inr (.inr h)
theorem WaitS.iff (h : WaitS stp k o rows [] none) (r : List Nat) : r ∈ rows ↔ Rch stp k o r := by
  refine ⟨h.gen r, fun g => ?_⟩
  induction g with
  | here => exact h.one
  | step _ hc e ih =>
    rcases h.done _ ih with q | q | q
    · exact nomatch q
    · exact nomatch q
    · exact q _ _ hc e
theorem WaitS.len {L : List (List Nat)} (h : WaitS stp k o rows ws x0) (h0 : o ∈ L) (hs : ∀ r ∈ L, ∀ c r', c < k → stp r c = some r' → r' ∈ L) : rows.length ≤ L.length :=
  nodup_le_len h.nd fun x hx => (h.gen x hx).all (P := fun r => r ∈ L) h0 fun r c r' hr hc e => hs r hr c r' hc e
end
/-! rows of unlike numbers -/
def injN (n : Nat) : Nat → List (List Nat)
  | 0 => [[]]
  | k + 1 => (injN n k).flatMap fun r => ((List.range n).filter fun x => decide (x ∉ r)).map fun x => x :: r
theorem injN_mem {n : Nat} : ∀ {r : List Nat}, r.Nodup → (∀ x ∈ r, x < n) → r ∈ injN n r.length
  | [], _, _ => List.mem_singleton.mpr rfl
  | x :: r, nd, h => by
    obtain ⟨h1, h2⟩ := List.nodup_cons.mp nd
    refine List.mem_flatMap.mpr ⟨r, injN_mem h2 fun y hy => h y (List.mem_cons_of_mem _ hy), List.mem_map.mpr ⟨x, List.mem_filter.mpr ⟨List.mem_range.mpr (h x List.mem_cons_self), decide_eq_true h1⟩, rfl⟩⟩
theorem injN_of {n : Nat} : ∀ {k : Nat} {r : List Nat}, r ∈ injN n k → r.Nodup ∧ r.length = k ∧ ∀ x ∈ r, x < n
  | 0, r, h => by
    rw [List.mem_singleton.mp h]
    exact ⟨List.nodup_nil, rfl, (fun x hx => nomatch hx)⟩
  | k + 1, r, h => by
    obtain ⟨t, ht, h2⟩ := List.mem_flatMap.mp h
    obtain ⟨x, hx, rfl⟩ := List.mem_map.mp h2
    obtain ⟨h3, h4⟩ := List.mem_filter.mp hx
    obtain ⟨a1, a2, a3⟩ := injN_of ht
    refine ⟨List.nodup_cons.mpr ⟨of_decide_eq_true h4, a1⟩, by rw [List.length_cons, a2], fun y hy => ?_⟩
    rcases List.mem_cons.mp hy with rfl | hy
    · exact List.mem_range.mp h3
    · exact a3 y hy
theorem injN_len : ∀ n, n < 7 → ∀ k, k < 7 → (injN n k).length ≤ 720 := by decide +kernel
/-! walking a dict whose values are True -/
theorem dictN_get {m : List (List Nat)} {i : Nat} {p : List Nat} (h : m[i]? = some p) : (dictN m)[i]? = some (kN p, V.bl true) := by
  unfold dictN
  rw [List.getElem?_map, h]
  rfl
theorem lc_keysN {d : Addr} {o : Obj} {m : List (List Nat)} {g : TG} {tt : TT} {te : TE} {vs : List Nat} {σ : L2.St} {H1 : Hp} {D : Addr} {Qd : Hp → Prop} (Pv : Nat → Hp → Prop) (h0 : Pv 0 (upd H1 D (.lst []))) (hG : ∀ i H, i ≤ m.length → Pv i H → H d = some (.frz o (.dT (dictN m))))
    (hs : ∀ i (p : List Nat) (q : Addr) H, m[i]? = some p → Pv i H → H q = some (.tup (p.map iV)) → g (.ref q) (wipe σ vs) H fun σ2 H2 => wipe σ2 vs = wipe σ vs ∧ tt σ2 H2 fun b H3 =>
      if b = true then te σ2 H3 fun y H4 => ∃ acc, H4 D = some (.lst acc) ∧ acc.length < sizeLine ∧ Pv (i + 1) (upd H4 D (.lst (acc ++ [y]))) else Pv (i + 1) H3) (hd : ∀ H, Pv m.length H → Qd H) :
    ∃ W : Nat → Nat → Hp → Prop, (∃ m, W 0 m (upd H1 D (.lst []))) ∧ ∀ i m' H, W i m' H →
      ((Itkt d o (dictN m)).stop i H ∧ Qd H) ∨ ((Itkt d o (dictN m)).go i H ∧ ∃ Nx : Hp → Prop, (∀ H', Nx H' → ∃ m2, m2 < m' ∧ W (i + 1) m2 H') ∧ ∀ x H', (Itkt d o (dictN m)).yld i H x H' → g x (wipe σ vs) H' fun σ2 H2 => wipe σ2 vs = wipe σ vs ∧ tt σ2 H2 fun b H3 =>
        if b = true then te σ2 H3 fun y H4 => ∃ acc, H4 D = some (.lst acc) ∧ acc.length < sizeLine ∧ Nx (upd H4 D (.lst (acc ++ [y]))) else Nx H3) := by
  have el : (dictN m).length = m.length := dictN_len m
  refine lc_it (walk_keysT (d := d) (o := o) (kvs := dictN m)) Pv h0 (fun i H hi p => hG i H (by omega) p) (fun i x H H' hi p y => ?_) (fun H p => hd H (by rw [← el]; exact p))
  obtain ⟨rfl, k, v, q, h1, rfl, h2⟩ := y
  obtain ⟨z, hz⟩ : ∃ z, m[i]? = some z := ⟨_, List.getElem?_eq_getElem (by omega)⟩
  rw [dictN_get hz] at h1
  cases Option.some.inj h1
  rw [kN_row] at h2
  exact hs i z q _ hz p h2
/-! sorted rows and sets of rows -/
theorem asc_perm {a b : List Nat} (h : a.Perm b) (ha : a.Pairwise (· ≤ ·)) (hb : b.Pairwise (· < ·)) : a = b :=
  perm_uniq (R := (· ≤ ·)) (fun x y h1 h2 => Nat.le_antisymm h1 h2) h ha (hb.imp Nat.le_of_lt)
/-- what sorted makes of a row is the lot exactly if the row is one of its orders -/
theorem sorted_is {r r' lot : List Nat} (h : r'.Perm r) (hs : r'.Pairwise (· ≤ ·)) (hl : lot.Pairwise (· < ·)) : r' = lot ↔ r.Perm lot :=
  ⟨fun e => by rw [← e]; exact h.symm, fun p => asc_perm (h.trans p) hs hl⟩
/-- as many unlike numbers as numbers: all are unlike -/
theorem card_le {ks ns : List Int} (nd : ks.Nodup) (h : ∀ k, k ∈ ks ↔ k ∈ ns) : ks.length ≤ ns.length := nodup_le_len nd fun x hx => (h x).mp hx
theorem card_eq {ks ns : List Int} (nd : ks.Nodup) (h : ∀ k, k ∈ ks ↔ k ∈ ns) (e : ns.length ≤ ks.length) : ns.Nodup := by
  induction ns generalizing ks with
  | nil => exact List.nodup_nil
  | cons x ns ih =>
    have hx : x ∈ ks := (h x).mpr List.mem_cons_self
    have l1 := List.length_erase_of_mem hx
    have l2 : 0 < ks.length := List.length_pos_of_mem hx
    rw [List.length_cons] at e
    by_cases q : x ∈ ns
    · have := nodup_le_len nd (b := ns) fun y hy => by
        rcases List.mem_cons.mp ((h y).mp hy) with rfl | z
        · exact q
        · exact z
      omega
    · refine List.nodup_cons.mpr ⟨q, ih (ks := ks.erase x) (nd.erase x) (fun k => ?_) (by omega)⟩
      rw [nd.mem_erase_iff, h, List.mem_cons]
      constructor
      · rintro ⟨h1, h2 | h2⟩
        · exact absurd h2 h1
        · exact h2
      · intro h2
        exact ⟨fun e => q (by rw [← e]; exact h2), .inr h2⟩
theorem card_nd {ks ns : List Int} (nd : ks.Nodup) (h : ∀ k, k ∈ ks ↔ k ∈ ns) : ns.Nodup ↔ ks.length = ns.length :=
  ⟨fun n2 => Nat.le_antisymm (card_le nd h) (nodup_le_len n2 fun x hx => (h x).mpr hx), fun e => card_eq nd h (Nat.le_of_eq e.symm)⟩
theorem nd_ints {r : List Nat} : (r.map fun n : Nat => (n : Int)).Nodup ↔ r.Nodup := by
  unfold List.Nodup
  rw [List.pairwise_map]
  constructor
  · exact fun h => h.imp fun h e => h (by rw [e])
  · exact fun h => h.imp fun h e => h (by omega)
end G
set_option Elab.async false
set_option linter.all false
set_option maxRecDepth 100000
set_option maxHeartbeats 4000000
namespace G
/-! ### numbered as they first come -/
section
variable {α β : Type} [DecidableEq α] [DecidableEq β]
def fc (l : List α) : List α := l.foldl (fun acc x => if x ∈ acc then acc else acc ++ [x]) []
theorem fc_nil : fc ([] : List α) = [] := rfl
theorem fc_snoc (l : List α) (x : α) : fc (l ++ [x]) = if x ∈ fc l then fc l else fc l ++ [x] := by
  unfold fc
  rw [List.foldl_append]
  rfl
theorem fc_rec {P : List α → Prop} (h0 : P []) (hs : ∀ l x, P l → P (l ++ [x])) : ∀ l, P l := fun l => by
  rw [← List.reverse_reverse l]
  induction l.reverse with
  | nil => exact h0
  | cons x l ih =>
    rw [List.reverse_cons]
    exact hs _ _ ih
theorem fc_mem (l : List α) : ∀ x, x ∈ fc l ↔ x ∈ l := by
  refine fc_rec (P := fun l => ∀ x, x ∈ fc l ↔ x ∈ l) (fun x => Iff.rfl) (fun l y ih x => ?_) l
  rw [fc_snoc, List.mem_append, ← ih x, List.mem_singleton]
  split
  · rename_i h
    exact ⟨.inl, fun z => z.elim id fun e => by rw [e]; exact h⟩
  · rw [List.mem_append, List.mem_singleton]
theorem fc_nd (l : List α) : (fc l).Nodup := by
  refine fc_rec (P := fun l => (fc l).Nodup) (by rw [fc_nil]; exact List.nodup_nil) (fun l y ih => ?_) l
  rw [fc_snoc]
  split
  · exact ih
  · rename_i h
    rw [List.nodup_append]
    exact ⟨ih, by simp, fun x hx z hz => by rw [List.mem_singleton.mp hz]; exact fun e => h (by rw [← e]; exact hx)⟩
theorem fc_pre (l : List α) (m : List α) : ∃ z, fc (l ++ m) = fc l ++ z := by
  refine fc_rec (P := fun m => ∃ z, fc (l ++ m) = fc l ++ z) ⟨[], by rw [List.append_nil, List.append_nil]⟩ (fun m y ih => ?_) m
  obtain ⟨z, ez⟩ := ih
  rw [← List.append_assoc, fc_snoc]
  split
  · exact ⟨z, ez⟩
  · exact ⟨z ++ [y], by rw [ez, List.append_assoc]⟩
theorem fc_pos {l : List α} (h : l ≠ []) : 1 ≤ (fc l).length := by
  cases l with
  | nil => exact absurd rfl h
  | cons x l =>
    have : x ∈ fc (x :: l) := (fc_mem _ x).mpr List.mem_cons_self
    cases e : fc (x :: l) with
    | nil => rw [e] at this; exact nomatch this
    | cons _ _ => exact Nat.succ_le_succ (Nat.zero_le _)
theorem fc_len_le (l : List α) : (fc l).length ≤ l.length := by
  refine nodup_le_len (fc_nd l) fun x hx => (fc_mem l x).mp hx
/-- two lists that part their places alike -/
def Kin (l : List α) (m : List β) : Prop := l.length = m.length ∧ ∀ (i j : Nat) (a b : α) (c d : β), l[i]? = some a → l[j]? = some b → m[i]? = some c → m[j]? = some d → a = b → c = d
theorem kin_fun [Inhabited β] {l : List α} {m : List β} (h : Kin l m) : ∃ f : α → β, ∀ (i : Nat) (a : α) (c : β), l[i]? = some a → m[i]? = some c → f a = c := by
  have e : ∀ x : α, ∃ y : β, ∀ (i : Nat) (d : β), l[i]? = some x → m[i]? = some d → y = d := fun x => by
    by_cases hx : ∃ (i : Nat) (d : β), l[i]? = some x ∧ m[i]? = some d
    · obtain ⟨i, d, h1, h2⟩ := hx
      exact ⟨d, fun j d' h3 h4 => h.2 i j x x d d' h1 h3 h2 h4 rfl⟩
    · exact ⟨default, fun i d h1 h2 => absurd ⟨i, d, h1, h2⟩ hx⟩
  exact ⟨fun x => Classical.choose (e x), fun i a c h1 h2 => Classical.choose_spec (e a) i c h1 h2⟩
theorem at_of_len {γ δ : Type} {l : List γ} {m : List δ} (h : l.length = m.length) {i : Nat} {a : γ} (e : l[i]? = some a) : ∃ c, m[i]? = some c := ⟨_, List.getElem?_eq_getElem (by rw [← h]; exact (List.getElem?_eq_some_iff.mp e).1)⟩
theorem kin_le [Inhabited β] {l : List α} {m : List β} (h : Kin l m) : (fc m).length ≤ (fc l).length := by
  obtain ⟨f, hf⟩ := kin_fun h
  have : (fc m).length ≤ ((fc l).map f).length := nodup_le_len (fc_nd m) fun y hy => by
    obtain ⟨i, hi⟩ := List.mem_iff_getElem?.mp ((fc_mem m y).mp hy)
    obtain ⟨a, ha⟩ := at_of_len h.1.symm hi
    rw [← hf i a y ha hi]
    exact List.mem_map_of_mem ((fc_mem l a).mpr (List.mem_of_getElem? ha))
  rw [List.length_map] at this
  exact this
/-- as many classes: no finer -/
theorem kin_back [Inhabited β] {l : List α} {m : List β} (h : Kin l m) (e : (fc l).length ≤ (fc m).length) : Kin m l := by
  obtain ⟨f, hf⟩ := kin_fun h
  refine ⟨h.1.symm, fun i j c d a b h1 h2 h3 h4 hcd => ?_⟩
  by_cases hab : a = b
  · exact hab
  · exfalso
    have ma : a ∈ fc l := (fc_mem l a).mpr (List.mem_of_getElem? h3)
    have mb : b ∈ fc l := (fc_mem l b).mpr (List.mem_of_getElem? h4)
    have : (fc m).length ≤ (((fc l).filter fun x => !decide (x = a)).map f).length := nodup_le_len (fc_nd m) fun y hy => by
      obtain ⟨k, hk⟩ := List.mem_iff_getElem?.mp ((fc_mem m y).mp hy)
      obtain ⟨x, hx⟩ := at_of_len h.1.symm hk
      by_cases ex : x = a
      · have : y = f b := by
          rw [← hf k x y hx hk, ex, hf i a c h3 h1, hf j b d h4 h2, hcd]
        rw [this]
        exact List.mem_map_of_mem (List.mem_filter.mpr ⟨mb, by simp; exact fun z => hab z.symm⟩)
      · rw [← hf k x y hx hk]
        exact List.mem_map_of_mem (List.mem_filter.mpr ⟨(fc_mem l x).mpr (List.mem_of_getElem? hx), by simp [ex]⟩)
    rw [List.length_map] at this
    have lt : ((fc l).filter fun x => !decide (x = a)).length < (fc l).length := by
      have := List.length_filter_lt_length_iff_exists (p := fun x => !decide (x = a)) (l := fc l)
      exact this.mpr ⟨a, ma, by simp⟩
    omega
/-- where x stands -/
def ix : List α → α → Nat
  | [], _ => 0
  | y :: l, x => if y = x then 0 else ix l x + 1
theorem ix_lt : ∀ {l : List α} {x : α}, x ∈ l → ix l x < l.length
  | [], _, h => nomatch h
  | y :: l, x, h => by
    unfold ix
    split
    · exact Nat.succ_pos _
    · rename_i e
      have := ix_lt ((List.mem_cons.mp h).resolve_left fun z => e z.symm)
      rw [List.length_cons]
      omega
theorem ix_get : ∀ {l : List α} {x : α}, x ∈ l → l[ix l x]? = some x
  | [], _, h => nomatch h
  | y :: l, x, h => by
    unfold ix
    split
    · rename_i e
      rw [e]
      rfl
    · rename_i e
      exact ix_get ((List.mem_cons.mp h).resolve_left fun z => e z.symm)
theorem ix_inj {l : List α} {x y : α} (hx : x ∈ l) (hy : y ∈ l) (e : ix l x = ix l y) : x = y := by
  have h1 := ix_get hx
  rw [e, ix_get hy] at h1
  exact (Option.some.inj h1).symm
theorem ix_pre : ∀ {l : List α} {x : α} (m : List α), x ∈ l → ix (l ++ m) x = ix l x
  | [], _, _, h => nomatch h
  | y :: l, x, m, h => by
    show (if y = x then 0 else ix (l ++ m) x + 1) = if y = x then 0 else ix l x + 1
    split
    · rfl
    · rename_i e
      rw [ix_pre m ((List.mem_cons.mp h).resolve_left fun z => e z.symm)]
theorem ix_out : ∀ {l : List α} {x : α}, x ∉ l → ix (l ++ [x]) x = l.length
  | [], x, _ => by
    show (if x = x then 0 else _) = 0
    rw [if_pos rfl]
  | y :: l, x, h => by
    show (if y = x then 0 else ix (l ++ [x]) x + 1) = l.length + 1
    rw [if_neg fun e => h (by rw [e]; exact List.mem_cons_self), ix_out fun z => h (List.mem_cons_of_mem _ z)]
theorem ix_at : ∀ {l : List α} {i : Nat} {x : α}, l.Nodup → l[i]? = some x → ix l x = i
  | [], _, _, _, h => nomatch h
  | y :: l, 0, x, _, h => by
    obtain rfl : y = x := Option.some.inj h
    show (if y = y then 0 else _) = 0
    rw [if_pos rfl]
  | y :: l, i + 1, x, nd, h => by
    obtain ⟨n1, n2⟩ := List.nodup_cons.mp nd
    have h : l[i]? = some x := h
    show (if y = x then 0 else ix l x + 1) = i + 1
    rw [if_neg fun e => n1 (by rw [e]; exact List.mem_of_getElem? h), ix_at n2 h]
/-- each entry's number: as they first come -/
def num (l : List α) : List Nat := l.map (ix (fc l))
theorem num_len (l : List α) : (num l).length = l.length := List.length_map _
theorem num_at {l : List α} {i : Nat} {a : α} (h : l[i]? = some a) : (num l)[i]? = some (ix (fc l) a) := by
  unfold num
  rw [List.getElem?_map, h]
  rfl
theorem num_kin (l : List α) : Kin l (num l) ∧ Kin (num l) l := by
  refine ⟨⟨(num_len l).symm, fun i j a b c d h1 h2 h3 h4 e => ?_⟩, ⟨num_len l, fun i j c d a b h1 h2 h3 h4 e => ?_⟩⟩
  · rw [num_at h1] at h3
    rw [num_at h2] at h4
    rw [← Option.some.inj h3, ← Option.some.inj h4, e]
  · rw [num_at h3] at h1
    rw [num_at h4] at h2
    rw [← Option.some.inj h1, ← Option.some.inj h2] at e
    exact ix_inj ((fc_mem l a).mpr (List.mem_of_getElem? h3)) ((fc_mem l b).mpr (List.mem_of_getElem? h4)) e
theorem num_snoc (l : List α) (x : α) : num (l ++ [x]) = num l ++ [if x ∈ fc l then ix (fc l) x else (fc l).length] := by
  unfold num
  rw [List.map_append, List.map_singleton, fc_snoc]
  have pre : ∀ y ∈ l, ix (if x ∈ fc l then fc l else fc l ++ [x]) y = ix (fc l) y := fun y hy => by
    split
    · rfl
    · exact ix_pre _ ((fc_mem l y).mpr hy)
  congr 1
  · exact List.map_congr_left pre
  · split
    · rfl
    · rename_i h
      rw [ix_out h]
theorem num_take (l : List α) (j : Nat) : (num l).take j = num (l.take j) := by
  obtain ⟨z, ez⟩ := fc_pre (l.take j) (l.drop j)
  rw [List.take_append_drop] at ez
  unfold num
  rw [← List.map_take, ez]
  exact List.map_congr_left fun y hy => ix_pre _ ((fc_mem _ y).mpr hy)
end
theorem Kin.take {α β : Type} {l : List α} {m : List β} (h : Kin l m) (n : Nat) : Kin (l.take n) (m.take n) := by
  refine ⟨by rw [List.length_take, List.length_take, h.1], fun i j a b c d h1 h2 h3 h4 e => ?_⟩
  rw [List.getElem?_take] at h1 h2 h3 h4
  split at h1
  · split at h2
    · rename_i hi hj
      rw [if_pos hi] at h3
      rw [if_pos hj] at h4
      exact h.2 i j a b c d h1 h2 h3 h4 e
    · exact nomatch h2
  · exact nomatch h1
theorem Kin.trans {α β γ : Type} {l : List α} {m : List β} {k : List γ} (h : Kin l m) (g : Kin m k) : Kin l k := by
  refine ⟨h.1.trans g.1, fun i j a b c d h1 h2 h3 h4 e => ?_⟩
  obtain ⟨x, hx⟩ := at_of_len h.1 h1
  obtain ⟨y, hy⟩ := at_of_len h.1 h2
  exact g.2 i j x y c d hx hy h3 h4 (h.2 i j a b x y h1 h2 hx hy e)
theorem num_eq {α β : Type} [DecidableEq α] [DecidableEq β] [Inhabited α] [Inhabited β] {l : List α} {m : List β} (h : Kin l m) (g : Kin m l) : num l = num m := by
  have : ∀ n, n ≤ l.length → num (l.take n) = num (m.take n) := by
    intro n
    induction n with
    | zero => exact fun _ => rfl
    | succ n ih =>
      intro hn
      have ih := ih (by omega)
      obtain ⟨x, hx⟩ : ∃ x, l[n]? = some x := ⟨_, List.getElem?_eq_getElem (by omega)⟩
      obtain ⟨y, hy⟩ := at_of_len h.1 hx
      have e1 : l.take (n + 1) = l.take n ++ [x] := by rw [List.take_add_one, hx]; rfl
      have e2 : m.take (n + 1) = m.take n ++ [y] := by rw [List.take_add_one, hy]; rfl
      have le : (fc (l.take n)).length = (fc (m.take n)).length := Nat.le_antisymm (kin_le (g.take n)) (kin_le (h.take n))
      rw [e1, e2, num_snoc, num_snoc, ih, le]
      have same : ∀ i, i < n → (l[i]? = some x ↔ m[i]? = some y) := fun i hi => by
        obtain ⟨a, ha⟩ : ∃ a, l[i]? = some a := ⟨_, List.getElem?_eq_getElem (by omega)⟩
        obtain ⟨b, hb⟩ := at_of_len h.1 ha
        rw [ha, hb]
        constructor
        · intro z
          rw [h.2 i n a x b y ha hx hb hy (Option.some.inj z)]
        · intro z
          rw [g.2 i n b y a x hb hy ha hx (Option.some.inj z)]
      have at_take : ∀ {γ : Type} (k : List γ) (i : Nat) (z : γ), (k.take n)[i]? = some z ↔ i < n ∧ k[i]? = some z := fun k i z => by
        rw [List.getElem?_take]
        split
        · rename_i hi
          exact ⟨fun q => ⟨hi, q⟩, fun q => q.2⟩
        · rename_i hi
          exact ⟨fun q => (nomatch q), fun q => absurd q.1 hi⟩
      congr 2
      by_cases hx' : x ∈ fc (l.take n)
      · obtain ⟨i, hi⟩ := List.mem_iff_getElem?.mp ((fc_mem _ x).mp hx')
        obtain ⟨hin, hi2⟩ := (at_take l i x).mp hi
        have hi3 := (at_take m i y).mpr ⟨hin, (same i hin).mp hi2⟩
        have hy' : y ∈ fc (m.take n) := (fc_mem _ y).mpr (List.mem_of_getElem? hi3)
        rw [if_pos hx', if_pos hy']
        have n1 := num_at hi
        have n2 := num_at hi3
        rw [ih, n2] at n1
        exact (Option.some.inj n1).symm
      · have hy' : y ∉ fc (m.take n) := fun z => hx' (by
          obtain ⟨i, hi⟩ := List.mem_iff_getElem?.mp ((fc_mem _ y).mp z)
          obtain ⟨hin, hi2⟩ := (at_take m i y).mp hi
          exact (fc_mem _ x).mpr (List.mem_of_getElem? ((at_take l i x).mpr ⟨hin, (same i hin).mpr hi2⟩)))
        rw [if_neg hx', if_neg hy']
  have e := this l.length (Nat.le_refl _)
  rw [List.take_length] at e
  rw [h.1, List.take_length] at e
  exact e
/-! ### places that words do not part -/
def runR (rows : List (List Nat)) (i : Nat) (w : List Nat) : Nat := w.foldl (fun s c => (rows.getD s []).getD c 0) i
def EqvR (rows : List (List Nat)) (marks : List Bool) (m : Nat) (i j : Nat) : Prop := ∀ w : List Nat, (∀ c ∈ w, c < m) → marks.getD (runR rows i w) false = marks.getD (runR rows j w) false
structure SysOk (rows : List (List Nat)) (marks : List Bool) (n m : Nat) : Prop where
  len : rows.length = n
  mlen : marks.length = n
  row : ∀ r ∈ rows, r.length = m ∧ ∀ t ∈ r, t < n
theorem SysOk.at_ {rows : List (List Nat)} {marks : List Bool} {n m i : Nat} (h : SysOk rows marks n m) (hi : i < n) : (rows.getD i []).length = m ∧ ∀ t ∈ rows.getD i [], t < n := by
  rw [List.getD_eq_getElem?_getD, List.getElem?_eq_getElem (by rw [h.len]; exact hi)]
  exact h.row _ (List.getElem_mem _)
theorem SysOk.step {rows : List (List Nat)} {marks : List Bool} {n m i c : Nat} (h : SysOk rows marks n m) (hi : i < n) (hc : c < m) : (rows.getD i []).getD c 0 < n := by
  obtain ⟨h1, h2⟩ := h.at_ hi
  exact h2 _ (by rw [List.getD_eq_getElem?_getD (l := rows.getD i []), List.getElem?_eq_getElem (l := rows.getD i []) (by omega)]; exact List.getElem_mem _)
theorem EqvR.refl {rows : List (List Nat)} {marks : List Bool} {m : Nat} (i : Nat) : EqvR rows marks m i i := fun _ _ => rfl
theorem EqvR.symm {rows : List (List Nat)} {marks : List Bool} {m i j : Nat} (h : EqvR rows marks m i j) : EqvR rows marks m j i := fun w hw => (h w hw).symm
theorem EqvR.trans {rows : List (List Nat)} {marks : List Bool} {m i j k : Nat} (h : EqvR rows marks m i j) (g : EqvR rows marks m j k) : EqvR rows marks m i k := fun w hw => (h w hw).trans (g w hw)
theorem EqvR.step {rows : List (List Nat)} {marks : List Bool} {m i j c : Nat} (h : EqvR rows marks m i j) (hc : c < m) : EqvR rows marks m ((rows.getD i []).getD c 0) ((rows.getD j []).getD c 0) := fun w hw => h (c :: w) fun d hd => (List.mem_cons.mp hd).elim (fun e => by rw [e]; exact hc) (hw d)
def keyL (bl : List Nat) (rows : List (List Nat)) (i : Nat) : List Nat := bl.getD i 0 :: (rows.getD i []).map fun t => bl.getD t 0
def keysL (bl : List Nat) (rows : List (List Nat)) : List (List Nat) := (List.range rows.length).map (keyL bl rows)
theorem keysL_len (bl : List Nat) (rows : List (List Nat)) : (keysL bl rows).length = rows.length := by unfold keysL; rw [List.length_map, List.length_range]
theorem keysL_at {bl : List Nat} {rows : List (List Nat)} {i : Nat} (h : i < rows.length) : (keysL bl rows)[i]? = some (keyL bl rows i) := by
  unfold keysL
  rw [List.getElem?_map, List.getElem?_range h]
  rfl
/-- no finer than what words part -/
def Coarse (rows : List (List Nat)) (marks : List Bool) (n m : Nat) (bl : List Nat) : Prop := ∀ i j, i < n → j < n → EqvR rows marks m i j → bl.getD i 0 = bl.getD j 0
section
variable {rows : List (List Nat)} {marks : List Bool} {n m : Nat} {bl : List Nat}
theorem coarse_key (h : SysOk rows marks n m) (c : Coarse rows marks n m bl) {i j : Nat} (hi : i < n) (hj : j < n) (e : EqvR rows marks m i j) : keyL bl rows i = keyL bl rows j := by
  unfold keyL
  rw [c i j hi hj e]
  congr 1
  have l1 := (h.at_ hi).1
  have l2 := (h.at_ hj).1
  refine List.ext_getElem? fun k => ?_
  rw [List.getElem?_map, List.getElem?_map]
  by_cases hk : k < m
  · rw [List.getElem?_eq_getElem (by omega), List.getElem?_eq_getElem (by omega)]
    have := c _ _ (h.step hi hk) (h.step hj hk) (e.step hk)
    rw [List.getD_eq_getElem?_getD (l := rows.getD i []), List.getD_eq_getElem?_getD (l := rows.getD j []), List.getElem?_eq_getElem (l := rows.getD i []) (by omega), List.getElem?_eq_getElem (l := rows.getD j []) (by omega)] at this
    exact congrArg some this
  · rw [List.getElem?_eq_none (by omega), List.getElem?_eq_none (by omega)]
theorem num_getD {α : Type} [DecidableEq α] {l : List α} {i : Nat} {a : α} (h : l[i]? = some a) : (num l).getD i 0 = ix (fc l) a := by
  rw [List.getD_eq_getElem?_getD, num_at h]
  rfl
theorem coarse_num (h : SysOk rows marks n m) (c : Coarse rows marks n m bl) : Coarse rows marks n m (num (keysL bl rows)) := fun i j hi hj e => by
  rw [num_getD (keysL_at (by rw [h.len]; exact hi)), num_getD (keysL_at (by rw [h.len]; exact hj)), coarse_key h c hi hj e]
/-- finer than the marks -/
def Marked (marks : List Bool) (n : Nat) (bl : List Nat) : Prop := ∀ i j, i < n → j < n → bl.getD i 0 = bl.getD j 0 → marks.getD i false = marks.getD j false
theorem marked_num (h : SysOk rows marks n m) (c : Marked marks n bl) : Marked marks n (num (keysL bl rows)) := fun i j hi hj e => by
  rw [num_getD (keysL_at (by rw [h.len]; exact hi)), num_getD (keysL_at (by rw [h.len]; exact hj))] at e
  have := ix_inj ((fc_mem _ _).mpr (List.mem_of_getElem? (keysL_at (bl := bl) (by rw [h.len]; exact hi)))) ((fc_mem _ _).mpr (List.mem_of_getElem? (keysL_at (bl := bl) (by rw [h.len]; exact hj)))) e
  unfold keyL at this
  injection this with e1 _
  exact c i j hi hj e1
theorem keys_kin (h : SysOk rows marks n m) (hb : bl.length = n) : Kin (keysL bl rows) bl := by
  refine ⟨by rw [keysL_len, h.len, hb], fun i j a b c d h1 h2 h3 h4 e => ?_⟩
  have hi : i < rows.length := by rw [← keysL_len bl rows]; exact (List.getElem?_eq_some_iff.mp h1).1
  have hj : j < rows.length := by rw [← keysL_len bl rows]; exact (List.getElem?_eq_some_iff.mp h2).1
  rw [keysL_at hi] at h1
  rw [keysL_at hj] at h2
  rw [← Option.some.inj h1, ← Option.some.inj h2] at e
  unfold keyL at e
  injection e with e1 _
  rw [List.getD_eq_getElem?_getD, List.getD_eq_getElem?_getD, h3, h4] at e1
  exact e1
/-- when no more classes come: what is in one block is never parted -/
theorem done_eqv (h : SysOk rows marks n m) (hb : bl.length = n) (mk : Marked marks n bl) (e : (fc (keysL bl rows)).length ≤ (fc bl).length) : ∀ i j, i < n → j < n → bl.getD i 0 = bl.getD j 0 → EqvR rows marks m i j := by
  have kb := kin_back (keys_kin h hb) e
  have one : ∀ i j, i < n → j < n → bl.getD i 0 = bl.getD j 0 → keyL bl rows i = keyL bl rows j := fun i j hi hj e => by
    refine kb.2 i j (bl.getD i 0) (bl.getD j 0) _ _ ?_ ?_ (keysL_at (by rw [h.len]; exact hi)) (keysL_at (by rw [h.len]; exact hj)) e
    · rw [List.getD_eq_getElem?_getD, List.getElem?_eq_getElem (by omega)]; rfl
    · rw [List.getD_eq_getElem?_getD, List.getElem?_eq_getElem (by omega)]; rfl
  intro i j hi hj eij w
  induction w generalizing i j with
  | nil => exact fun _ => mk i j hi hj eij
  | cons c w ih =>
    intro hw
    have hc := hw c List.mem_cons_self
    refine ih _ _ (h.step hi hc) (h.step hj hc) ?_ (fun d hd => hw d (List.mem_cons_of_mem _ hd))
    have k := one i j hi hj eij
    unfold keyL at k
    injection k with _ k
    have l1 := (h.at_ hi).1
    have l2 := (h.at_ hj).1
    have := congrArg (fun l : List Nat => l[c]?) k
    rw [List.getElem?_map, List.getElem?_map, List.getElem?_eq_getElem (by omega), List.getElem?_eq_getElem (by omega)] at this
    show bl.getD ((rows.getD i []).getD c 0) 0 = bl.getD ((rows.getD j []).getD c 0) 0
    rw [List.getD_eq_getElem?_getD (l := rows.getD i []), List.getD_eq_getElem?_getD (l := rows.getD j []), List.getElem?_eq_getElem (l := rows.getD i []) (by omega), List.getElem?_eq_getElem (l := rows.getD j []) (by omega)]
    exact Option.some.inj this
end
open Classical in
noncomputable def labE (rows : List (List Nat)) (marks : List Bool) (m : Nat) : List Nat := (List.range rows.length).map fun i => ((List.range rows.length).find? fun j => decide (EqvR rows marks m i j)).getD 0
noncomputable def labS (rows : List (List Nat)) (marks : List Bool) (m : Nat) : List Nat := num (labE rows marks m)
section
variable {rows : List (List Nat)} {marks : List Bool} {n m : Nat}
theorem labE_len : (labE rows marks m).length = rows.length := by unfold labE; rw [List.length_map, List.length_range]
open Classical in
theorem labE_at {i : Nat} (h : i < rows.length) : (labE rows marks m)[i]? = some (((List.range rows.length).find? fun j => decide (EqvR rows marks m i j)).getD 0) := by
  unfold labE
  rw [List.getElem?_map, List.getElem?_range h]
  rfl
open Classical in
theorem labE_iff {i j : Nat} (hi : i < rows.length) (hj : j < rows.length) : (labE rows marks m).getD i 0 = (labE rows marks m).getD j 0 ↔ EqvR rows marks m i j := by
  rw [List.getD_eq_getElem?_getD, List.getD_eq_getElem?_getD, labE_at hi, labE_at hj]
  show ((List.range rows.length).find? _).getD 0 = ((List.range rows.length).find? _).getD 0 ↔ _
  have spec : ∀ i, i < rows.length → EqvR rows marks m i (((List.range rows.length).find? fun j => decide (EqvR rows marks m i j)).getD 0) := fun i hi => by
    cases e : (List.range rows.length).find? fun j => decide (EqvR rows marks m i j) with
    | none => exact absurd (List.find?_eq_none.mp e i (List.mem_range.mpr hi)) (by simp [EqvR.refl])
    | some x =>
      have q := List.find?_some e
      exact of_decide_eq_true q
  constructor
  · intro e
    have h1 := spec i hi
    rw [e] at h1
    exact h1.trans (spec j hj).symm
  · intro e
    congr 2
    funext k
    exact decide_eq_decide.mpr ⟨fun z => e.symm.trans z, fun z => e.trans z⟩
/-- a list whose entries tell just what words part -/
def Tells (rows : List (List Nat)) (marks : List Bool) (m : Nat) {α : Type} (l : List α) : Prop := l.length = rows.length ∧ ∀ (i j : Nat) (a b : α), l[i]? = some a → l[j]? = some b → (a = b ↔ EqvR rows marks m i j)
theorem tells_labE : Tells rows marks m (labE rows marks m) := ⟨labE_len, fun i j a b h1 h2 => by
  have hi : i < rows.length := by rw [← labE_len (marks := marks) (m := m)]; exact (List.getElem?_eq_some_iff.mp h1).1
  have hj : j < rows.length := by rw [← labE_len (marks := marks) (m := m)]; exact (List.getElem?_eq_some_iff.mp h2).1
  have := labE_iff (marks := marks) (m := m) hi hj
  rw [List.getD_eq_getElem?_getD, List.getD_eq_getElem?_getD, h1, h2] at this
  exact this⟩
theorem tells_num {α : Type} [DecidableEq α] [Inhabited α] {l : List α} (h : Tells rows marks m l) : num l = labS rows marks m := by
  have g := tells_labE (rows := rows) (marks := marks) (m := m)
  exact num_eq ⟨h.1.trans g.1.symm, fun i j a b c d h1 h2 h3 h4 e => (g.2 i j c d h3 h4).mpr ((h.2 i j a b h1 h2).mp e)⟩ ⟨g.1.trans h.1.symm, fun i j c d a b h1 h2 h3 h4 e => (h.2 i j a b h3 h4).mpr ((g.2 i j c d h1 h2).mp e)⟩
theorem tells_labS : Tells rows marks m (labS rows marks m) := by
  have g := tells_labE (rows := rows) (marks := marks) (m := m)
  have k := num_kin (labE rows marks m)
  refine ⟨(num_len _).trans g.1, fun i j a b h1 h2 => ?_⟩
  obtain ⟨c, hc⟩ := at_of_len (k.2.1) h1
  obtain ⟨d, hd⟩ := at_of_len (k.2.1) h2
  rw [← g.2 i j c d hc hd]
  exact ⟨fun e => k.2.2 i j a b c d h1 h2 hc hd e, fun e => k.1.2 i j c d a b hc hd h1 h2 e⟩
/-- the number of classes -/
noncomputable def ncl (rows : List (List Nat)) (marks : List Bool) (m : Nat) : Nat := (fc (labE rows marks m)).length
theorem coarse_le {bl : List Nat} (h : SysOk rows marks n m) (hb : bl.length = n) (c : Coarse rows marks n m bl) : (fc bl).length ≤ ncl rows marks m := by
  refine kin_le ⟨by rw [labE_len, h.len, hb], fun i j a b x y h1 h2 h3 h4 e => ?_⟩
  have hi := (List.getElem?_eq_some_iff.mp h1).1
  have hj := (List.getElem?_eq_some_iff.mp h2).1
  rw [labE_len, h.len] at hi hj
  have q := c i j hi hj ((tells_labE.2 i j a b h1 h2).mp e)
  rw [List.getD_eq_getElem?_getD, List.getD_eq_getElem?_getD, h3, h4] at q
  exact q
theorem fc_num_len {α : Type} [DecidableEq α] [Inhabited α] (l : List α) : (fc (num l)).length = (fc l).length := Nat.le_antisymm (kin_le (num_kin l).1) (kin_le (num_kin l).2)
/-- the end of the refining -/
theorem done_lab {bl : List Nat} (h : SysOk rows marks n m) (hb : bl.length = n) (mk : Marked marks n bl) (co : Coarse rows marks n m bl) (e : (fc (keysL bl rows)).length ≤ (fc bl).length) : num (keysL bl rows) = labS rows marks m := by
  have de := done_eqv h hb mk e
  refine tells_num ⟨keysL_len _ _, fun i j a b h1 h2 => ?_⟩
  have hi : i < n := by rw [← h.len, ← keysL_len bl rows]; exact (List.getElem?_eq_some_iff.mp h1).1
  have hj : j < n := by rw [← h.len, ← keysL_len bl rows]; exact (List.getElem?_eq_some_iff.mp h2).1
  rw [keysL_at (by rw [h.len]; exact hi)] at h1
  rw [keysL_at (by rw [h.len]; exact hj)] at h2
  rw [← Option.some.inj h1, ← Option.some.inj h2]
  constructor
  · intro e
    unfold keyL at e
    injection e with e1 _
    exact de i j hi hj e1
  · exact fun e => coarse_key h co hi hj e
end
def bitB (b : Bool) : Nat := if b = true then 1 else 0
theorem bit_getD (marks : List Bool) (i : Nat) : (marks.map bitB).getD i 0 = bitB (marks.getD i false) := by
  rw [List.getD_eq_getElem?_getD, List.getD_eq_getElem?_getD, List.getElem?_map]
  cases marks[i]? <;> rfl
theorem bit_inj {a b : Bool} (h : bitB a = bitB b) : a = b := by
  cases a <;> cases b <;> first | rfl | exact absurd h (by decide)
theorem coarse_bits {rows : List (List Nat)} {marks : List Bool} {n m : Nat} : Coarse rows marks n m (marks.map bitB) := fun i j _ _ e => by
  rw [bit_getD, bit_getD, show marks.getD i false = marks.getD j false from e [] fun c hc => nomatch hc]
theorem marked_bits {marks : List Bool} {n : Nat} : Marked marks n (marks.map bitB) := fun i j _ _ e => by
  rw [bit_getD, bit_getD] at e
  exact bit_inj e
/-! ### the least machine of places -/
def repsF (lab : List Nat) (j : Nat) : List Nat := (List.range j).filter fun i => decide (lab.getD i 0 = (fc (lab.take i)).length)
theorem reps_succ (lab : List Nat) (j : Nat) : repsF lab (j + 1) = repsF lab j ++ (if lab.getD j 0 = (fc (lab.take j)).length then [j] else []) := by
  unfold repsF
  rw [List.range_succ, List.filter_append]
  congr 1
  by_cases h : lab.getD j 0 = (fc (lab.take j)).length
  · rw [if_pos h, List.filter_cons_of_pos (by exact decide_eq_true h), List.filter_nil]
  · rw [if_neg h, List.filter_cons_of_neg (by rw [decide_eq_true_eq]; exact h), List.filter_nil]
theorem reps_lt {lab : List Nat} {j i : Nat} (h : i ∈ repsF lab j) : i < j := List.mem_range.mp (List.mem_filter.mp h).1
theorem num_new {α : Type} [DecidableEq α] [Inhabited α] {l : List α} {i : Nat} {a : α} (h : l[i]? = some a) :
    ((num l).getD i 0 = (fc ((num l).take i)).length ↔ a ∉ fc (l.take i)) ∧ (fc ((num l).take (i + 1))).length = (fc ((num l).take i)).length + (if a ∈ fc (l.take i) then 0 else 1) ∧ (num l).getD i 0 ≤ (fc ((num l).take i)).length := by
  have e1 : l.take (i + 1) = l.take i ++ [a] := by rw [List.take_add_one, h]; rfl
  have e2 : (fc ((num l).take i)).length = (fc (l.take i)).length := by rw [num_take, fc_num_len]
  have e3 : (fc ((num l).take (i + 1))).length = (fc (l.take (i + 1))).length := by rw [num_take, fc_num_len]
  have e4 : (num l).getD i 0 = if a ∈ fc (l.take i) then ix (fc (l.take i)) a else (fc (l.take i)).length := by
    have h1 : (num l).take (i + 1) = num (l.take i) ++ [if a ∈ fc (l.take i) then ix (fc (l.take i)) a else (fc (l.take i)).length] := by rw [num_take, e1, num_snoc]
    have h2 : ((num l).take (i + 1))[i]? = (num l)[i]? := List.getElem?_take_of_lt (Nat.lt_succ_self i)
    have li : (num (l.take i)).length = i := by
      rw [num_len, List.length_take]
      have := (List.getElem?_eq_some_iff.mp h).1
      omega
    rw [h1, List.getElem?_append_right (by omega), li, Nat.sub_self] at h2
    rw [List.getD_eq_getElem?_getD, ← h2]
    rfl
  rw [e2, e3, e4, e1, fc_snoc]
  by_cases ha : a ∈ fc (l.take i)
  · have := ix_lt ha
    rw [if_pos ha, if_pos ha, if_pos ha]
    exact ⟨⟨fun e => by omega, fun z => absurd ha z⟩, rfl, by omega⟩
  · rw [if_neg ha, if_neg ha, if_neg ha, List.length_append]
    exact ⟨⟨fun _ => ha, fun _ => rfl⟩, rfl, Nat.le_refl _⟩
theorem reps_len {α : Type} [DecidableEq α] [Inhabited α] (l : List α) : ∀ j, j ≤ l.length → (repsF (num l) j).length = (fc ((num l).take j)).length
  | 0, _ => rfl
  | j + 1, h => by
    obtain ⟨a, ha⟩ : ∃ a, l[j]? = some a := ⟨_, List.getElem?_eq_getElem (by omega)⟩
    obtain ⟨n1, n2, _⟩ := num_new ha
    rw [reps_succ, List.length_append, reps_len l j (by omega), n2]
    by_cases z : a ∈ fc (l.take j)
    · rw [if_pos z, if_neg fun e => (n1.mp e) z]
      rfl
    · rw [if_neg z, if_pos (n1.mpr z)]
      rfl
def goodF (rp : List Nat) (marks : List Bool) : List Nat := (List.range rp.length).filter fun k => marks.getD (rp.getD k 0) false
theorem goodF_snoc (rp : List Nat) (marks : List Bool) (i : Nat) : goodF (rp ++ [i]) marks = goodF rp marks ++ (if marks.getD i false = true then [rp.length] else []) := by
  unfold goodF
  rw [List.length_append, List.length_singleton, List.range_succ, List.filter_append]
  congr 1
  · refine List.filter_congr fun k hk => ?_
    rw [List.getD_eq_getElem?_getD (l := rp ++ [i]), List.getElem?_append_left (List.mem_range.mp hk), List.getD_eq_getElem?_getD (l := rp)]
  · have e : (rp ++ [i]).getD rp.length 0 = i := by
      rw [List.getD_eq_getElem?_getD, List.getElem?_append_right (Nat.le_refl _), Nat.sub_self]
      rfl
    cases h : marks.getD i false with
    | true =>
      rw [if_pos rfl, List.filter_cons_of_pos (by rw [e]; exact h), List.filter_nil]
    | false =>
      rw [if_neg Bool.false_ne_true, List.filter_cons_of_neg (by rw [e, h]; exact Bool.false_ne_true), List.filter_nil]
noncomputable def LMm (rows : List (List Nat)) (marks : List Bool) (m : Nat) : Mac :=
  ⟨(repsF (labS rows marks m) rows.length).map fun i => (rows.getD i []).map fun t => (labS rows marks m).getD t 0, 0, goodF (repsF (labS rows marks m) rows.length) marks⟩
section
variable {rows : List (List Nat)} {marks : List Bool} {n m : Nat}
theorem labS_len : (labS rows marks m).length = rows.length := (num_len _).trans labE_len
theorem reps_ncl : (repsF (labS rows marks m) rows.length).length = ncl rows marks m := by
  have := reps_len (labE rows marks m) rows.length (by rw [labE_len]; exact Nat.le_refl _)
  unfold labS
  rw [this, num_take, ← labE_len (rows := rows) (marks := marks) (m := m), List.take_length, fc_num_len]
  rfl
theorem lab_lt {i : Nat} (hi : i < rows.length) : (labS rows marks m).getD i 0 < ncl rows marks m := by
  obtain ⟨a, ha⟩ : ∃ a, (labE rows marks m)[i]? = some a := ⟨_, List.getElem?_eq_getElem (by rw [labE_len]; exact hi)⟩
  unfold labS
  rw [num_getD ha]
  exact ix_lt ((fc_mem _ a).mpr (List.mem_of_getElem? ha))
theorem lmm_ok (h : SysOk rows marks n m) (n1 : 1 ≤ n) : MacOk (LMm rows marks m) (ncl rows marks m) m := by
  have hp : 0 < ncl rows marks m := Nat.lt_of_le_of_lt (Nat.zero_le _) (lab_lt (i := 0) (by rw [h.len]; exact n1))
  refine ⟨by show (List.map _ _).length = _; rw [List.length_map]; exact reps_ncl, fun r hr => ?_, hp, fun s hs => ?_, ?_⟩
  · obtain ⟨i, hi, rfl⟩ := List.mem_map.mp hr
    have hin := reps_lt hi
    rw [h.len] at hin
    refine ⟨by rw [List.length_map]; exact (h.at_ hin).1, fun t ht => ?_⟩
    obtain ⟨x, hx, rfl⟩ := List.mem_map.mp ht
    exact lab_lt (by rw [h.len]; exact (h.at_ hin).2 x hx)
  · have := List.mem_range.mp (List.mem_filter.mp hs).1
    rw [reps_ncl] at this
    exact this
  · exact (List.pairwise_lt_range).sublist List.filter_sublist
end
/-! the places of a search, numbered as they were found -/
def rowsB (stp : Stp) (k : Nat) (B : Wm) : List (List Nat) := B.map fun p => (List.range k).map fun c => ix (B.map (·.1)) ((stp p.1 c).getD [])
/-! ### told by the first of its kind -/
section
variable {α β : Type} [DecidableEq α] [DecidableEq β]
def frs (l : List α) : List Nat := l.map (ix l)
theorem frs_len (l : List α) : (frs l).length = l.length := List.length_map _
theorem frs_at {l : List α} {i : Nat} {a : α} (h : l[i]? = some a) : (frs l)[i]? = some (ix l a) := by
  unfold frs
  rw [List.getElem?_map, h]
  rfl
theorem ix_min : ∀ {l : List α} {i : Nat} {a : α}, l[i]? = some a → ix l a ≤ i
  | [], _, _, h => nomatch h
  | y :: l, 0, a, h => by
    obtain rfl : y = a := Option.some.inj h
    show (if y = y then 0 else _) ≤ 0
    rw [if_pos rfl]
    exact Nat.le_refl 0
  | y :: l, i + 1, a, h => by
    show (if y = a then 0 else ix l a + 1) ≤ i + 1
    split
    · exact Nat.zero_le _
    · exact Nat.succ_le_succ (ix_min (show l[i]? = some a from h))
theorem frs_kin (l : List α) : Kin l (frs l) ∧ Kin (frs l) l := by
  refine ⟨⟨(frs_len l).symm, fun i j a b c d h1 h2 h3 h4 e => ?_⟩, ⟨frs_len l, fun i j c d a b h1 h2 h3 h4 e => ?_⟩⟩
  · rw [frs_at h1] at h3
    rw [frs_at h2] at h4
    rw [← Option.some.inj h3, ← Option.some.inj h4, e]
  · rw [frs_at h3] at h1
    rw [frs_at h4] at h2
    rw [← Option.some.inj h1, ← Option.some.inj h2] at e
    exact ix_inj (List.mem_of_getElem? h3) (List.mem_of_getElem? h4) e
theorem frs_le {l : List α} {m : List β} (h : Kin l m) {i : Nat} {a : α} {b : β} (ha : l[i]? = some a) (hb : m[i]? = some b) : ix m b ≤ ix l a := by
  have h1 := ix_get (List.mem_of_getElem? ha)
  obtain ⟨b', hb'⟩ := at_of_len h.1 h1
  have : b' = b := h.2 _ _ a a b' b h1 ha hb' hb rfl
  rw [this] at hb'
  exact ix_min hb'
theorem frs_eq {l : List α} {m : List β} (h : Kin l m) (g : Kin m l) : frs l = frs m := by
  refine List.ext_getElem? fun i => ?_
  cases e : l[i]? with
  | none =>
    have e2 : m[i]? = none := List.getElem?_eq_none (by rw [← h.1]; exact List.getElem?_eq_none_iff.mp e)
    unfold frs
    rw [List.getElem?_map, List.getElem?_map, e, e2]
    rfl
  | some a =>
    obtain ⟨b, hb⟩ := at_of_len h.1 e
    rw [frs_at e, frs_at hb, Nat.le_antisymm (frs_le g hb e) (frs_le h e hb)]
theorem frs_frs (l : List α) : frs (frs l) = frs l := frs_eq (frs_kin l).2 (frs_kin l).1
theorem fc_frs_len [Inhabited α] (l : List α) : (fc (frs l)).length = (fc l).length := Nat.le_antisymm (kin_le (frs_kin l).1) (kin_le (frs_kin l).2)
end
section
variable {rows : List (List Nat)} {marks : List Bool} {n m : Nat} {bl : List Nat}
theorem frs_getD {α : Type} [DecidableEq α] {l : List α} {i : Nat} {a : α} (h : l[i]? = some a) : (frs l).getD i 0 = ix l a := by
  rw [List.getD_eq_getElem?_getD, frs_at h]
  rfl
theorem coarse_frs (h : SysOk rows marks n m) (c : Coarse rows marks n m bl) : Coarse rows marks n m (frs (keysL bl rows)) := fun i j hi hj e => by
  rw [frs_getD (keysL_at (by rw [h.len]; exact hi)), frs_getD (keysL_at (by rw [h.len]; exact hj)), coarse_key h c hi hj e]
theorem marked_frs (h : SysOk rows marks n m) (c : Marked marks n bl) : Marked marks n (frs (keysL bl rows)) := fun i j hi hj e => by
  rw [frs_getD (keysL_at (by rw [h.len]; exact hi)), frs_getD (keysL_at (by rw [h.len]; exact hj))] at e
  have := ix_inj (List.mem_of_getElem? (keysL_at (bl := bl) (by rw [h.len]; exact hi))) (List.mem_of_getElem? (keysL_at (bl := bl) (by rw [h.len]; exact hj))) e
  unfold keyL at this
  injection this with e1 _
  exact c i j hi hj e1
theorem tells_of (h : SysOk rows marks n m) (hb : bl.length = n) (mk : Marked marks n bl) (co : Coarse rows marks n m bl) (e : (fc (keysL bl rows)).length ≤ (fc bl).length) : Tells rows marks m bl := by
  refine ⟨hb.trans h.len.symm, fun i j a b h1 h2 => ?_⟩
  have hi : i < n := by rw [← hb]; exact (List.getElem?_eq_some_iff.mp h1).1
  have hj : j < n := by rw [← hb]; exact (List.getElem?_eq_some_iff.mp h2).1
  have e1 : bl.getD i 0 = a := by rw [List.getD_eq_getElem?_getD, h1]; rfl
  have e2 : bl.getD j 0 = b := by rw [List.getD_eq_getElem?_getD, h2]; rfl
  rw [← e1, ← e2]
  exact ⟨done_eqv h hb mk e i j hi hj, co i j hi hj⟩
theorem tells_stop (h : SysOk rows marks n m) (hb : bl.length = n) (mk : Marked marks n bl) (co : Coarse rows marks n m bl) (e : frs (keysL bl rows) = bl) : Tells rows marks m bl := by
  refine tells_of h hb mk co ?_
  have := fc_frs_len (keysL bl rows)
  rw [e] at this
  omega
theorem tells_full (h : SysOk rows marks n m) (hb : bl.length = n) (mk : Marked marks n bl) (co : Coarse rows marks n m bl) (e : n ≤ (fc bl).length) : Tells rows marks m bl := by
  refine tells_of h hb mk co ?_
  have := fc_len_le (keysL bl rows)
  rw [keysL_len, h.len] at this
  omega
theorem grows (h : SysOk rows marks n m) (hb : bl.length = n) (e : frs bl = bl) (ne : frs (keysL bl rows) ≠ bl) : (fc bl).length + 1 ≤ (fc (frs (keysL bl rows))).length := by
  rw [fc_frs_len]
  have kk := keys_kin h hb
  have := kin_le kk
  rcases Nat.lt_or_ge (fc bl).length (fc (keysL bl rows)).length with hl | hl
  · exact hl
  · exact absurd ((frs_eq kk (kin_back kk hl)).trans e) ne
end
/-! ### the places of a machine -/
def stp1 (M : Mac) : Stp := fun r c => some [stepM M (r.getD 0 0) (97 + c)]
def sing (n : Nat) : List (List Nat) := (List.range n).map fun s => [s]
theorem sing_mem {n : Nat} {r : List Nat} : r ∈ sing n ↔ ∃ s, s < n ∧ r = [s] := by
  unfold sing
  rw [List.mem_map]
  exact ⟨fun ⟨s, h, e⟩ => ⟨s, List.mem_range.mp h, e.symm⟩, fun ⟨s, h, e⟩ => ⟨s, List.mem_range.mpr h, e.symm⟩⟩
theorem sing_len (n : Nat) : (sing n).length = n := by unfold sing; rw [List.length_map, List.length_range]
theorem sing_cl {M : Mac} {n m : Nat} (ok : MacOk M n m) : ∀ r ∈ sing n, ∀ c r', c < m → stp1 M r c = some r' → r' ∈ sing n := fun r hr c r' hc e => by
  rw [← Option.some.inj e]
  obtain ⟨s, hs, rfl⟩ := sing_mem.mp hr
  exact sing_mem.mpr ⟨_, ok.step hs (by omega) (by omega), rfl⟩
theorem stp1_tot (M : Mac) : ∀ r c, ∃ r', stp1 M r c = some r' := fun r c => ⟨_, rfl⟩
def gd1 (M : Mac) (r : List Nat) : Bool := decide (r.getD 0 0 ∈ M.good)
def gmk (M : Mac) (n : Nat) : List Bool := (List.range n).map fun s => decide (s ∈ M.good)
theorem sysM {M : Mac} {n m : Nat} (ok : MacOk M n m) : SysOk M.steps (gmk M n) n m := ⟨ok.len, by unfold gmk; rw [List.length_map, List.length_range], ok.row⟩
theorem gmk_at {M : Mac} {n s : Nat} (h : s < n) : (gmk M n).getD s false = decide (s ∈ M.good) := by
  unfold gmk
  rw [List.getD_eq_getElem?_getD, List.getElem?_map, List.getElem?_range h]
  rfl
theorem ncl_le {rows : List (List Nat)} {marks : List Bool} {m : Nat} : ncl rows marks m ≤ rows.length := by
  have := fc_len_le (labE rows marks m)
  rw [labE_len] at this
  exact this
/-- the least machine of a machine -/
noncomputable def LMa (M : Mac) (m i : Nat) : Mac := LMm (rowsB (stp1 M) m (bfs (stp1 M) m [M.start] i)) ((bfs (stp1 M) m [M.start] i).map fun p => gd1 M p.1) m
/-! the law's way: the classes of the states, in the order in which they are found -/
def ordB (B : Wm) : List Nat := B.map fun p => p.1.getD 0 0
/-- a search that has ended -/
structure Ended (M : Mac) (n m : Nat) (B : Wm) : Prop where
  one : ∀ (i : Nat) (p : List Nat × List Nat), B[i]? = some p → ∃ s, s < n ∧ p.1 = [s]
  nd : (B.map (·.1)).Nodup
  cl : ∀ (i : Nat) (p : List Nat × List Nat), B[i]? = some p → ∀ c, c < m → [stepM M (p.1.getD 0 0) (97 + c)] ∈ B.map (·.1)
theorem ended {M : Mac} {n m i : Nat} (ok : MacOk M n m) (hi : (bfs (stp1 M) m [M.start] i).length ≤ i) : Ended M n m (bfs (stp1 M) m [M.start] i) := by
  have all : ∀ p ∈ bfs (stp1 M) m [M.start] i, p.1 ∈ sing n := bfs_all (stp := stp1 M) (k := m) (o := [M.start]) (P := fun q => q.1 ∈ sing n) (sing_mem.mpr ⟨_, ok.start, rfl⟩) (fun x c r hx hc e => sing_cl ok x.1 hx c r hc e) i
  refine ⟨fun j p h => ?_, bfs_nd i, fun j p h c hc => bfs_closed hi (List.mem_of_getElem? h) hc rfl⟩
  obtain ⟨s, hs, e⟩ := sing_mem.mp (all p (List.mem_of_getElem? h))
  exact ⟨s, hs, e⟩
section
variable {M : Mac} {n m : Nat} {B : Wm}
theorem ordB_at (e : Ended M n m B) {i : Nat} {p : List Nat × List Nat} (h : B[i]? = some p) : (ordB B)[i]? = some (p.1.getD 0 0) ∧ p.1 = [p.1.getD 0 0] ∧ p.1.getD 0 0 < n := by
  obtain ⟨s, hs, ep⟩ := e.one i p h
  refine ⟨by unfold ordB; rw [List.getElem?_map, h]; rfl, by rw [ep]; rfl, by rw [ep]; exact hs⟩
theorem ordB_len : (ordB B).length = B.length := List.length_map _
theorem keyB (e : Ended M n m B) {i s : Nat} (h : (ordB B)[i]? = some s) : (B.map (·.1))[i]? = some [s] := by
  unfold ordB at h
  rw [List.getElem?_map] at h
  obtain ⟨p, hp, rfl⟩ := Option.map_eq_some_iff.mp h
  rw [List.getElem?_map, hp]
  exact congrArg some (ordB_at e hp).2.1
theorem rowB_at (e : Ended M n m B) {i s : Nat} (h : (ordB B)[i]? = some s) : (rowsB (stp1 M) m B).getD i [] = (List.range m).map fun c => ix (B.map (·.1)) [stepM M s (97 + c)] := by
  unfold ordB at h
  rw [List.getElem?_map] at h
  obtain ⟨p, hp, rfl⟩ := Option.map_eq_some_iff.mp h
  unfold rowsB
  rw [List.getD_eq_getElem?_getD, List.getElem?_map, hp]
  rfl
theorem posB (e : Ended M n m B) {i s c : Nat} (h : (ordB B)[i]? = some s) (hc : c < m) : (ordB B)[((rowsB (stp1 M) m B).getD i []).getD c 0]? = some (stepM M s (97 + c)) := by
  rw [rowB_at e h]
  have e1 : ((List.range m).map fun c => ix (B.map (·.1)) [stepM M s (97 + c)]).getD c 0 = ix (B.map (·.1)) [stepM M s (97 + c)] := by
    rw [List.getD_eq_getElem?_getD, List.getElem?_map, List.getElem?_range hc]
    rfl
  rw [e1]
  unfold ordB at h
  rw [List.getElem?_map] at h
  obtain ⟨p, hp, rfl⟩ := Option.map_eq_some_iff.mp h
  have g := ix_get (e.cl i p hp c hc)
  rw [List.getElem?_map] at g
  obtain ⟨q, hq, eq⟩ := Option.map_eq_some_iff.mp g
  unfold ordB
  rw [List.getElem?_map, hq]
  show some (q.1.getD 0 0) = _
  rw [eq]
  rfl
theorem runB (ok : MacOk M n m) (e : Ended M n m B) : ∀ (w : List Nat) (i s : Nat), (∀ c ∈ w, c < m) → (ordB B)[i]? = some s → (ordB B)[runR (rowsB (stp1 M) m B) i w]? = some (runR M.steps s w)
  | [], i, s, _, h => h
  | c :: w, i, s, hw, h => by
    have hc := hw c List.mem_cons_self
    have g := posB e h hc
    have e1 : stepM M s (97 + c) = (M.steps.getD s []).getD c 0 := by unfold stepM; rw [Nat.add_sub_cancel_left]
    rw [e1] at g
    exact runB ok e w _ _ (fun d hd => hw d (List.mem_cons_of_mem _ hd)) g
theorem markB (e : Ended M n m B) {i s : Nat} (h : (ordB B)[i]? = some s) : (B.map fun p => gd1 M p.1).getD i false = (gmk M n).getD s false := by
  unfold ordB at h
  rw [List.getElem?_map] at h
  obtain ⟨p, hp, rfl⟩ := Option.map_eq_some_iff.mp h
  rw [gmk_at (ordB_at e hp).2.2, List.getD_eq_getElem?_getD, List.getElem?_map, hp]
  rfl
theorem eqvB (ok : MacOk M n m) (e : Ended M n m B) {i j s t : Nat} (h1 : (ordB B)[i]? = some s) (h2 : (ordB B)[j]? = some t) : EqvR (rowsB (stp1 M) m B) (B.map fun p => gd1 M p.1) m i j ↔ EqvR M.steps (gmk M n) m s t := by
  constructor
  · intro h w hw
    have := h w hw
    rw [markB e (runB ok e w i s hw h1), markB e (runB ok e w j t hw h2)] at this
    exact this
  · intro h w hw
    rw [markB e (runB ok e w i s hw h1), markB e (runB ok e w j t hw h2)]
    exact h w hw
theorem rowsB_len {stp : Stp} {k : Nat} : (rowsB stp k B).length = B.length := List.length_map _
theorem tells_pos (ok : MacOk M n m) (e : Ended M n m B) {mk : List Nat} (h : Tells M.steps (gmk M n) m mk) : Tells (rowsB (stp1 M) m B) (B.map fun p => gd1 M p.1) m ((ordB B).map fun s => mk.getD s 0) := by
  refine ⟨by rw [List.length_map, ordB_len, rowsB_len], fun i j a b h1 h2 => ?_⟩
  rw [List.getElem?_map] at h1 h2
  obtain ⟨s, hs, rfl⟩ := Option.map_eq_some_iff.mp h1
  obtain ⟨t, ht, rfl⟩ := Option.map_eq_some_iff.mp h2
  rw [eqvB ok e hs ht]
  have lt : ∀ {i s : Nat}, (ordB B)[i]? = some s → s < n := fun {i s} h => by
    unfold ordB at h
    rw [List.getElem?_map] at h
    obtain ⟨p, hp, rfl⟩ := Option.map_eq_some_iff.mp h
    exact (ordB_at e hp).2.2
  have lm : mk.length = n := h.1.trans ok.len
  have at_ : ∀ s, s < n → mk[s]? = some (mk.getD s 0) := fun s hs => by
    rw [List.getD_eq_getElem?_getD, List.getElem?_eq_getElem (by omega)]
    rfl
  exact h.2 s t _ _ (at_ s (lt hs)) (at_ t (lt ht))
/-- what the law makes -/
theorem lm_law (ok : MacOk M n m) (e : Ended M n m B) {mk lo : List Nat} (h : Tells M.steps (gmk M n) m mk) (el : lo = (ordB B).map fun s => mk.getD s 0) :
    LMm (rowsB (stp1 M) m B) (B.map fun p => gd1 M p.1) m = ⟨(repsF (num lo) B.length).map fun i => (M.steps.getD ((ordB B).getD i 0) []).map fun t => ix (fc lo) (mk.getD t 0), 0, (List.range (repsF (num lo) B.length).length).filter fun k => decide ((ordB B).getD ((repsF (num lo) B.length).getD k 0) 0 ∈ M.good)⟩ := by
  have lab : labS (rowsB (stp1 M) m B) (B.map fun p => gd1 M p.1) m = num lo := by
    rw [el]
    exact (tells_num (tells_pos ok e h)).symm
  unfold LMm
  rw [lab, rowsB_len]
  have ordat : ∀ i, i < B.length → (ordB B)[i]? = some ((ordB B).getD i 0) := fun i hi => by
    rw [List.getD_eq_getElem?_getD, List.getElem?_eq_getElem (by rw [ordB_len]; exact hi)]
    rfl
  have lt : ∀ i, i < B.length → (ordB B).getD i 0 < n := fun i hi => by
    have h := ordat i hi
    unfold ordB at h
    rw [List.getElem?_map] at h
    obtain ⟨p, hp, e2⟩ := Option.map_eq_some_iff.mp h
    have := (ordB_at e hp).2.2
    unfold ordB
    rw [← e2]
    exact this
  congr 1
  · refine List.map_congr_left fun i hi => ?_
    have hin := reps_lt hi
    have oi := ordat i hin
    obtain ⟨rl, rb⟩ := ok.rowAt (lt i hin)
    rw [rowB_at e oi, List.map_map]
    refine List.ext_getElem? fun c => ?_
    rw [List.getElem?_map, List.getElem?_map]
    by_cases hc : c < m
    · rw [List.getElem?_range hc, List.getElem?_eq_getElem (l := M.steps.getD ((ordB B).getD i 0) []) (by rw [rl]; exact hc)]
      have g := posB e oi hc
      rw [rowB_at e oi] at g
      have e1 : ((List.range m).map fun c => ix (B.map (·.1)) [stepM M ((ordB B).getD i 0) (97 + c)]).getD c 0 = ix (B.map (·.1)) [stepM M ((ordB B).getD i 0) (97 + c)] := by
        rw [List.getD_eq_getElem?_getD, List.getElem?_map, List.getElem?_range hc]
        rfl
      rw [e1] at g
      show some ((num lo).getD (ix (B.map (·.1)) [stepM M ((ordB B).getD i 0) (97 + c)]) 0) = some (ix (fc lo) (mk.getD _ 0))
      have e2 : stepM M ((ordB B).getD i 0) (97 + c) = (M.steps.getD ((ordB B).getD i 0) [])[c]'(by rw [rl]; exact hc) := by
        unfold stepM
        rw [Nat.add_sub_cancel_left, List.getD_eq_getElem?_getD (l := M.steps.getD ((ordB B).getD i 0) []), List.getElem?_eq_getElem (by rw [rl]; exact hc)]
        rfl
      rw [← e2]
      have e3 : lo[ix (B.map (·.1)) [stepM M ((ordB B).getD i 0) (97 + c)]]? = some (mk.getD (stepM M ((ordB B).getD i 0) (97 + c)) 0) := by
        rw [el, List.getElem?_map, g]
        rfl
      rw [num_getD e3]
    · rw [List.getElem?_eq_none (by rw [List.length_range]; omega), List.getElem?_eq_none (l := M.steps.getD ((ordB B).getD i 0) []) (by omega)]
      rfl
  · unfold goodF
    refine List.filter_congr fun k hk => ?_
    have hkl := List.mem_range.mp hk
    have hm : (repsF (num lo) B.length).getD k 0 ∈ repsF (num lo) B.length := by
      rw [List.getD_eq_getElem?_getD, List.getElem?_eq_getElem hkl]
      exact List.getElem_mem _
    have hin := reps_lt hm
    rw [markB e (ordat _ hin), gmk_at (lt _ hin)]
end
theorem sysB {stp : Stp} {k : Nat} {o : List Nat} {i : Nat} {gd : List Nat → Bool} (hi : (bfs stp k o i).length ≤ i) (tot : ∀ r c, ∃ r', stp r c = some r') : SysOk (rowsB stp k (bfs stp k o i)) ((bfs stp k o i).map fun p => gd p.1) (bfs stp k o i).length k := by
  refine ⟨by unfold rowsB; rw [List.length_map], List.length_map _, fun r hr => ?_⟩
  unfold rowsB at hr
  obtain ⟨p, hp, rfl⟩ := List.mem_map.mp hr
  refine ⟨by rw [List.length_map, List.length_range], fun t ht => ?_⟩
  obtain ⟨c, hc, rfl⟩ := List.mem_map.mp ht
  obtain ⟨r', er⟩ := tot p.1 c
  rw [er]
  have := ix_lt (bfs_closed hi hp (List.mem_range.mp hc) er)
  rw [List.length_map] at this
  exact this
theorem bfs_one {stp : Stp} {k : Nat} {o : List Nat} (i : Nat) : 1 ≤ (bfs stp k o i).length := by
  obtain ⟨z, ez⟩ := bfs_pre (stp := stp) (k := k) (o := o) 0 i
  rw [Nat.zero_add] at ez
  rw [ez, List.length_append]
  exact Nat.le_add_right 1 _
end G
set_option Elab.async false
set_option linter.all false
set_option maxRecDepth 100000
set_option maxHeartbeats 4000000
namespace G
open PySem PySem.Spec PyProof.Rows L2
/-! ### xs.pop(0) -/
section
variable {X : Cx} {H : Hp} {Q : VK}
def rPop0 : V → List V → Hp → VK → Prop := fun x vs H Q => ∃ (l : Addr) (y : V) (xs : List V), x = .ref l ∧ vs = [.int 0] ∧ H l = some (.lst (y :: xs)) ∧ Q y (upd H l (.lst xs))
theorem mt_pop0 : MtR X "list.pop" rPop0 := by
  intro pins s σ H x vs v us Q I rx rv h
  obtain ⟨l, y, xs, ex, ev, e, q⟩ := h
  subst ex
  subst ev
  obtain rfl : v = Value.ref l := rx
  obtain ⟨u, rfl, t, rfl⟩ := vals1 rv
  obtain ⟨hz, its, n, r, ho⟩ := I.hok l _ e
  cases r with
  | @cons _ v0 _ its r1 r2 =>
    have hs : (v0 :: its).toArray.size = its.length + 1 := by rw [List.size_toArray, List.length_cons]
    have hxl : xs.length = its.length := r2.length
    have hz : xs.length + 1 ≤ sizeLine := hz
    refine call_meets PySem.F.slot_list_pop ⟨_, ho, rfl⟩ PySem.F.entry_list_pop (PySem.F.args_list_pop_2 _ _)
      (MeetsSeq.list_pop_at l (v0 :: its).toArray n 0 t 0 v0 (by decide) ?_ rfl (by omega)) ⟨ho, ⟨y, _, ?_, r1, q⟩⟩
    · rw [hs]
      unfold seqIndex?
      simp
    · refine I.lset (its := v0 :: its) (its' := its) (n := n) e ho ?_ r2 (by omega)
      simp
theorem r_pop0 {l : Addr} {y : V} {xs : List V} (h : H l = some (.lst (y :: xs))) (q : Q y (upd H l (.lst xs))) : rPop0 (.ref l) [.int 0] H Q := ⟨l, y, xs, rfl, rfl, h, q⟩
end
end G
set_option Elab.async false
set_option linter.all false
set_option maxRecDepth 100000
set_option maxHeartbeats 4000000
namespace G
open PySem PySem.Spec PyProof.Rows L2
/-! ### words in their order -/
def valW (w : List Nat) : Nat := w.foldl (fun a c => 5 * a + (c - 96)) 0
theorem valW_snoc (w : List Nat) (c : Nat) : valW (w ++ [c]) = 5 * valW w + (c - 96) := by
  unfold valW
  rw [List.foldl_append]
  rfl
theorem valW_inj {k : Nat} (k4 : k ≤ 4) : ∀ (n : Nat) (u v : List Nat), u.length ≤ n → isW k u → isW k v → valW u = valW v → u = v
  | n, u, v, hl, hu, hv, e => by
    rcases List.eq_nil_or_concat u with rfl | ⟨u', c, rfl⟩
    · rcases List.eq_nil_or_concat v with rfl | ⟨v', d, rfl⟩
      · rfl
      · rw [List.concat_eq_append] at hv e
        have hd := hv d (List.mem_append_right _ List.mem_cons_self)
        rw [valW_snoc] at e
        have : valW [] = 0 := rfl
        omega
    · rw [List.concat_eq_append] at hu e hl ⊢
      have hc := hu c (List.mem_append_right _ List.mem_cons_self)
      rcases List.eq_nil_or_concat v with rfl | ⟨v', d, rfl⟩
      · rw [valW_snoc] at e
        have : valW [] = 0 := rfl
        omega
      · rw [List.concat_eq_append] at hv e ⊢
        have hd := hv d (List.mem_append_right _ List.mem_cons_self)
        rw [valW_snoc, valW_snoc] at e
        rw [List.length_append] at hl
        have h1 : [c].length = 1 := rfl
        match n, hl with
        | 0, hl => omega
        | n + 1, hl =>
          have e1 : c = d := by omega
          have e2 : valW u' = valW v' := by omega
          rw [valW_inj k4 n u' v' (by omega) (fun x hx => hu x (List.mem_append_left _ hx)) (fun x hx => hv x (List.mem_append_left _ hx)) e2, e1]
def ascW (m : Wm) : Prop := m.Pairwise fun p q => valW p.2 < valW q.2
theorem extT_asc {stp : Stp} {x : List Nat × List Nat} {mm : Wm} (h : ascW mm) (hb : ∀ p ∈ mm, valW p.2 ≤ 5 * valW x.2) : ∀ j, ascW (extT stp x mm j) ∧ ∀ p ∈ extT stp x mm j, valW p.2 ≤ 5 * valW x.2 + j
  | 0 => ⟨h, fun p hp => hb p hp⟩
  | j + 1 => by
    obtain ⟨h1, h2⟩ := extT_asc h hb j
    rw [extT_succ]
    unfold ext1
    split
    · exact ⟨h1, fun p hp => Nat.le_trans (h2 p hp) (by omega)⟩
    · split
      · exact ⟨h1, fun p hp => Nat.le_trans (h2 p hp) (by omega)⟩
      · have ev : valW (x.2 ++ [97 + j]) = 5 * valW x.2 + (j + 1) := by
          rw [valW_snoc]
          omega
        refine ⟨List.pairwise_append.mpr ⟨h1, List.pairwise_singleton _ _, fun p hp q hq => ?_⟩, fun p hp => ?_⟩
        · rw [List.mem_singleton.mp hq]
          show valW p.2 < valW (x.2 ++ [97 + j])
          have := h2 p hp
          omega
        · rcases List.mem_append.mp hp with hp | hp
          · have := h2 p hp
            omega
          · rw [List.mem_singleton.mp hp]
            show valW (x.2 ++ [97 + j]) ≤ _
            omega
section
variable {stp : Stp} {k : Nat} {o : List Nat}
theorem asc_at {mm : Wm} (h : ascW mm) {i j : Nat} {p q : List Nat × List Nat} (hp : mm[i]? = some p) (hq : mm[j]? = some q) (hij : i < j) : valW p.2 < valW q.2 := by
  obtain ⟨h1, rfl⟩ := List.getElem?_eq_some_iff.mp hp
  obtain ⟨h2, rfl⟩ := List.getElem?_eq_some_iff.mp hq
  exact List.pairwise_iff_getElem.mp h i j h1 h2 hij
theorem bfs_asc (k4 : k ≤ 4) : ∀ i, ascW (bfs stp k o i) ∧ ∀ x, (bfs stp k o i)[i]? = some x → ∀ p ∈ bfs stp k o i, valW p.2 ≤ 5 * valW x.2
  | 0 => ⟨List.pairwise_singleton _ _, fun x hx p hp => by
    have e1 : p = (o, []) := List.mem_singleton.mp hp
    rw [e1]
    exact Nat.zero_le _⟩
  | i + 1 => by
    obtain ⟨h1, h2⟩ := bfs_asc k4 i
    cases hx : (bfs stp k o i)[i]? with
    | none =>
      have hl := List.getElem?_eq_none_iff.mp hx
      rw [bfs_stop hl]
      exact ⟨h1, fun x hx' => by
        rw [List.getElem?_eq_none (by omega)] at hx'
        cases hx'⟩
    | some x =>
      rw [bfs_succ hx]
      obtain ⟨a1, a2⟩ := extT_asc (stp := stp) h1 (h2 x hx) k
      refine ⟨a1, fun y hy p hp => ?_⟩
      have hx' : (extT stp x (bfs stp k o i) k)[i]? = some x := by
        rw [← bfs_succ hx]
        exact bfs_at hx (Nat.le_succ i)
      have := asc_at a1 hx' hy (Nat.lt_succ_self i)
      have := a2 p hp
      omega
theorem walkO_none {u : List Nat} (h : walkO stp o u = none) (c : Nat) : walkO stp o (u ++ [c]) = none := by
  rw [walkO_snoc, h]
  rfl
theorem bfs_least {i : Nat} (k4 : k ≤ 4) (hi : (bfs stp k o i).length ≤ i) : ∀ (n : Nat) (w : List Nat), w.length ≤ n → isW k w → ∀ r, walkO stp o w = some r → ∃ p ∈ bfs stp k o i, p.1 = r ∧ valW p.2 ≤ valW w
  | n, w, hl, hw, r, hr => by
    rcases List.eq_nil_or_concat w with rfl | ⟨w', c, rfl⟩
    · have e : r = o := (Option.some.inj hr).symm
      exact ⟨(o, []), List.mem_of_getElem? (bfs_at (i := 0) (j := i) (l := 0) rfl (Nat.zero_le i)), e.symm, Nat.le_refl _⟩
    · rw [List.concat_eq_append] at hl hw hr ⊢
      have hc := hw c (List.mem_append_right _ List.mem_cons_self)
      rw [List.length_append] at hl
      have h1 : [c].length = 1 := rfl
      match n, hl with
      | 0, hl => omega
      | n + 1, hl =>
        cases hr' : walkO stp o w' with
        | none =>
          rw [walkO_none hr'] at hr
          cases hr
        | some r' =>
          rw [walkO_snoc, hr'] at hr
          have hr : stp r' (c - 97) = some r := hr
          obtain ⟨p', hp', rfl, hv⟩ := bfs_least k4 hi n w' (by omega) (fun x hx => hw x (List.mem_append_left _ hx)) r' hr'
          obtain ⟨j, hj⟩ := List.mem_iff_getElem?.mp hp'
          have hjl := (List.getElem?_eq_some_iff.mp hj).1
          have hji : j < i := by omega
          have hj2 : j < (bfs stp k o j).length := by
            rcases Nat.lt_or_ge j (bfs stp k o j).length with q | q
            · exact q
            · have := bfs_stops q (i - j)
              rw [show j + (i - j) = i by omega] at this
              rw [this] at hjl
              omega
          obtain ⟨y, hy⟩ : ∃ y, (bfs stp k o j)[j]? = some y := ⟨_, List.getElem?_eq_getElem hj2⟩
          have hy2 := bfs_at hy (Nat.le_of_lt hji)
          rw [hj] at hy2
          cases Option.some.inj hy2
          obtain ⟨a1, a2⟩ := bfs_asc (stp := stp) (o := o) k4 j
          obtain ⟨b1, b2⟩ := extT_asc (stp := stp) a1 (a2 _ hy) (c - 97 + 1)
          obtain ⟨p, hp, ep⟩ := List.mem_map.mp (extT_has (stp := stp) (m := bfs stp k o j) hr (c - 97 + 1) (Nat.lt_succ_self _))
          refine ⟨p, ?_, ep, ?_⟩
          · obtain ⟨z, ez⟩ := bfs_pre (stp := stp) (k := k) (o := o) (j + 1) (i - (j + 1))
            rw [show j + 1 + (i - (j + 1)) = i by omega] at ez
            rw [ez, bfs_succ hy]
            refine List.mem_append_left _ ?_
            have pre : ∀ d, ∃ z, extT stp p' (bfs stp k o j) (c - 97 + 1 + d) = extT stp p' (bfs stp k o j) (c - 97 + 1) ++ z := fun d => by
              induction d with
              | zero => exact ⟨[], (List.append_nil _).symm⟩
              | succ d ih =>
                obtain ⟨z, ez⟩ := ih
                obtain ⟨z2, ez2⟩ := ext1_pre (stp := stp) (extT stp p' (bfs stp k o j) (c - 97 + 1 + d)) p' (c - 97 + 1 + d)
                exact ⟨z ++ z2, by rw [show c - 97 + 1 + (d + 1) = (c - 97 + 1 + d) + 1 by omega, extT_succ, ez2, ez, List.append_assoc]⟩
            obtain ⟨z3, ez3⟩ := pre (k - (c - 97 + 1))
            rw [show c - 97 + 1 + (k - (c - 97 + 1)) = k by omega] at ez3
            rw [ez3]
            exact List.mem_append_left _ hp
          · have := b2 p hp
            rw [valW_snoc]
            omega
theorem find_least {i : Nat} (k4 : k ≤ 4) (hi : (bfs stp k o i).length ≤ i) {f : List Nat → Bool} {w r : List Nat} (hw : isW k w) (hr : walkO stp o w = some r) (hf : f r = true) :
    ∃ p, (bfs stp k o i).find? (fun p => f p.1) = some p ∧ valW p.2 ≤ valW w := by
  obtain ⟨q, hq, rfl, hv⟩ := bfs_least k4 hi w.length w (Nat.le_refl _) hw r hr
  cases hfi : (bfs stp k o i).find? (fun p => f p.1) with
  | none => exact absurd hf (by rw [Bool.not_eq_true]; exact Bool.eq_false_iff.mpr (List.find?_eq_none.mp hfi q hq))
  | some p =>
    refine ⟨p, rfl, ?_⟩
    obtain ⟨h1, as, bs, h2, h3⟩ := List.find?_eq_some_iff_append.mp hfi
    have ha := (bfs_asc (stp := stp) (o := o) k4 i).1
    rw [h2] at hq ha
    rcases List.mem_append.mp hq with hq | hq
    · have := h3 q hq
      rw [hf] at this
      cases this
    · rcases List.mem_cons.mp hq with rfl | hq
      · exact hv
      · have := (List.pairwise_append.mp ha).2.1
        have := (List.pairwise_cons.mp this).1 q hq
        omega
end

/-! ### one least machine for one language -/
theorem reps_get {α : Type} [DecidableEq α] [Inhabited α] (l : List α) : ∀ J, J ≤ l.length → ∀ j, j < J → ∃ i, i ≤ j ∧ (repsF (num l) J)[(num l).getD j 0]? = some i ∧ (num l).getD i 0 = (num l).getD j 0
  | 0, _, j, h => absurd h (Nat.not_lt_zero j)
  | J + 1, hJ, j, h => by
    have ih := reps_get l J (by omega)
    have pre : ∀ {q i : Nat}, (repsF (num l) J)[q]? = some i → (repsF (num l) (J + 1))[q]? = some i := fun {q i} e => by
      rw [reps_succ, List.getElem?_append_left (List.getElem?_eq_some_iff.mp e).1]
      exact e
    rcases Nat.lt_succ_iff_lt_or_eq.mp h with h | rfl
    · obtain ⟨i, h1, h2, h3⟩ := ih j h
      exact ⟨i, h1, pre h2, h3⟩
    · obtain ⟨a, ha⟩ : ∃ a, l[j]? = some a := ⟨_, List.getElem?_eq_getElem (by omega)⟩
      obtain ⟨n1, _, _⟩ := num_new ha
      by_cases z : a ∈ fc (l.take j)
      · obtain ⟨j', hj'⟩ := List.mem_iff_getElem?.mp ((fc_mem _ a).mp z)
        rw [List.getElem?_take] at hj'
        split at hj'
        · rename_i hlt
          have e : (num l).getD j' 0 = (num l).getD j 0 := by rw [num_getD hj', num_getD ha]
          obtain ⟨i, h1, h2, h3⟩ := ih j' hlt
          rw [e] at h2 h3
          exact ⟨i, by omega, pre h2, h3⟩
        · exact nomatch hj'
      · have hn := n1.mpr z
        refine ⟨j, Nat.le_refl _, ?_, rfl⟩
        rw [reps_succ, if_pos hn, hn, ← reps_len l j (by omega), List.getElem?_append_right (Nat.le_refl _), Nat.sub_self]
        rfl
theorem reps_at {α : Type} [DecidableEq α] [Inhabited α] (l : List α) : ∀ J, J ≤ l.length → ∀ (k i : Nat), (repsF (num l) J)[k]? = some i → (num l).getD i 0 = k ∧ i < J
  | 0, _, k, i, h => nomatch h
  | J + 1, hJ, k, i, h => by
    rw [reps_succ] at h
    rcases Nat.lt_or_ge k (repsF (num l) J).length with hk | hk
    · rw [List.getElem?_append_left hk] at h
      obtain ⟨h1, h2⟩ := reps_at l J (by omega) k i h
      exact ⟨h1, by omega⟩
    · rw [List.getElem?_append_right hk] at h
      split at h
      · rename_i hn
        have : k - (repsF (num l) J).length = 0 := by
          have := (List.getElem?_eq_some_iff.mp h).1
          rw [List.length_singleton] at this
          omega
        rw [this] at h
        obtain rfl := Option.some.inj h
        rw [hn, ← reps_len l J (by omega)]
        exact ⟨by omega, Nat.lt_succ_self _⟩
      · exact nomatch h
theorem reps_asc (lab : List Nat) (J : Nat) : (repsF lab J).Pairwise (· < ·) := List.pairwise_lt_range.sublist List.filter_sublist
theorem asc_uniq : ∀ {a b : List (List Nat)}, a.Pairwise (fun p q => valW p < valW q) → b.Pairwise (fun p q => valW p < valW q) → (∀ x, x ∈ a ↔ x ∈ b) → a = b
  | [], [], _, _, _ => rfl
  | [], y :: b, _, _, h => absurd ((h y).mpr List.mem_cons_self) (fun z => nomatch z)
  | x :: a, [], _, _, h => absurd ((h x).mp List.mem_cons_self) (fun z => nomatch z)
  | x :: a, y :: b, ha, hb, h => by
    obtain ⟨a1, a2⟩ := List.pairwise_cons.mp ha
    obtain ⟨b1, b2⟩ := List.pairwise_cons.mp hb
    have exy : x = y := by
      rcases List.mem_cons.mp ((h x).mp List.mem_cons_self) with e | e
      · exact e
      · rcases List.mem_cons.mp ((h y).mpr List.mem_cons_self) with e2 | e2
        · exact e2.symm
        · have := b1 x e
          have := a1 y e2
          omega
    subst exy
    rw [asc_uniq a2 b2 fun z => ?_]
    constructor
    · intro hz
      rcases List.mem_cons.mp ((h z).mp (List.mem_cons_of_mem _ hz)) with e | e
      · have := a1 z hz
        rw [e] at this
        omega
      · exact e
    · intro hz
      rcases List.mem_cons.mp ((h z).mpr (List.mem_cons_of_mem _ hz)) with e | e
      · have := b1 z hz
        rw [e] at this
        omega
      · exact e
theorem isW_snoc {m c : Nat} {w : List Nat} (h : isW m w) (hc : c < m) : isW m (w ++ [97 + c]) := h.app fun d hd => by rw [List.mem_singleton.mp hd]; omega
theorem walk1 {M : Mac} : ∀ (w : List Nat) (s : Nat), (∀ c ∈ w, 97 ≤ c) → walkO (stp1 M) [s] w = some [leadM M s w] := fun w s => by
  rw [← List.reverse_reverse w]
  induction w.reverse with
  | nil => exact fun _ => rfl
  | cons c w ih =>
    rw [List.reverse_cons]
    intro h
    rw [walkO_snoc, ih fun d hd => h d (List.mem_append_left _ hd), leadM_snoc]
    have := h c (List.mem_append_right _ List.mem_cons_self)
    show some [stepM M (leadM M s w.reverse) (97 + (c - 97))] = _
    rw [show 97 + (c - 97) = c by omega]
theorem run_lead (M : Mac) : ∀ (w : List Nat) (s : Nat), runR M.steps s w = leadM M s (w.map (97 + ·))
  | [], s => rfl
  | c :: w, s => by
    show runR M.steps ((M.steps.getD s []).getD c 0) w = leadM M (stepM M s (97 + c)) (w.map (97 + ·))
    rw [run_lead M w]
    unfold stepM
    rw [Nat.add_sub_cancel_left]
theorem isW_back {m : Nat} {w : List Nat} (h : isW m w) : ∃ w' : List Nat, (∀ c ∈ w', c < m) ∧ w = w'.map (97 + ·) := ⟨w.map (fun c => c - 97), fun c hc => by
    obtain ⟨d, hd, rfl⟩ := List.mem_map.mp hc
    have := h d hd
    omega, by
    rw [List.map_map]
    have : ∀ c ∈ w, ((fun c => 97 + c) ∘ (fun c => c - 97)) c = c := fun c hc => by
      have := h c hc
      show 97 + (c - 97) = c
      omega
    rw [List.map_congr_left this, List.map_id'']
    intro x
    rfl⟩
/-- no word parts the two states -/
theorem eqv_iff {M : Mac} {n m s t : Nat} (ok : MacOk M n m) (hs : s < n) (ht : t < n) : EqvR M.steps (gmk M n) m s t ↔ ∀ z, isW m z → (leadM M s z ∈ M.good ↔ leadM M t z ∈ M.good) := by
  have wk : ∀ w : List Nat, (∀ c ∈ w, c < m) → isW m (w.map (97 + ·)) := fun w h c hc => by
    obtain ⟨d, hd, rfl⟩ := List.mem_map.mp hc
    have := h d hd
    exact ⟨by omega, by omega⟩
  constructor
  · intro h z hz
    obtain ⟨w, hw, rfl⟩ := isW_back hz
    have := h w hw
    rw [run_lead, run_lead, gmk_at (leadM_lt ok _ s hs (wk w hw)), gmk_at (leadM_lt ok _ t ht (wk w hw))] at this
    exact decide_eq_decide.mp this
  · intro h w hw
    rw [run_lead, run_lead, gmk_at (leadM_lt ok _ s hs (wk w hw)), gmk_at (leadM_lt ok _ t ht (wk w hw))]
    exact decide_eq_decide.mpr (h _ (wk w hw))
/-- the two words leave the same to come -/
def ResEq (M : Mac) (m : Nat) (u v : List Nat) : Prop := ∀ z, isW m z → accM M (u ++ z) = accM M (v ++ z)
theorem lead_app (M : Mac) (s : Nat) (u v : List Nat) : leadM M s (u ++ v) = leadM M (leadM M s u) v := by unfold leadM; rw [List.foldl_append]
theorem res_iff {M : Mac} {n m : Nat} (ok : MacOk M n m) {u v : List Nat} (hu : isW m u) (hv : isW m v) : ResEq M m u v ↔ EqvR M.steps (gmk M n) m (leadM M M.start u) (leadM M M.start v) := by
  rw [eqv_iff ok (leadM_lt ok u _ ok.start hu) (leadM_lt ok v _ ok.start hv)]
  unfold ResEq accM
  constructor
  · intro h z hz
    have := h z hz
    rw [lead_app, lead_app] at this
    exact decide_eq_decide.mp this
  · intro h z hz
    rw [lead_app, lead_app]
    exact decide_eq_decide.mpr (h z hz)
section
variable {M : Mac} {n m i : Nat}
/-- all that is needed of a machine's search and classes -/
structure Cls (M : Mac) (n m : Nat) (B : Wm) (lab : List Nat) : Prop where
  ok : MacOk M n m
  e : Ended M n m B
  asc : ascW B
  least : ∀ w, isW m w → ∃ (j : Nat) (p : List Nat × List Nat), B[j]? = some p ∧ p.1 = [leadM M M.start w] ∧ valW p.2 ≤ valW w
  word : ∀ (j : Nat) (p : List Nat × List Nat), B[j]? = some p → isW m p.2 ∧ p.1 = [leadM M M.start p.2]
  len : lab.length = B.length
  kin : ∀ (j k : Nat) (p q : List Nat × List Nat), B[j]? = some p → B[k]? = some q → (lab.getD j 0 = lab.getD k 0 ↔ ResEq M m p.2 q.2)
  get : ∀ j, j < B.length → ∃ i, i ≤ j ∧ (repsF lab B.length)[lab.getD j 0]? = some i ∧ lab.getD i 0 = lab.getD j 0
  at_ : ∀ (k i : Nat), (repsF lab B.length)[k]? = some i → lab.getD i 0 = k ∧ i < B.length
theorem cls_of (ok : MacOk M n m) (m4 : m ≤ 4) (hi : (bfs (stp1 M) m [M.start] i).length ≤ i) :
    Cls M n m (bfs (stp1 M) m [M.start] i) (labS (rowsB (stp1 M) m (bfs (stp1 M) m [M.start] i)) ((bfs (stp1 M) m [M.start] i).map fun p => gd1 M p.1) m) := by
  have e := ended ok hi
  have word : ∀ (j : Nat) (p : List Nat × List Nat), (bfs (stp1 M) m [M.start] i)[j]? = some p → isW m p.2 ∧ p.1 = [leadM M M.start p.2] := fun j p h => by
    obtain ⟨h1, h2⟩ := bfs_word (stp := stp1 M) (k := m) (o := [M.start]) i p (List.mem_of_getElem? h)
    rw [walk1 p.2 M.start fun c hc => (h2 c hc).1] at h1
    exact ⟨h2, (Option.some.inj h1).symm⟩
  have ll : (labS (rowsB (stp1 M) m (bfs (stp1 M) m [M.start] i)) ((bfs (stp1 M) m [M.start] i).map fun p => gd1 M p.1) m).length = (bfs (stp1 M) m [M.start] i).length := by rw [labS_len, rowsB_len]
  have lE : (labE (rowsB (stp1 M) m (bfs (stp1 M) m [M.start] i)) ((bfs (stp1 M) m [M.start] i).map fun p => gd1 M p.1) m).length = (bfs (stp1 M) m [M.start] i).length := by rw [labE_len, rowsB_len]
  refine ⟨ok, e, (bfs_asc (stp := stp1 M) (o := [M.start]) m4 i).1, fun w hw => ?_, word, ll, fun j k p q hp hq => ?_, fun j hj => reps_get _ _ (by rw [lE]; exact Nat.le_refl _) j hj, fun k j h => reps_at _ _ (by rw [lE]; exact Nat.le_refl _) k j h⟩
  · obtain ⟨p, hp, ep, hv⟩ := bfs_least (stp := stp1 M) (o := [M.start]) m4 hi w.length w (Nat.le_refl _) hw _ (walk1 w M.start fun c hc => (hw c hc).1)
    obtain ⟨j, hj⟩ := List.mem_iff_getElem?.mp hp
    exact ⟨j, p, hj, ep, hv⟩
  · obtain ⟨w1, e1⟩ := word j p hp
    obtain ⟨w2, e2⟩ := word k q hq
    have o1 := (ordB_at e hp).1
    have o2 := (ordB_at e hq).1
    rw [e1] at o1
    rw [e2] at o2
    have o1 : (ordB (bfs (stp1 M) m [M.start] i))[j]? = some (leadM M M.start p.2) := o1
    have o2 : (ordB (bfs (stp1 M) m [M.start] i))[k]? = some (leadM M M.start q.2) := o2
    have hj := (List.getElem?_eq_some_iff.mp hp).1
    have hk := (List.getElem?_eq_some_iff.mp hq).1
    rw [res_iff ok w1 w2, ← eqvB ok e o1 o2]
    refine (tells_labS (rows := rowsB (stp1 M) m (bfs (stp1 M) m [M.start] i)) (marks := (bfs (stp1 M) m [M.start] i).map fun p => gd1 M p.1) (m := m)).2 j k _ _ ?_ ?_
    · rw [List.getD_eq_getElem?_getD, List.getElem?_eq_getElem (by rw [ll]; exact hj)]
      rfl
    · rw [List.getD_eq_getElem?_getD, List.getElem?_eq_getElem (by rw [ll]; exact hk)]
      rfl
end
theorem ResEq.symm {M : Mac} {m : Nat} {u v : List Nat} (h : ResEq M m u v) : ResEq M m v u := fun z hz => (h z hz).symm
theorem ResEq.trans {M : Mac} {m : Nat} {u v w : List Nat} (h : ResEq M m u v) (g : ResEq M m v w) : ResEq M m u w := fun z hz => (h z hz).trans (g z hz)
/-- the least words of the classes -/
def repW (B : Wm) (lab : List Nat) : List (List Nat) := (repsF lab B.length).map fun i => (B.getD i ([], [])).2
section
variable {M : Mac} {n m : Nat} {B : Wm} {lab : List Nat}
theorem Cls.pos (c : Cls M n m B lab) {k i : Nat} (h : (repsF lab B.length)[k]? = some i) : ∃ p, B[i]? = some p ∧ (repW B lab)[k]? = some p.2 ∧ lab.getD i 0 = k := by
  obtain ⟨h1, h2⟩ := c.at_ k i h
  obtain ⟨p, hp⟩ : ∃ p, B[i]? = some p := ⟨_, List.getElem?_eq_getElem h2⟩
  refine ⟨p, hp, ?_, h1⟩
  unfold repW
  rw [List.getElem?_map, h]
  show some (B.getD i ([], [])).2 = _
  rw [List.getD_eq_getElem?_getD, hp]
  rfl
/-- each word has the like of a least one -/
theorem Cls.rep (c : Cls M n m B lab) {w : List Nat} (hw : isW m w) : ∃ (k : Nat) (u : List Nat), (repW B lab)[k]? = some u ∧ isW m u ∧ ResEq M m u w ∧ valW u ≤ valW w := by
  obtain ⟨j, p, hp, ep, hv⟩ := c.least w hw
  obtain ⟨i, hij, hr, hl⟩ := c.get j (List.getElem?_eq_some_iff.mp hp).1
  obtain ⟨q, hq, hu, _⟩ := c.pos hr
  have k1 := (c.kin i j q p hq hp).mp hl
  have h1 : ResEq M m p.2 w := by
    obtain ⟨w1, e1⟩ := c.word j p hp
    rw [ep] at e1
    injection e1 with e1 _
    rw [res_iff c.ok w1 hw, ← e1]
    exact EqvR.refl _
  refine ⟨_, q.2, hu, (c.word i q hq).1, k1.trans h1, ?_⟩
  rcases Nat.lt_or_ge i j with h | h
  · have := asc_at c.asc hq hp h
    omega
  · have : i = j := by omega
    subst this
    rw [hq] at hp
    obtain rfl := Option.some.inj hp
    exact hv
theorem Cls.inj (c : Cls M n m B lab) {k k' : Nat} {u u' : List Nat} (h : (repW B lab)[k]? = some u) (h' : (repW B lab)[k']? = some u') (e : ResEq M m u u') : k = k' := by
  have get : ∀ {k u}, (repW B lab)[k]? = some u → ∃ i p, (repsF lab B.length)[k]? = some i ∧ B[i]? = some p ∧ p.2 = u ∧ lab.getD i 0 = k := fun {k u} h => by
    have hk := (List.getElem?_eq_some_iff.mp h).1
    unfold repW at hk
    rw [List.length_map] at hk
    obtain ⟨i, hi⟩ : ∃ i, (repsF lab B.length)[k]? = some i := ⟨_, List.getElem?_eq_getElem hk⟩
    obtain ⟨p, hp, hu, hl⟩ := c.pos hi
    rw [h] at hu
    exact ⟨i, p, hi, hp, (Option.some.inj hu).symm, hl⟩
  obtain ⟨i, p, _, hp, rfl, hl⟩ := get h
  obtain ⟨i', p', _, hp', rfl, hl'⟩ := get h'
  rw [← hl, ← hl']
  exact (c.kin i i' p p' hp hp').mpr e
theorem Cls.min (c : Cls M n m B lab) (m4 : m ≤ 4) (w : List Nat) : w ∈ repW B lab ↔ isW m w ∧ ∀ w', isW m w' → ResEq M m w w' → valW w ≤ valW w' := by
  constructor
  · intro h
    obtain ⟨k, hk⟩ := List.mem_iff_getElem?.mp h
    have hw : isW m w := by
      have hkl := (List.getElem?_eq_some_iff.mp hk).1
      unfold repW at hkl
      rw [List.length_map] at hkl
      obtain ⟨i, hi⟩ : ∃ i, (repsF lab B.length)[k]? = some i := ⟨_, List.getElem?_eq_getElem hkl⟩
      obtain ⟨p, hp, hu, _⟩ := c.pos hi
      rw [hk] at hu
      rw [Option.some.inj hu]
      exact (c.word i p hp).1
    refine ⟨hw, fun w' hw' he => ?_⟩
    obtain ⟨k', u', hk', _, r', hv⟩ := c.rep hw'
    have := c.inj hk hk' (he.trans r'.symm)
    subst this
    rw [hk] at hk'
    rw [Option.some.inj hk']
    exact hv
  · rintro ⟨hw, hmin⟩
    obtain ⟨k, u, hk, hu, r, hv⟩ := c.rep hw
    have := hmin u hu r.symm
    rw [valW_inj m4 w.length w u (Nat.le_refl _) hw hu (by omega)]
    exact List.mem_of_getElem? hk
theorem Cls.sorted (c : Cls M n m B lab) : (repW B lab).Pairwise fun p q => valW p < valW q := by
  unfold repW
  rw [List.pairwise_map]
  refine (reps_asc lab B.length).imp_of_mem fun {a b} ha hb hab => ?_
  have h1 := reps_lt ha
  have h2 := reps_lt hb
  obtain ⟨p, hp⟩ : ∃ p, B[a]? = some p := ⟨_, List.getElem?_eq_getElem h1⟩
  obtain ⟨q, hq⟩ : ∃ q, B[b]? = some q := ⟨_, List.getElem?_eq_getElem h2⟩
  rw [List.getD_eq_getElem?_getD, List.getD_eq_getElem?_getD, hp, hq]
  exact asc_at c.asc hp hq hab
/-- the machine of the classes -/
def RM (M : Mac) (m : Nat) (B : Wm) (lab : List Nat) : Mac := ⟨(repsF lab B.length).map fun i => ((rowsB (stp1 M) m B).getD i []).map fun t => lab.getD t 0, 0, goodF (repsF lab B.length) (B.map fun p => gd1 M p.1)⟩
theorem repW_len : (repW B lab).length = (repsF lab B.length).length := List.length_map _
theorem Cls.row (c : Cls M n m B lab) {k : Nat} {u : List Nat} (h : (repW B lab)[k]? = some u) : ∃ row, (RM M m B lab).steps[k]? = some row ∧ row.length = m ∧ ∀ d, d < m → ∃ x v, row[d]? = some x ∧ (repW B lab)[x]? = some v ∧ ResEq M m v (u ++ [97 + d]) := by
  have hk := (List.getElem?_eq_some_iff.mp h).1
  rw [repW_len] at hk
  obtain ⟨i, hi⟩ : ∃ i, (repsF lab B.length)[k]? = some i := ⟨_, List.getElem?_eq_getElem hk⟩
  obtain ⟨p, hp, hu, hl⟩ := c.pos hi
  rw [h] at hu
  obtain rfl := Option.some.inj hu
  obtain ⟨w1, e1⟩ := c.word i p hp
  have o1 := (ordB_at c.e hp).1
  rw [e1] at o1
  have o1 : (ordB B)[i]? = some (leadM M M.start p.2) := o1
  have hrow := rowB_at c.e o1
  refine ⟨_, by unfold RM; rw [List.getElem?_map, hi]; rfl, by rw [List.length_map, hrow, List.length_map, List.length_range], fun d hd => ?_⟩
  have g := posB c.e o1 hd
  obtain ⟨j, ej⟩ : ∃ j, ((rowsB (stp1 M) m B).getD i []).getD d 0 = j := ⟨_, rfl⟩
  rw [ej] at g
  have hjB : j < B.length := by
    have := (List.getElem?_eq_some_iff.mp g).1
    rw [ordB_len] at this
    exact this
  obtain ⟨q, hq⟩ : ∃ q, B[j]? = some q := ⟨_, List.getElem?_eq_getElem hjB⟩
  obtain ⟨w2, e2⟩ := c.word j q hq
  have o2 := (ordB_at c.e hq).1
  rw [g, e2] at o2
  have es : stepM M (leadM M M.start p.2) (97 + d) = leadM M M.start q.2 := Option.some.inj o2
  obtain ⟨i2, _, hr2, hl2⟩ := c.get j hjB
  obtain ⟨q2, hq2, hu2, _⟩ := c.pos hr2
  refine ⟨lab.getD j 0, q2.2, ?_, hu2, ?_⟩
  · rw [List.getElem?_map]
    have : ((rowsB (stp1 M) m B).getD i [])[d]? = some j := by
      have hl' : d < ((rowsB (stp1 M) m B).getD i []).length := by rw [hrow, List.length_map, List.length_range]; exact hd
      rw [List.getElem?_eq_getElem hl', ← ej, List.getD_eq_getElem?_getD (l := (rowsB (stp1 M) m B).getD i []), List.getElem?_eq_getElem hl']
      rfl
    rw [this]
    rfl
  · refine ((c.kin i2 j q2 q hq2 hq).mp hl2).trans ?_
    rw [res_iff c.ok w2 (isW_snoc w1 hd), leadM_snoc, es]
    exact EqvR.refl _
theorem Cls.good (c : Cls M n m B lab) {k : Nat} : k ∈ (RM M m B lab).good ↔ ∃ u, (repW B lab)[k]? = some u ∧ accM M u = true := by
  have mk : ∀ {i p}, B[i]? = some p → (B.map fun p => gd1 M p.1).getD i false = accM M p.2 := fun {i p} hp => by
    rw [List.getD_eq_getElem?_getD, List.getElem?_map, hp]
    show gd1 M p.1 = _
    rw [(c.word i p hp).2]
    rfl
  show k ∈ goodF _ _ ↔ _
  unfold goodF
  rw [List.mem_filter, List.mem_range]
  constructor
  · rintro ⟨h1, h2⟩
    obtain ⟨i, hi⟩ : ∃ i, (repsF lab B.length)[k]? = some i := ⟨_, List.getElem?_eq_getElem h1⟩
    obtain ⟨p, hp, hu, _⟩ := c.pos hi
    rw [show (repsF lab B.length).getD k 0 = i by rw [List.getD_eq_getElem?_getD, hi]; rfl, mk hp] at h2
    exact ⟨p.2, hu, h2⟩
  · rintro ⟨u, hu, ha⟩
    have hk := (List.getElem?_eq_some_iff.mp hu).1
    rw [repW_len] at hk
    obtain ⟨i, hi⟩ : ∃ i, (repsF lab B.length)[k]? = some i := ⟨_, List.getElem?_eq_getElem hk⟩
    obtain ⟨p, hp, hu2, _⟩ := c.pos hi
    rw [hu] at hu2
    obtain rfl := Option.some.inj hu2
    refine ⟨hk, ?_⟩
    rw [show (repsF lab B.length).getD k 0 = i by rw [List.getD_eq_getElem?_getD, hi]; rfl, mk hp]
    exact ha
theorem Cls.zero (c : Cls M n m B lab) : ∃ u, (repW B lab)[0]? = some u ∧ ResEq M m u [] := by
  obtain ⟨k, u, hk, _, r, hv⟩ := c.rep (w := []) fun d hd => nomatch hd
  have hkl := (List.getElem?_eq_some_iff.mp hk).1
  rw [repW_len] at hkl
  obtain ⟨i, hi⟩ : ∃ i, (repsF lab B.length)[0]? = some i := ⟨_, List.getElem?_eq_getElem (by omega)⟩
  obtain ⟨p, hp, hu0, _⟩ := c.pos hi
  rcases Nat.eq_zero_or_pos k with rfl | hpos
  · exact ⟨u, hk, r⟩
  · exfalso
    have := c.sorted
    obtain ⟨b1, e1⟩ := List.getElem?_eq_some_iff.mp hu0
    obtain ⟨b2, e2⟩ := List.getElem?_eq_some_iff.mp hk
    have := List.pairwise_iff_getElem.mp this 0 k b1 b2 hpos
    rw [e1, e2] at this
    have hz : valW [] = 0 := rfl
    omega
/-- it accepts the same words -/
theorem Cls.lead (c : Cls M n m B lab) : ∀ w, isW m w → ∃ u, (repW B lab)[leadM (RM M m B lab) 0 w]? = some u ∧ ResEq M m u w := fun w => by
  rw [← List.reverse_reverse w]
  induction w.reverse with
  | nil => exact fun _ => c.zero
  | cons d w ih =>
    rw [List.reverse_cons]
    intro hw
    obtain ⟨u, hu, hr⟩ := ih fun x hx => hw x (List.mem_append_left _ hx)
    have hd := hw d (List.mem_append_right _ List.mem_cons_self)
    obtain ⟨row, h1, _, h3⟩ := c.row hu
    obtain ⟨x, v, hx, hv, hr2⟩ := h3 (d - 97) (by omega)
    rw [show 97 + (d - 97) = d by omega] at hr2
    have e : leadM (RM M m B lab) 0 (w.reverse ++ [d]) = x := by
      rw [leadM_snoc]
      unfold stepM
      rw [List.getD_eq_getElem?_getD (l := (RM M m B lab).steps), h1]
      show row.getD (d - 97) 0 = x
      rw [List.getD_eq_getElem?_getD, hx]
      rfl
    rw [e]
    refine ⟨v, hv, hr2.trans fun z hz => ?_⟩
    have := hr (d :: z) fun y hy => (List.mem_cons.mp hy).elim (fun e => by rw [e]; exact hd) (hz y)
    rw [List.append_assoc, List.append_assoc]
    exact this
theorem Cls.lang (c : Cls M n m B lab) {w : List Nat} (hw : isW m w) : accM (RM M m B lab) w = accM M w := by
  obtain ⟨u, hu, hr⟩ := c.lead w hw
  have h0 := hr [] fun d hd => nomatch hd
  rw [List.append_nil, List.append_nil] at h0
  rw [← h0]
  show decide (leadM (RM M m B lab) 0 w ∈ (RM M m B lab).good) = _
  cases ha : accM M u with
  | true => exact decide_eq_true (c.good.mpr ⟨u, hu, ha⟩)
  | false =>
    refine decide_eq_false fun z => ?_
    obtain ⟨u', hu', ha'⟩ := c.good.mp z
    rw [hu] at hu'
    rw [← Option.some.inj hu', ha] at ha'
    exact nomatch ha'
end
theorem goodF_asc (rp : List Nat) (marks : List Bool) : (goodF rp marks).Pairwise (· < ·) := List.pairwise_lt_range.sublist List.filter_sublist
theorem asc_set : ∀ {a b : List Nat}, a.Pairwise (· < ·) → b.Pairwise (· < ·) → (∀ x, x ∈ a ↔ x ∈ b) → a = b
  | [], [], _, _, _ => rfl
  | [], y :: b, _, _, h => absurd ((h y).mpr List.mem_cons_self) (fun z => nomatch z)
  | x :: a, [], _, _, h => absurd ((h x).mp List.mem_cons_self) (fun z => nomatch z)
  | x :: a, y :: b, ha, hb, h => by
    obtain ⟨a1, a2⟩ := List.pairwise_cons.mp ha
    obtain ⟨b1, b2⟩ := List.pairwise_cons.mp hb
    have exy : x = y := by
      rcases List.mem_cons.mp ((h x).mp List.mem_cons_self) with e | e
      · exact e
      · rcases List.mem_cons.mp ((h y).mpr List.mem_cons_self) with e2 | e2
        · exact e2.symm
        · have := b1 x e
          have := a1 y e2
          omega
    subst exy
    rw [asc_set a2 b2 fun z => ?_]
    constructor
    · intro hz
      rcases List.mem_cons.mp ((h z).mp (List.mem_cons_of_mem _ hz)) with e | e
      · have := a1 z hz
        omega
      · exact e
    · intro hz
      rcases List.mem_cons.mp ((h z).mpr (List.mem_cons_of_mem _ hz)) with e | e
      · have := b1 z hz
        omega
      · exact e
/-- one language, one machine -/
theorem rm_uniq {M M' : Mac} {n n' m : Nat} {B B' : Wm} {lab lab' : List Nat} (m4 : m ≤ 4) (c : Cls M n m B lab) (c' : Cls M' n' m B' lab') (hL : ∀ w, isW m w → accM M w = accM M' w) : RM M m B lab = RM M' m B' lab' := by
  have res : ∀ {u v}, isW m u → isW m v → (ResEq M m u v ↔ ResEq M' m u v) := fun {u v} hu hv => by
    constructor
    · intro h z hz
      rw [← hL _ (hu.app hz), ← hL _ (hv.app hz)]
      exact h z hz
    · intro h z hz
      rw [hL _ (hu.app hz), hL _ (hv.app hz)]
      exact h z hz
  have ew : repW B lab = repW B' lab' := asc_uniq c.sorted c'.sorted fun w => by
    rw [c.min m4, c'.min m4]
    exact ⟨fun ⟨h1, h2⟩ => ⟨h1, fun w' hw' r => h2 w' hw' ((res h1 hw').mpr r)⟩, fun ⟨h1, h2⟩ => ⟨h1, fun w' hw' r => h2 w' hw' ((res h1 hw').mp r)⟩⟩
  have wk : ∀ {k u}, (repW B lab)[k]? = some u → isW m u := fun {k u} h => ((c.min m4 u).mp (List.mem_of_getElem? h)).1
  have lr : (repsF lab B.length).length = (repsF lab' B'.length).length := by rw [← repW_len, ← repW_len, ew]
  have es : (RM M m B lab).steps = (RM M' m B' lab').steps := by
    refine List.ext_getElem? fun k => ?_
    rcases Nat.lt_or_ge k (repW B lab).length with hk | hk
    · obtain ⟨u, hu⟩ : ∃ u, (repW B lab)[k]? = some u := ⟨_, List.getElem?_eq_getElem hk⟩
      have hu' := hu
      rw [ew] at hu'
      obtain ⟨r1, a1, a2, a3⟩ := c.row hu
      obtain ⟨r2, b1, b2, b3⟩ := c'.row hu'
      rw [a1, b1]
      congr 1
      refine List.ext_getElem? fun d => ?_
      rcases Nat.lt_or_ge d m with hd | hd
      · obtain ⟨x, v, hx, hv, hr⟩ := a3 d hd
        obtain ⟨y, v', hy, hv', hr'⟩ := b3 d hd
        rw [← ew] at hv'
        rw [hx, hy]
        have := (res (wk hv') (isW_snoc (wk hu) hd)).mpr hr'
        rw [c.inj hv hv' (hr.trans this.symm)]
      · rw [List.getElem?_eq_none (by omega), List.getElem?_eq_none (by omega)]
    · have h1 : (RM M m B lab).steps.length ≤ k := by
        rw [repW_len] at hk
        unfold RM
        rw [List.length_map]
        exact hk
      have h2 : (RM M' m B' lab').steps.length ≤ k := by
        rw [repW_len, lr] at hk
        unfold RM
        rw [List.length_map]
        exact hk
      rw [List.getElem?_eq_none h1, List.getElem?_eq_none h2]
  have eg : (RM M m B lab).good = (RM M' m B' lab').good := asc_set (goodF_asc _ _) (goodF_asc _ _) fun k => by
    rw [c.good, c'.good, ← ew]
    exact ⟨fun ⟨u, h1, h2⟩ => ⟨u, h1, by rw [← hL u (wk h1)]; exact h2⟩, fun ⟨u, h1, h2⟩ => ⟨u, h1, by rw [hL u (wk h1)]; exact h2⟩⟩
  have e3 : ∀ {X Y : Mac}, X.steps = Y.steps → X.start = Y.start → X.good = Y.good → X = Y := fun {X Y} h1 h2 h3 => by
    cases X
    cases Y
    cases h1
    cases h2
    cases h3
    rfl
  exact e3 es rfl eg
section
variable {M M' : Mac} {n n' m i j : Nat}
theorem lma_rm : LMa M m i = RM M m (bfs (stp1 M) m [M.start] i) (labS (rowsB (stp1 M) m (bfs (stp1 M) m [M.start] i)) ((bfs (stp1 M) m [M.start] i).map fun p => gd1 M p.1) m) := by
  unfold LMa LMm RM
  rw [rowsB_len]
theorem lma_uniq (ok : MacOk M n m) (ok' : MacOk M' n' m) (m4 : m ≤ 4) (hi : (bfs (stp1 M) m [M.start] i).length ≤ i) (hj : (bfs (stp1 M') m [M'.start] j).length ≤ j) (hL : ∀ w, isW m w → accM M w = accM M' w) : LMa M m i = LMa M' m j := by
  rw [lma_rm, lma_rm]
  exact rm_uniq m4 (cls_of ok m4 hi) (cls_of ok' m4 hj) hL
theorem lma_lang (ok : MacOk M n m) (m4 : m ≤ 4) (hi : (bfs (stp1 M) m [M.start] i).length ≤ i) {w : List Nat} (hw : isW m w) : accM (LMa M m i) w = accM M w := by
  rw [lma_rm]
  exact (cls_of ok m4 hi).lang hw
theorem lma_ok (ok : MacOk M n m) (n1 : 1 ≤ n) (hi : (bfs (stp1 M) m [M.start] i).length ≤ i) : ∃ c, 1 ≤ c ∧ c ≤ n ∧ MacOk (LMa M m i) c m := by
  have sys := sysB (gd := gd1 M) hi (stp1_tot M)
  have b1 := bfs_one (stp := stp1 M) (k := m) (o := [M.start]) i
  have okm := lmm_ok sys b1
  have h1 : ncl (rowsB (stp1 M) m (bfs (stp1 M) m [M.start] i)) ((bfs (stp1 M) m [M.start] i).map fun p => gd1 M p.1) m ≤ _ := ncl_le
  rw [rowsB_len] at h1
  have h3 := bfs_len (stp := stp1 M) (k := m) (o := [M.start]) (sing_mem.mpr ⟨_, ok.start, rfl⟩) (sing_cl ok) i
  rw [sing_len] at h3
  refine ⟨_, ?_, by omega, okm⟩
  have := okm.start
  have e : (LMm (rowsB (stp1 M) m (bfs (stp1 M) m [M.start] i)) ((bfs (stp1 M) m [M.start] i).map fun p => gd1 M p.1) m).start = 0 := rfl
  omega
/-- the least machine of the least machine -/
theorem lma_idem (ok : MacOk M n m) (m4 : m ≤ 4) (n1 : 1 ≤ n) (hi : (bfs (stp1 M) m [M.start] i).length ≤ i) (hj : (bfs (stp1 (LMa M m i)) m [(LMa M m i).start] j).length ≤ j) : LMa (LMa M m i) m j = LMa M m i := by
  obtain ⟨c, _, _, okc⟩ := lma_ok ok n1 hi
  exact lma_uniq okc ok m4 hj hi fun w hw => lma_lang ok m4 hi hw
end
end G
set_option Elab.async false
set_option linter.all false
set_option maxRecDepth 100000
set_option maxHeartbeats 4000000
namespace G
open PySem PySem.Spec PyProof.Rows L2
/-! ### the search, its places named anew -/
section
variable {stp stp' : Stp} {k : Nat} {o : List Nat} {L : List (List Nat)} {f : List Nat → List Nat}
def reP (f : List Nat → List Nat) (p : List Nat × List Nat) : List Nat × List Nat := (f p.1, p.2)
theorem ext1_re (inj : ∀ r ∈ L, ∀ t ∈ L, f r = f t → r = t) (hcl : ∀ r ∈ L, ∀ c r', c < k → stp r c = some r' → r' ∈ L) (com : ∀ r ∈ L, ∀ c, c < k → stp' (f r) c = (stp r c).map f)
    {m : Wm} (hm : ∀ p ∈ m, p.1 ∈ L) {x : List Nat × List Nat} (hx : x.1 ∈ L) {c : Nat} (hc : c < k) : ext1 stp' (m.map (reP f)) (reP f x) c = (ext1 stp m x c).map (reP f) ∧ ∀ p ∈ ext1 stp m x c, p.1 ∈ L := by
  have e := com x.1 hx c hc
  unfold ext1
  rw [show (reP f x).1 = f x.1 from rfl, e]
  cases h : stp x.1 c with
  | none => exact ⟨rfl, hm⟩
  | some r =>
    have hr := hcl x.1 hx c r hc h
    show (if f r ∈ (m.map (reP f)).map (·.1) then m.map (reP f) else m.map (reP f) ++ [(f r, x.2 ++ [97 + c])]) = (if r ∈ m.map (·.1) then m else m ++ [(r, x.2 ++ [97 + c])]).map (reP f) ∧ _
    have mem : f r ∈ (m.map (reP f)).map (·.1) ↔ r ∈ m.map (·.1) := by
      rw [List.map_map, List.mem_map, List.mem_map]
      constructor
      · rintro ⟨p, hp, e⟩
        exact ⟨p, hp, inj _ (hm p hp) _ hr e⟩
      · rintro ⟨p, hp, e⟩
        exact ⟨p, hp, congrArg f e⟩
    by_cases h2 : r ∈ m.map (·.1)
    · rw [if_pos h2, if_pos (mem.mpr h2)]
      refine ⟨rfl, ?_⟩
      show ∀ p ∈ (if r ∈ m.map (·.1) then m else _), _
      rw [if_pos h2]
      exact hm
    · rw [if_neg h2, if_neg fun z => h2 (mem.mp z), List.map_append]
      refine ⟨rfl, ?_⟩
      show ∀ p ∈ (if r ∈ m.map (·.1) then m else m ++ [(r, x.2 ++ [97 + c])]), _
      rw [if_neg h2]
      intro p hp
      rcases List.mem_append.mp hp with hp | hp
      · exact hm p hp
      · rw [List.mem_singleton.mp hp]
        exact hr
theorem extT_re (inj : ∀ r ∈ L, ∀ t ∈ L, f r = f t → r = t) (hcl : ∀ r ∈ L, ∀ c r', c < k → stp r c = some r' → r' ∈ L) (com : ∀ r ∈ L, ∀ c, c < k → stp' (f r) c = (stp r c).map f)
    {m : Wm} (hm : ∀ p ∈ m, p.1 ∈ L) {x : List Nat × List Nat} (hx : x.1 ∈ L) : ∀ j, j ≤ k → extT stp' (reP f x) (m.map (reP f)) j = (extT stp x m j).map (reP f) ∧ ∀ p ∈ extT stp x m j, p.1 ∈ L
  | 0, _ => ⟨rfl, hm⟩
  | j + 1, hj => by
    obtain ⟨h1, h2⟩ := extT_re inj hcl com hm hx j (by omega)
    rw [extT_succ, extT_succ, h1]
    exact ext1_re inj hcl com h2 hx (by omega)
theorem bfs_re (inj : ∀ r ∈ L, ∀ t ∈ L, f r = f t → r = t) (hcl : ∀ r ∈ L, ∀ c r', c < k → stp r c = some r' → r' ∈ L) (com : ∀ r ∈ L, ∀ c, c < k → stp' (f r) c = (stp r c).map f) (ho : o ∈ L) :
    ∀ i, bfs stp' k (f o) i = (bfs stp k o i).map (reP f) ∧ ∀ p ∈ bfs stp k o i, p.1 ∈ L
  | 0 => ⟨rfl, fun p hp => by rw [List.mem_singleton.mp hp]; exact ho⟩
  | i + 1 => by
    obtain ⟨h1, h2⟩ := bfs_re inj hcl com ho i
    cases e : (bfs stp k o i)[i]? with
    | none =>
      have l := List.getElem?_eq_none_iff.mp e
      rw [bfs_stop l, bfs_stop (stp := stp') (by rw [h1, List.length_map]; exact l)]
      exact ⟨h1, h2⟩
    | some x =>
      have e' : (bfs stp' k (f o) i)[i]? = some (reP f x) := by rw [h1, List.getElem?_map, e]; rfl
      rw [bfs_succ e, bfs_succ e', h1]
      exact extT_re inj hcl com h2 (h2 x (List.mem_of_getElem? e)) k (Nat.le_refl _)
theorem ix_map {l : List (List Nat)} {x : List Nat} (inj : ∀ y ∈ l, f y = f x → y = x) : ix (l.map f) (f x) = ix l x := by
  induction l with
  | nil => rfl
  | cons y l ih =>
    show (if f y = f x then 0 else ix (l.map f) (f x) + 1) = if y = x then 0 else ix l x + 1
    by_cases h : y = x
    · rw [if_pos h, if_pos (congrArg f h)]
    · rw [if_neg h, if_neg fun z => h (inj y List.mem_cons_self z), ih fun z hz => inj z (List.mem_cons_of_mem _ hz)]
end
/-! ### the machine of the places found, and its least machine -/
section
variable {stp : Stp} {k : Nat} {o : List Nat} {gd : List Nat → Bool} {i j : Nat}
def PmB (stp : Stp) (k : Nat) (gd : List Nat → Bool) (B : Wm) : Mac := ⟨rowsB stp k B, 0, (List.range B.length).filter fun s => gd ((B.map (·.1)).getD s [])⟩
def ixR (B : Wm) (r : List Nat) : List Nat := [ix (B.map (·.1)) r]
theorem bfs_head : ∀ i, (bfs stp k o i)[0]? = some (o, [])
  | i => bfs_at (i := 0) (l := 0) rfl (Nat.zero_le i)
theorem pm_com (hi : (bfs stp k o i).length ≤ i) (tot : ∀ r c, ∃ r', stp r c = some r') : ∀ r ∈ (bfs stp k o i).map (·.1), ∀ c, c < k → stp1 (PmB stp k gd (bfs stp k o i)) (ixR (bfs stp k o i) r) c = (stp r c).map (ixR (bfs stp k o i)) := fun r hr c hc => by
  obtain ⟨r', e⟩ := tot r c
  rw [e]
  show some [stepM _ (ix ((bfs stp k o i).map (·.1)) r) (97 + c)] = some [ix ((bfs stp k o i).map (·.1)) r']
  congr 2
  have hg := ix_get hr
  rw [List.getElem?_map] at hg
  obtain ⟨p, hp, ep⟩ := Option.map_eq_some_iff.mp hg
  unfold stepM
  rw [Nat.add_sub_cancel_left]
  have h1 : (rowsB stp k (bfs stp k o i)).getD (ix ((bfs stp k o i).map (·.1)) r) [] = (List.range k).map fun c => ix ((bfs stp k o i).map (·.1)) ((stp p.1 c).getD []) := by
    unfold rowsB
    rw [List.getD_eq_getElem?_getD, List.getElem?_map, hp]
    rfl
  show ((rowsB stp k (bfs stp k o i)).getD (ix ((bfs stp k o i).map (·.1)) r) []).getD c 0 = _
  rw [h1, List.getD_eq_getElem?_getD, List.getElem?_map, List.getElem?_range hc]
  show ix _ ((stp p.1 c).getD []) = _
  rw [ep, e]
  rfl
theorem pm_lma (hi : (bfs stp k o i).length ≤ i) (tot : ∀ r c, ∃ r', stp r c = some r') (hj : (bfs (stp1 (PmB stp k gd (bfs stp k o i))) k [0] j).length ≤ j) :
    LMa (PmB stp k gd (bfs stp k o i)) k j = LMm (rowsB stp k (bfs stp k o i)) ((bfs stp k o i).map fun p => gd p.1) k := by
  have nd := bfs_nd (stp := stp) (k := k) (o := o) i
  have h0 := bfs_head (stp := stp) (k := k) (o := o) i
  have oL : o ∈ (bfs stp k o i).map (·.1) := List.mem_map.mpr ⟨_, List.mem_of_getElem? h0, rfl⟩
  have hcl : ∀ r ∈ (bfs stp k o i).map (·.1), ∀ c r', c < k → stp r c = some r' → r' ∈ (bfs stp k o i).map (·.1) := fun r hr c r' hc e => by
    obtain ⟨x, hx, rfl⟩ := List.mem_map.mp hr
    exact bfs_closed hi hx hc e
  have inj : ∀ r ∈ (bfs stp k o i).map (·.1), ∀ t ∈ (bfs stp k o i).map (·.1), ixR (bfs stp k o i) r = ixR (bfs stp k o i) t → r = t := fun r hr t ht e => by
    unfold ixR at e
    injection e with e
    exact ix_inj hr ht e
  have com := pm_com (gd := gd) hi tot
  have e0 : ixR (bfs stp k o i) o = [0] := by
    unfold ixR
    rw [ix_at nd (i := 0) (by rw [List.getElem?_map, h0]; rfl)]
  have hB := (bfs_re inj hcl com oL i).1
  rw [e0] at hB
  have hlen : (bfs (stp1 (PmB stp k gd (bfs stp k o i))) k [0] i).length ≤ i := by rw [hB, List.length_map]; exact hi
  have hs := bfs_same hj hlen
  unfold LMa
  rw [show (PmB stp k gd (bfs stp k o i)).start = 0 from rfl, hs, hB]
  congr 1
  · unfold rowsB
    rw [List.map_map]
    refine List.map_congr_left fun p hp => List.map_congr_left fun c hc => ?_
    have hc := List.mem_range.mp hc
    have hpL : p.1 ∈ (bfs stp k o i).map (·.1) := List.mem_map_of_mem hp
    obtain ⟨r', e⟩ := tot p.1 c
    have hr' := hcl p.1 hpL c r' hc e
    have e1 := com p.1 hpL c hc
    rw [e] at e1
    show ix (((bfs stp k o i).map (reP (ixR (bfs stp k o i)))).map (·.1)) ((stp1 (PmB stp k gd (bfs stp k o i)) (ixR (bfs stp k o i) p.1) c).getD []) = ix _ ((stp p.1 c).getD [])
    rw [e1, e]
    show ix (((bfs stp k o i).map (reP (ixR (bfs stp k o i)))).map (·.1)) (ixR (bfs stp k o i) r') = ix ((bfs stp k o i).map (·.1)) r'
    rw [List.map_map, show ((·.1) ∘ reP (ixR (bfs stp k o i))) = (ixR (bfs stp k o i)) ∘ (fun p : List Nat × List Nat => p.1) from rfl, ← List.map_map]
    exact ix_map fun y hy e => inj y hy r' hr' e
  · rw [List.map_map]
    refine List.map_congr_left fun p hp => ?_
    have hpL : p.1 ∈ (bfs stp k o i).map (·.1) := List.mem_map_of_mem hp
    show decide (ix ((bfs stp k o i).map (·.1)) p.1 ∈ (PmB stp k gd (bfs stp k o i)).good) = gd p.1
    have hlt := ix_lt hpL
    rw [List.length_map] at hlt
    have hg := ix_get hpL
    have e3 : ((bfs stp k o i).map (·.1)).getD (ix ((bfs stp k o i).map (·.1)) p.1) [] = p.1 := by
      rw [List.getD_eq_getElem?_getD, hg]
      rfl
    have : ix ((bfs stp k o i).map (·.1)) p.1 ∈ (PmB stp k gd (bfs stp k o i)).good ↔ gd p.1 = true := by
      show _ ∈ (List.range (bfs stp k o i).length).filter _ ↔ _
      rw [List.mem_filter, List.mem_range, e3]
      exact ⟨fun h => h.2, fun h => ⟨hlt, h⟩⟩
    cases hgd : gd p.1 with
    | true => exact decide_eq_true (this.mpr hgd)
    | false => exact decide_eq_false fun z => by rw [this.mp z] at hgd; cases hgd
theorem pm_ok (hi : (bfs stp k o i).length ≤ i) (tot : ∀ r c, ∃ r', stp r c = some r') : MacOk (PmB stp k gd (bfs stp k o i)) (bfs stp k o i).length k := by
  have h0 := bfs_head (stp := stp) (k := k) (o := o) i
  refine ⟨rowsB_len, fun r hr => ?_, (List.getElem?_eq_some_iff.mp h0).1, fun s hs => List.mem_range.mp (List.mem_filter.mp hs).1, List.Pairwise.filter _ List.pairwise_lt_range⟩
  obtain ⟨p, hp, rfl⟩ := List.mem_map.mp (show r ∈ rowsB stp k (bfs stp k o i) from hr)
  refine ⟨by rw [List.length_map, List.length_range], fun s hs => ?_⟩
  obtain ⟨c, hc, rfl⟩ := List.mem_map.mp hs
  obtain ⟨r', e⟩ := tot p.1 c
  have := ix_lt (bfs_closed hi hp (List.mem_range.mp hc) e)
  rw [List.length_map] at this
  rw [e]
  exact this
end
end G
set_option Elab.async false
set_option linter.all false
set_option maxRecDepth 100000
set_option maxHeartbeats 4000000
namespace G
open PySem PySem.Spec PyProof.Rows L2
/-! ### xs.remove(k), where k is in xs -/
def noWX : L2.WX := fun _ _ _ _ => False
theorem takes_no (X : Cx) : L2.Takes X noWX := fun u s' ⟨a, B, sI, pins, σ, H, cls, d, e, I, nb, up, sky, na, os, ag, w⟩ => False.elim w
def tRem (K : PySem.W.Frag) (to te : TE) : TE := L2.tRemX K noWX to te
theorem pe_rem {X : Cx} {K : PySem.W.Frag} {o e : Expr} {to te : TE} {apos cpos : Pos} (hK : X.K = K) (hc : X.calm = true) (ho : PE X o to) (he : PE X e te)
    (fl : attributeBase o "remove" X.env (eval o X.env) = eval o X.env ∧ ((backTo cpos (starEach [e] X.env)).all (fun x => !x.1) && (backToKw cpos (keywordEach [] X.env)).all (fun x => x.1.isSome)
      && decide (([e] : List Expr).length + ([] : List Keyword).length + (if ([] : List Keyword).isEmpty then 0 else 1) < 30)) = true ∧ (apos.endLine == cpos.line) = true ∧ starEach [e] X.env = (false, eval e X.env) :: starEach [] X.env ∧ (backTo cpos (starEach [] X.env)).any (·.1) = false) :
    PE X (.Call (.Attribute o "remove" apos) [e] [] cpos) (tRem K to te) := by
  subst hK
  exact L2.pe_remX hc (takes_no X) ho he fl.1 fl.2.1 fl.2.2.1 fl.2.2.2.1 fl.2.2.2.2
def rRem (x y : V) (H2 : Hp) (Q : VK) : Prop := ∃ (l : Addr) (ns : List Int) (k : Int), x = .ref l ∧ y = .int k ∧ H2 l = some (.lst (ns.map V.int)) ∧ (k ∈ ns → Q .non (upd H2 l (.lst ((ns.erase k).map V.int)))) ∧ (k ∉ ns → ∀ d, noWX (.type "ValueError") d [] H2)
theorem r_rem {K : PySem.W.Frag} {to te : TE} {σ : L2.St} {H : Hp} {Q : VK} (h : to σ H fun x H1 => tyV K "list" x H1 ∧ te σ H1 fun y H2 => rRem x y H2 Q) : tRem K to te σ H Q := h
theorem r_remL {H : Hp} {Q : VK} {l : Addr} {g : List Nat} {k : Nat} (e : H l = some (.lst (g.map iV))) (hk : k ∈ g) (q : Q .non (upd H l (.lst ((g.erase k).map iV)))) : rRem (.ref l) (.int (k : Int)) H Q := by
  refine ⟨l, g.map fun n : Nat => (n : Int), (k : Int), rfl, rfl, by rw [← ints_nat]; exact e, fun _ => ?_, fun h => absurd (List.mem_map_of_mem hk) h⟩
  have : ∀ g : List Nat, (g.map fun n : Nat => (n : Int)).erase (k : Int) = (g.erase k).map fun n : Nat => (n : Int) := by
    clear e hk q
    intro g
    induction g with
    | nil => rfl
    | cons a g ih =>
      rw [List.map_cons, List.erase_cons, List.erase_cons]
      by_cases h : a = k
      · rw [h]
        simp
      · have h1 : ¬ (((a : Nat) : Int) == (k : Int)) = true := by rw [beq_iff_eq]; omega
        have h2 : ¬ (a == k) = true := by rw [beq_iff_eq]; exact h
        rw [if_neg h1, if_neg h2, List.map_cons, ih]
  rw [this, ← ints_nat]
  exact q
end G
set_option Elab.async false
set_option linter.all false
set_option maxRecDepth 100000
set_option maxHeartbeats 4000000
namespace G
open PySem PySem.Spec PyProof.Rows L2
/-! ### try: .. with several clauses 'except C as n: ..' -/
abbrev Hd := Value × Nat × (Addr → Value → Option Addr → TS)
/-- what the clauses, one after another, wish of an exception of the body -/
def wAll (K : PySem.W.Frag) (Wout : WX) (D : Ends) : List Hd → WX
  | [] => Wout
  | h :: l => wAs K h.1 h.2.1 h.2.2 (wAll K Wout D l) D
inductive HdAs (X : Cx) : List ExceptHandler → List Hd → Prop
  | nil : HdAs X [] []
  | cons {x n : Str} {c : Value} {i : Nat} {ts : Addr → Value → Option Addr → TS} {b₀ : Stmt} {suite : List Stmt} {np pos' : Pos} {hds : List ExceptHandler} {l : List Hd} (hi : X.N[i]? = some n) (hln : X.env.kindOf n = some .local) (hc : Names X x c)
      (hsu : ∀ (a : Addr) (oe : Obj) (cls : Value) (d : Option Addr) (pn : List (Addr × Obj)), Zc cls d oe → (∃ vs, oe.data = .fields vs) → PSs (X.suite a ((a, oe) :: pn)) (b₀ :: suite) (ts a cls d)) (r : HdAs X hds l) :
      HdAs X (.ExceptHandler (some (.Name x np)) (some n) (b₀ :: suite) pos' :: hds) ((c, i, ts) :: l)
section
variable {X : Cx} {pins : List (Addr × Obj)} {Wout : WX} {D : Ends}
/-- an exception of the body, landed in this frame -/
structure Lnd (X : Cx) (pins : List (Addr × Obj)) (σ : L2.St) (H : Hp) (a : Addr) (cls : Value) (d : Option Addr) (B : Heap) (sI s : Shared) : Prop where
  ok : X.Ok
  hs : X.stack = X.env :: X.outer
  hf : X.env.frame = some X.env.locals
  J : Inv X pins σ H sI
  nb : ∀ b o, sI.heap.get? b = some o → b ∉ L2.frs X.stack → B.get? b = some o
  up : sI.heap.UpToSlots s.heap
  os : s.os = sI.os
  ag : AllBare s.gens
  na : H a = none
  fl : HandSPX.FlyingZ B (X.env :: X.outer) a (Zc cls d) s.heap
variable {σ : L2.St} {H : Hp} {a : Addr} {cls : Value} {d : Option Addr} {B : Heap} {sI s : Shared}
theorem Lnd.inv (h : Lnd X pins σ H a cls d B sI s) : Inv X pins σ H s := h.J.landed h.nb h.fl.1 h.up h.os h.ag
theorem Lnd.move (h : Lnd X pins σ H a cls d B sI s) {h' : Heap} (fl : HandSPX.FlyingZ B (X.env :: X.outer) a (Zc cls d) h') (u : s.heap.UpToSlots h') : Lnd X pins σ H a cls d B sI { s with heap := h' } :=
  ⟨h.ok, h.hs, h.hf, h.J, h.nb, h.up.trans u, h.os, h.ag, h.na, fl⟩
theorem Lnd.obj (h : Lnd X pins σ H a cls d B sI s) : ∃ oe vs, s.heap.get? a = some oe ∧ Zc cls d oe ∧ oe.data = .fields vs ∧ a ≠ X.env.locals ∧ a ∉ X.fs := by
  obtain ⟨oe, vs, e, z, dd⟩ := h.fl.there
  have out : a ∉ L2.frs (X.env :: X.outer) := fun hm => by
    obtain ⟨_, o', e', hn⟩ := h.fl.2.2.1.mem hm
    rw [e] at e'
    cases e'
    exact hn _ dd
  refine ⟨oe, vs, e, z, dd, fun q => out ?_, fun q => out ?_⟩
  · exact List.mem_filterMap.mpr ⟨X.env, List.mem_cons_self, by rw [h.hf, q]⟩
  · obtain ⟨x, hx, e2⟩ := List.mem_filterMap.mp q
    exact List.mem_filterMap.mpr ⟨x, List.mem_cons_of_mem _ hx, e2⟩
/-- no clause is left: it goes on -/
theorem Lnd.pass (h : Lnd X pins σ H a cls d B sI s) (tk : Takes X Wout) (w : Wout cls d σ H) : wpAny (model X.prog X.w) X.A (handleBy (.ref a) X.env []) (SP X pins D) X.xe s := by
  refine wpAny_handleBy_nil ?_
  obtain ⟨_, _, _, oe, vs, T, oT, ts', he, hz, hd, h1, _⟩ := id h.fl
  unfold PySem.passOn
  refine wpAny_bind (wpAny_field he hd h1 ?_)
  rw [if_neg (show ¬ ((Value.ref T == Value.none) = true) from by simp)]
  have up : wpAny (model X.prog X.w) X.A (setFlight (.ref a) X.env.frame) (fun _ s4 => wpAny (model X.prog X.w) X.A (throw (.ref a) : Sem Flow) (SP X pins D) X.xe s4) X.xe s := by
    rw [h.hf]
    refine HandSPX.setFlight_upZ h.fl fun h4 hh u => wpAny_throw (tk _ _ ?_)
    exact ⟨a, B, sI, pins, σ, H, cls, d, rfl, h.J, h.nb, h.up.trans u, .inr (.inr (by rw [h.hs]; exact hh)), h.na, h.os, h.ag, w⟩
  first
    | exact wpAny_bind (wpAny_pure (wpAny_bind up))
    | exact wpAny_bind up
/-- one clause, and what stands behind it -/
theorem Lnd.clause {x n : Str} {c : Value} {i : Nat} {ts : Addr → Value → Option Addr → TS} {b₀ : Stmt} {suite : List Stmt} {np pos' : Pos} {hds : List ExceptHandler} {W : WX} (h : Lnd X pins σ H a cls d B sI s)
    (hN : X.N.Nodup) (hi : X.N[i]? = some n) (hln : X.env.kindOf n = some .local) (hc : Names X x c)
    (hsu : ∀ (a : Addr) (oe : Obj) (cls : Value) (d : Option Addr) (pn : List (Addr × Obj)), Zc cls d oe → (∃ vs, oe.data = .fields vs) → PSs (X.suite a ((a, oe) :: pn)) (b₀ :: suite) (ts a cls d))
    (w : wAs X.K c i ts W D cls d σ H) (rest : W cls d σ H → wpAny (model X.prog X.w) X.A (handleBy (.ref a) X.env hds) (SP X pins D) X.xe s) :
    wpAny (model X.prog X.w) X.A (handleBy (.ref a) X.env (.ExceptHandler (some (.Name x np)) (some n) (b₀ :: suite) pos' :: hds)) (SP X pins D) X.xe s := by
  obtain ⟨b, hb, yes, no⟩ := w
  obtain ⟨oe, vs, he, hz, hd, nL, nF⟩ := h.obj
  have S := h.inv.suite he hd h.na nL nF
  have look := PySem.W.exm_one (M := model X.prog X.w) h.inv.kIn (show PySem.W.Looks (model X.prog X.w) s.heap (typeOf (.ref a)) cls from fun A Q E s' k q => wpAny_typeOf_ref (k _ _ he) (by rw [hz.1]; exact q)) hb
  have ask : ∀ {Q : Value → Shared → Prop} {E : Value → Shared → Prop}, Q c s → wpAny (model X.prog X.w) (X.A.mark (some (.ref a))) (eval (.Name x np) X.env) Q E s := fun {Q E} q => by
    obtain ⟨hg, hdb, hm | ⟨hm, hv, hnn⟩⟩ := hc
    · exact ld_glob (X := X.suite a ((a, oe) :: (X.pn ++ pins))) S hg hm q hdb
    · exact ld_blt (X := X.suite a ((a, oe) :: (X.pn ++ pins))) S hg hm hv q hnn hdb
  refine wpAny_handleBy_cons (codeAny_handlers_test ?_) (by intro q; cases q)
  refine ask (look.here ?_)
  cases b with
  | false => exact rest (no rfl)
  | true =>
    refine codeAny_handlers_suite_as (HandSPX.lands_againZ h.fl fun h4 fl4 up4 => ?_)
    have h' := h.move fl4 up4
    obtain ⟨oe', vs', he', hz', hd', nL', nF'⟩ := h'.obj
    refine store_ok (X := X.suite a ((a, oe') :: (X.pn ++ pins))) (v := .ref a) (h'.inv.suite he' hd' h.na nL' nF') hN hi (.inl hln) rfl (fun s5 S5 => ?_) (.inr hln)
    refine wpAny_mono ((hsu a oe' cls d (X.pn ++ pins) hz' ⟨_, hd'⟩).run [] s5 _ H _ S5 (yes rfl a h.na)) (fun f s6 r => ?_) (fun _ _ z => False.elim z)
    have gone : ∀ {σ6 : L2.St} {H6 : Hp} {Q : Shared → Prop}, Inv (X.suite a ((a, oe') :: (X.pn ++ pins))) [] σ6 H6 s6 → (∀ s7, Inv X pins (σ6.set i none) H6 s7 → Q s7) →
        wpAny (model X.prog X.w) X.A (do bindName X.env n .none; unbindBehindTheSuite X.env n pos') (fun _ s7 => Q s7) X.xe s6 := fun {σ6 H6 Q} S6 hq => gone_ok (S6.unsuite h.ok) hN hi hln hq
    cases f with
    | ret u =>
      obtain ⟨v6, σ6, H6, S6, r6, q6⟩ := r
      exact gone S6 fun s7 J7 => ⟨_, _, _, J7, r6, q6⟩
    | next =>
      obtain ⟨σ6, H6, S6, q6⟩ := r
      exact gone S6 fun s7 J7 => ⟨_, _, J7, q6⟩
    | brk =>
      obtain ⟨σ6, H6, S6, q6⟩ := r
      exact gone S6 fun s7 J7 => ⟨_, _, J7, q6⟩
    | cont =>
      obtain ⟨σ6, H6, S6, q6⟩ := r
      exact gone S6 fun s7 J7 => ⟨_, _, J7, q6⟩
theorem Lnd.all {hds : List ExceptHandler} {l : List Hd} (hk : HdAs X hds l) (hN : X.N.Nodup) (tk : Takes X Wout) (h : Lnd X pins σ H a cls d B sI s) (w : wAll X.K Wout D l cls d σ H) : wpAny (model X.prog X.w) X.A (handleBy (.ref a) X.env hds) (SP X pins D) X.xe s := by
  induction hk with
  | nil => exact h.pass tk w
  | cons hi hln hc hsu r ih => exact h.clause hN hi hln hc hsu w ih
theorem pass_flow {f : Flow} {s1 : Shared} {pn' : List (Addr × Obj)} {xe : Value → Shared → Prop} (ok : X.Ok) (h : SP (X.tr (X.pn ++ pins) xe) pn' D f s1) : SP X pins D f s1 := by
  cases f with
  | ret u =>
    obtain ⟨v, σ', H', J, r, q⟩ := h
    exact ⟨v, σ', H', J.ofTry ok, r, q⟩
  | next =>
    obtain ⟨σ', H', J, q⟩ := h
    exact ⟨σ', H', J.ofTry ok, q⟩
  | brk =>
    obtain ⟨σ', H', J, q⟩ := h
    exact ⟨σ', H', J.ofTry ok, q⟩
  | cont =>
    obtain ⟨σ', H', J, q⟩ := h
    exact ⟨σ', H', J.ofTry ok, q⟩
variable {body : List Stmt} {h₀ : ExceptHandler} {hds : List ExceptHandler} {l : List Hd} {pos : Pos} {tb : WX → TS}
def tTryAll (K : PySem.W.Frag) (l : List Hd) (tb : WX → TS) (Wout : WX) : TS := fun D σ H => tb (wAll K Wout D l) D σ H
theorem r_tryAll {K : PySem.W.Frag} (h : tb (wAll K Wout D l) D σ H) : tTryAll K l tb Wout D σ H := h
/-- THE RULE for try: body / except C as n: suite / except C2 as n2: suite2 .. -/
theorem ps_tryAll (hs : X.stack = X.env :: X.outer) (hf : X.env.frame = some X.env.locals) (hN : X.N.Nodup) (tk : Takes X Wout)
    (hb : ∀ (W : WX) (pn : List (Addr × Obj)) (xe : Value → Shared → Prop), Takes (X.tr pn xe) W → PassesOwn (model X.prog X.w) X.A X.env xe → PSs (X.tr pn xe) body (tb W))
    (hk : HdAs X (h₀ :: hds) l) : PS X (.Try body (h₀ :: hds) [] [] pos) (tTryAll X.K l tb Wout) := by
  refine ⟨fun pins s σ H D I h => ?_⟩
  have hfr : X.A.frames = some (X.env :: X.outer) := by rw [I.ok.frames, hs]
  refine wpAny_Try_except (wpAny_mono ((hb (wAll X.K Wout D l) (X.pn ++ pins) (fun e s₁ => wpAny (model X.prog X.w) X.A (noteFrame e X.env) (fun _ s₂ => wpAny (model X.prog X.w) X.A (setFlight e none) (fun _ s₃ =>
    wpAny (model X.prog X.w) X.A (handleBy e X.env (h₀ :: hds)) (SP X pins D) X.xe s₃) X.xe s₂) X.xe s₁) (fun u s' xx => ?_) PassesOwn.looking).run [] s σ H D (I.toTry _) h) (fun f s1 q => ?_) (fun e s1 q => q))
  · obtain ⟨a, B, sI, pins', σ', H', cls, d, rfl, J, nb, up, sky, na, os, ag, w⟩ := xx
    show wpAny (model X.prog X.w) X.A (noteFrame (.ref a) X.env) _ _ _
    refine Sky.land Zc.steady hfr hf (show Sky B (X.env :: X.outer) a (Zc cls d) X.env.locals s'.heap by rw [← hs]; exact sky) fun h3 fl3 up3 => ?_
    exact Lnd.all hk hN tk ⟨I.ok, hs, hf, J.ofTry I.ok, nb, up.trans up3, os, ag, na, fl3⟩ w
  · have q' := pass_flow I.ok q
    cases f with
    | next => exact wpAny_execs_nil q'
    | brk => exact q'
    | cont => exact q'
    | ret u => exact q'
end
end G
namespace L06
open PySem PySem.Spec PyProof.Rows L2 G
local macro_rules | `(tactic| walk_at "rd1") => `(tactic| first
  | (with_reducible refine r_seq ?_) | (with_reducible refine r_set ?_)
  | ((with_reducible refine' r_var ?rdh ?_); (case rdh => exact rfl))
  | (with_reducible refine r_c ?_) | (with_reducible refine r_op ?_) | (with_reducible refine r_un ?_) | (with_reducible refine r_cb ?_)
  | (with_reducible refine r_cons ?_) | (with_reducible refine r_nil ?_) | (with_reducible refine r_call ?_)
  | (with_reducible refine r_test ?_) | (with_reducible refine r_tb ?_) | (with_reducible refine r_bl ?_)
  | (with_reducible refine r_if ?_) | (with_reducible refine r_yes ?_) | (with_reducible refine r_ifx ?_) | (with_reducible refine r_and ?_) | (with_reducible refine r_or ?_) | (with_reducible refine r_not ?_)
  | (with_reducible refine r_andV ?_) | (with_reducible refine r_orV ?_) | (with_reducible refine r_notV ?_)
  | (with_reducible refine r_ret ?_) | (with_reducible refine r_retN ?_) | (with_reducible refine r_next ?_) | (with_reducible refine r_drop ?_) | (with_reducible refine r_asg ?_)
  | (with_reducible refine r_tup ?_) | (with_reducible refine r_lst ?_)
  | (with_reducible refine r_I0 ?_) | (with_reducible refine r_U ?_) | (with_reducible refine r_eqI ?_) | (with_reducible refine r_neI ?_) | (with_reducible refine r_eqS ?_) | (with_reducible refine r_neS ?_) | (with_reducible refine r_eqB ?_) | (with_reducible refine r_neB ?_)
  | (with_reducible refine r_int1 ?_) | (with_reducible refine r_isN ?_) | (with_reducible refine r_notN ?_)
  | (with_reducible refine iteT ?_) | (with_reducible refine iteF ?_)
  | (with_reducible refine r_sl ?_) | (with_reducible refine r_noPart ?_) | (with_reducible refine r_part ?_) | (with_reducible refine r_pint ?_)
  | ((with_reducible refine' r_isi (.ty _) ?rdt ?rdk ?_); (case rdt => first | exact .base (.int _) | exact .base (.str _) | exact .base (.bl _) | exact .base .non | exact tyx_sqL (by assumption) | exact tyx_sqT (by assumption)); (case rdk => first | exact kt_NoneType_list | exact kt_NoneType_tuple | exact kt_NoneType_bool | exact kt_NoneType_int | exact kt_NoneType_str | exact kt_bool_list | exact kt_bool_tuple | exact kt_bool_bool | exact kt_bool_int | exact kt_bool_str | exact kt_int_list | exact kt_int_tuple | exact kt_int_bool | exact kt_int_int | exact kt_int_str | exact kt_str_list | exact kt_str_tuple | exact kt_str_bool | exact kt_str_int | exact kt_str_str | exact kt_list_list | exact kt_list_tuple | exact kt_list_bool | exact kt_list_int | exact kt_list_str | exact kt_tuple_list | exact kt_tuple_tuple | exact kt_tuple_bool | exact kt_tuple_int | exact kt_tuple_str))
  | (with_reducible refine r_gn ?_) | (with_reducible refine r_gsub ?_) | (with_reducible refine r_chain ?_) | (with_reducible refine r_inSg ?_) | (with_reducible refine r_notInSg ?_) | (with_reducible refine r_bmS ?_) | ((with_reducible show tLc _ _ _ _ _ _ _ _); (first | show iStr _ _ _ _ | show iList _ _ _ _ _ | show iTup _ _ _ _ _ | show iRng1 _ _ _ _ | show iRng2 _ _ _ _)) | (with_reducible refine r_iStr ?_) | (with_reducible refine r_iList ?_) | (with_reducible refine r_iTup ?_) | (with_reducible refine r_str1 ?_) | (with_reducible refine r_ref1 ?_)
  | (with_reducible refine iteNT ?_) | (with_reducible refine iteNF ?_)
  | (with_reducible refine r_fdiv ⟨by decide, by decide⟩ ?_) | (with_reducible refine r_mod (by first | decide | assumption) ?_) | (with_reducible refine r_mul (.inr ⟨by decide, by decide⟩) ?_) | (with_reducible refine r_mul (.inl ⟨by decide, by decide⟩) ?_) | (with_reducible refine r_pow ⟨by decide, by decide, by decide⟩ ?_)
  | ((with_reducible show tFor _ _ _ _ _ _); (first | show iStr _ _ _ _ | show iList _ _ _ _ _ | show iTup _ _ _ _ _ | show iRng1 _ _ _ _ | show iRng2 _ _ _ _)) | (with_reducible refine r_rng1 ?_) | (with_reducible refine r_bmL ?_) | (with_reducible refine r_break ?_) | (with_reducible refine r_cont ?_))
local macro_rules | `(tactic| walk_at "rd") => `(tactic| repeat walk_at "rd1")
section
def topS (i : Nat) : Stmt := PySem.Challenge.pw_turnsandthrows_k06_complement_and_join.main.body.getD i (.Pass ⟨0, 0, 0, 0⟩)
abbrev s_letters_of : Stmt := topS 7
abbrev N_letters_of : List Str := ["machine"]
theorem sc_letters_of : FnScope N_letters_of ["machine"] (defScope s_letters_of) := ⟨rfl, rfl, rfl, by decide +kernel, rfl, by decide +kernel, by decide +kernel⟩
abbrev s_lead : Stmt := topS 8
abbrev N_lead : List Str := ["machine", "state", "word", "steps", "letter"]
theorem sc_lead : FnScope N_lead ["machine", "state", "word"] (defScope s_lead) := ⟨rfl, rfl, rfl, by decide +kernel, rfl, by decide +kernel, by decide +kernel⟩
abbrev s_reached : Stmt := topS 10
abbrev N_reached : List Str := ["origin", "letters", "step", "words", "queue", "at", "here", "letter", "there"]
theorem sc_reached : FnScope N_reached ["origin", "letters", "step"] (defScope s_reached) := ⟨rfl, rfl, rfl, by decide +kernel, rfl, by decide +kernel, by decide +kernel⟩
abbrev s_least : Stmt := topS 12
abbrev N_least : List Str := ["machine"]
theorem sc_least : FnScope N_least ["machine"] (defScope s_least) := ⟨rfl, rfl, rfl, by decide +kernel, rfl, by decide +kernel, by decide +kernel⟩
abbrev lam_least_0 : Expr := (eArg 2 (sE (sIn 0 s_least)))
theorem nsc_least_0 : NdefX.NScope ["state", "letter", "machine"] ["state", "letter"] ["machine"] (eLamScope lam_least_0) := NdefX.nscope_by (by decide +kernel)
abbrev lam_least_1 : Expr := (eArg 3 (sE (sIn 0 s_least)))
theorem nsc_least_1 : NdefX.NScope ["state", "machine"] ["state"] ["machine"] (eLamScope lam_least_1) := NdefX.nscope_by (by decide +kernel)
abbrev s_complement : Stmt := topS 13
abbrev N_complement : List Str := ["machine", "steps", "start", "good", "state"]
theorem sc_complement : FnScope N_complement ["machine"] (defScope s_complement) := ⟨rfl, rfl, rfl, by decide +kernel, rfl, by decide +kernel, by decide +kernel⟩
abbrev s_join : Stmt := topS 14
abbrev N_join : List Str := ["first", "second", "way"]
theorem sc_join : FnScope N_join ["first", "second", "way"] (defScope s_join) := ⟨rfl, rfl, rfl, by decide +kernel, rfl, by decide +kernel, by decide +kernel⟩
abbrev lam_join_0 : Expr := (eArg 3 (sE (sIn 0 s_join)))
theorem nsc_join_0 : NdefX.NScope ["pair", "way", "first", "second"] ["pair"] ["way", "first", "second"] (eLamScope lam_join_0) := NdefX.nscope_by (by decide +kernel)
abbrev s_joined : Stmt := topS 15
abbrev N_joined : List Str := ["one", "other", "way"]
theorem sc_joined : FnScope N_joined ["one", "other", "way"] (defScope s_joined) := ⟨rfl, rfl, rfl, by decide +kernel, rfl, by decide +kernel, by decide +kernel⟩
abbrev s_common_letters : Stmt := topS 16
abbrev N_common_letters : List Str := ["first", "second", "letters"]
theorem sc_common_letters : FnScope N_common_letters ["first", "second"] (defScope s_common_letters) := ⟨rfl, rfl, rfl, by decide +kernel, rfl, by decide +kernel, by decide +kernel⟩
abbrev s_pair_step : Stmt := topS 17
abbrev N_pair_step : List Str := ["first", "second"]
theorem sc_pair_step : FnScope N_pair_step ["first", "second"] (defScope s_pair_step) := ⟨rfl, rfl, rfl, by decide +kernel, rfl, by decide +kernel, by decide +kernel⟩
abbrev lam_pair_step_0 : Expr := (sE (sIn 0 s_pair_step))
theorem nsc_pair_step_0 : NdefX.NScope ["pair", "letter", "first", "second"] ["pair", "letter"] ["first", "second"] (eLamScope lam_pair_step_0) := NdefX.nscope_by (by decide +kernel)
abbrev s_least_from : Stmt := topS 18
abbrev N_least_from : List Str := ["origin", "letters", "step", "is_good", "most", "places", "numbers", "rows", "blocks", "steps", "good", "at", "block", "place", "letter", "there"]
theorem sc_least_from : FnScope N_least_from ["origin", "letters", "step", "is_good", "most"] (defScope s_least_from) := ⟨rfl, rfl, rfl, by decide +kernel, rfl, by decide +kernel, by decide +kernel⟩
abbrev s_alike : Stmt := topS 19
abbrev N_alike : List Str := ["rows", "marks", "most", "blocks", "count", "numbers", "finer", "at", "row", "key", "there"]
theorem sc_alike : FnScope N_alike ["rows", "marks", "most"] (defScope s_alike) := ⟨rfl, rfl, rfl, by decide +kernel, rfl, by decide +kernel, by decide +kernel⟩
abbrev s_l_cell : Stmt := topS 21
abbrev N_l_cell : List Str := ["script", "k"]
theorem sc_l_cell : FnScope N_l_cell ["script", "k"] (defScope s_l_cell) := ⟨rfl, rfl, rfl, by decide +kernel, rfl, by decide +kernel, by decide +kernel⟩
abbrev s_l_numbers : Stmt := topS 22
abbrev N_l_numbers : List Str := ["cell", "count", "numbers", "k", "mixed"]
theorem sc_l_numbers : FnScope N_l_numbers ["cell", "count"] (defScope s_l_numbers) := ⟨rfl, rfl, rfl, by decide +kernel, rfl, by decide +kernel, by decide +kernel⟩
abbrev s_l_same : Stmt := topS 23
abbrev N_l_same : List Str := ["actual", "due", "k"]
theorem sc_l_same : FnScope N_l_same ["actual", "due"] (defScope s_l_same) := ⟨rfl, rfl, rfl, by decide +kernel, rfl, by decide +kernel, by decide +kernel⟩
abbrev s_l_action : Stmt := topS 24
abbrev N_l_action : List Str := ["numbers", "count", "sort", "action", "k", "j", "held"]
theorem sc_l_action : FnScope N_l_action ["numbers", "count"] (defScope s_l_action) := ⟨rfl, rfl, rfl, by decide +kernel, rfl, by decide +kernel, by decide +kernel⟩
abbrev s_l_machine : Stmt := topS 25
abbrev N_l_machine : List Str := ["cell", "count", "letters", "numbers", "actions", "steps", "good", "k", "state", "action"]
theorem sc_l_machine : FnScope N_l_machine ["cell", "count", "letters"] (defScope s_l_machine) := ⟨rfl, rfl, rfl, by decide +kernel, rfl, by decide +kernel, by decide +kernel⟩
abbrev s_l_reached : Stmt := topS 28
abbrev N_l_reached : List Str := ["machine", "order", "met", "place", "turn", "target"]
theorem sc_l_reached : FnScope N_l_reached ["machine"] (defScope s_l_reached) := ⟨rfl, rfl, rfl, by decide +kernel, rfl, by decide +kernel, by decide +kernel⟩
abbrev s_l_marks : Stmt := topS 29
abbrev N_l_marks : List Str := ["machine", "count", "marks", "turn", "firsts", "fresh", "state", "wide", "target"]
theorem sc_l_marks : FnScope N_l_marks ["machine"] (defScope s_l_marks) := ⟨rfl, rfl, rfl, by decide +kernel, rfl, by decide +kernel, by decide +kernel⟩
abbrev s_l_least : Stmt := topS 30
abbrev N_l_least : List Str := ["machine", "marks", "found", "numbers", "state", "steps", "target", "k"]
theorem sc_l_least : FnScope N_l_least ["machine"] (defScope s_l_least) := ⟨rfl, rfl, rfl, by decide +kernel, rfl, by decide +kernel, by decide +kernel⟩
abbrev s_l_joined : Stmt := topS 31
abbrev N_l_joined : List Str := ["first", "second", "way", "pairs", "places", "steps", "place", "turn", "entry", "letter", "pair", "wanted", "goods", "k"]
theorem sc_l_joined : FnScope N_l_joined ["first", "second", "way"] (defScope s_l_joined) := ⟨rfl, rfl, rfl, by decide +kernel, rfl, by decide +kernel, by decide +kernel⟩
abbrev s_l_told : Stmt := topS 32
abbrev N_l_told : List Str := ["first", "second", "way", "e"]
theorem sc_l_told : FnScope N_l_told ["first", "second", "way"] (defScope s_l_told) := ⟨rfl, rfl, rfl, by decide +kernel, rfl, by decide +kernel, by decide +kernel⟩
abbrev s_l_ring : Stmt := topS 33
abbrev N_l_ring : List Str := ["count", "good", "state"]
theorem sc_l_ring : FnScope N_l_ring ["count", "good"] (defScope s_l_ring) := ⟨rfl, rfl, rfl, by decide +kernel, rfl, by decide +kernel, by decide +kernel⟩
abbrev s_law : Stmt := topS 34
abbrev N_law : List Str := ["script", "numbers", "letters", "first", "second", "goods", "way", "due", "state"]
theorem sc_law : FnScope N_law ["script"] (defScope s_law) := ⟨rfl, rfl, rfl, by decide +kernel, rfl, by decide +kernel, by decide +kernel⟩
structure Ad where
  f_letters_of : Addr
  d_letters_of : FuncData
  f_lead : Addr
  d_lead : FuncData
  f_reached : Addr
  d_reached : FuncData
  f_least : Addr
  d_least : FuncData
  c_least : Addr
  P_least : Addr
  f_complement : Addr
  d_complement : FuncData
  f_join : Addr
  d_join : FuncData
  c_join : Addr
  P_join : Addr
  f_joined : Addr
  d_joined : FuncData
  f_common_letters : Addr
  d_common_letters : FuncData
  f_pair_step : Addr
  d_pair_step : FuncData
  c_pair_step : Addr
  P_pair_step : Addr
  f_least_from : Addr
  d_least_from : FuncData
  f_alike : Addr
  d_alike : FuncData
  f_l_cell : Addr
  d_l_cell : FuncData
  f_l_numbers : Addr
  d_l_numbers : FuncData
  f_l_same : Addr
  d_l_same : FuncData
  f_l_action : Addr
  d_l_action : FuncData
  f_l_machine : Addr
  d_l_machine : FuncData
  f_l_reached : Addr
  d_l_reached : FuncData
  f_l_marks : Addr
  d_l_marks : FuncData
  f_l_least : Addr
  d_l_least : FuncData
  f_l_joined : Addr
  d_l_joined : FuncData
  f_l_told : Addr
  d_l_told : FuncData
  f_l_ring : Addr
  d_l_ring : FuncData
  f_law : Addr
  d_law : FuncData
  k_MachineError : Addr
  k_LettersDiffer : Addr
  k_TooManyStates : Addr
structure Txt (K : PySem.W.Frag) (mg : Str → Option Value) (a : Ad) : Prop where
  F_letters_of : Fun K "letters_of" "letters_of" s_letters_of a.f_letters_of a.d_letters_of
  b_letters_of : Binds K a.d_letters_of ["machine"] []
  g_letters_of : mg "letters_of" = some (.ref a.f_letters_of)
  F_lead : Fun K "lead" "lead" s_lead a.f_lead a.d_lead
  b_lead : Binds K a.d_lead ["machine", "state", "word"] []
  g_lead : mg "lead" = some (.ref a.f_lead)
  F_reached : Fun K "reached" "reached" s_reached a.f_reached a.d_reached
  b_reached : Binds K a.d_reached ["origin", "letters", "step"] []
  g_reached : mg "reached" = some (.ref a.f_reached)
  F_least : FunC K "least" "least" s_least a.f_least a.d_least a.c_least
  b_least : Binds K a.d_least ["machine"] []
  g_least : mg "least" = some (.ref a.f_least)
  F_complement : Fun K "complement" "complement" s_complement a.f_complement a.d_complement
  b_complement : Binds K a.d_complement ["machine"] []
  g_complement : mg "complement" = some (.ref a.f_complement)
  F_join : FunC K "join" "join" s_join a.f_join a.d_join a.c_join
  b_join : Binds K a.d_join ["first", "second", "way"] []
  g_join : mg "join" = some (.ref a.f_join)
  F_joined : Fun K "joined" "joined" s_joined a.f_joined a.d_joined
  b_joined : Binds K a.d_joined ["one", "other", "way"] []
  g_joined : mg "joined" = some (.ref a.f_joined)
  F_common_letters : Fun K "common_letters" "common_letters" s_common_letters a.f_common_letters a.d_common_letters
  b_common_letters : Binds K a.d_common_letters ["first", "second"] []
  g_common_letters : mg "common_letters" = some (.ref a.f_common_letters)
  F_pair_step : FunC K "pair_step" "pair_step" s_pair_step a.f_pair_step a.d_pair_step a.c_pair_step
  b_pair_step : Binds K a.d_pair_step ["first", "second"] []
  g_pair_step : mg "pair_step" = some (.ref a.f_pair_step)
  F_least_from : Fun K "least_from" "least_from" s_least_from a.f_least_from a.d_least_from
  b_least_from : Binds K a.d_least_from ["origin", "letters", "step", "is_good", "most"] []
  g_least_from : mg "least_from" = some (.ref a.f_least_from)
  F_alike : Fun K "alike" "alike" s_alike a.f_alike a.d_alike
  b_alike : Binds K a.d_alike ["rows", "marks", "most"] []
  g_alike : mg "alike" = some (.ref a.f_alike)
  F_l_cell : Fun K "_law_cell" "_law_cell" s_l_cell a.f_l_cell a.d_l_cell
  b_l_cell : Binds K a.d_l_cell ["script", "k"] []
  g_l_cell : mg "_law_cell" = some (.ref a.f_l_cell)
  F_l_numbers : Fun K "_law_numbers" "_law_numbers" s_l_numbers a.f_l_numbers a.d_l_numbers
  b_l_numbers : Binds K a.d_l_numbers ["cell", "count"] []
  g_l_numbers : mg "_law_numbers" = some (.ref a.f_l_numbers)
  F_l_same : Fun K "_law_same" "_law_same" s_l_same a.f_l_same a.d_l_same
  b_l_same : Binds K a.d_l_same ["actual", "due"] []
  g_l_same : mg "_law_same" = some (.ref a.f_l_same)
  F_l_action : Fun K "_law_action" "_law_action" s_l_action a.f_l_action a.d_l_action
  b_l_action : Binds K a.d_l_action ["numbers", "count"] []
  g_l_action : mg "_law_action" = some (.ref a.f_l_action)
  F_l_machine : Fun K "_law_machine" "_law_machine" s_l_machine a.f_l_machine a.d_l_machine
  b_l_machine : Binds K a.d_l_machine ["cell", "count", "letters"] []
  g_l_machine : mg "_law_machine" = some (.ref a.f_l_machine)
  F_l_reached : Fun K "_law_reached" "_law_reached" s_l_reached a.f_l_reached a.d_l_reached
  b_l_reached : Binds K a.d_l_reached ["machine"] []
  g_l_reached : mg "_law_reached" = some (.ref a.f_l_reached)
  F_l_marks : Fun K "_law_marks" "_law_marks" s_l_marks a.f_l_marks a.d_l_marks
  b_l_marks : Binds K a.d_l_marks ["machine"] []
  g_l_marks : mg "_law_marks" = some (.ref a.f_l_marks)
  F_l_least : Fun K "_law_least" "_law_least" s_l_least a.f_l_least a.d_l_least
  b_l_least : Binds K a.d_l_least ["machine"] []
  g_l_least : mg "_law_least" = some (.ref a.f_l_least)
  F_l_joined : Fun K "_law_joined" "_law_joined" s_l_joined a.f_l_joined a.d_l_joined
  b_l_joined : Binds K a.d_l_joined ["first", "second", "way"] []
  g_l_joined : mg "_law_joined" = some (.ref a.f_l_joined)
  F_l_told : Fun K "_law_told" "_law_told" s_l_told a.f_l_told a.d_l_told
  b_l_told : Binds K a.d_l_told ["first", "second", "way"] []
  g_l_told : mg "_law_told" = some (.ref a.f_l_told)
  F_l_ring : Fun K "_law_ring" "_law_ring" s_l_ring a.f_l_ring a.d_l_ring
  b_l_ring : Binds K a.d_l_ring ["count", "good"] []
  g_l_ring : mg "_law_ring" = some (.ref a.f_l_ring)
  F_law : Fun K "law" "law" s_law a.f_law a.d_law
  b_law : Binds K a.d_law ["script"] []
  g_law : mg "law" = some (.ref a.f_law)
  z_bool : mg "bool" = none
  z_enumerate : mg "enumerate" = none
  z_int : mg "int" = none
  z_isinstance : mg "isinstance" = none
  z_len : mg "len" = none
  z_list : mg "list" = none
  z_range : mg "range" = none
  z_sorted : mg "sorted" = none
  z_str : mg "str" = none
  z_tuple : mg "tuple" = none
  c_LETTERS : ∃ t, mg "LETTERS" = some (Value.str "abcd" t)
  c_MOST_STATES : ∃ t, mg "MOST_STATES" = some (Value.int 40 t)
  gk_MachineError : mg "MachineError" = some (.ref a.k_MachineError)
  gk_LettersDiffer : mg "LettersDiffer" = some (.ref a.k_LettersDiffer)
  gk_TooManyStates : mg "TooManyStates" = some (.ref a.k_TooManyStates)
  x_LettersDiffer : OwnE K mg "LettersDiffer" a.k_LettersDiffer
  x_TooManyStates : OwnE K mg "TooManyStates" a.k_TooManyStates
  em_LettersDiffer_LettersDiffer : PySem.W.exmOne K (.ref a.k_LettersDiffer) (.ref a.k_LettersDiffer) = some true
  em_LettersDiffer_TooManyStates : PySem.W.exmOne K (.ref a.k_LettersDiffer) (.ref a.k_TooManyStates) = some false
  ki_LettersDiffer_MachineError : PySem.W.kitOne K (.ref a.k_LettersDiffer) (.ref a.k_MachineError) = some true
  ki_LettersDiffer_TooManyStates : PySem.W.kitOne K (.ref a.k_LettersDiffer) (.ref a.k_TooManyStates) = some false
  ki_LettersDiffer_LettersDiffer : PySem.W.kitOne K (.ref a.k_LettersDiffer) (.ref a.k_LettersDiffer) = some true
  em_TooManyStates_LettersDiffer : PySem.W.exmOne K (.ref a.k_TooManyStates) (.ref a.k_LettersDiffer) = some false
  em_TooManyStates_TooManyStates : PySem.W.exmOne K (.ref a.k_TooManyStates) (.ref a.k_TooManyStates) = some true
  ki_TooManyStates_MachineError : PySem.W.kitOne K (.ref a.k_TooManyStates) (.ref a.k_MachineError) = some true
  ki_TooManyStates_TooManyStates : PySem.W.kitOne K (.ref a.k_TooManyStates) (.ref a.k_TooManyStates) = some true
  ki_TooManyStates_LettersDiffer : PySem.W.kitOne K (.ref a.k_TooManyStates) (.ref a.k_LettersDiffer) = some false
def tabsOf (a : Ad) : List (Addr × Str) := [(a.P_least, ("least" : Str) ++ ".<locals>." ++ "<lambda>"), (a.P_join, ("join" : Str) ++ ".<locals>." ++ "<lambda>"), (a.P_pair_step, ("pair_step" : Str) ++ ".<locals>." ++ "<lambda>")]
structure Tbl (mg : Str → Option Value) (base : Heap) (a : Ad) : Prop where
  t_least : LamX.TabB base mg a.c_least a.P_least
  t_join : LamX.TabB base mg a.c_join a.P_join
  t_pair_step : LamX.TabB base mg a.c_pair_step a.P_pair_step
  nd : ((tabsOf a).map (·.1)).Nodup
theorem m_least (a : Ad) : (a.P_least, ("least" : Str) ++ ".<locals>." ++ "<lambda>") ∈ tabsOf a := by unfold tabsOf; simp
theorem Tbl.u_least {mg : Str → Option Value} {base : Heap} {a : Ad} (B : Tbl mg base a) : ∀ p ∈ tabsOf a, p.1 = a.P_least → p.2 = ("least" : Str) ++ ".<locals>." ++ "<lambda>" := tabs_uniq B.nd (m_least a)
theorem m_join (a : Ad) : (a.P_join, ("join" : Str) ++ ".<locals>." ++ "<lambda>") ∈ tabsOf a := by unfold tabsOf; simp
theorem Tbl.u_join {mg : Str → Option Value} {base : Heap} {a : Ad} (B : Tbl mg base a) : ∀ p ∈ tabsOf a, p.1 = a.P_join → p.2 = ("join" : Str) ++ ".<locals>." ++ "<lambda>" := tabs_uniq B.nd (m_join a)
theorem m_pair_step (a : Ad) : (a.P_pair_step, ("pair_step" : Str) ++ ".<locals>." ++ "<lambda>") ∈ tabsOf a := by unfold tabsOf; simp
theorem Tbl.u_pair_step {mg : Str → Option Value} {base : Heap} {a : Ad} (B : Tbl mg base a) : ∀ p ∈ tabsOf a, p.1 = a.P_pair_step → p.2 = ("pair_step" : Str) ++ ".<locals>." ++ "<lambda>" := tabs_uniq B.nd (m_pair_step a)
end

section
variable {P : Program} {w : World} {K : PySem.W.Frag} {mg : Str → Option Value} {base : Heap} {a : Ad}
theorem ok_lead (T : Txt K mg a) : FnOk P w K mg base CX0 1 a.f_lead a.d_lead ["machine", "state", "word"] (spLead K) := by
  refine T.F_lead.ok sc_lead (fun vs H Q E h => ?_) (fun cdv A outer s H vs Q E hr h => ?_)
  · obtain ⟨v, M, n, m, s, w, rfl, _⟩ := h
    rfl
  · obtain ⟨v, M, n, m, s, w, rfl, hM, ok, m4, hs, hw, q⟩ := h
    obtain ⟨pa, st, gd, rows, rfl, hA, hSt, hRows, hG⟩ := macE hM
    refine ⟨_, (pss_cons (ps_set (i := 3) sc_lead.nd rfl (Or.inl rfl) (pe_ix (ix_tupK (K := K) rfl) (pv 0) pe_int (fun _ _ => rfl)))
      (pss_cons (ps_for PassesOwn.never rfl (pi_str (pv 2)) (pg_name (i := 4) sc_lead.nd rfl (Or.inl rfl)) (pss_one (ps_set (i := 1) sc_lead.nd rfl (Or.inl rfl) (pe_ix (ix_tupK (K := K) rfl) (pe_ix (ix_tupK (K := K) rfl) (pv 3) (pv 1) (fun _ _ => rfl)) (bmK (K := K) rfl (pe_bm PySem.F.plainAttrs_str PySem.F.slot_str_index PySem.F.type_str_index mt_indexS (pe_glob (v := V.str "abcd") (by rfl) T.c_LETTERS.choose_spec ⟨_, rfl⟩) (pa_cons (pv 4) pa_nil))) (fun _ _ => rfl)))))
      (pss_one (ps_ret (pv 1))))), ?_⟩
    walk_at "rd"
    refine r_ixT hA (at_of (j := 0) rfl rfl) ?_
    walk_at "rd"
    refine for_str (fun i σ H' => H' = H ∧ ∃ yl, σ = [some (.ref pa), some (iV (leadM M s (w.take i))), some (sV w), some (.ref st), yl]) ⟨rfl, _, rfl⟩ (fun i c σ H' hc hP => ?_) (fun σ H' hP => ?_)
    · obtain ⟨rfl, yl, rfl⟩ := hP
      have hc' : w[i]? = some c := by simpa using hc
      have hcm := hw c (List.mem_of_getElem? hc')
      have hlt := leadM_lt ok (w.take i) s hs (hw.take i)
      obtain ⟨pr, gr, hR⟩ := rowsE (s := leadM M s (w.take i)) hRows (by rw [ok.len]; exact hlt)
      have hrl := (ok.rowAt hlt).1
      walk_at "rd"
      refine r_ixT hSt (at_of rfl gr) ?_
      walk_at "rd"
      refine ⟨rfl, ?_⟩
      walk_at "rd"
      refine r_idxS (let_ix hcm.1 hcm.2 m4) ?_
      refine r_ixT hR (at_nat rfl (by rw [hrl]; omega)) ?_
      refine ⟨rfl, some (.str ⟨#[c]⟩), ?_⟩
      rw [List.take_add_one, hc']
      show _ = [some (.ref pa), some (iV (leadM M s (w.take i ++ (some c).toList))), some (sV w), some (.ref st), some (.str ⟨#[c]⟩)]
      rw [show (w.take i ++ (some c).toList) = w.take i ++ [c] from rfl, leadM_snoc]
      rfl
    · obtain ⟨rfl, yl, rfl⟩ := hP
      walk_at "rd"
      have e : w.take (⟨w.toArray⟩ : Str).cps.size = w := by
        show w.take w.toArray.size = w
        rw [List.size_toArray, List.take_length]
      rw [e]
      exact q

theorem ok_letters_of (T : Txt K mg a) : FnOk P w K mg base CX0 1 a.f_letters_of a.d_letters_of ["machine"] (spLetters K) := by
  refine T.F_letters_of.ok sc_letters_of (fun vs H Q E h => ?_) (fun cdv A outer s H vs Q E hr h => ?_)
  · obtain ⟨v, M, n, m, rfl, _⟩ := h
    rfl
  · obtain ⟨v, M, n, m, rfl, hM, ok, n1, m4, q⟩ := h
    obtain ⟨pa, st, gd, rows, rfl, hA, hSt, hRows, hG⟩ := macE hM
    obtain ⟨pr, gr, hR⟩ := rowsE (s := 0) hRows (by rw [ok.len]; omega)
    have hrl := (ok.rowAt (s := 0) (by omega)).1
    refine ⟨_, (pss_one (ps_ret (pe_slice sl_str (pe_glob (v := V.str "abcd") (by rfl) T.c_LETTERS.choose_spec ⟨_, rfl⟩) po_none (po_some (pe_callB (call_lenQK (K := K) rfl) (by rfl) T.z_len (by decide +kernel) (pa_cons (pe_ix (ix_tupK (K := K) rfl) (pe_ix (ix_tupK (K := K) rfl) (pv 0) pe_int (fun _ _ => rfl)) pe_int (fun _ _ => rfl)) pa_nil)))))), ?_⟩
    walk_at "rd"
    refine r_ixT hA (at_of (j := 0) rfl rfl) ?_
    walk_at "rd"
    refine r_ixT hSt (at_of (j := 0) rfl gr) ?_
    walk_at "rd"
    refine r_lenT hR ?_
    rw [List.length_map, hrl]
    walk_at "rd"
    refine r_slS (by decide +kernel) ?_
    rw [cut_abcd m4]
    exact q

end

section
variable {P : Program} {w : World} {K : PySem.W.Frag} {mg : Str → Option Value} {base : Heap} {a : Ad}
/-- what the step that was handed in does -/
def stepK (kd : Kd) (stp : Stp) (k : Nat) (L : List (List Nat)) (J : Hp → Prop) : Sp := fun vs G R E => ∃ (v : V) (r : List Nat) (c : Nat), vs = [v, sV [97 + c]] ∧ r ∈ L ∧ c < k ∧ J G ∧ PlV kd G v r ∧ E = E0 ∧
  ∀ (G' : Hp) (v' : V) (r' : List Nat), Same G G' → stp r c = some r' → PlV kd G' v' r' → R v' G'
/-- a lambda that was handed in: it stands at f, its cells stand, and it does so -/
structure LamK (P : Program) (w : World) (K : PySem.W.Frag) (mg : Str → Option Value) (base : Heap) (f : Addr) (F : NdefX.NF) (e : Expr) (C : Clo) (cs : List Addr) (H : Hp) (SP : Sp) : Prop where
  at_ : H f = some (LamO f F e)
  code : H F.c = some (LamX.CodeO F.c F.qual)
  cl : C.cl = F.cl
  clo : CloH C H
  cells : ∀ c ∈ cs, ∃ o v, H c = some (CellF o c v)
  sub : ∀ y c, C.cl.lookup y = some c → c ∈ cs
  ok : ∃ (ps : List Str) (spL : List (Option V) → Sp), LOk P w K mg base CX0 6 f F e ps C.fr spL ∧ ∀ vs G R E, SP vs G R E → spL C.ws vs G R E
theorem LamK.keep {P : Program} {w : World} {K : PySem.W.Frag} {mg : Str → Option Value} {base : Heap} {f : Addr} {F : NdefX.NF} {e : Expr} {C : Clo} {cs : List Addr} {H H' : Hp} {SP : Sp} (h : LamK P w K mg base f F e C cs H SP)
    (k : ∀ b o, H b = some o → (∀ ps, o ≠ .tbl ps) → H' b = some o) : LamK P w K mg base f F e C cs H' SP :=
  ⟨k _ _ h.at_ (fun ps => lamO_ne ps), k _ _ h.code (fun ps z => by unfold LamX.CodeO at z; exact nomatch z), h.cl, ⟨h.clo.len, fun y c e => by
    obtain ⟨o, v, z⟩ := h.clo.all y c e
    exact ⟨o, v, k _ _ z fun ps z => nomatch z⟩, h.clo.inj, fun i y e => by
    obtain ⟨c, e1, e2⟩ := h.clo.has i y e
    exact ⟨c, e1, fun v ev => by
      obtain ⟨o, z⟩ := e2 v ev
      exact ⟨o, k _ _ z fun ps z => nomatch z⟩⟩⟩, fun c hc => by
    obtain ⟨o, v, z⟩ := h.cells c hc
    exact ⟨o, v, k _ _ z fun ps z => nomatch z⟩, h.sub, h.ok⟩
theorem LamK.same {P : Program} {w : World} {K : PySem.W.Frag} {mg : Str → Option Value} {base : Heap} {f : Addr} {F : NdefX.NF} {e : Expr} {C : Clo} {cs : List Addr} {H H' : Hp} {SP : Sp} (h : LamK P w K mg base f F e C cs H SP) (s : Same H H') : LamK P w K mg base f F e C cs H' SP := h.keep fun b o z _ => s b o z
/-- a call of it -/
theorem LamK.call {P : Program} {w : World} {K : PySem.W.Frag} {mg : Str → Option Value} {base : Heap} {f : Addr} {F : NdefX.NF} {e : Expr} {C : Clo} {cs : List Addr} {H : Hp} {SP : Sp} {vs : List V} {Q : VK} (h : LamK P w K mg base f F e C cs H SP)
    (q : SP vs (delH H cs) (Back Q H cs) E0) :
    H f = some (LamO f F e) ∧ ∃ (C : Clo) (ps : List Str) (spL : List (Option V) → Sp) (cs : List Addr), C.cl = F.cl ∧ LOk P w K mg base CX0 6 f F e ps C.fr spL ∧ CloH C H ∧ (∀ c ∈ cs, ∃ o v, H c = some (CellF o c v)) ∧ (∀ y c, C.cl.lookup y = some c → c ∈ cs) ∧
      delH H cs f = some (LamO f F e) ∧ delH H cs F.c = some (LamX.CodeO F.c F.qual) ∧ spL C.ws vs (delH H cs) (Back Q H cs) E0 := by
  obtain ⟨ps, spL, L, hs⟩ := h.ok
  exact ⟨h.at_, C, ps, spL, cs, h.cl, L, h.clo, h.cells, h.sub, delH_keep h.cells h.at_ (fun o φ z => by unfold LamO at z; exact nomatch z), delH_keep h.cells h.code (fun o φ z => by unfold LamX.CodeO at z; exact nomatch z), hs _ _ _ _ q⟩
/-- a condition of the heap that stays -/
structure Steady (J : Hp → Prop) : Prop where
  same : ∀ H H', Same H H' → J H → J H'
  del : ∀ H cs, (∀ c ∈ cs, ∃ o v, H c = some (CellF o c v)) → J H → J (delH H cs)
theorem plV_del {kd : Kd} {H : Hp} {cs : List Addr} {v : V} {p : List Nat} (hc : ∀ c ∈ cs, ∃ o v, H c = some (CellF o c v)) (h : PlV kd H v p) : PlV kd (delH H cs) v p := h.k fun b xs e => delH_keep hc e fun _ _ z => nomatch z
/-- the step called -/
theorem LamK.step {P : Program} {w : World} {K : PySem.W.Frag} {mg : Str → Option Value} {base : Heap} {f : Addr} {F : NdefX.NF} {e : Expr} {C : Clo} {cs : List Addr} {H : Hp} {kd : Kd} {stp : Stp} {k : Nat} {L : List (List Nat)} {J : Hp → Prop} {Q : VK} {v : V} {r r' : List Nat} {c : Nat}
    (h : LamK P w K mg base f F e C cs H (stepK kd stp k L J)) (st : Steady J) (hr : r ∈ L) (hc : c < k) (hJ : J H) (hv : PlV kd H v r) (hs : stp r c = some r') (q : ∀ (G' : Hp) (v' : V), Same H G' → PlV kd G' v' r' → Q v' G') :
    H f = some (LamO f F e) ∧ ∃ (C : Clo) (ps : List Str) (spL : List (Option V) → Sp) (cs : List Addr), C.cl = F.cl ∧ LOk P w K mg base CX0 6 f F e ps C.fr spL ∧ CloH C H ∧ (∀ c ∈ cs, ∃ o v, H c = some (CellF o c v)) ∧ (∀ y c, C.cl.lookup y = some c → c ∈ cs) ∧
      delH H cs f = some (LamO f F e) ∧ delH H cs F.c = some (LamX.CodeO F.c F.qual) ∧ spL C.ws [v, sV [97 + c]] (delH H cs) (Back Q H cs) E0 := by
  refine h.call ⟨v, r, c, rfl, hr, hc, st.del _ _ h.cells hJ, plV_del h.cells hv, rfl, fun G' v' r2 s e hv' hn => ?_⟩
  rw [hs] at e
  obtain rfl := Option.some.inj e
  exact q _ v' (same_add s) (hv'.k fun b xs e => add_keep hn e)
def spReachedK (P : Program) (w : World) (K : PySem.W.Frag) (mg : Str → Option Value) (base : Heap) : Sp := fun vs H Q _ => ∃ (kd : Kd) (f : Addr) (F : NdefX.NF) (e : Expr) (C : Clo) (cs : List Addr) (stp : Stp) (k : Nat) (v0 : V) (r0 : List Nat) (J : Hp → Prop) (L : List (List Nat)),
  vs = [v0, sV (abcdG k), .ref f] ∧ LamK P w K mg base f F e C cs H (stepK kd stp k L J) ∧ k ≤ 4 ∧ PlV kd H v0 r0 ∧ J H ∧ Steady J ∧ (∀ r c, ∃ r', stp r c = some r') ∧
  r0 ∈ L ∧ (∀ r ∈ L, ∀ c r', c < k → stp r c = some r' → r' ∈ L) ∧ L.length ≤ 4000 ∧
  ∀ (H' : Hp) (d : Addr) (i : Nat), Same H H' → H d = none → H' d = some (dO kd ((bfs stp k r0 i).map fun p => (p.1, sV p.2))) → (∀ p ∈ bfs stp k r0 i, okP kd p.1) → (bfs stp k r0 i).length ≤ i → Q (.ref d) H'
theorem ok_reached (T : Txt K mg a) : FnOk P w K mg base CX0 8 a.f_reached a.d_reached ["origin", "letters", "step"] (spReachedK P w K mg base) := by
  refine T.F_reached.ok sc_reached (fun vs H Q E h => ?_) (fun cdv A outer s H vs Q E hr h => ?_)
  · obtain ⟨kd, f, F, e, C, cs, stp, k, v0, r0, J, L, rfl, _⟩ := h
    rfl
  · obtain ⟨kd, f, F, e, C, cs, stp, k, v0, r0, J, L, rfl, hF, k4, hO, hJ, stJ, tot, oL, cl, Ll, q⟩ := h
    have zl : (sizeLine : Nat) = 16777216 := by decide
    refine ⟨_, (pss_cons (ps_set (i := 3) sc_reached.nd rfl (Or.inl rfl) (pe_dispE (hu_of hr) (pv 0) pe_str))
      (pss_cons (ps_set (i := 4) sc_reached.nd rfl (Or.inl rfl) (pe_lst (pa_cons (pv 0) pa_nil)))
      (pss_cons (ps_set (i := 5) sc_reached.nd rfl (Or.inl rfl) pe_int)
      (pss_cons (ps_while PassesOwn.never (pt_cmpR op_lt (pv 5) (pe_callB (call_lenQK (K := K) rfl) (by rfl) T.z_len (by decide +kernel) (pa_cons (pv 4) pa_nil)) (nomark _)) (pss_cons (ps_set (i := 6) sc_reached.nd rfl (Or.inl rfl) (pe_ix (ix_listK (K := K) rfl) (pv 4) (pv 5) (fun _ _ => rfl)))
      (pss_cons (ps_aug (i := 5) sc_reached.nd rfl (Or.inl rfl) pe_int ip_add)
      (pss_one (ps_for PassesOwn.never rfl (pi_str (pv 1)) (pg_name (i := 7) sc_reached.nd rfl (Or.inl rfl)) (pss_cons (ps_set (i := 8) sc_reached.nd rfl (Or.inl rfl) (pe_callKK (i := 2) (k := 6) (K' := K) (P' := P) (w' := w) (mg' := mg) (base' := base) rfl rfl rfl rfl rfl hr (by decide) rfl (by first | exact Or.inl rfl | exact Or.inr (Or.inl rfl) | exact Or.inr (Or.inr rfl)) (pa_cons (pv 6) (pa_cons (pv 7) pa_nil))))
      (pss_one (ps_if (PW.pt (pw_and (pt_cmpR op_notN1 (pv 8) pe_non (nomark _)) (pw_and1 (pt_cmp (pc_dnotin (hu_of hr) (pv 8) (pv 3)))))) (pss_cons (ps_dput (hu_of hr) (pv 3) (pv 8) (pe_op op_addS (pe_dget (hu_of hr) (pv 3) (pv 6) (fun _ _ => rfl)) (pv 7)) (by rfl))
      (pss_one (ps_expr (bmK (K := K) rfl (pe_bm PySem.F.plainAttrs_list PySem.F.slot_list_append PySem.F.type_list_append mt_append (pv 4) (pa_cons (pv 8) pa_nil)))))) pss_nil))))))))
      (pss_one (ps_ret (pv 3))))))), ?_⟩
    walk_at "rd"
    refine r_dispE (v := v0) (p := r0) rfl hO (fun p hp => ?_)
    walk_at "rd"
    have s1 := same_new (o := dO kd [(r0, V.str (Str.ofString ""))]) hp
    have hW0 : (upd H p (dO kd [(r0, V.str (Str.ofString ""))])) p = some (dO kd ((bfs stp k r0 0).map fun p => (p.1, sV p.2))) := upd_same
    have hO1 := hO.same s1
    have hF1 := hF.same s1
    have hJ1 := stJ.same _ _ s1 hJ
    generalize upd H p (dO kd [(r0, V.str (Str.ofString ""))]) = H1 at *
    refine ⟨ln1, fun qd hqd => ?_⟩
    walk_at "rd"
    have hqH : H qd = none := s1.free hqd
    have hne : p ≠ qd := ne_of_none hW0 hqd
    have t2 := same_new (o := .lst [v0]) hqd
    have s2 := s1.trans t2
    have hQ0 : (upd H1 qd (.lst [v0])) qd = some (.lst [v0]) := upd_same
    have hW1 := t2 _ _ hW0
    have hO2 := hO1.same t2
    have hF2 := hF1.same t2
    have hJ2 := stJ.same _ _ t2 hJ1
    clear t2 s1 hW0 hO1 hqd hF1 hJ1
    generalize upd H1 qd (.lst [v0]) = H2 at *
    have bl : ∀ i, (bfs stp k r0 i).length ≤ 4000 := fun i => Nat.le_trans (bfs_len oL cl i) Ll
    have ml : ∀ m : Wm, (m.map fun p => (p.1, sV p.2)).map (·.1) = m.map (·.1) := fun m => by rw [List.map_map]; rfl
    refine ⟨fun m σ G => ∃ (qs : List V) (i : Nat) (y6 y7 y8 : Option V), σ = [some v0, some (sV (abcdG k)), some (.ref f), some (.ref p), some (.ref qd), some (iV i), y6, y7, y8] ∧ m = 4001 - i ∧ Same H G ∧ LamK P w K mg base f F e C cs G (stepK kd stp k L J) ∧ J G ∧ G qd = some (.lst qs) ∧ G p = some (dO kd ((bfs stp k r0 i).map fun p => (p.1, sV p.2))) ∧ PlsR kd G qs ((bfs stp k r0 i).map (·.1)) ∧ (∀ p ∈ bfs stp k r0 i, okP kd p.1) ∧ i ≤ (bfs stp k r0 i).length,
      ⟨_, [v0], 0, none, none, none, rfl, rfl, s2, hF2, hJ2, hQ0, hW1, ⟨rfl, fun j v q h1 h2 => by
        match j, h1, h2 with
        | 0, h1, h2 =>
          obtain rfl := Option.some.inj h1
          obtain rfl := Option.some.inj h2
          exact hO2⟩, (fun q hq => by rw [List.mem_singleton.mp hq]; exact hO2.ok), Nat.zero_le _⟩, ?_⟩
    rintro m σ G ⟨qs, i, y6, y7, y8, rfl, rfl, sG, hFG, hJG, hQ, hW, hT, hok, hi⟩
    have lqs : qs.length = (bfs stp k r0 i).length := by
      have := hT.1
      rw [List.length_map] at this
      exact this
    have bli := bl i
    walk_at "rd"
    refine r_lenL (SqL.of hQ) ?_
    refine ⟨(i : Int), (qs.length : Int), rfl, rfl, ?_⟩
    walk_at "rd"
    refine r_iteD (fun e1 => ?_) (fun e1 => ?_)
    rotate_left
    · walk_at "rd"
      exact q G p i sG hp hW hok (by omega)
    obtain ⟨x, hx⟩ : ∃ x, (bfs stp k r0 i)[i]? = some x := ⟨_, List.getElem?_eq_getElem (by omega)⟩
    obtain ⟨b, hpi⟩ : ∃ b, qs[i]? = some b := ⟨_, List.getElem?_eq_getElem (by omega)⟩
    have hbx : PlV kd G b x.1 := hT.2 i b x.1 hpi (by rw [List.getElem?_map, hx]; rfl)
    have hxL : x.1 ∈ L := bfs_all (stp := stp) (k := k) (o := r0) (P := fun q => q.1 ∈ L) oL (fun x c r hx hc e => cl x.1 hx c r hc e) i x (List.mem_of_getElem? hx)
    have allL : ∀ q ∈ bfs stp k r0 i, q.1 ∈ L := bfs_all (stp := stp) (k := k) (o := r0) (P := fun q => q.1 ∈ L) oL (fun x c r hx hc e => cl x.1 hx c r hc e) i
    have xlen : x.2.length ≤ i := bfs_wlen i i x hx
    have nd0 := bfs_nd (stp := stp) (k := k) (o := r0) i
    refine ⟨fun σ' H' => ∃ (qs2 : List V) (y6 y7 y8 : Option V), σ' = [some v0, some (sV (abcdG k)), some (.ref f), some (.ref p), some (.ref qd), some (iV (i + 1)), y6, y7, y8] ∧ Same H H' ∧ LamK P w K mg base f F e C cs H' (stepK kd stp k L J) ∧ J H' ∧ H' qd = some (.lst qs2) ∧ H' p = some (dO kd ((bfs stp k r0 (i + 1)).map fun p => (p.1, sV p.2))) ∧ PlsR kd H' qs2 ((bfs stp k r0 (i + 1)).map (·.1)) ∧ (∀ p ∈ bfs stp k r0 (i + 1), okP kd p.1), fun σ' H' hN => ?_, ?_⟩
    · obtain ⟨qs2, z6, z7, z8, rfl, a1, a2, a3, a4, a5, a6, a7⟩ := hN
      refine ⟨4001 - (i + 1), by omega, qs2, i + 1, z6, z7, z8, rfl, rfl, a1, a2, a3, a4, a5, a6, a7, ?_⟩
      obtain ⟨z, ez⟩ := bfs_pre1 (stp := stp) (k := k) (o := r0) i
      rw [ez, List.length_append]
      omega
    walk_at "rd"
    refine r_ixL (SqL.of hQ) (at_of (j := i) rfl hpi) ?_
    walk_at "rd"
    refine ⟨_, rfl, _, _, rfl, rfl, ?_⟩
    walk_at "rd"
    obtain ⟨zx, ezx⟩ := bfs_pre1 (stp := stp) (k := k) (o := r0) i
    have ak : (abcdG k).length = k := abcdG_len k4
    refine for_str (fun j σ' H' => ∃ (qs2 : List V) (y7 y8 : Option V), σ' = [some v0, some (sV (abcdG k)), some (.ref f), some (.ref p), some (.ref qd), some (iV (i + 1)), some b, y7, y8] ∧ Same H H' ∧ LamK P w K mg base f F e C cs H' (stepK kd stp k L J) ∧ J H' ∧ H' qd = some (.lst qs2) ∧ H' p = some (dO kd ((extT stp x (bfs stp k r0 i) j).map fun p => (p.1, sV p.2))) ∧ PlsR kd H' qs2 ((extT stp x (bfs stp k r0 i) j).map (·.1)) ∧ (∀ p ∈ extT stp x (bfs stp k r0 i) j, okP kd p.1) ∧ PlV kd H' b x.1)
      ⟨qs, y7, y8, rfl, sG, hFG, hJG, hQ, hW, hT, hok, hbx⟩ (fun j c σ' H' hcj hP => ?_) (fun σ' H' hP => ?_)
    rotate_left
    · obtain ⟨qs2, z7, z8, rfl, a1, a2, a3, a4, a5, a6, a7, a8⟩ := hP
      have ej : (⟨(abcdG k).toArray⟩ : Str).cps.size = k := by
        show (abcdG k).toArray.size = k
        rw [List.size_toArray, ak]
      rw [ej, ← bfs_succ hx] at a5 a6 a7
      exact ⟨qs2, _, _, _, rfl, a1, a2, a3, a4, a5, a6, a7⟩
    clear hQ hW hT sG hFG hJG hok hbx
    obtain ⟨qs2, z7, z8, rfl, sG, hFG, hJG, hQ, hW, hT, hok, hb⟩ := hP
    have hcj' : (abcdG k)[j]? = some c := by simpa using hcj
    have hjk : j < k := by
      have := (List.getElem?_eq_some_iff.mp hcj').1
      omega
    obtain rfl : c = 97 + j := abcd_at k4 hcj'
    have el := extT_len (stp := stp) (k := k) (x := x) (m := bfs stp k r0 i) allL nd0 (fun c r' hc e => cl x.1 hxL c r' hc e) (Nat.le_of_lt hjk)
    have nd := extT_nd (stp := stp) (x := x) nd0 j
    obtain ⟨zj, ezj⟩ := extT_pre (stp := stp) x (bfs stp k r0 i) j
    have hxj : (extT stp x (bfs stp k r0 i) j)[i]? = some x := by
      rw [ezj, List.getElem?_append_left (by omega)]
      exact hx
    have eS : extT stp x (bfs stp k r0 i) (j + 1) = ext1 stp (extT stp x (bfs stp k r0 i) j) x j := extT_succ _ _ _ _
    generalize extT stp x (bfs stp k r0 i) j = mj at *
    rw [eS]
    have lp2 : qs2.length = mj.length := by
      have := hT.1
      rw [List.length_map] at this
      exact this
    obtain ⟨r', hst⟩ := tot x.1 j
    walk_at "rd"
    refine ⟨f, F, e, rfl, hFG.at_, ?_⟩
    walk_at "rd"
    refine hFG.step stJ hxL hjk hJG hb hst fun G3 v s3 hv => ?_
    have sG3 := sG.trans s3
    have hQ3 := s3 _ _ hQ
    have hW3 := s3 _ _ hW
    have hT3 := hT.same s3
    have hb3 := hb.same s3
    have hF3 := hFG.same s3
    have hJ3 := stJ.same _ _ s3 hJG
    clear sG hQ hW hT hb hFG hJG
    have okm : ∀ q ∈ mj.map (fun p => (p.1, sV p.2)), okP kd q.1 := fun q hq => by
      obtain ⟨p, hp, rfl⟩ := List.mem_map.mp hq
      exact hok p hp
    have ndm : ((mj.map fun p => (p.1, sV p.2)).map (·.1)).Nodup := by rw [ml]; exact nd
    walk_at "rd"
    rw [show (!decide (v = V.non)) = true by rw [decide_eq_false hv.ne]; rfl]
    walk_at "rd"
    refine r_dni ?_
    walk_at "rd"
    refine ⟨_, _, rfl, dget_kd hW3 hv okm, ?_⟩
    walk_at "rd"
    have eE : ext1 stp mj x j = if r' ∈ mj.map (·.1) then mj else mj ++ [(r', x.2 ++ [97 + j])] := by
      unfold ext1
      rw [hst]
    by_cases e3 : r' ∈ mj.map (·.1)
    · obtain ⟨w', ew, _⟩ := lkP_mem ndm (p := r') (by rw [ml]; exact e3)
      rw [ew]
      rw [if_pos e3] at eE
      rw [eE]
      walk_at "rd"
      exact ⟨qs2, _, _, rfl, sG3, hF3, hJ3, hQ3, hW3, hT3, hok, hb3⟩
    · rw [lkP_out (p := r') (by rw [ml]; exact e3)]
      rw [if_neg e3] at eE
      rw [eE, if_pos (show (!(none : Option V).isSome) = true from rfl)]
      walk_at "rd"
      refine r_dput ?_
      walk_at "rd"
      refine r_dg ?_
      walk_at "rd"
      have lk : lkP (mj.map fun p => (p.1, sV p.2)) x.1 = some (sV x.2) := lkP_in (i := i) (q := (x.1, sV x.2)) ndm (by rw [List.getElem?_map, hxj]; rfl)
      have gx := dget_kd hW3 hb3 okm
      rw [lk] at gx
      refine ⟨p, sV x.2, rfl, gx, ?_⟩
      walk_at "rd"
      refine r_addS ?_ ?_
      · rw [str_len]
        show x.2.length + 1 ≤ _
        omega
      walk_at "rd"
      have eW : V.str ((⟨x.2.toArray⟩ : Str) ++ ⟨#[97 + j]⟩) = sV (x.2 ++ [97 + j]) := congrArg V.str (str_app x.2 [97 + j])
      rw [eW]
      have ej : (mj ++ [(r', x.2 ++ [97 + j])]).map (fun p : List Nat × List Nat => (p.1, sV p.2)) = mj.map (fun p => (p.1, sV p.2)) ++ [(r', sV (x.2 ++ [97 + j]))] := by rw [List.map_append]; rfl
      have dp := dput_kd (z := sV (x.2 ++ [97 + j])) hW3 hv okm (by rw [ml]; exact e3) (by rw [List.length_map]; omega)
      rw [← ej] at dp
      refine ⟨p, _, rfl, dp, ?_⟩
      have hW4 : (upd G3 p (dO kd ((mj ++ [(r', x.2 ++ [97 + j])]).map fun p => (p.1, sV p.2)))) p = _ := upd_same
      have hQ4 : (upd G3 p (dO kd ((mj ++ [(r', x.2 ++ [97 + j])]).map fun p => (p.1, sV p.2)))) qd = _ := (upd_ne hne.symm).trans hQ3
      have s4 := same_mut (o := dO kd ((mj ++ [(r', x.2 ++ [97 + j])]).map fun p => (p.1, sV p.2))) sG3 hp
      have s34 : ∀ (c : Addr) (o : HO), H c = some o → (upd G3 p (dO kd ((mj ++ [(r', x.2 ++ [97 + j])]).map fun p => (p.1, sV p.2)))) c = some o := fun c o e => s4 c o e
      have tup4 : ∀ (c : Addr) (ys : List V), G3 c = some (.tup ys) → (upd G3 p (dO kd ((mj ++ [(r', x.2 ++ [97 + j])]).map fun p => (p.1, sV p.2)))) c = some (.tup ys) := fun c ys hc => by
        rw [upd_ne (fun e => by rw [e, hW3] at hc; exact dO_nt _ (Option.some.inj hc))]
        exact hc
      have hv4 := hv.k tup4
      have hb4 := hb3.k tup4
      have hT4 := hT3.k tup4
      have hF4 := hF.same s4
      have hJ4 := stJ.same _ _ s4 hJ
      clear tup4
      generalize upd G3 p (dO kd ((mj ++ [(r', x.2 ++ [97 + j])]).map fun p => (p.1, sV p.2))) = G4 at *
      walk_at "rd"
      refine ⟨ty_l (SqL.of hQ4), ?_⟩
      walk_at "rd"
      refine r_append hQ4 (by omega) ?_
      have tup5 : ∀ (c : Addr) (ys : List V), G4 c = some (.tup ys) → (upd G4 qd (.lst (qs2 ++ [v]))) c = some (.tup ys) := fun c ys hc => by
        rw [upd_ne (fun e => by rw [e, hQ4] at hc; exact nomatch hc)]
        exact hc
      have s5 := same_mut (o := .lst (qs2 ++ [v])) s4 hqH
      refine ⟨qs2 ++ [v], _, _, rfl, s5, hF.same s5, stJ.same _ _ s5 hJ, upd_same, ?_, ?_, fun p hp => ?_, hb4.k tup5⟩
      · rw [upd_ne hne]
        exact hW4
      · rw [List.map_append]
        exact (hT4.k tup5).snoc (hv4.k tup5)
      · rcases List.mem_append.mp hp with hp | hp
        · exact hok p hp
        · rw [List.mem_singleton.mp hp]
          exact hv.ok

end

section
variable {P : Program} {w : World} {K : PySem.W.Frag} {mg : Str → Option Value} {base : Heap} {a : Ad}
/-! ### blocks of places -/
theorem find_at {α : Type} {f : α → Bool} : ∀ {m : List α} {i : Nat} {p : α}, m[i]? = some p → f p = true → (∀ x ∈ m.take i, f x = false) → m.find? f = some p
  | [], _, _, h, _, _ => nomatch h
  | x :: m, 0, p, h, hp, _ => by
    obtain rfl : x = p := Option.some.inj h
    rw [List.find?_cons_of_pos hp]
  | x :: m, i + 1, p, h, hp, hb => by
    have hx : f x = false := hb x (by rw [List.take_succ_cons]; exact List.mem_cons_self)
    rw [List.find?_cons_of_neg (by rw [hx]; exact Bool.false_ne_true)]
    exact find_at (i := i) h hp fun y hy => hb y (by rw [List.take_succ_cons]; exact List.mem_cons_of_mem _ hy)
def numK (x : Nat) : NestedKey := .num (x : Int)
def kkK : List Nat → NestedKey
  | [] => .tup []
  | x :: r => .tup [numK x, .tup (r.map numK)]
theorem numK_map_inj : ∀ {a b : List Nat}, a.map numK = b.map numK → a = b
  | [], [], _ => rfl
  | [], _ :: _, h => nomatch h
  | _ :: _, [], h => nomatch h
  | x :: a, y :: b, h => by
    rw [List.map_cons, List.map_cons] at h
    injection h with h1 h2
    injection h1 with h1
    rw [numK_map_inj h2, show x = y by omega]
theorem kkK_inj {a b : List Nat} (h : kkK a = kkK b) : a = b := by
  match a, b, h with
  | [], [], _ => rfl
  | [], y :: b, h =>
    have h : NestedKey.tup [] = .tup [numK y, .tup (b.map numK)] := h
    injection h with h
    cases h
  | x :: a, [], h =>
    have h : NestedKey.tup [numK x, .tup (a.map numK)] = .tup [] := h
    injection h with h
    cases h
  | x :: a, y :: b, h =>
    have h : NestedKey.tup [numK x, .tup (a.map numK)] = .tup [numK y, .tup (b.map numK)] := h
    injection h with h
    injection h with h1 h2
    injection h2 with h2 _
    injection h1 with h1
    injection h2 with h2
    rw [numK_map_inj h2, show x = y by omega]
theorem nums_depth : ∀ r : List Nat, NestedKey.depthAll (r.map numK) ≤ 1
  | [] => by rw [List.map_nil]; simp [NestedKey.depthAll]
  | x :: r => by
    have := nums_depth r
    rw [List.map_cons]
    simp only [NestedKey.depthAll, numK, NestedKey.depth]
    omega
theorem kkK_depth (k : List Nat) : (kkK k).depth ≤ 8 := by
  cases k with
  | nil => simp [kkK, NestedKey.depth, NestedKey.depthAll]
  | cons x r =>
    have := nums_depth r
    simp only [kkK, numK, NestedKey.depth, NestedKey.depthAll]
    omega
/-- the dict of the numbers -/
def NumD (ds : List (List Nat)) (L : NL) : Prop := L.length = ds.length ∧ ∀ (i : Nat) (k : List Nat), ds[i]? = some k → ∃ a, L[i]? = some (kkK k, a, iV i)
theorem numD_val {ds : List (List Nat)} {L : NL} (h : NumD ds L) (nd : ds.Nodup) {k : List Nat} (hk : k ∈ ds) : valN L (kkK k) = some (iV (ix ds k)) := by
  obtain ⟨a, ha⟩ := h.2 _ k (ix_get hk)
  have : L.find? (fun x => decide (x.1 = kkK k)) = some (kkK k, a, iV (ix ds k)) := find_at ha (decide_eq_true rfl) fun x hx => by
    obtain ⟨i, hi⟩ := List.mem_iff_getElem?.mp hx
    rw [List.getElem?_take] at hi
    split at hi
    · rename_i hlt
      have hil := (List.getElem?_eq_some_iff.mp hi).1
      obtain ⟨k', hk'⟩ : ∃ k', ds[i]? = some k' := ⟨_, List.getElem?_eq_getElem (by rw [← h.1]; exact hil)⟩
      obtain ⟨a', ha'⟩ := h.2 i k' hk'
      rw [hi] at ha'
      obtain rfl := Option.some.inj ha'
      refine decide_eq_false fun e => ?_
      have e := kkK_inj e
      subst e
      rw [ix_at nd hk'] at hlt
      omega
    · exact nomatch hi
  unfold valN atN
  rw [this]
  rfl
theorem numD_none {ds : List (List Nat)} {L : NL} (h : NumD ds L) {k : List Nat} (hk : k ∉ ds) : valN L (kkK k) = none := by
  have : L.find? (fun x => decide (x.1 = kkK k)) = none := List.find?_eq_none.mpr fun x hx => by
    obtain ⟨i, hi⟩ := List.mem_iff_getElem?.mp hx
    have hil := (List.getElem?_eq_some_iff.mp hi).1
    obtain ⟨k', hk'⟩ : ∃ k', ds[i]? = some k' := ⟨_, List.getElem?_eq_getElem (by rw [← h.1]; exact hil)⟩
    obtain ⟨a', ha'⟩ := h.2 i k' hk'
    rw [hi] at ha'
    obtain rfl := Option.some.inj ha'
    rw [decide_eq_true_eq]
    intro e
    have e := kkK_inj e
    subst e
    exact hk (List.mem_of_getElem? hk')
  unfold valN atN
  rw [this]
  rfl
theorem numD_snoc {ds : List (List Nat)} {L : NL} (h : NumD ds L) (k : List Nat) (b : Addr) : NumD (ds ++ [k]) (L ++ [(kkK k, b, iV L.length)]) := by
  refine ⟨by rw [List.length_append, List.length_append, h.1]; rfl, fun i k' e => ?_⟩
  rcases Nat.lt_or_ge i ds.length with hi | hi
  · rw [List.getElem?_append_left hi] at e
    obtain ⟨a, ha⟩ := h.2 i k' e
    exact ⟨a, by rw [List.getElem?_append_left (by rw [h.1]; exact hi)]; exact ha⟩
  · rw [List.getElem?_append_right hi] at e
    have : i = ds.length := by
      have := (List.getElem?_eq_some_iff.mp e).1
      rw [List.length_singleton] at this
      omega
    subst this
    rw [Nat.sub_self] at e
    obtain rfl := Option.some.inj e
    exact ⟨b, by rw [List.getElem?_append_right (by rw [h.1]; exact Nat.le_refl _), h.1, Nat.sub_self]; rfl⟩
/-- a number, or a truth as one -/
def BV (v : V) (x : Nat) : Prop := v = iV x ∨ ∃ b : Bool, v = .bl b ∧ x = if b = true then 1 else 0
theorem BV.dn {K : PySem.W.Frag} {H : Hp} {v : V} {x : Nat} (h : BV v x) : Dn K H v (numK x) := by
  rcases h with rfl | ⟨b, rfl, rfl⟩
  · exact .int _
  · cases b with
    | true => exact .bl true
    | false => exact .bl false
def BVs (vs : List V) (bl : List Nat) : Prop := vs.length = bl.length ∧ ∀ (i : Nat) (v : V), vs[i]? = some v → BV v (bl.getD i 0)
theorem bvs_nums (bl : List Nat) : BVs (bl.map iV) bl := ⟨List.length_map _, fun i v e => by
  rw [List.getElem?_map] at e
  obtain ⟨x, hx, rfl⟩ := Option.map_eq_some_iff.mp e
  rw [List.getD_eq_getElem?_getD, hx]
  exact .inl rfl⟩
theorem bvs_marks (marks : List Bool) : BVs (marks.map V.bl) (marks.map bitB) := ⟨by rw [List.length_map, List.length_map], fun i v e => by
  rw [List.getElem?_map] at e
  obtain ⟨b, hb, rfl⟩ := Option.map_eq_some_iff.mp e
  rw [List.getD_eq_getElem?_getD, List.getElem?_map, hb]
  exact .inr ⟨b, rfl, rfl⟩⟩
theorem dn_bvs {K : PySem.W.Frag} {H : Hp} : ∀ {vs : List V} {ks : List Nat}, vs.length = ks.length → (∀ (i : Nat) (v : V) (x : Nat), vs[i]? = some v → ks[i]? = some x → BV v x) → DnAll K H vs (ks.map numK)
  | [], [], _, _ => .nil
  | [], _ :: _, h, _ => nomatch h
  | _ :: _, [], h, _ => nomatch h
  | v :: vs, k :: ks, h, g => .cons (g 0 v k rfl rfl).dn (dn_bvs (Nat.succ.inj h) fun i v x h1 h2 => g (i + 1) v x h1 h2)
def spAlike (K : PySem.W.Frag) (a : Ad) : Sp := fun vs H Q E => ∃ (pr pm : Addr) (ps : List (Addr × List Nat)) (rows : List (List Nat)) (marks : List Bool) (n m most : Nat), vs = [.ref pr, .ref pm, iV most] ∧ SysOk rows marks n m ∧ 1 ≤ n ∧ n ≤ 4000 ∧ m ≤ 4 ∧ most ≤ 4000 ∧
  H pr = some (.lst (refsV ps)) ∧ ps.map (·.2) = rows ∧ (∀ p ∈ ps, H p.1 = some (.lst (p.2.map iV))) ∧ H pm = some (.lst (marks.map V.bl)) ∧
  (ncl rows marks m ≤ most → ∀ (H' : Hp) (p : Addr), Same H H' → H p = none → H' p = some (.lst ((labS rows marks m).map iV)) → Q (.ref p) H') ∧
  (most < ncl rows marks m → ∀ H', Same H H' → E (.ref a.k_TooManyStates) none H')
theorem ok_alike (T : Txt K mg a) : FnOk P w K mg base (L2.CX P w) 1 a.f_alike a.d_alike ["rows", "marks", "most"] (spAlike K a) := by
  refine T.F_alike.okX sc_alike (fun vs H Q E h => ?_) (fun cdv A outer s H vs Q E hr h => ?_)
  · obtain ⟨pr, pm, ps, rows, marks, n, m, most, rfl, _⟩ := h
    rfl
  · obtain ⟨pr, pm, ps, rows, marks, n, m, most, rfl, ok, n1, n4, m4, most4, hP, eps, hL, hMk, q, qe⟩ := h
    have zl : (sizeLine : Nat) = 16777216 := by decide
    have lps : ps.length = n := by
      have := congrArg List.length eps
      rw [List.length_map, ok.len] at this
      exact this
    have lref : (refsV ps).length = n := by rw [show (refsV ps).length = ps.length from List.length_map _, lps]
    refine ⟨_, (pss_cons (ps_set (i := 3) sc_alike.nd rfl (Or.inr rfl) (pv 1))
      (pss_cons (ps_set (i := 4) sc_alike.nd rfl (Or.inl rfl) pe_int)
      (pss_one (ps_while (passes_of rfl) (pt_val pe_bl) (pss_cons (ps_set (i := 5) sc_alike.nd rfl (Or.inl rfl) (pe_dnewNK (P := P) (w := w) rfl rfl))
      (pss_cons (ps_set (i := 6) sc_alike.nd rfl (Or.inl rfl) (pe_lst pa_nil))
      (pss_cons (ps_for (passes_of rfl) rfl (pi_enumK (K := K) rfl (by rfl) T.z_enumerate (pa_cons (pv 0) pa_nil)) (pg_tupK (K := K) rfl rfl (pgs_cons (pg_name (i := 7) sc_alike.nd rfl (Or.inl rfl)) (pgs_cons (pg_name (i := 8) sc_alike.nd rfl (Or.inl rfl)) pgs_nil))) (pss_cons (ps_set (i := 9) sc_alike.nd rfl (Or.inl rfl) (pe_tup (pa_cons (pe_ix (ix_listK (K := K) rfl) (pv 3) (pv 7) (fun _ _ => rfl)) (pa_cons (pe_callTy (call_tupOfK (K := K) rfl) (by rfl) T.z_tuple (by decide +kernel) (pa_cons (pe_lc (own := [("there", 10)]) (g := gName 10) (tt := tYes) rfl sc_alike.nd (pi_listK (K := K) rfl (pv 8)) (blkOk_by (N := N_alike) (sc := (defScope s_alike)) (by decide +kernel)) (fun _ _ _ _ _ => pg_name (i := 10) sc_alike.nd rfl (by first | exact Or.inl rfl | exact Or.inr rfl)) (fun _ _ _ _ _ => pts_nil) (fun _ _ _ _ _ => (pe_ix (ix_listK (K := K) rfl) (pv 3) (pv 10) (fun _ _ => rfl)))) pa_nil)) pa_nil))))
      (pss_one (ps_expr (bmK (K := K) rfl (pe_bm PySem.F.plainAttrs_list PySem.F.slot_list_append PySem.F.type_list_append mt_append (pv 6) (pa_cons (pe_nsetdK (K := K) (P := P) (w := w) rfl rfl rfl (hu64 hr) (pv 5) (pv 9) (pe_callB (call_lenNK (K := K) (P := P) (w := w) rfl rfl rfl) (by rfl) T.z_len (by decide +kernel) (pa_cons (pv 5) pa_nil)) ⟨by rfl, by rfl, by rfl, by rfl⟩) pa_nil)))))))
      (pss_cons (ps_if (pt_cmpR op_gt (pe_callB (call_lenNK (K := K) (P := P) (w := w) rfl rfl rfl) (by rfl) T.z_len (by decide +kernel) (pa_cons (pv 5) pa_nil)) (pv 2) (nomark _)) (pss_one (ps_raise1 T.x_TooManyStates rfl rfl rfl (takes_of rfl rfl rfl rfl) (by rfl) (pe_joined (PJ.cons pe_str (PJ.cons (pe_fmt (pv 2)) (PJ.cons pe_str PJ.nil)))))) pss_nil)
      (pss_cons (ps_if (pt_cmpR op_eq (pe_callB (call_lenNK (K := K) (P := P) (w := w) rfl rfl rfl) (by rfl) T.z_len (by decide +kernel) (pa_cons (pv 5) pa_nil)) (pv 4) (nomark _)) (pss_one (ps_ret (pv 6))) pss_nil)
      (pss_cons (ps_set (i := 3) sc_alike.nd rfl (Or.inr rfl) (pv 6))
      (pss_one (ps_set (i := 4) sc_alike.nd rfl (Or.inl rfl) (pe_callB (call_lenNK (K := K) (P := P) (w := w) rfl rfl rfl) (by rfl) T.z_len (by decide +kernel) (pa_cons (pv 5) pa_nil)))))))))))))), ?_⟩
    walk_at "rd"
    refine ⟨fun mm σ G => ∃ (pb : Addr) (vs : List V) (bl : List Nat) (c : Nat) (y5 y6 y7 y8 y9 y10 : Option V), σ = [some (.ref pr), some (.ref pm), some (iV most), some (.ref pb), some (iV c), y5, y6, y7, y8, y9, y10] ∧ mm = n + 1 - c ∧ Same H G ∧ G pb = some (.lst vs) ∧ BVs vs bl ∧ bl.length = n ∧ Coarse rows marks n m bl ∧ Marked marks n bl ∧ (c = 0 ∨ c = (fc bl).length),
      ⟨_, pm, _, marks.map bitB, 0, none, none, none, none, none, none, rfl, rfl, fun _ _ z => z, hMk, bvs_marks marks, by rw [List.length_map]; exact ok.mlen, coarse_bits, marked_bits, .inl rfl⟩, ?_⟩
    rintro mm σ G ⟨pb, vs, bl, c, y5, y6, y7, y8, y9, y10, rfl, rfl, sG, hB, hbv, lbl, co, mk, hc⟩
    have lvs : vs.length = n := hbv.1.trans lbl
    have lk : (keysL bl rows).length = n := by rw [keysL_len, ok.len]
    obtain ⟨ks, eks⟩ : ∃ ks, keysL bl rows = ks := ⟨_, rfl⟩
    rw [eks] at lk
    have cn : c ≤ n := by
      rcases hc with rfl | rfl
      · omega
      · have := fc_len_le bl
        omega
    walk_at "rd"
    refine ⟨fun σ' H' => ∃ (pb : Addr) (y5 y6 y7 y8 y9 y10 : Option V), σ' = [some (.ref pr), some (.ref pm), some (iV most), some (.ref pb), some (iV (fc ks).length), y5, y6, y7, y8, y9, y10] ∧ Same H H' ∧ H' pb = some (.lst ((num ks).map iV)) ∧ c < (fc ks).length, fun σ' H' hN => ?_, ?_⟩
    · obtain ⟨pb', z5, z6, z7, z8, z9, z10, rfl, s', hB', clt⟩ := hN
      refine ⟨n + 1 - (fc ks).length, by
        have := fc_len_le ks
        omega, pb', _, num ks, _, _, _, _, _, _, _, rfl, rfl, s', hB', bvs_nums _, by rw [num_len]; exact lk, by rw [← eks]; exact coarse_num ok co, by rw [← eks]; exact marked_num ok mk, .inr (fc_num_len ks).symm⟩
    walk_at "rd"
    refine fun pd hpd => ?_
    have sd := same_new (o := NDO P w pd []) hpd
    have hD0 : (upd G pd (NDO P w pd [])) pd = some (NDO P w pd []) := upd_same
    generalize upd G pd (NDO P w pd []) = G1 at *
    walk_at "rd"
    refine ⟨Nat.zero_le _, fun pf hpf => ?_⟩
    have sf := same_new (o := .lst []) hpf
    have hF0 : (upd G1 pf (.lst [])) pf = some (.lst []) := upd_same
    have hD1 := sf _ _ hD0
    have s2 := sd.trans sf
    have hpfG : G pf = none := sd.free hpf
    have ndf : pd ≠ pf := ne_of_none hD0 hpf
    clear sd sf hD0 hpf
    generalize upd G1 pf (.lst []) = G2 at *
    walk_at "rd"
    refine ⟨_, rfl, _, _, rfl, SqL.of (s2 _ _ (sG _ _ hP)), ?_⟩
    refine for_enL (xs := refsV ps) (fun i σ G' => ∃ (L : NL) (y7 y8 y9 y10 : Option V), σ = [some (.ref pr), some (.ref pm), some (iV most), some (.ref pb), some (iV c), some (.ref pd), some (.ref pf), y7, y8, y9, y10] ∧ Same G G' ∧ G' pd = some (NDO P w pd L) ∧ NumD (fc (ks.take i)) L ∧ KeysN K G' L ∧ G' pf = some (.lst ((num (ks.take i)).map iV)))
      ⟨[], y7, y8, y9, y10, rfl, s2, hD1, ⟨rfl, fun i k e => nomatch e⟩, (fun p hp => nomatch hp), hF0⟩ (fun i σ G' _ hI => ?_) (fun i x σ G' Tt hx hI hTt => ?_) (fun σ G' hI => ?_)
    · obtain ⟨L, y7, y8, y9, y10, rfl, s3, _⟩ := hI
      exact SqL.of (s3 _ _ (sG _ _ hP))
    · clear s2 hD1 hF0
      obtain ⟨L, y7, y8, y9, y10, rfl, s3, hD, nD, kN, hF⟩ := hI
      have hi : i < n := by
        have := (List.getElem?_eq_some_iff.mp hx).1
        omega
      obtain ⟨pp, hpp, rfl⟩ : ∃ pp, ps[i]? = some pp ∧ V.ref pp.1 = x := by
        unfold refsV at hx
        rw [List.getElem?_map] at hx
        exact Option.map_eq_some_iff.mp hx
      have hrow : rows.getD i [] = pp.2 := by
        rw [← eps, List.getD_eq_getElem?_getD, List.getElem?_map, hpp]
        rfl
      obtain ⟨rl, rb⟩ := ok.at_ hi
      rw [hrow] at rl rb
      have hk : ks[i]? = some (keyL bl rows i) := by rw [← eks]; exact keysL_at (by rw [ok.len]; exact hi)
      have hR := s3 _ _ (sG _ _ (hL pp (List.mem_of_getElem? hpp)))
      have hB3 := s3 _ _ hB
      have s4 := same_new (o := .tup [V.int (i : Nat), V.ref pp.1]) hTt
      refine ⟨Tt, _, rfl, SqT.of upd_same, rfl, _, _, rfl, _, _, rfl, rfl, ?_⟩
      have hR4 := s4 _ _ hR
      have hB4 := s4 _ _ hB3
      have hD4 := s4 _ _ hD
      have hF4 := s4 _ _ hF
      have kN4 := kN.k (sT_of s4)
      have s34 := s3.trans s4
      clear hR hB3 hD hF kN s3 s4
      generalize upd G' Tt (.tup [V.int (i : Nat), V.ref pp.1]) = G4 at *
      walk_at "rd"
      obtain ⟨vi, hvi⟩ : ∃ vi, vs[i]? = some vi := ⟨_, List.getElem?_eq_getElem (by omega)⟩
      refine r_ixL (SqL.of hB4) (at_of (j := i) rfl hvi) ?_
      walk_at "rd"
      refine ⟨⟨_, SqL.of hR4⟩, fun D hDn => ?_⟩
      refine lc_list (xs := pp.2.map iV) (fun j G5 => Same G4 G5 ∧ ∃ us : List V, G5 D = some (.lst us) ∧ us.length = j ∧ ∀ (q : Nat) (v : V) (y : Nat), us[q]? = some v → pp.2[q]? = some y → BV v (bl.getD y 0)) ⟨same_new hDn, [], upd_same, rfl, fun q v y e => nomatch e⟩ (fun j G5 _ hI => SqL.of (hI.1 _ _ hR4)) (fun j z G5 hz hI => ?_) (fun G5 hI => ?_)
      · obtain ⟨s5, us, hU, lu, hus⟩ := hI
        rw [List.getElem?_map] at hz
        obtain ⟨y, hy, rfl⟩ := Option.map_eq_some_iff.mp hz
        have hyn := rb y (List.mem_of_getElem? hy)
        have hj := (List.getElem?_eq_some_iff.mp hy).1
        obtain ⟨vy, hvy⟩ : ∃ vy, vs[y]? = some vy := ⟨_, List.getElem?_eq_getElem (by omega)⟩
        refine ⟨rfl, r_yes (iteT ?_)⟩
        walk_at "rd"
        refine r_ixL (SqL.of (s5 _ _ hB4)) (at_of (j := y) rfl hvy) ?_
        refine ⟨us, hU, by omega, same_mut s5 hDn, us ++ [vy], upd_same, by rw [List.length_append, lu]; rfl, fun q v y' e1 e2 => ?_⟩
        rcases Nat.lt_or_ge q us.length with hq | hq
        · rw [List.getElem?_append_left hq] at e1
          exact hus q v y' e1 e2
        · rw [List.getElem?_append_right hq] at e1
          have : q = j := by
            have := (List.getElem?_eq_some_iff.mp e1).1
            rw [List.length_singleton] at this
            omega
          subst this
          rw [lu, Nat.sub_self] at e1
          obtain rfl := Option.some.inj e1
          rw [hy] at e2
          obtain rfl := Option.some.inj e2
          exact hbv.2 y vy hvy
      obtain ⟨s5, us, hU, lu, hus⟩ := hI
      rw [List.length_map] at lu
      walk_at "rd"
      refine r_tupL (SqL.of hU) (fun t2 ht2 => ?_)
      have s6 := same_new (o := .tup us) ht2
      have hT2 : (upd G5 t2 (.tup us)) t2 = some (.tup us) := upd_same
      have s46 := s5.trans s6
      generalize upd G5 t2 (.tup us) = G6 at *
      walk_at "rd"
      refine ⟨ln2, fun t3 ht3 => ?_⟩
      have s7 := same_new (o := .tup [vi, V.ref t2]) ht3
      have hT3 : (upd G6 t3 (.tup [vi, V.ref t2])) t3 = some (.tup [vi, V.ref t2]) := upd_same
      have hT23 := s7 _ _ hT2
      have s47 := s46.trans s7
      have hD7 := s47 _ _ hD4
      have hF7 := s47 _ _ hF4
      have kN7 := kN4.k (sT_of s47)
      have sG7 := s34.trans s47
      clear hT2 s6 s46 s7 s5 hU s47 hD4 hF4 kN4 s34
      generalize upd G6 t3 (.tup [vi, V.ref t2]) = G7 at *
      have dk : Dn K G7 (.ref t3) (kkK (keyL bl rows i)) := by
        unfold keyL
        rw [hrow]
        refine .tup (SqT.of hT3) (.cons (hbv.2 i vi hvi).dn (.cons (.tup (SqT.of hT23) ?_) .nil))
        refine dn_bvs (by rw [List.length_map, lu]) fun q v x e1 e2 => ?_
        rw [List.getElem?_map] at e2
        obtain ⟨y, hy, rfl⟩ := Option.map_eq_some_iff.mp e2
        exact hus q v y e1 hy
      have fnd := fc_nd (ks.take i)
      have etk : ks.take (i + 1) = ks.take i ++ [keyL bl rows i] := by rw [List.take_add_one, hk]; rfl
      have fl := fc_len_le (ks.take i)
      rw [List.length_take] at fl
      have lnm : ((num (ks.take i)).map iV).length ≤ i := by rw [List.length_map, num_len, List.length_take]; omega
      walk_at "rd"
      refine ⟨ty_l (SqL.of hF7), ?_⟩
      walk_at "rd"
      refine ⟨_, rfl, pd, L, rfl, .inl hD7, ?_⟩
      walk_at "rd"
      refine ⟨pd, L, rfl, .inl hD7, kN7, ?_⟩
      refine ⟨pd, t3, kkK (keyL bl rows i), L, rfl, rfl, hD7, kN7, dk, kkK_depth _, by rw [nD.1]; omega, fun v ev => ?_, fun ev => ?_⟩
      · have hin : keyL bl rows i ∈ fc (ks.take i) := Classical.byContradiction fun z => by
          rw [numD_none nD z] at ev
          exact nomatch ev
        rw [numD_val nD fnd hin] at ev
        obtain rfl := Option.some.inj ev
        walk_at "rd"
        refine r_append hF7 (by omega) ?_
        have sm := same_mut (o := .lst ((num (ks.take i)).map iV ++ [iV (ix (fc (ks.take i)) (keyL bl rows i))])) sG7 hpfG
        refine ⟨L, _, _, _, _, rfl, sm, ?_, ?_, fun p hp => ?_, ?_⟩
        · rw [upd_ne ndf]
          exact hD7
        · rw [etk, fc_snoc, if_pos hin]
          exact nD
        · obtain ⟨z1, z2⟩ := kN7 p hp
          exact ⟨z1.k (SameT.lst hF7), z2⟩
        · rw [upd_same, etk, num_snoc, if_pos hin, List.map_append]
          rfl
      · have hout : keyL bl rows i ∉ fc (ks.take i) := fun z => by
          rw [numD_val nD fnd z] at ev
          exact nomatch ev
        have n2 : NumD (fc (ks.take (i + 1))) (L ++ [(kkK (keyL bl rows i), t3, V.int (L.length : Nat))]) := by
          rw [etk, fc_snoc, if_neg hout]
          exact numD_snoc nD _ _
        have sm := same_mut (o := NDO P w pd (L ++ [(kkK (keyL bl rows i), t3, V.int (L.length : Nat))])) sG7 hpd
        have sT : SameT G7 (upd G7 pd (NDO P w pd (L ++ [(kkK (keyL bl rows i), t3, V.int (L.length : Nat))]))) := fun b => ⟨fun xs e => by
          rw [upd_ne (ne_of e hD7 fun z => nomatch z)]
          exact e, fun o xs e => by
          rw [upd_ne (ne_of e hD7 fun z => nomatch z)]
          exact e⟩
        have hF8 : (upd G7 pd (NDO P w pd (L ++ [(kkK (keyL bl rows i), t3, V.int (L.length : Nat))]))) pf = some (.lst ((num (ks.take i)).map iV)) := (upd_ne ndf.symm).trans hF7
        have hD8 : (upd G7 pd (NDO P w pd (L ++ [(kkK (keyL bl rows i), t3, V.int (L.length : Nat))]))) pd = _ := upd_same
        have kN8 : KeysN K (upd G7 pd (NDO P w pd (L ++ [(kkK (keyL bl rows i), t3, V.int (L.length : Nat))]))) (L ++ [(kkK (keyL bl rows i), t3, V.int (L.length : Nat))]) := fun p hp => by
          rcases List.mem_append.mp hp with hp | hp
          · obtain ⟨z1, z2⟩ := kN7 p hp
            exact ⟨z1.k sT, z2⟩
          · rw [List.mem_singleton.mp hp]
            exact ⟨dk.k sT, kkK_depth (keyL bl rows i)⟩
        generalize upd G7 pd (NDO P w pd (L ++ [(kkK (keyL bl rows i), t3, V.int (L.length : Nat))])) = G8 at *
        walk_at "rd"
        refine r_append hF8 (by omega) ?_
        refine ⟨_, _, _, _, _, rfl, same_mut sm hpfG, ?_, n2, fun p hp => ?_, ?_⟩
        · rw [upd_ne ndf]
          exact hD8
        · obtain ⟨z1, z2⟩ := kN8 p hp
          exact ⟨z1.k (SameT.lst hF8), z2⟩
        · rw [upd_same, etk, num_snoc, if_neg hout, List.map_append, nD.1]
          rfl
    · clear s2 hD1 hF0
      obtain ⟨L, y7, y8, y9, y10, rfl, s3, hD, nD, kN, hF⟩ := hI
      rw [lref, show ks.take n = ks by rw [← lk, List.take_length]] at nD hF
      have fl := fc_len_le ks
      have sH := sG.trans s3
      have f1 : 1 ≤ (fc ks).length := fc_pos fun z => by
        rw [z] at lk
        have lk : 0 = n := lk
        omega
      have kco := coarse_num ok co
      rw [eks] at kco
      have lle : (fc ks).length ≤ ncl rows marks m := by
        rw [← fc_num_len ks]
        exact coarse_le ok (by rw [num_len]; exact lk) kco
      walk_at "rd"
      refine ⟨pd, L, rfl, .inl hD, kN, ?_⟩
      walk_at "rd"
      rw [nD.1]
      refine r_I0 (i := ((fc ks).length : Int)) (j := (most : Int)) ⟨_, rfl, ?_⟩
      refine r_iteD (fun e1 => ?_) (fun e1 => ?_)
      · refine r_raise1 (js_ok _ _ (fun t ht => ?_) (by show 0 + 2000 * 3 ≤ 100000; decide) fun _ => qe (by omega) G' sH)
        simp only [List.mem_cons, List.not_mem_nil, or_false] at ht
        rcases ht with rfl | rfl | rfl
        · exact part_c (by decide)
        · exact part_i (i := (most : Int)) (log_lt (by omega)) fun Q q => r_var rfl q
        · exact part_c (by decide)
      · refine r_next ?_
        walk_at "rd"
        refine ⟨pd, L, rfl, .inl hD, kN, ?_⟩
        rw [nD.1]
        refine r_var (v := iV c) rfl ?_
        refine r_eqI (i := ((fc ks).length : Int)) (j := (c : Int)) ?_
        walk_at "rd"
        have cle : c ≤ (fc ks).length := by
          rcases hc with rfl | rfl
          · omega
          · have := kin_le (keys_kin ok lbl)
            rw [eks] at this
            exact this
        refine r_iteD (fun e2 => ?_) (fun e2 => ?_)
        · walk_at "rd"
          have hcl : c = (fc bl).length := by
            rcases hc with rfl | h
            · omega
            · exact h
          have lab := done_lab ok lbl mk co (by rw [eks]; omega)
          rw [eks] at lab
          have kin : (fc (num ks)).length = ncl rows marks m := by
            rw [lab]
            exact fc_num_len _
          rw [fc_num_len] at kin
          rw [lab] at hF
          exact q (by omega) G' pf sH (sG.free hpfG) hF
        · refine r_next ?_
          walk_at "rd"
          refine ⟨pd, L, rfl, .inl hD, kN, ?_⟩
          rw [nD.1]
          exact ⟨pf, _, _, _, _, _, _, rfl, sH, hF, by omega⟩

end

section
variable {P : Program} {w : World} {K : PySem.W.Frag} {mg : Str → Option Value} {base : Heap} {a : Ad}
def goodK (kd : Kd) (gd : List Nat → Bool) (L : List (List Nat)) (J : Hp → Prop) : Sp := fun vs G R E => ∃ (v : V) (r : List Nat), vs = [v] ∧ r ∈ L ∧ J G ∧ PlV kd G v r ∧ E = E0 ∧ ∀ G', Same G G' → R (.bl (gd r)) G'
theorem LamK.good {P : Program} {w : World} {K : PySem.W.Frag} {mg : Str → Option Value} {base : Heap} {f : Addr} {F : NdefX.NF} {e : Expr} {C : Clo} {cs : List Addr} {H : Hp} {kd : Kd} {gd : List Nat → Bool} {L : List (List Nat)} {J : Hp → Prop} {Q : VK} {v : V} {r : List Nat}
    (h : LamK P w K mg base f F e C cs H (goodK kd gd L J)) (st : Steady J) (hr : r ∈ L) (hJ : J H) (hv : PlV kd H v r) (q : ∀ (G' : Hp), Same H G' → Q (.bl (gd r)) G') :
    H f = some (LamO f F e) ∧ ∃ (C : Clo) (ps : List Str) (spL : List (Option V) → Sp) (cs : List Addr), C.cl = F.cl ∧ LOk P w K mg base CX0 6 f F e ps C.fr spL ∧ CloH C H ∧ (∀ c ∈ cs, ∃ o v, H c = some (CellF o c v)) ∧ (∀ y c, C.cl.lookup y = some c → c ∈ cs) ∧
      delH H cs f = some (LamO f F e) ∧ delH H cs F.c = some (LamX.CodeO F.c F.qual) ∧ spL C.ws [v] (delH H cs) (Back Q H cs) E0 :=
  h.call ⟨v, r, rfl, hr, st.del _ _ h.cells hJ, plV_del h.cells hv, rfl, fun G' s hn => q _ (same_add s)⟩
def spLeastFrom (P : Program) (w : World) (K : PySem.W.Frag) (mg : Str → Option Value) (base : Heap) (a : Ad) : Sp := fun vs H Q E => ∃ (kd : Kd) (f1 : Addr) (F1 : NdefX.NF) (e1 : Expr) (C1 : Clo) (cs1 : List Addr) (f2 : Addr) (F2 : NdefX.NF) (e2 : Expr) (C2 : Clo) (cs2 : List Addr) (stp : Stp) (gd : List Nat → Bool) (k most : Nat) (v0 : V) (r0 : List Nat) (J : Hp → Prop) (L : List (List Nat)),
  vs = [v0, sV (abcdG k), .ref f1, .ref f2, iV most] ∧ LamK P w K mg base f1 F1 e1 C1 cs1 H (stepK kd stp k L J) ∧ LamK P w K mg base f2 F2 e2 C2 cs2 H (goodK kd gd L J) ∧ k ≤ 4 ∧ most ≤ 4000 ∧ PlV kd H v0 r0 ∧ J H ∧ Steady J ∧ (∀ r c, ∃ r', stp r c = some r') ∧
  r0 ∈ L ∧ (∀ r ∈ L, ∀ c r', c < k → stp r c = some r' → r' ∈ L) ∧ L.length ≤ 4000 ∧
  ∀ (i : Nat), (bfs stp k r0 i).length ≤ i →
    (ncl (rowsB stp k (bfs stp k r0 i)) ((bfs stp k r0 i).map fun p => gd p.1) k ≤ most → ∀ (H' : Hp) (v : V), Same H H' → Dt K H' v (macD (LMm (rowsB stp k (bfs stp k r0 i)) ((bfs stp k r0 i).map fun p => gd p.1) k)) → Q v H') ∧
    (most < ncl (rowsB stp k (bfs stp k r0 i)) ((bfs stp k r0 i).map fun p => gd p.1) k → ∀ H', Same H H' → E (.ref a.k_TooManyStates) none H')
theorem ok_least_from (T : Txt K mg a) : FnOk P w K mg base (L2.CX P w) 9 a.f_least_from a.d_least_from ["origin", "letters", "step", "is_good", "most"] (spLeastFrom P w K mg base a) := by
  have G_alike := ok_alike (P := P) (w := w) (base := base) T
  have G_reached := ok_reached (P := P) (w := w) (base := base) T
  refine T.F_least_from.okX sc_least_from (fun vs H Q E h => ?_) (fun cdv A outer s H vs Q E hr h => ?_)
  · obtain ⟨kd, f1, F1, e1, C1, cs1, f2, F2, e2, C2, cs2, stp, gd, k, most, v0, r0, J, L, rfl, _⟩ := h
    rfl
  · obtain ⟨kd, f1, F1, e1, C1, cs1, f2, F2, e2, C2, cs2, stp, gd, k, most, v0, r0, J, L, rfl, hF1, hF2, k4, most4, hO, hJ, stJ, tot, oL, cl, Ll, q⟩ := h
    have zl : (sizeLine : Nat) = 16777216 := by decide
    refine ⟨_, (pss_cons (ps_set (i := 5) sc_least_from.nd rfl (Or.inl rfl) (pe_callTy (call_listE rfl) (by rfl) T.z_list (by decide +kernel) (pa_cons (pe_call (G_reached) (hr.mono (by first | decide | omega)) (by rfl) T.g_reached T.F_reached.kp T.b_reached .nil pass0 (pa_cons (pv 0) (pa_cons (pv 1) (pa_cons (pv 2) pa_nil)))) pa_nil)))
      (pss_cons (ps_set (i := 6) sc_least_from.nd rfl (Or.inr rfl) (pe_either (pe_dc (own := [("at", 11), ("place", 13)]) (g := gTup K 2 (gCons (gName 11) (gCons (gName 13) gNil))) (tt := tYes) rfl sc_least_from.nd (pi_enumK (K := K) rfl (by rfl) T.z_enumerate (pa_cons (pv 5) pa_nil)) (blkOk_by (N := N_least_from) (sc := (defScope s_least_from)) (by decide +kernel)) (fun _ _ _ _ _ => pg_tupK (K := K) rfl rfl (pgs_cons (pg_name (i := 11) sc_least_from.nd rfl (by first | exact Or.inl rfl | exact Or.inr rfl)) (pgs_cons (pg_name (i := 13) sc_least_from.nd rfl (by first | exact Or.inl rfl | exact Or.inr rfl)) pgs_nil))) (fun _ _ _ _ _ => pts_nil) (fun _ _ _ _ _ => (pv 13)) (fun _ _ _ _ _ => (pv 11))) (pe_dcNK (K := K) (P := P) (w := w) rfl rfl rfl (own := [("at", 11), ("place", 13)]) (g := gTup K 2 (gCons (gName 11) (gCons (gName 13) gNil))) (tt := tYes) (hu64 hr) rfl sc_least_from.nd (pi_enumK (K := K) rfl (by rfl) T.z_enumerate (pa_cons (pv 5) pa_nil)) (blkOk_by (N := N_least_from) (sc := (defScope s_least_from)) (by decide +kernel)) (fun _ _ _ _ _ => pg_tupK (K := K) rfl rfl (pgs_cons (pg_name (i := 11) sc_least_from.nd rfl (by first | exact Or.inl rfl | exact Or.inr rfl)) (pgs_cons (pg_name (i := 13) sc_least_from.nd rfl (by first | exact Or.inl rfl | exact Or.inr rfl)) pgs_nil))) (fun _ _ _ _ _ => pts_nil) (fun _ _ _ _ _ => (pv 13)) (fun _ _ _ _ _ => (pv 11)))))
      (pss_cons (ps_setLc (i := 7) (own := [("place", 13)]) (g := gName 13) (tt := tYes) rfl sc_least_from.nd rfl rfl (sw_true rfl rfl rfl (by decide +kernel)) (pi_listK (K := K) rfl (pv 5)) (blkOk_by (N := N_least_from) (sc := (defScope s_least_from)) (by decide +kernel)) (fun _ _ _ _ _ => pg_name (i := 13) sc_least_from.nd rfl (by first | exact Or.inl rfl | exact Or.inr rfl)) (fun _ _ _ _ _ => pts_nil) (fun _ _ _ _ _ => (pe_lc (own := [("letter", 14)]) (g := gName 14) (tt := tYes) rfl sc_least_from.nd (pi_str (pv 1)) (blkOk_by (N := N_least_from) (sc := (relS (eScope (sE (sIn 2 s_least_from))) (defScope s_least_from))) (by decide +kernel)) (fun _ _ _ _ _ => pg_name (i := 14) sc_least_from.nd rfl (by first | exact Or.inl rfl | exact Or.inr rfl)) (fun _ _ _ _ _ => pts_nil) (fun _ _ _ _ _ => (pe_either (pe_dget (hu_of hr) (pv 6) (pe_callKK (i := 2) (k := 6) (K' := K) (P' := P) (w' := w) (mg' := mg) (base' := base) rfl rfl rfl rfl rfl hr (by decide) rfl (by first | exact Or.inl rfl | exact Or.inr (Or.inl rfl) | exact Or.inr (Or.inr rfl)) (pa_cons (pv 13) (pa_cons (pv 14) pa_nil))) (fun _ _ => rfl)) (pe_ngetK (K := K) (P := P) (w := w) rfl rfl rfl (hu64 hr) (pv 6) (pe_callKK (i := 2) (k := 6) (K' := K) (P' := P) (w' := w) (mg' := mg) (base' := base) rfl rfl rfl rfl rfl hr (by decide) rfl (by first | exact Or.inl rfl | exact Or.inr (Or.inl rfl) | exact Or.inr (Or.inr rfl)) (pa_cons (pv 13) (pa_cons (pv 14) pa_nil))) (fun _ _ => rfl)))))))
      (pss_cons (ps_set (i := 8) sc_least_from.nd rfl (Or.inr rfl) (pe_callS (G_alike) (hr.mono (by first | decide | omega)) (by rfl) T.g_alike T.F_alike.kp T.b_alike (fun σ => passAt (takes_of rfl rfl rfl rfl) σ) (pa_cons (pv 7) (pa_cons (pe_lc (own := [("place", 13)]) (g := gName 13) (tt := tYes) rfl sc_least_from.nd (pi_listK (K := K) rfl (pv 5)) (blkOk_by (N := N_least_from) (sc := (defScope s_least_from)) (by decide +kernel)) (fun _ _ _ _ _ => pg_name (i := 13) sc_least_from.nd rfl (by first | exact Or.inl rfl | exact Or.inr rfl)) (fun _ _ _ _ _ => pts_nil) (fun _ _ _ _ _ => (pe_callKK (i := 3) (k := 6) (K' := K) (P' := P) (w' := w) (mg' := mg) (base' := base) rfl rfl rfl rfl rfl hr (by decide) rfl (by first | exact Or.inl rfl | exact Or.inr (Or.inl rfl) | exact Or.inr (Or.inr rfl)) (pa_cons (pv 13) pa_nil)))) (pa_cons (pv 4) pa_nil)))))
      (pss_cons (ps_set (i := 9) sc_least_from.nd rfl (Or.inl rfl) (pe_lst pa_nil))
      (pss_cons (ps_set (i := 10) sc_least_from.nd rfl (Or.inl rfl) (pe_lst pa_nil))
      (pss_cons (ps_for (passes_of rfl) rfl (pi_enumK (K := K) rfl (by rfl) T.z_enumerate (pa_cons (pv 8) pa_nil)) (pg_tupK (K := K) rfl rfl (pgs_cons (pg_name (i := 11) sc_least_from.nd rfl (Or.inl rfl)) (pgs_cons (pg_name (i := 12) sc_least_from.nd rfl (Or.inl rfl)) pgs_nil))) (pss_one (ps_if (pt_cmpR op_eq (pv 12) (pe_callB (call_lenQK (K := K) rfl) (by rfl) T.z_len (by decide +kernel) (pa_cons (pv 9) pa_nil)) (nomark _)) (pss_cons (ps_expr (bmK (K := K) rfl (pe_bm PySem.F.plainAttrs_list PySem.F.slot_list_append PySem.F.type_list_append mt_append (pv 9) (pa_cons (pe_callTy (call_tupOfK (K := K) rfl) (by rfl) T.z_tuple (by decide +kernel) (pa_cons (pe_lc (own := [("there", 15)]) (g := gName 15) (tt := tYes) rfl sc_least_from.nd (pi_listK (K := K) rfl (pe_ix (ix_listK (K := K) rfl) (pv 7) (pv 11) (fun _ _ => rfl))) (blkOk_by (N := N_least_from) (sc := (defScope s_least_from)) (by decide +kernel)) (fun _ _ _ _ _ => pg_name (i := 15) sc_least_from.nd rfl (by first | exact Or.inl rfl | exact Or.inr rfl)) (fun _ _ _ _ _ => pts_nil) (fun _ _ _ _ _ => (pe_ix (ix_listK (K := K) rfl) (pv 8) (pv 15) (fun _ _ => rfl)))) pa_nil)) pa_nil))))
      (pss_one (ps_if (pt_val (pe_callKK (i := 3) (k := 6) (K' := K) (P' := P) (w' := w) (mg' := mg) (base' := base) rfl rfl rfl rfl rfl hr (by decide) rfl (by first | exact Or.inl rfl | exact Or.inr (Or.inl rfl) | exact Or.inr (Or.inr rfl)) (pa_cons (pe_ix (ix_listK (K := K) rfl) (pv 5) (pv 11) (fun _ _ => rfl)) pa_nil))) (pss_one (ps_expr (bmK (K := K) rfl (pe_bm PySem.F.plainAttrs_list PySem.F.slot_list_append PySem.F.type_list_append mt_append (pv 10) (pa_cons (pv 12) pa_nil))))) pss_nil))) pss_nil)))
      (pss_one (ps_ret (pe_tup (pa_cons (pe_callTy (call_tupOfK (K := K) rfl) (by rfl) T.z_tuple (by decide +kernel) (pa_cons (pv 9) pa_nil)) (pa_cons pe_int (pa_cons (pe_callTy (call_tupOfK (K := K) rfl) (by rfl) T.z_tuple (by decide +kernel) (pa_cons (pv 10) pa_nil)) pa_nil))))))))))))), ?_⟩
    walk_at "rd"
    refine ⟨kd, f1, F1, e1, C1, cs1, stp, k, v0, r0, J, L, rfl, hF1, k4, hO, hJ, stJ, tot, oL, cl, Ll, fun H1 d i s1 fd hd hok hi => ?_⟩
    have q := q i hi
    have sys := sysB (gd := gd) hi tot
    have allL : ∀ p ∈ bfs stp k r0 i, p.1 ∈ L := bfs_all (stp := stp) (k := k) (o := r0) (P := fun q => q.1 ∈ L) oL (fun x c r hx hc e => cl x.1 hx c r hc e) i
    have nd := bfs_nd (stp := stp) (k := k) (o := r0) i
    have bl : (bfs stp k r0 i).length ≤ 4000 := Nat.le_trans (bfs_len oL cl i) Ll
    have b1 := bfs_one (stp := stp) (k := k) (o := r0) i
    have closed : ∀ p ∈ bfs stp k r0 i, ∀ c r', c < k → stp p.1 c = some r' → r' ∈ (bfs stp k r0 i).map (·.1) := fun p hp c r' hc e => bfs_closed hi hp hc e
    generalize bfs stp k r0 i = B at *
    obtain ⟨pl, epl⟩ : ∃ pl, B.map (·.1) = pl := ⟨_, rfl⟩
    have lpl : pl.length = B.length := by rw [← epl, List.length_map]
    walk_at "rd"
    have em : (B.map fun p => (p.1, sV p.2)).map (·.1) = B.map (·.1) := by rw [List.map_map]; rfl
    refine r_listE hd (fun q hq => ?_) (fun l vs fl hvs => ?_)
    · obtain ⟨p, hp, rfl⟩ := List.mem_map.mp hq
      exact hok p hp
    rw [em, epl] at hvs
    have lvs : vs.length = B.length := by rw [hvs.1, lpl]
    have s2 := same_new (o := .lst vs) fl
    have hPl : (upd H1 l (.lst vs)) l = some (.lst vs) := upd_same
    have hvs2 := hvs.same s2
    have sH := s1.trans s2
    have okpl : ∀ p ∈ pl, okP kd p := fun p hp => by
      rw [← epl] at hp
      obtain ⟨x, hx, rfl⟩ := List.mem_map.mp hp
      exact hok x hx
    rw [epl] at nd closed
    clear s1 s2 hd fl hvs fd
    generalize upd H1 l (.lst vs) = H2 at *
    with_reducible refine r_cutJ (fun σ G => ∃ d, σ = [some v0, some (sV (abcdG k)), some (.ref f1), some (.ref f2), some (iV most), some (.ref l), some (.ref d), none, none, none, none, none, none, none, none, none] ∧ Same H2 G ∧ NumsO K P w kd G d pl) (fun σ G hJ' => ?_) (fun key => ?_)
    rotate_left
    · walk_at "rd"
      have keys_take : ∀ j, j ≤ pl.length → (enumP (pl.take j)).map (·.1) = pl.take j := fun j _ => enumP_keys _
      by_cases hkd : kd = .r
      · subst hkd
        refine .inr ?_
        refine r_dcN (r_iEnum (r_cons (r_var rfl (r_nil ⟨_, _, rfl, SqL.of hPl, fun D hD => ?_⟩))))
        refine it_enL (xs := vs) (fun j G => Same H2 G ∧ ∃ L2 : NL, G D = some (NDO P w D L2) ∧ KeysN K G L2 ∧ NumR (pl.take j) L2) ⟨same_new hD, [], upd_same, (fun p hp => nomatch hp), rfl, fun i p e => nomatch e⟩ (fun j G _ hI => SqL.of (hI.1 _ _ hPl)) (fun j x G Tt hx hI hTt => ?_) (fun G hI => ?_)
        · obtain ⟨sG, L2, hG, kN, nR⟩ := hI
          have s3 := same_new (o := .tup [V.int (j : Nat), x]) hTt
          have hj : j < pl.length := by
            have := (List.getElem?_eq_some_iff.mp hx).1
            omega
          obtain ⟨p, hp⟩ : ∃ p, pl[j]? = some p := ⟨_, List.getElem?_eq_getElem hj⟩
          have hpv := (hvs2.2 j x p hx hp).same (sG.trans s3)
          obtain ⟨b, rfl, hb⟩ := hpv
          have hnew : p ∉ pl.take j := fun z => by
            obtain ⟨i', hi'⟩ := List.mem_iff_getElem?.mp z
            rw [List.getElem?_take] at hi'
            split at hi'
            · have := nodup_at nd hp hi'
              omega
            · exact nomatch hi'
          refine ⟨Tt, _, rfl, SqT.of upd_same, rfl, _, _, rfl, _, _, rfl, rfl, ?_⟩
          refine ⟨rfl, r_yes (iteT ?_)⟩
          walk_at "rd"
          have etk : pl.take (j + 1) = pl.take j ++ [p] := by rw [List.take_add_one, hp]; rfl
          have lt : (pl.take j).length = j := by rw [List.length_take]; omega
          refine ⟨b, rowK p, L2, rfl, s3 _ _ hG, kN.k (sT_of s3), dn_row (SqT.of hb), rowK_depth p, by rw [nR.1]; omega, same_mut (sG.trans s3) hD, L2 ++ [(rowK p, b, V.int (j : Nat))], ?_, ?_, ?_⟩
          · rw [upd_same]
            unfold putNd
            rw [numR_at nR hnew]
            rfl
          · have sT : SameT G (upd (upd G Tt (.tup [V.int (j : Nat), V.ref b])) D (NDO P w D (putNd L2 (rowK p) b (V.int (j : Nat))))) := fun c => ⟨fun xs e => by
              rw [upd_ne (ne_of (s3 _ _ e) (s3 _ _ hG) fun z => nomatch z)]
              exact s3 _ _ e, fun o xs e => by
              rw [upd_ne (ne_of (s3 _ _ e) (s3 _ _ hG) fun z => nomatch z)]
              exact s3 _ _ e⟩
            intro z hz
            rcases List.mem_append.mp hz with hz | hz
            · obtain ⟨z1, z2⟩ := kN z hz
              exact ⟨z1.k sT, z2⟩
            · rw [List.mem_singleton.mp hz]
              refine ⟨dn_row (SqT.of ?_), rowK_depth p⟩
              rw [upd_ne (ne_of hb (s3 _ _ hG) fun z => nomatch z)]
              exact hb
          · rw [etk]
            have := numR_snoc nR p b
            rw [lt] at this
            exact this
        · obtain ⟨sG, L2, hG, kN, nR⟩ := hI
          rw [lvs, ← lpl, List.take_length] at nR
          exact key _ _ ⟨D, rfl, sG, L2, hG, kN, nR⟩
      · refine .inl ?_
        show iEnum K (tCons (tVar 5) tNil) _ _ _
        refine r_iEnum ?_
        refine r_cons ?_
        refine r_var rfl ?_
        refine r_nil ?_
        refine ⟨_, _, rfl, SqL.of hPl, ?_⟩
        intro D hD
        refine it_enL (xs := vs) (fun j G => Same H2 G ∧ G D = some (dO kd (enumP (pl.take j)))) ?_ (fun j G _ hI => SqL.of (hI.1 _ _ hPl)) (fun j x G Tt hx hI hTt => ?_) (fun G hI => ?_)
        · refine ⟨same_new hD, ?_⟩
          rw [upd_same]
          cases kd with
          | i => rfl
          | s => rfl
          | r => exact absurd rfl hkd
        · obtain ⟨sG, hG⟩ := hI
          have s3 := same_new (o := .tup [V.int (j : Nat), x]) hTt
          have hj : j < pl.length := by
            have := (List.getElem?_eq_some_iff.mp hx).1
            omega
          obtain ⟨p, hp⟩ : ∃ p, pl[j]? = some p := ⟨_, List.getElem?_eq_getElem hj⟩
          have hpv := (hvs2.2 j x p hx hp).same (sG.trans s3)
          have hnew : p ∉ pl.take j := fun z => by
            obtain ⟨i', hi'⟩ := List.mem_iff_getElem?.mp z
            rw [List.getElem?_take] at hi'
            split at hi'
            · have := nodup_at nd hp hi'
              omega
            · exact nomatch hi'
          refine ⟨Tt, _, rfl, SqT.of upd_same, rfl, _, _, rfl, _, _, rfl, rfl, ?_⟩
          refine ⟨rfl, r_yes (iteT ?_)⟩
          walk_at "rd"
          have etk : pl.take (j + 1) = pl.take j ++ [p] := by rw [List.take_add_one, hp]; rfl
          have lt : (pl.take j).length = j := by rw [List.length_take]; omega
          refine putE (R := fun G => Same H2 G ∧ G D = some (dO kd (enumP (pl.take (j + 1))))) (z := V.int (j : Nat)) hkd (s3 _ _ hG) hpv (fun q hq => ?_) (by rw [enumP_keys]; exact hnew) (by rw [enumP_len]; omega) ?_
          · have := List.mem_map_of_mem (f := (·.1)) hq
            rw [enumP_keys] at this
            exact okpl _ (List.mem_of_mem_take this)
          · refine ⟨same_mut (sG.trans s3) hD, ?_⟩
            rw [upd_same, etk, enumP_snoc, lt]
            rfl
        · obtain ⟨sG, hG⟩ := hI
          rw [lvs, ← lpl, List.take_length] at hG
          refine key _ _ ⟨D, rfl, sG, ?_⟩
          cases kd with
          | i => exact hG
          | s => exact hG
          | r => exact absurd rfl hkd
    obtain ⟨d2, rfl, sG, hN⟩ := hJ'
    have hF1' := hF1.same (sH.trans sG)
    have hF2' := hF2.same (sH.trans sG)
    have hJG := stJ.same _ _ (sH.trans sG) hJ
    have hvs3 := hvs2.same sG
    have hPl3 := sG _ _ hPl
    have sHG := sH.trans sG
    clear sG sH hPl hvs2 hF1 hF2 hJ hO
    have lpe : ∀ (j : Nat) (p : List Nat), pl[j]? = some p → ∃ x ∈ B, x.1 = p := fun j p hp => by
      have := List.mem_of_getElem? hp
      rw [← epl] at this
      obtain ⟨x, hx, e⟩ := List.mem_map.mp this
      exact ⟨x, hx, e⟩
    obtain ⟨rows, erows⟩ : ∃ rows, rowsB stp k B = rows := ⟨_, rfl⟩
    obtain ⟨marks, emarks⟩ : ∃ marks, (B.map fun p => gd p.1) = marks := ⟨_, rfl⟩
    rw [erows, emarks] at q sys
    have hrow : ∀ (j : Nat) (p : List Nat), pl[j]? = some p → rows[j]? = some ((List.range k).map fun c => ix pl ((stp p c).getD [])) := fun j p hp => by
      rw [← erows]
      unfold rowsB
      rw [epl]
      rw [← epl, List.getElem?_map] at hp
      obtain ⟨x, hx, rfl⟩ := Option.map_eq_some_iff.mp hp
      rw [List.getElem?_map, hx]
      rfl
    have hmark : ∀ (j : Nat) (p : List Nat), pl[j]? = some p → marks[j]? = some (gd p) := fun j p hp => by
      rw [← emarks]
      rw [← epl, List.getElem?_map] at hp
      obtain ⟨x, hx, rfl⟩ := Option.map_eq_some_iff.mp hp
      rw [List.getElem?_map, hx]
      rfl
    generalize eH3 : G = H3 at *
    have ak : (abcdG k).length = k := abcdG_len k4
    walk_at "rd"
    refine ⟨⟨_, SqL.of hPl3⟩, fun D hD => ?_⟩
    refine lc_list (xs := vs) (fun j G => Same H3 G ∧ ∃ ps : List (Addr × List Nat), G D = some (.lst (refsV ps)) ∧ ps.map (·.2) = rows.take j ∧ (∀ p ∈ ps, G p.1 = some (.lst (p.2.map iV)) ∧ p.1 ≠ D)) ⟨same_new hD, [], upd_same, rfl, fun p hp => nomatch hp⟩ (fun j G _ hI => SqL.of (hI.1 _ _ hPl3)) (fun j x G hx hI => ?_) (fun G hI => ?_)
    · obtain ⟨sG, ps, hG, eps, hps⟩ := hI
      have hj : j < pl.length := by
        have := (List.getElem?_eq_some_iff.mp hx).1
        omega
      obtain ⟨p, hp⟩ : ∃ p, pl[j]? = some p := ⟨_, List.getElem?_eq_getElem hj⟩
      obtain ⟨xb, hxb, exb⟩ := lpe j p hp
      have hpL : p ∈ L := by rw [← exb]; exact allL xb hxb
      have lps : ps.length ≤ j := by
        have := congrArg List.length eps
        rw [List.length_map, List.length_take] at this
        omega
      refine ⟨rfl, r_yes (iteT ?_)⟩
      walk_at "rd"
      intro D2 hD2
      have nDD : D ≠ D2 := ne_of_none hG hD2
      refine lc_str (x := ⟨(abcdG k).toArray⟩) (fun c G2 => Same G G2 ∧ G2 D2 = some (.lst (((List.range c).map fun c => ix pl ((stp p c).getD [])).map iV))) ⟨same_new hD2, upd_same⟩ (fun c ch G2 hch hI => ?_) (fun G2 hI => ?_)
      · obtain ⟨s2, hG2⟩ := hI
        have hcj : (abcdG k)[c]? = some ch := by simpa using hch
        have hck : c < k := by
          have := (List.getElem?_eq_some_iff.mp hcj).1
          omega
        obtain rfl : ch = 97 + c := abcd_at k4 hcj
        obtain ⟨r', er⟩ := tot p c
        refine ⟨rfl, r_yes (iteT ?_)⟩
        have sc := sG.trans s2
        have hr' := closed xb hxb c r' hck (by rw [exb]; exact er)
        refine r_numE rfl nd okpl fun R hR => ?_
        refine r_callK ⟨f1, F1, e1, rfl, (hF1'.same sc).at_, ?_⟩
        walk_at "rd"
        refine (hF1'.same sc).step stJ hpL hck (stJ.same _ _ sc hJG) ((hvs3.2 j x p hx hp).same sc) er fun G3 v' s3 hv' => ?_
        refine hR _ _ _ _ (ix_get hr') hv' (hN.k (sc.trans s3)) ?_
        refine ⟨_, s3 _ _ hG2, by rw [List.length_map, List.length_map, List.length_range]; omega, same_mut (s2.trans s3) hD2, ?_⟩
        rw [upd_same, List.range_succ, List.map_append, List.map_append, List.map_singleton, List.map_singleton, er]
        rfl
      · obtain ⟨s2, hG2⟩ := hI
        have ej : (⟨(abcdG k).toArray⟩ : Str).cps.size = k := by
          show (abcdG k).toArray.size = k
          rw [List.size_toArray, ak]
        rw [ej] at hG2
        refine ⟨refsV ps, s2 _ _ hG, by rw [show (refsV ps).length = ps.length from List.length_map _]; omega, same_mut (sG.trans s2) hD, ps ++ [(D2, (List.range k).map fun c => ix pl ((stp p c).getD []))], ?_, ?_, fun z hz => ?_⟩
        · rw [upd_same]
          unfold refsV
          rw [List.map_append]
          rfl
        · rw [List.map_append, eps, List.take_add_one, hrow j p hp]
          rfl
        · rcases List.mem_append.mp hz with hz | hz
          · obtain ⟨z1, z2⟩ := hps z hz
            exact ⟨(upd_ne z2).trans (s2 _ _ z1), z2⟩
          · rw [List.mem_singleton.mp hz]
            exact ⟨(upd_ne nDD.symm).trans hG2, nDD.symm⟩
    obtain ⟨s4, ps, hR, eps, hps⟩ := hI
    rw [show vs.length = rows.length by rw [lvs, sys.len], List.take_length] at eps
    have lps : ps.length = B.length := by
      have := congrArg List.length eps
      rw [List.length_map, sys.len] at this
      exact this
    walk_at "rd"
    have hF2G := hF2'.same s4
    have hJ4 := stJ.same _ _ s4 hJG
    have hPl4 := s4 _ _ hPl3
    have hvs4 := hvs3.same s4
    have sH4 := sHG.trans s4
    have hps' : ∀ p ∈ ps, G p.1 = some (.lst (p.2.map iV)) := fun p hp => (hps p hp).1
    clear s4 hF1' hF2' hJG hPl3 hvs3 sHG hN hps
    generalize eG4 : G = G4 at *
    refine r_callS ?_
    walk_at "rd"
    refine ⟨⟨_, SqL.of hPl4⟩, fun D3 hD3 => ?_⟩
    refine lc_list (xs := vs) (fun j G => Same G4 G ∧ G D3 = some (.lst ((marks.take j).map V.bl))) ⟨same_new hD3, upd_same⟩ (fun j G _ hI => SqL.of (hI.1 _ _ hPl4)) (fun j x G hx hI => ?_) (fun G hI => ?_)
    · obtain ⟨sG, hG⟩ := hI
      have hj : j < pl.length := by
        have := (List.getElem?_eq_some_iff.mp hx).1
        omega
      obtain ⟨p, hp⟩ : ∃ p, pl[j]? = some p := ⟨_, List.getElem?_eq_getElem hj⟩
      obtain ⟨xb, hxb, exb⟩ := lpe j p hp
      have hpL : p ∈ L := by rw [← exb]; exact allL xb hxb
      refine ⟨rfl, r_yes (iteT ?_)⟩
      refine r_callK ⟨f2, F2, e2, rfl, (hF2G.same sG).at_, ?_⟩
      walk_at "rd"
      refine (hF2G.same sG).good stJ hpL (stJ.same _ _ sG hJ4) ((hvs4.2 j x p hx hp).same sG) fun G3 s3 => ?_
      refine ⟨_, s3 _ _ hG, by rw [List.length_map, List.length_take]; omega, same_mut (sG.trans s3) hD3, ?_⟩
      rw [upd_same, List.take_add_one, hmark j p hp, List.map_append]
      rfl
    obtain ⟨s5, hMk⟩ := hI
    rw [show vs.length = marks.length by rw [lvs, sys.mlen], List.take_length] at hMk
    have hR5 := s5 _ _ hR
    have hps5 : ∀ p ∈ ps, G p.1 = some (.lst (p.2.map iV)) := fun p hp => s5 _ _ (hps' p hp)
    walk_at "rd"
    refine ⟨D, D3, ps, rows, marks, B.length, k, most, rfl, sys, b1, bl, k4, most4, hR5, eps, hps5, hMk, fun hle H6 pb s6 fpb hB6 => ?_, fun hlt H6 s6 => q.2 hlt H6 (sH4.trans (s5.trans s6))⟩
    have q := q.1 hle
    have sH6 := sH4.trans (s5.trans s6)
    have hF6 := hF2G.same (s5.trans s6)
    have hJ6 := stJ.same _ _ (s5.trans s6) hJ4
    have hPl6 := (s5.trans s6) _ _ hPl4
    have hvs6 := hvs4.same (s5.trans s6)
    have hR6 := s6 _ _ hR5
    have hps6 : ∀ p ∈ ps, H6 p.1 = some (.lst (p.2.map iV)) := fun p hp => s6 _ _ (hps5 p hp)
    have llab : (labS rows marks k).length = B.length := by rw [labS_len, sys.len]
    clear sH4 s5 s6 hF2G hJ4 hPl4 hvs4 hR hR5 hps' hps5 hMk fpb
    walk_at "rd"
    refine ⟨Nat.zero_le _, fun pS hpS => ?_⟩
    have t1 := same_new (o := .lst []) hpS
    have hS0 : (upd H6 pS (.lst [])) pS = some (.lst []) := upd_same
    generalize upd H6 pS (.lst []) = H7 at *
    walk_at "rd"
    refine ⟨Nat.zero_le _, fun pG hpG => ?_⟩
    have t2 := same_new (o := .lst []) hpG
    have hG0 : (upd H7 pG (.lst [])) pG = some (.lst []) := upd_same
    have hS1 := t2 _ _ hS0
    have nSG : pS ≠ pG := ne_of_none hS0 hpG
    have fG6 : H6 pG = none := t1.free hpG
    have t12 := t1.trans t2
    clear t1 t2 hS0 hpG
    generalize upd H7 pG (.lst []) = H8 at *
    walk_at "rd"
    obtain ⟨lab, eLab⟩ : ∃ lab, labS rows marks k = lab := ⟨_, rfl⟩
    have eLM : LMm rows marks k = ⟨(repsF lab rows.length).map fun i => (rows.getD i []).map fun t => lab.getD t 0, 0, goodF (repsF lab rows.length) marks⟩ := by
      unfold LMm
      rw [eLab]
    rw [eLab] at hB6 llab
    have hrl : ∀ j, j ≤ B.length → (repsF lab j).length = (fc (lab.take j)).length := fun j hj => by
      rw [← eLab]
      exact reps_len (labE rows marks k) j (by rw [labE_len, sys.len]; exact hj)
    with_reducible show tFor _ _ _ _ _ _
    refine r_iEnum ?_
    refine r_cons (r_var rfl (r_nil ⟨_, _, rfl, SqL.of (t12 _ _ hB6), ?_⟩))
    refine for_enL (xs := lab.map iV) (fun j σ G => (∃ y11 y12, σ = [some v0, some (sV (abcdG k)), some (.ref f1), some (.ref f2), some (iV most), some (.ref l), some (.ref d2), some (.ref D), some (.ref pb), some (.ref pS), some (.ref pG), y11, y12, none, none, none]) ∧ Same H6 G ∧ (∃ us : List V, G pS = some (.lst us) ∧ DtAll K G us (((repsF lab j).map fun i => (rows.getD i []).map fun t => lab.getD t 0).map rowD)) ∧ G pG = some (.lst ((goodF (repsF lab j) marks).map iV)))
      ⟨⟨_, _, rfl⟩, t12, ⟨[], hS1, .nil⟩, hG0⟩ (fun j σ G _ hI => SqL.of (hI.2.1 _ _ hB6)) (fun j x σ G Tt hx hI hTt => ?_) (fun σ G hI => ?_)
    · obtain ⟨⟨y11, y12, rfl⟩, sG, ⟨us, hS, hus⟩, hG⟩ := hI
      rw [List.getElem?_map] at hx
      obtain ⟨b, hb, rfl⟩ := Option.map_eq_some_iff.mp hx
      have hj : j < B.length := by
        have := (List.getElem?_eq_some_iff.mp hb).1
        omega
      obtain ⟨p, hp⟩ : ∃ p, pl[j]? = some p := ⟨_, List.getElem?_eq_getElem (by omega)⟩
      obtain ⟨xv, hxv⟩ : ∃ xv, vs[j]? = some xv := ⟨_, List.getElem?_eq_getElem (by omega)⟩
      obtain ⟨xb, hxb, exb⟩ := lpe j p hp
      have hpL : p ∈ L := by rw [← exb]; exact allL xb hxb
      have s3 := same_new (o := .tup [V.int (j : Nat), iV b]) hTt
      refine ⟨Tt, _, rfl, SqT.of upd_same, rfl, _, _, rfl, _, _, rfl, rfl, ?_⟩
      have hS3 := s3 _ _ hS
      have hus3 := hus.k (sT_of s3)
      have hG3 := s3 _ _ hG
      have sG3 := sG.trans s3
      clear hS hus hG sG s3
      generalize upd G Tt (.tup [V.int (j : Nat), iV b]) = G5 at *
      have lus : us.length = (fc (lab.take j)).length := by
        have := hus3.len
        rw [List.length_map, List.length_map, hrl j (by omega)] at this
        exact this
      have lus2 : us.length ≤ j := by
        have := fc_len_le (lab.take j)
        rw [List.length_take] at this
        omega
      have elb : lab.getD j 0 = b := by rw [List.getD_eq_getElem?_getD, hb]; rfl
      walk_at "rd"
      refine r_lenL (SqL.of hS3) ?_
      refine r_eqI (i := (b : Int)) (j := (us.length : Int)) ?_
      walk_at "rd"
      refine r_iteD (fun e1 => ?_) (fun e1 => ?_)
      rotate_left
      · have hne : ¬ lab.getD j 0 = (fc (lab.take j)).length := by rw [elb, ← lus]; omega
        refine r_next ⟨⟨_, _, rfl⟩, sG3, ?_⟩
        rw [reps_succ, if_neg hne, List.append_nil]
        exact ⟨⟨us, hS3, hus3⟩, hG3⟩
      have heq : lab.getD j 0 = (fc (lab.take j)).length := by rw [elb, ← lus]; omega
      rw [reps_succ, if_pos heq]
      obtain ⟨pp, hpp⟩ : ∃ pp, ps[j]? = some pp := ⟨_, List.getElem?_eq_getElem (by omega)⟩
      have epp : rows.getD j [] = pp.2 := by
        rw [← eps, List.getD_eq_getElem?_getD, List.getElem?_map, hpp]
        rfl
      obtain ⟨rl, rb⟩ := sys.at_ hj
      rw [epp] at rl rb
      walk_at "rd"
      refine ⟨ty_l (SqL.of hS3), ?_⟩
      walk_at "rd"
      refine r_ixL (SqL.of (sG3 _ _ hR6)) (at_of (j := j) rfl (by unfold refsV; rw [List.getElem?_map, hpp]; rfl)) ?_
      have hRow := sG3 _ _ (hps6 pp (List.mem_of_getElem? hpp))
      walk_at "rd"
      refine ⟨⟨_, SqL.of hRow⟩, fun D5 hD5 => ?_⟩
      refine lc_list (xs := pp.2.map iV) (fun q G => Same G5 G ∧ G D5 = some (.lst (((pp.2.take q).map fun t => lab.getD t 0).map iV))) ⟨same_new hD5, upd_same⟩ (fun q G _ hI => SqL.of (hI.1 _ _ hRow)) (fun q x G hx hI => ?_) (fun G hI => ?_)
      · obtain ⟨sQ, hQ5⟩ := hI
        rw [List.getElem?_map] at hx
        obtain ⟨y, hy, rfl⟩ := Option.map_eq_some_iff.mp hx
        have hyn := rb y (List.mem_of_getElem? hy)
        have hq := (List.getElem?_eq_some_iff.mp hy).1
        obtain ⟨ly, hly⟩ : ∃ ly, lab[y]? = some ly := ⟨_, List.getElem?_eq_getElem (by omega)⟩
        refine ⟨rfl, r_yes (iteT ?_)⟩
        walk_at "rd"
        refine r_ixL (SqL.of (sQ _ _ (sG3 _ _ hB6))) (at_of (j := y) rfl (by rw [List.getElem?_map, hly]; rfl)) ?_
        refine ⟨_, hQ5, by rw [List.length_map, List.length_map, List.length_take]; omega, same_mut sQ hD5, ?_⟩
        rw [upd_same, List.take_add_one, hy, List.map_append, List.map_append]
        show _ = some (HO.lst (_ ++ [iV (lab.getD y 0)]))
        rw [List.getD_eq_getElem?_getD, hly]
        rfl
      obtain ⟨sQ, hQ5⟩ := hI
      rw [List.length_map, List.take_length] at hQ5
      walk_at "rd"
      refine r_tupL (SqL.of hQ5) (fun t5 ht5 => ?_)
      have s6 := same_new (o := .tup ((pp.2.map fun t => lab.getD t 0).map iV)) ht5
      have hT5 : (upd G t5 (.tup ((pp.2.map fun t => lab.getD t 0).map iV))) t5 = some (.tup ((pp.2.map fun t => lab.getD t 0).map iV)) := upd_same
      have s56 := sQ.trans s6
      have hS6 := s56 _ _ hS3
      have hG6 := s56 _ _ hG3
      have hus6 := hus3.k (sT_of s56)
      have sG6 := sG3.trans s56
      clear s6 s56 sQ hQ5 hS3 hG3 hus3 sG3
      generalize upd G t5 (.tup ((pp.2.map fun t => lab.getD t 0).map iV)) = G7 at *
      walk_at "rd"
      refine r_append hS6 (by omega) ?_
      have sT : SameT G7 (upd G7 pS (.lst (us ++ [V.ref t5]))) := SameT.lst hS6
      have hT7 := sT.sq (K := K) (SqT.of hT5)
      have hus7 := hus6.k sT
      have hS7 : (upd G7 pS (.lst (us ++ [V.ref t5]))) pS = some (.lst (us ++ [V.ref t5])) := upd_same
      have hG7 : (upd G7 pS (.lst (us ++ [V.ref t5]))) pG = some (.lst ((goodF (repsF lab j) marks).map iV)) := (upd_ne nSG.symm).trans hG6
      have sG7 := same_mut (o := .lst (us ++ [V.ref t5])) sG6 hpS
      have dus : DtAll K (upd G7 pS (.lst (us ++ [V.ref t5]))) (us ++ [V.ref t5]) (((repsF lab j ++ [j]).map fun i => (rows.getD i []).map fun t => lab.getD t 0).map rowD) := by
        rw [List.map_append, List.map_append]
        refine hus7.snoc ?_
        show Dt K _ (.ref t5) (rowD ((rows.getD j []).map fun t => lab.getD t 0))
        rw [epp]
        exact .tup hT7 (ofNats _)
      clear hus6 hus7 hS6 hG6 sG6 hT7 sT hT5
      generalize upd G7 pS (.lst (us ++ [V.ref t5])) = G8 at *
      walk_at "rd"
      refine r_callK ⟨f2, F2, e2, rfl, (hF6.same sG7).at_, ?_⟩
      walk_at "rd"
      refine r_ixL (SqL.of (sG7 _ _ hPl6)) (at_of (j := j) rfl hxv) ?_
      refine (hF6.same sG7).good stJ hpL (stJ.same _ _ sG7 hJ6) ((hvs6.2 j xv p hxv hp).same sG7) fun G9 s9 => ?_
      have emk : marks.getD j false = gd p := by rw [List.getD_eq_getElem?_getD, hmark j p hp]; rfl
      rw [goodF_snoc, emk]
      have lr : (repsF lab j).length = b := by rw [hrl j (by omega), ← heq, elb]
      cases hgd : gd p with
      | true =>
        walk_at "rd"
        refine ⟨ty_l (SqL.of (s9 _ _ hG7)), ?_⟩
        walk_at "rd"
        refine r_append (s9 _ _ hG7) ?_ ?_
        · rw [List.length_map]
          have : (goodF (repsF lab j) marks).length ≤ (repsF lab j).length := by
            unfold goodF
            have := List.length_filter_le (fun k => marks.getD ((repsF lab j).getD k 0) false) (List.range (repsF lab j).length)
            rw [List.length_range] at this
            exact this
          have := fc_len_le (lab.take j)
          rw [List.length_take] at this
          rw [hrl j (by omega)] at *
          omega
        · refine ⟨⟨_, _, rfl⟩, same_mut (sG7.trans s9) fG6, ⟨_, (upd_ne nSG).trans (s9 _ _ hS7), (dus.k (sT_of s9)).k (SameT.lst (s9 _ _ hG7))⟩, ?_⟩
          rw [upd_same, if_pos rfl, List.map_append, lr]
          rfl
      | false =>
        walk_at "rd"
        refine ⟨⟨_, _, rfl⟩, sG7.trans s9, ⟨_, s9 _ _ hS7, dus.k (sT_of s9)⟩, ?_⟩
        rw [if_neg Bool.false_ne_true, List.append_nil]
        exact s9 _ _ hG7
    · obtain ⟨⟨y11, y12, rfl⟩, sG, ⟨us, hS, hus⟩, hG⟩ := hI
      rw [List.length_map, llab, ← sys.len] at hus hG
      walk_at "rd"
      refine r_tupL (SqL.of hS) (fun t1 ht1 => ?_)
      have s1 := same_new (o := .tup us) ht1
      walk_at "rd"
      refine r_tupL (SqL.of (s1 _ _ hG)) (fun t2 ht2 => ?_)
      have s2 := same_new (o := .tup ((goodF (repsF lab rows.length) marks).map iV)) ht2
      refine ⟨ln3, fun t3 ht3 => ?_⟩
      have s3 := same_new (o := .tup [V.ref t1, V.int 0, V.ref t2]) ht3
      refine q _ _ (sH6.trans (sG.trans (s1.trans (s2.trans s3)))) ?_
      rw [eLM]
      refine .tup (SqT.of upd_same) (.cons ?_ (.cons (.int 0) (.cons ?_ .nil)))
      · exact .tup (SqT.of (s3 _ _ (s2 _ _ upd_same))) (hus.k (sT_of (s1.trans (s2.trans s3))))
      · exact .tup (SqT.of (s3 _ _ upd_same)) (ofNats _)

end

section
variable {P : Program} {w : World} {K : PySem.W.Frag} {mg : Str → Option Value} {base : Heap} {a : Ad}
theorem sT_del {H : Hp} {cs : List Addr} (hc : ∀ c ∈ cs, ∃ o v, H c = some (CellF o c v)) : SameT H (delH H cs) := fun b => ⟨fun xs e => delH_keep hc e (fun _ _ z => nomatch z), fun o xs e => delH_keep hc e (fun _ _ z => nomatch z)⟩
theorem steady_mac (K : PySem.W.Frag) (v : V) (d : PyData) : Steady fun H => Dt K H v d := ⟨fun H H' s h => h.k (sT_of s), fun H cs hc h => h.k (sT_del hc)⟩
def spLamS (K : PySem.W.Frag) : List (Option V) → Sp := fun ws vs H Q _ => ∃ (v : V) (M : Mac) (n m s c : Nat), ws = [some v] ∧ vs = [iV s, sV [97 + c]] ∧ Dt K H v (macD M) ∧ MacOk M n m ∧ m ≤ 4 ∧ s < n ∧ c < m ∧ Q (iV (stepM M s (97 + c))) H
theorem lok_least_0 (T : Txt K mg a) {f : Addr} {F : NdefX.NF} (h1 : F.scope = eLamScope lam_least_0) (h2 : F.params = eLamArgs lam_least_0) :
    LOk P w K mg base CX0 6 f F (eLamBody lam_least_0) ["state", "letter"] ["machine"] (spLamS K) := by
  obtain ⟨nm, qual, params, body, scope, cl, c⟩ := F
  obtain rfl : scope = _ := h1
  obtain rfl : params = _ := h2
  have G_lead := ok_lead (P := P) (w := w) (base := base) T
  refine lok_of (k := 5) (N := ["state", "letter", "machine"]) nsc_least_0 (fun pm ctv us hl => match us, hl with | [_, _], _ => rfl) (fun ws vs H Q E h => ?_) (fun A outer s H vs ws Q E hr hw h => ?_)
  · obtain ⟨v, M, n, m, s, c, _, rfl, _⟩ := h
    rfl
  · obtain ⟨v, M, n, m, s0, c, rfl, rfl, hM, ok, m4, hs, hcm, q⟩ := h
    refine ⟨_, (pe_call (G_lead) (hr.mono (by first | decide | omega)) (by rfl) T.g_lead T.F_lead.kp T.b_lead .nil pass0 (pa_cons (pv 2) (pa_cons (pv 0) (pa_cons (pv 1) pa_nil)))), ?_⟩
    walk_at "rd"
    exact ⟨v, M, n, m, s0, [97 + c], rfl, hM, ok, m4, hs, (fun d hd => by rw [List.mem_singleton.mp hd]; omega), q⟩
def spLamG (K : PySem.W.Frag) : List (Option V) → Sp := fun ws vs H Q _ => ∃ (v : V) (M : Mac) (n m s : Nat), ws = [some v] ∧ vs = [iV s] ∧ Dt K H v (macD M) ∧ MacOk M n m ∧ s < n ∧ Q (.bl (decide (s ∈ M.good))) H
theorem lok_least_1 (T : Txt K mg a) {f : Addr} {F : NdefX.NF} (h1 : F.scope = eLamScope lam_least_1) (h2 : F.params = eLamArgs lam_least_1) :
    LOk P w K mg base CX0 6 f F (eLamBody lam_least_1) ["state"] ["machine"] (spLamG K) := by
  obtain ⟨nm, qual, params, body, scope, cl, c⟩ := F
  obtain rfl : scope = _ := h1
  obtain rfl : params = _ := h2
  refine lok_of (k := 5) (N := ["state", "machine"]) nsc_least_1 (fun pm ctv us hl => match us, hl with | [_], _ => rfl) (fun ws vs H Q E h => ?_) (fun A outer s H vs ws Q E hr hw h => ?_)
  · obtain ⟨v, M, n, m, s, _, rfl, _⟩ := h
    rfl
  · obtain ⟨v, M, n, m, s0, rfl, rfl, hM, ok, hs, q⟩ := h
    obtain ⟨pa, st, gd, rows, rfl, hA, hSt, hRows, hGd⟩ := macE hM
    refine ⟨_, (pe_cmpR (op_inK (K := K) rfl) (pv 0) (pe_ix (ix_tupK (K := K) rfl) (pv 1) pe_int (fun _ _ => rfl)) (by rfl)), ?_⟩
    walk_at "rd"
    refine r_ixT hA (at_of (j := 2) rfl rfl) ?_
    exact r_in hGd q
def spLeast (K : PySem.W.Frag) (a : Ad) : Sp := fun vs H Q _ => ∃ (v : V) (M : Mac) (n m : Nat), vs = [v] ∧ Dt K H v (macD M) ∧ MacOk M n m ∧ 1 ≤ n ∧ n ≤ 4000 ∧ m ≤ 4 ∧ LamX.Tabs (tabsOf a) H ∧
  ∀ (H' : Hp) (v' : V) (i : Nat), ExD H H' → LamX.Tabs (tabsOf a) H' → (bfs (stp1 M) m [M.start] i).length ≤ i → Dt K H' v' (macD (LMa M m i)) → Q v' H'
theorem lam_one {P : Program} {w : World} {K : PySem.W.Frag} {mg : Str → Option Value} {base : Heap} {f : Addr} {F : NdefX.NF} {e : Expr} {C : Clo} {cs : List Addr} {H1 H2 : Hp} {SP : Sp} {ps : List Str} {spL : List (Option V) → Sp} (s : Same H1 H2) (h1 : H1 f = some (LamO f F e)) (h2 : H1 F.c = some (LamX.CodeO F.c F.qual))
    (e1 : C.cl = F.cl) (hc : CloH C H2) (hcs : ∀ c ∈ cs, H1 c = none ∧ ∃ o v, H2 c = some (CellF o c v)) (hs : ∀ y c, C.cl.lookup y = some c → c ∈ cs) (lk : LOk P w K mg base CX0 6 f F e ps C.fr spL) (im : ∀ vs G R E, SP vs G R E → spL C.ws vs G R E) : LamK P w K mg base f F e C cs H2 SP :=
  ⟨s _ _ h1, s _ _ h2, e1, hc, fun c h => (hcs c h).2, hs, ps, spL, lk, im⟩
theorem ok_least (T : Txt K mg a) (B : Tbl mg base a) : FnOk P w K mg base CX0 10 a.f_least a.d_least ["machine"] (spLeast K a) := by
  have G_lead := ok_lead (P := P) (w := w) (base := base) T
  have G_least_from := ok_least_from (P := P) (w := w) (base := base) T
  have G_letters_of := ok_letters_of (P := P) (w := w) (base := base) T
  refine T.F_least.ok sc_least (fun vs H Q E h => ?_) (fun A outer s H vs Q E hr h => ?_)
  · obtain ⟨v, M, n, m, rfl, _⟩ := h
    rfl
  · obtain ⟨v, M, n, m, rfl, hM, ok, n1, n40, m4, hTb, q⟩ := h
    obtain ⟨pa, st, gd, rows, rfl, hA, hSt, hRows, hGd⟩ := macE hM
    have hrl : rows.length = n := by
      have := hRows.len
      rw [List.length_map, ok.len] at this
      exact this
    refine ⟨_, (pss_one (ps_ret (pe_callO (own := fun σ => [⟨cloFrom (envOfC "least" (defScope s_least) s.heap.objs.size a.f_least (.ref a.c_least)).cells (eLamScope lam_least_0).names [], ["machine"], [0].map (NdefX.slotAt σ)⟩, ⟨cloFrom (envOfC "least" (defScope s_least) s.heap.objs.size a.f_least (.ref a.c_least)).cells (eLamScope lam_least_1).names [], ["machine"], [0].map (NdefX.slotAt σ)⟩]) (G_least_from) delXX (own_cons (scope := eLamScope lam_least_0) (js := [0]) (fr := ["machine"]) (fun _ => rfl) (show NdefX.ndefB (defScope s_least) (eLamScope lam_least_0) ["machine"] = true from by decide +kernel) (by decide +kernel) (by rfl) (own_cons (scope := eLamScope lam_least_1) (js := [0]) (fr := ["machine"]) (fun _ => rfl) (show NdefX.ndefB (defScope s_least) (eLamScope lam_least_1) ["machine"] = true from by decide +kernel) (by decide +kernel) (by rfl) own_nil)) (hr.mono (by first | decide | omega)) (by rfl) T.g_least_from T.F_least_from.kp T.b_least_from (fun σ => passAt takes0 σ) (pa_cons (pe_ix (ix_tupK (K := K) rfl) (pv 0) pe_int (fun _ _ => rfl)) (pa_cons (pe_call (G_letters_of) (hr.mono (by first | decide | omega)) (by rfl) T.g_letters_of T.F_letters_of.kp T.b_letters_of .nil pass0 (pa_cons (pv 0) pa_nil)) (pa_cons (pe_lamD (T := tabsOf a) B.t_least rfl (m_least a) B.u_least (by rfl) (NdefX.ndef_free (sc := defScope s_least) (nsc := eLamScope lam_least_0) (fr := ["machine"]) (by decide +kernel))) (pa_cons (pe_lamD (T := tabsOf a) B.t_least rfl (m_least a) B.u_least (by rfl) (NdefX.ndef_free (sc := defScope s_least) (nsc := eLamScope lam_least_1) (fr := ["machine"]) (by decide +kernel))) (pa_cons (pe_callB (call_lenQK (K := K) rfl) (by rfl) T.z_len (by decide +kernel) (pa_cons (pe_ix (ix_tupK (K := K) rfl) (pv 0) pe_int (fun _ _ => rfl)) pa_nil)) pa_nil)))))))), ?_⟩
    walk_at "rd"
    refine r_callO ?_
    walk_at "rd"
    refine r_ixT hA (at_of (j := 1) rfl rfl) ?_
    walk_at "rd"
    refine ⟨.ref pa, M, n, m, rfl, hM, ok, n1, m4, ?_⟩
    walk_at "rd"
    refine r_lamD hTb (fun g0 c0 H1 x1 t1 fr1 l1 k1 => ?_)
    walk_at "rd"
    refine r_lamD t1 (fun g1 c1 H2 x2 t2 fr2 l2 k2 => ?_)
    walk_at "rd"
    have x12 := x1.trans x2
    refine r_ixT (x12.sqT hA) (at_of (j := 0) rfl rfl) ?_
    walk_at "rd"
    refine r_lenT (x12.sqT hSt) ?_
    rw [hrl]
    have l1' := x2.keep l1 fun ps => lamO_ne ps
    have k1' := x2.keep k1 fun ps z => by unfold LamX.CodeO at z; exact nomatch z
    refine ⟨fun C hC i hi => ?_, rfl, fun H3 cs s3 hcs hout hclo hsub => ?_⟩
    · have one : ∀ C : Clo, C.fr.length = 1 → C.ws = [some (.ref pa)] → ∀ i, i < C.fr.length → ∃ v, C.ws[i]? = some (some v) := fun C h1 h2 i hi => by
        have : i = 0 := by omega
        subst this
        exact ⟨_, by rw [h2]; rfl⟩
      rcases List.mem_cons.mp hC with rfl | hC
      · exact one _ rfl rfl i hi
      · rcases List.mem_cons.mp hC with rfl | hC
        · exact one _ rfl rfl i hi
        · exact nomatch hC
    have hM3 := hM.k (x12.sT.trans (sT_of s3))
    have clo0 := hclo _ List.mem_cons_self
    have clo1 := hclo _ (List.mem_cons_of_mem _ List.mem_cons_self)
    have sub0 := hsub _ List.mem_cons_self
    have sub1 := hsub _ (List.mem_cons_of_mem _ List.mem_cons_self)
    have L0 := lam_one (P := P) (w := w) (mg := mg) (base := base) (SP := stepK .i (stp1 M) m (sing n) fun H => Dt K H (.ref pa) (macD M)) s3 l1' k1' rfl clo0 hcs sub0 (lok_least_0 T rfl rfl) fun vs G R E h => by
      obtain ⟨v, r, c, rfl, hr', hc, hJ, hv, rfl, h⟩ := h
      obtain ⟨s, hs, rfl⟩ := sing_mem.mp hr'
      obtain ⟨z, ez, rfl⟩ := hv
      obtain rfl : s = z := by injection ez
      exact ⟨.ref pa, M, n, m, s, c, rfl, rfl, hJ, ok, m4, hs, hc, h G _ [stepM M s (97 + c)] (fun _ _ z => z) rfl ⟨_, rfl, rfl⟩⟩
    have L1 := lam_one (P := P) (w := w) (mg := mg) (base := base) (SP := goodK .i (gd1 M) (sing n) fun H => Dt K H (.ref pa) (macD M)) s3 l2 k2 rfl clo1 hcs sub1 (lok_least_1 T rfl rfl) fun vs G R E h => by
      obtain ⟨v, r, rfl, hr', hJ, hv, rfl, h⟩ := h
      obtain ⟨s, hs, rfl⟩ := sing_mem.mp hr'
      obtain ⟨z, ez, rfl⟩ := hv
      obtain rfl : s = z := by injection ez
      exact ⟨.ref pa, M, n, m, s, rfl, rfl, hJ, ok, hs, h G (fun _ _ z => z)⟩
    have oL : [M.start] ∈ sing n := sing_mem.mpr ⟨_, ok.start, rfl⟩
    have hfree : ∀ c ∈ cs, H c = none := fun c hc => x12.free (hcs c hc).1
    refine ⟨.i, g0, _, _, _, cs, g1, _, _, _, cs, stp1 M, gd1 M, m, n, iV M.start, [M.start], _, sing n, rfl, L0, L1, m4, n40, ⟨_, rfl, rfl⟩, hM3, steady_mac K _ _, stp1_tot M, oL, sing_cl ok, by rw [sing_len]; exact n40, fun i hi => ⟨fun _ H4 v' s4 hv' => ?_, fun hlt => ?_⟩⟩
    · have hc4 : ∀ c ∈ cs, ∃ o v, H4 c = some (CellF o c v) := fun c hc => by
        obtain ⟨_, o, v, z⟩ := hcs c hc
        exact ⟨o, v, s4 _ _ z⟩
      exact q _ v' i (exd_del (x12.same (s3.trans s4)) hfree) (tabs_del (t2.same (s3.trans s4)) hc4) hi (hv'.k (sT_del hc4))
    · exfalso
      have h1 : ncl (rowsB (stp1 M) m (bfs (stp1 M) m [M.start] i)) ((bfs (stp1 M) m [M.start] i).map fun p => gd1 M p.1) m ≤ (rowsB (stp1 M) m (bfs (stp1 M) m [M.start] i)).length := ncl_le
      have h2 : (rowsB (stp1 M) m (bfs (stp1 M) m [M.start] i)).length = (bfs (stp1 M) m [M.start] i).length := by unfold rowsB; rw [List.length_map]
      have h3 := bfs_len oL (sing_cl ok) i
      rw [sing_len] at h3
      omega

end

section
variable {P : Program} {w : World} {K : PySem.W.Frag} {mg : Str → Option Value} {base : Heap} {a : Ad}
theorem ok_l_cell (T : Txt K mg a) : FnOk P w K mg base CX0 1 a.f_l_cell a.d_l_cell ["script", "k"] (spCellG K) := by
  refine T.F_l_cell.ok sc_l_cell (fun vs H Q E h => ?_) (fun cdv A outer s H vs Q E hr h => ?_)
  · obtain ⟨l, ns, k, rfl, _⟩ := h
    rfl
  · obtain ⟨l, ns, k, rfl, hS, h0, q⟩ := h
    refine ⟨_, (pss_cons (ps_if (pt_cmpR op_lt (pv 1) (pe_callB (call_lenQK (K := K) rfl) (by rfl) T.z_len (by decide +kernel) (pa_cons (pv 0) pa_nil)) (nomark _)) (pss_one (ps_ret (pe_ix (ix_listK (K := K) rfl) (pv 0) (pv 1) (fun _ _ => rfl)))) pss_nil)
      (pss_one (ps_ret pe_int))), ?_⟩
    walk_at "rd"
    refine r_lenL hS ?_
    walk_at "rd"
    rw [List.length_map]
    refine r_iteD (fun hk => ?_) (fun hk => ?_)
    · walk_at "rd"
      have hk' : k.toNat < ns.length := by omega
      refine r_ixL hS (at_of (j := k.toNat) (by omega) (by rw [List.getElem?_map, List.getElem?_eq_getElem hk']; rfl)) ?_
      have e : cellV ns k = ns[k.toNat] := by unfold cellV; rw [List.getD_eq_getElem?_getD, List.getElem?_eq_getElem hk']; rfl
      rw [e] at q
      exact q
    · walk_at "rd"
      have e : cellV ns k = 0 := by unfold cellV; rw [List.getD_eq_getElem?_getD, List.getElem?_eq_none (by omega)]; rfl
      rw [e] at q
      exact q

theorem ok_l_numbers (T : Txt K mg a) : FnOk P w K mg base CX0 1 a.f_l_numbers a.d_l_numbers ["cell", "count"] (spNums K) := by
  refine T.F_l_numbers.ok sc_l_numbers (fun vs H Q E h => ?_) (fun cdv A outer s H vs Q E hr h => ?_)
  · obtain ⟨c, n, rfl, _⟩ := h
    rfl
  · obtain ⟨c, n, rfl, hn, q⟩ := h
    refine ⟨_, (pss_cons (ps_set (i := 2) sc_l_numbers.nd rfl (Or.inl rfl) (pe_lst pa_nil))
      (pss_cons (ps_if (pt_cmpR op_ge (pv 0) (pe_op op_pow pe_int pe_int) (nomark _)) (pss_cons (ps_for PassesOwn.never rfl (pi_range1 (by rfl) T.z_range (pa_cons (pv 1) pa_nil)) (pg_name (i := 3) sc_l_numbers.nd rfl (Or.inl rfl)) (pss_cons (ps_expr (bmK (K := K) rfl (pe_bm PySem.F.plainAttrs_list PySem.F.slot_list_append PySem.F.type_list_append mt_append (pv 2) (pa_cons (pe_op op_mod (pe_callTy call_int1' (by rfl) T.z_int (by decide +kernel) (pa_cons (pv 0) pa_nil)) pe_int) pa_nil))))
      (pss_one (ps_set (i := 0) sc_l_numbers.nd rfl (Or.inl rfl) (pe_op op_fdiv (pv 0) pe_int)))))
      (pss_one (ps_ret (pv 2)))) pss_nil)
      (pss_cons (ps_set (i := 4) sc_l_numbers.nd rfl (Or.inl rfl) (pe_op op_mod (pe_callTy call_int1' (by rfl) T.z_int (by decide +kernel) (pa_cons (pv 0) pa_nil)) pe_int))
      (pss_cons (ps_for PassesOwn.never rfl (pi_range1 (by rfl) T.z_range (pa_cons (pv 1) pa_nil)) (pg_name (i := 3) sc_l_numbers.nd rfl (Or.inl rfl)) (pss_cons (ps_set (i := 4) sc_l_numbers.nd rfl (Or.inl rfl) (pe_op op_mod (pe_callTy call_int1' (by rfl) T.z_int (by decide +kernel) (pa_cons (pe_op op_add (pe_op op_mul (pv 4) pe_int) (pe_op op_mul pe_int (pe_op op_add (pv 3) pe_int))) pa_nil)) pe_int))
      (pss_one (ps_expr (bmK (K := K) rfl (pe_bm PySem.F.plainAttrs_list PySem.F.slot_list_append PySem.F.type_list_append mt_append (pv 2) (pa_cons (pe_op op_mod (pe_op op_fdiv (pv 4) pe_int) pe_int) pa_nil)))))))
      (pss_one (ps_ret (pv 2))))))), ?_⟩
    have zl : (sizeLine : Nat) = 16777216 := by decide
    walk_at "rd"
    refine ⟨by decide, fun p hp => ?_⟩
    walk_at "rd"
    refine r_iteD (fun _ => ?_) (fun _ => ?_)
    · walk_at "rd"
      refine r_rng1' (by omega) (by omega) ?_
      rw [Int.toNat_natCast]
      refine for_range (lo := 0) (n := n) (fun i σ H' => ∃ c' ns y3, σ = [some (.int c'), some (.int (n : Int)), some (.ref p), y3, none] ∧ Same H H' ∧ H' p = some (.lst (ns.map V.int)) ∧ ns.length = i ∧ ∀ z ∈ ns, 0 ≤ z ∧ z < 1000)
        ⟨c, [], none, rfl, same_new hp, upd_same, rfl, fun z hz => nomatch hz⟩ (fun i σ H' hi hP => ?_) (fun σ H' hP => ?_)
      · obtain ⟨c', ns, y3, rfl, sm, hN, hl, hz⟩ := hP
        walk_at "rd"
        refine ⟨ty_l (SqL.of hN), ?_⟩
        walk_at "rd"
        refine r_append hN (by rw [List.length_map]; omega) ?_
        walk_at "rd"
        refine ⟨_, ns ++ [c' % 1000], _, rfl, same_mut sm hp, by rw [upd_same, List.map_append]; rfl, by rw [List.length_append, hl]; rfl, fun z h => ?_⟩
        rcases List.mem_append.mp h with h | h
        · exact hz z h
        · rw [List.mem_singleton.mp h]; exact emod_rng _ (by decide)
      · obtain ⟨c', ns, y3, rfl, sm, hN, hl, hz⟩ := hP
        walk_at "rd"
        exact q H' p ns sm hp hN hl hz
    · walk_at "rd"
      refine r_rng1' (by omega) (by omega) ?_
      rw [Int.toNat_natCast]
      refine for_range (lo := 0) (n := n) (fun i σ H' => ∃ m ns y3, σ = [some (.int c), some (.int (n : Int)), some (.ref p), y3, some (.int m)] ∧ Same H H' ∧ H' p = some (.lst (ns.map V.int)) ∧ ns.length = i ∧ ∀ z ∈ ns, 0 ≤ z ∧ z < 1000)
        ⟨_, [], none, rfl, same_new hp, upd_same, rfl, fun z hz => nomatch hz⟩ (fun i σ H' hi hP => ?_) (fun σ H' hP => ?_)
      · obtain ⟨m, ns, y3, rfl, sm, hN, hl, hz⟩ := hP
        walk_at "rd"
        refine ⟨ty_l (SqL.of hN), ?_⟩
        walk_at "rd"
        refine r_append hN (by rw [List.length_map]; omega) ?_
        refine ⟨_, ns ++ [_ / 7 % 1000], _, rfl, same_mut sm hp, by rw [upd_same, List.map_append]; rfl, by rw [List.length_append, hl]; rfl, fun z h => ?_⟩
        rcases List.mem_append.mp h with h | h
        · exact hz z h
        · rw [List.mem_singleton.mp h]; exact emod_rng _ (by decide)
      · obtain ⟨m, ns, y3, rfl, sm, hN, hl, hz⟩ := hP
        walk_at "rd"
        exact q H' p ns sm hp hN hl hz

end

section
variable {P : Program} {w : World} {K : PySem.W.Frag} {mg : Str → Option Value} {base : Heap} {a : Ad}
theorem ok_l_action (T : Txt K mg a) : FnOk P w K mg base CX0 1 a.f_l_action a.d_l_action ["numbers", "count"] (spAction K) := by
  refine T.F_l_action.ok sc_l_action (fun vs H Q E h => ?_) (fun cdv A outer s H vs Q E hr h => ?_)
  · obtain ⟨p, ns, n, rfl, _⟩ := h
    rfl
  · obtain ⟨pn, ns, n, rfl, hS, h12, h1, h10, q⟩ := h
    have zl : (sizeLine : Nat) = 16777216 := by decide
    have hn0 : (0 : Int) < (n : Int) := by omega
    refine ⟨_, (pss_cons (ps_set (i := 2) sc_l_action.nd rfl (Or.inl rfl) (pe_op op_mod (pe_ix (ix_listK (K := K) rfl) (pv 0) pe_int (fun _ _ => rfl)) pe_int))
      (pss_cons (ps_if (pt_cmpR op_eq (pv 2) pe_int (nomark _)) (pss_one (ps_ret (pe_op op_rep (pe_lst (pa_cons (pe_op op_mod (pe_ix (ix_listK (K := K) rfl) (pv 0) pe_int (fun _ _ => rfl)) (pv 1)) pa_nil)) (pv 1)))) pss_nil)
      (pss_cons (ps_if (pt_cmpR op_eq (pv 2) pe_int (nomark _)) (pss_one (ps_ret (pe_lc (own := [("k", 4)]) (g := gName 4) (tt := tYes) rfl sc_l_action.nd (pi_range1 (by rfl) T.z_range (pa_cons (pv 1) pa_nil)) (blkOk_by (N := N_l_action) (sc := (defScope s_l_action)) (by decide +kernel)) (fun _ _ _ _ _ => pg_name (i := 4) sc_l_action.nd rfl (by first | exact Or.inl rfl | exact Or.inr rfl)) (fun _ _ _ _ _ => pts_nil) (fun _ _ _ _ _ => (pe_op op_mod (pe_ix (ix_listK (K := K) rfl) (pv 0) (pe_op op_add pe_int (pv 4)) (fun _ _ => rfl)) (pv 1)))))) pss_nil)
      (pss_cons (ps_if (pt_cmpR op_eq (pv 2) pe_int (nomark _)) (pss_one (ps_ret (pe_callB (cr_sortedK (K := K) rfl) (by rfl) T.z_sorted (by decide +kernel) (pa_cons (pe_lc (own := [("k", 4)]) (g := gName 4) (tt := tYes) rfl sc_l_action.nd (pi_range1 (by rfl) T.z_range (pa_cons (pv 1) pa_nil)) (blkOk_by (N := N_l_action) (sc := (defScope s_l_action)) (by decide +kernel)) (fun _ _ _ _ _ => pg_name (i := 4) sc_l_action.nd rfl (by first | exact Or.inl rfl | exact Or.inr rfl)) (fun _ _ _ _ _ => pts_nil) (fun _ _ _ _ _ => (pe_op op_mod (pe_ix (ix_listK (K := K) rfl) (pv 0) (pe_op op_add pe_int (pv 4)) (fun _ _ => rfl)) (pv 1)))) pa_nil)))) pss_nil)
      (pss_cons (ps_set (i := 3) sc_l_action.nd rfl (Or.inl rfl) (pe_listRg rfl (by rfl) T.z_list (prg_1 (by rfl) T.z_range (pv 1))))
      (pss_cons (ps_for PassesOwn.never rfl (pi_range1 (by rfl) T.z_range (pa_cons (pv 1) pa_nil)) (pg_name (i := 4) sc_l_action.nd rfl (Or.inl rfl)) (pss_cons (ps_set (i := 5) sc_l_action.nd rfl (Or.inl rfl) (pe_op op_mod (pe_ix (ix_listK (K := K) rfl) (pv 0) (pe_op op_add pe_int (pv 4)) (fun _ _ => rfl)) (pv 1)))
      (pss_cons (ps_set (i := 6) sc_l_action.nd rfl (Or.inl rfl) (pe_ix (ix_listK (K := K) rfl) (pv 3) (pv 4) (fun _ _ => rfl)))
      (pss_cons (ps_asg (pe_ix (ix_listK (K := K) rfl) (pv 3) (pv 5) (fun _ _ => rfl)) (pg_sub (pv 3) (pv 4) set_list))
      (pss_one (ps_asg (pv 6) (pg_sub (pv 3) (pv 5) set_list)))))))
      (pss_cons (ps_if (pt_cmpR op_eq (pv 2) pe_int (nomark _)) (pss_one (ps_asg (pe_ix (ix_listK (K := K) rfl) (pv 3) (pe_op op_mod (pe_ix (ix_listK (K := K) rfl) (pv 0) pe_int (fun _ _ => rfl)) (pv 1)) (fun _ _ => rfl)) (pg_sub (pv 3) (pe_op op_mod (pe_ix (ix_listK (K := K) rfl) (pv 0) pe_int (fun _ _ => rfl)) (pv 1)) set_list))) pss_nil)
      (pss_one (ps_ret (pv 3)))))))))), ?_⟩
    walk_at "rd"
    refine r_ixL hS (at_int (by decide) (by omega)) ?_
    walk_at "rd"
    refine r_iteD (fun _ => ?_) (fun _ => ?_)
    · walk_at "rd"
      refine r_ixL hS (at_int (by decide) (by omega)) ?_
      walk_at "rd"
      refine ⟨ln1, fun p hp => ?_⟩
      walk_at "rd"
      refine ⟨p, (n : Int), _, rfl, rfl, upd_same, by omega, by omega, ?_, fun p2 hp2 => ?_⟩
      · show 1 * (n : Int).toNat ≤ sizeLine
        omega
      · refine q _ p2 (List.replicate n _) ((same_new hp).trans (same_new hp2)) ((same_new hp).free hp2) ?_ (Dr.rep (emod_rng (ns.getD 1 0) hn0).1 (emod_rng _ hn0).2)
        rw [upd_same, Int.toNat_natCast, rep_flat]
        rfl
    walk_at "rd"
    refine r_iteD (fun _ => ?_) (fun _ => ?_)
    · walk_at "rd"
      refine r_rng1' (by omega) (by omega) ?_
      rw [Int.toNat_natCast]
      intro D hD
      refine lc_range (lo := 0) (n := n) (fun i G => Same H G ∧ ∃ ms, G D = some (.lst (ms.map V.int)) ∧ Dr i n ms) ⟨same_new hD, [], upd_same, .nil⟩ (fun i G hi hP => ?_) (fun G hP => ?_)
      · obtain ⟨sG, ms, hG, hd⟩ := hP
        refine ⟨rfl, r_yes (iteT ?_)⟩
        walk_at "rd"
        refine r_ixL (sG.seq hS) (at_int (by omega) (by omega)) ?_
        walk_at "rd"
        refine ⟨_, hG, by rw [List.length_map, hd.1]; omega, same_mut sG hD, ms ++ [ns.getD (2 + (0 + (i : Int))).toNat 0 % (n : Int)], ?_, hd.app (emod_rng _ hn0).1 (emod_rng _ hn0).2⟩
        rw [upd_same, List.map_append]
        rfl
      · obtain ⟨sG, ms, hG, hd⟩ := hP
        exact q G D ms sG hD hG hd
    walk_at "rd"
    refine r_iteD (fun _ => ?_) (fun _ => ?_)
    · walk_at "rd"
      refine r_rng1' (by omega) (by omega) ?_
      rw [Int.toNat_natCast]
      intro D hD
      refine lc_range (lo := 0) (n := n) (fun i G => Same H G ∧ ∃ ms, G D = some (.lst (ms.map V.int)) ∧ Dr i n ms) ⟨same_new hD, [], upd_same, .nil⟩ (fun i G hi hP => ?_) (fun G hP => ?_)
      · obtain ⟨sG, ms, hG, hd⟩ := hP
        refine ⟨rfl, r_yes (iteT ?_)⟩
        walk_at "rd"
        refine r_ixL (sG.seq hS) (at_int (by omega) (by omega)) ?_
        walk_at "rd"
        refine ⟨_, hG, by rw [List.length_map, hd.1]; omega, same_mut sG hD, ms ++ [ns.getD (2 + (0 + (i : Int))).toNat 0 % (n : Int)], ?_, hd.app (emod_rng _ hn0).1 (emod_rng _ hn0).2⟩
        rw [upd_same, List.map_append]
        rfl
      · obtain ⟨sG, ms, hG, hd⟩ := hP
        walk_at "rd"
        refine ⟨D, ms, rfl, SqL.of hG, by rw [hd.1]; omega, fun ms' p2 hpm _ hp2 => ?_⟩
        exact q _ p2 ms' (sG.trans (same_new hp2)) (sG.free hp2) upd_same (hd.perm hpm)
    walk_at "rd"
    refine r_lstRg1 (j := (n : Int)) (by omega) (by omega) (fun pa hpa => ?_) ⟨_, rfl, rfl, rfl⟩ (fun R R' h1 h2 => ?_)
    rotate_left
    · obtain ⟨v, e, h3⟩ := h2
      exact ⟨v, e, h1 _ _ h3⟩
    rw [Int.toNat_natCast]
    walk_at "rd"
    refine r_rng1' (by omega) (by omega) ?_
    rw [Int.toNat_natCast]
    refine for_range (lo := 0) (n := n) (fun i σ G => ∃ sv y4 y5 y6 ms, σ = [some (.ref pn), some (.int (n : Int)), some (.int sv), some (.ref pa), y4, y5, y6] ∧ Same H G ∧ G pa = some (.lst (ms.map V.int)) ∧ Dr n n ms)
      ⟨_, none, none, none, _, rfl, same_new hpa, upd_same, .range n⟩ (fun i σ G hi hP => ?_) (fun σ G hP => ?_)
    · obtain ⟨sv, y4, y5, y6, ms, rfl, sG, hG, hd⟩ := hP
      have hl := hd.1
      walk_at "rd"
      refine r_ixL (sG.seq hS) (at_int (by omega) (by omega)) ?_
      walk_at "rd"
      refine r_ixL (SqL.of hG) (at_int (by omega) (by omega)) ?_
      walk_at "rd"
      have hj := emod_rng (ns.getD (2 + (0 + (i : Int))).toNat 0) hn0
      refine r_ixL (SqL.of hG) (at_int hj.1 (by omega)) ?_
      walk_at "rd"
      refine r_setL hG (by omega) (by rw [List.length_map]; omega) ?_
      walk_at "rd"
      refine r_setL upd_same hj.1 (by rw [List.length_set, List.length_map]; omega) ?_
      rw [upd_upd, map_set_int, map_set_int]
      have g1 := hd.getD (j := (0 + (i : Int)).toNat) (by omega)
      have g2 := hd.getD (j := (ns.getD (2 + (0 + (i : Int))).toNat 0 % (n : Int)).toNat) (by omega)
      exact ⟨_, _, _, _, _, rfl, same_mut sG hpa, upd_same, (hd.set g2.1 g2.2).set g1.1 g1.2⟩
    · obtain ⟨sv, y4, y5, y6, ms, rfl, sG, hG, hd⟩ := hP
      have hl := hd.1
      walk_at "rd"
      refine r_iteD (fun _ => ?_) (fun _ => ?_)
      · walk_at "rd"
        refine r_ixL (sG.seq hS) (at_int (by decide) (by omega)) ?_
        walk_at "rd"
        have hj := emod_rng (ns.getD (9 : Int).toNat 0) hn0
        refine r_ixL (SqL.of hG) (at_int hj.1 (by omega)) ?_
        walk_at "rd"
        refine r_ixL (sG.seq hS) (at_int (by decide) (by omega)) ?_
        walk_at "rd"
        have hk := emod_rng (ns.getD (1 : Int).toNat 0) hn0
        refine r_setL hG hk.1 (by rw [List.length_map]; omega) ?_
        rw [map_set_int]
        walk_at "rd"
        have g2 := hd.getD (j := (ns.getD (9 : Int).toNat 0 % (n : Int)).toNat) (by omega)
        exact q _ pa _ (same_mut sG hpa) hpa upd_same (hd.set g2.1 g2.2)
      · walk_at "rd"
        exact q _ pa _ sG hpa hG hd

end

section
variable {P : Program} {w : World} {K : PySem.W.Frag} {mg : Str → Option Value} {base : Heap} {a : Ad}
theorem ok_l_machine (T : Txt K mg a) : FnOk P w K mg base CX0 2 a.f_l_machine a.d_l_machine ["cell", "count", "letters"] (spMachine K) := by
  have G_l_action := ok_l_action (P := P) (w := w) (base := base) T
  have G_l_numbers := ok_l_numbers (P := P) (w := w) (base := base) T
  refine T.F_l_machine.ok sc_l_machine (fun vs H Q E h => ?_) (fun cdv A outer s H vs Q E hr h => ?_)
  · obtain ⟨c, n, m, rfl, _⟩ := h
    rfl
  · obtain ⟨c, n, m, rfl, h1, h10, m1, m4, q⟩ := h
    have zl : (sizeLine : Nat) = 16777216 := by decide
    have hn0 : (0 : Int) < (n : Int) := by omega
    refine ⟨_, (pss_cons (ps_set (i := 3) sc_l_machine.nd rfl (Or.inr rfl) (pe_call (G_l_numbers) (hr.mono (by first | decide | omega)) (by rfl) T.g_l_numbers T.F_l_numbers.kp T.b_l_numbers .nil pass0 (pa_cons (pv 0) (pa_cons (pe_op op_add pe_int (pe_op op_mul pe_int (pv 2))) pa_nil))))
      (pss_cons (ps_set (i := 4) sc_l_machine.nd rfl (Or.inr rfl) (pe_lc (own := [("k", 7)]) (g := gName 7) (tt := tYes) rfl sc_l_machine.nd (pi_range1 (by rfl) T.z_range (pa_cons (pv 2) pa_nil)) (blkOk_by (N := N_l_machine) (sc := (defScope s_l_machine)) (by decide +kernel)) (fun _ _ _ _ _ => pg_name (i := 7) sc_l_machine.nd rfl (by first | exact Or.inl rfl | exact Or.inr rfl)) (fun _ _ _ _ _ => pts_nil) (fun _ _ _ _ _ => (pe_call (G_l_action) (hr.mono (by first | decide | omega)) (by rfl) T.g_l_action T.F_l_action.kp T.b_l_action .nil pass0 (pa_cons (pe_slice (sl_listK (K := K) rfl) (pv 3) (po_some (pe_op op_add pe_int (pe_op op_mul pe_int (pv 7)))) po_none) (pa_cons (pv 1) pa_nil))))))
      (pss_cons (ps_set (i := 5) sc_l_machine.nd rfl (Or.inl rfl) (pe_callTy (call_tupOfK (K := K) rfl) (by rfl) T.z_tuple (by decide +kernel) (pa_cons (pe_lc (own := [("state", 8)]) (g := gName 8) (tt := tYes) rfl sc_l_machine.nd (pi_range1 (by rfl) T.z_range (pa_cons (pv 1) pa_nil)) (blkOk_by (N := N_l_machine) (sc := (defScope s_l_machine)) (by decide +kernel)) (fun _ _ _ _ _ => pg_name (i := 8) sc_l_machine.nd rfl (by first | exact Or.inl rfl | exact Or.inr rfl)) (fun _ _ _ _ _ => pts_nil) (fun _ _ _ _ _ => (pe_callTy (call_tupOfK (K := K) rfl) (by rfl) T.z_tuple (by decide +kernel) (pa_cons (pe_lc (own := [("action", 9)]) (g := gName 9) (tt := tYes) rfl sc_l_machine.nd (pi_listK (K := K) rfl (pv 4)) (blkOk_by (N := N_l_machine) (sc := (relS (eScope (eArg 0 (sE (sIn 2 s_l_machine)))) (defScope s_l_machine))) (by decide +kernel)) (fun _ _ _ _ _ => pg_name (i := 9) sc_l_machine.nd rfl (by first | exact Or.inl rfl | exact Or.inr rfl)) (fun _ _ _ _ _ => pts_nil) (fun _ _ _ _ _ => (pe_ix (ix_listK (K := K) rfl) (pv 9) (pv 8) (fun _ _ => rfl)))) pa_nil)))) pa_nil)))
      (pss_cons (ps_set (i := 6) sc_l_machine.nd rfl (Or.inl rfl) (pe_callTy (call_tupOfK (K := K) rfl) (by rfl) T.z_tuple (by decide +kernel) (pa_cons (pe_lc (own := [("state", 8)]) (g := gName 8) rfl sc_l_machine.nd (pi_range1 (by rfl) T.z_range (pa_cons (pv 1) pa_nil)) (blkOk_by (N := N_l_machine) (sc := (defScope s_l_machine)) (by decide +kernel)) (fun _ _ _ _ _ => pg_name (i := 8) sc_l_machine.nd rfl (by first | exact Or.inl rfl | exact Or.inr rfl)) (fun _ _ _ _ _ => (pts_one (pt_cmpR op_eq (pe_op op_mod (pe_op op_fdiv (pe_ix (ix_listK (K := K) rfl) (pv 3) pe_int (fun _ _ => rfl)) (pe_ix (ix_listK (K := K) rfl) (pe_lst (pa_cons pe_int (pa_cons pe_int (pa_cons pe_int (pa_cons pe_int (pa_cons pe_int (pa_cons pe_int (pa_cons pe_int (pa_cons pe_int pa_nil))))))))) (pe_op op_mod (pv 8) pe_int) (fun _ _ => rfl))) pe_int) pe_int (nomark _)))) (fun _ _ _ _ _ => (pv 8))) pa_nil)))
      (pss_one (ps_ret (pe_tup (pa_cons (pv 5) (pa_cons (pe_op op_mod (pe_ix (ix_listK (K := K) rfl) (pv 3) pe_int (fun _ _ => rfl)) (pv 1)) (pa_cons (pv 6) pa_nil)))))))))), ?_⟩
    walk_at "rd"
    refine ⟨c, 4 + 12 * m, congrArg (fun z : Int => [V.int c, V.int z]) (by omega), by omega, fun H1 pn ns s1 hpn hN hlen hz => ?_⟩
    walk_at "rd"
    refine r_rng1' (by omega) (by omega) ?_
    rw [Int.toNat_natCast]
    intro D hD
    have nDp : D ≠ pn := fun e => by rw [e, hN] at hD; cases hD
    refine lc_range (lo := 0) (n := m) (fun i G => Same H1 G ∧ ∃ as : List Addr, G D = some (.lst (as.map V.ref)) ∧ as.length = i ∧ ∀ b ∈ as, b ≠ D ∧ ∃ ms, G b = some (.lst (ms.map V.int)) ∧ Dr n n ms) ⟨same_new hD, [], upd_same, rfl, fun b hb => nomatch hb⟩ (fun i G hi hP => ?_) (fun G hP => ?_)
    · obtain ⟨sG, as, hG, hal, has⟩ := hP
      refine ⟨rfl, r_yes (iteT ?_)⟩
      walk_at "rd"
      refine r_slL (SqL.of (sG _ _ hN)) (fun l hl => ?_)
      walk_at "rd"
      have e1 : (4 : Int) + 12 * (0 + (i : Int)) = ((4 + 12 * i : Nat) : Int) := by omega
      rw [e1, cut_drop, ← List.map_drop]
      refine ⟨l, ns.drop (4 + 12 * i), n, rfl, SqL.of upd_same, by rw [List.length_drop]; omega, h1, h10, fun H4 q4 ms s4 hq4 hm hd => ?_⟩
      have s5 : Same G H4 := (same_new hl).trans s4
      have hnG : G q4 = none := (same_new hl).free hq4
      have nq : q4 ≠ D := fun e => by rw [e, hG] at hnG; cases hnG
      refine ⟨_, s5 _ _ hG, by rw [List.length_map]; omega, same_mut (sG.trans s5) hD, as ++ [q4], ?_, by rw [List.length_append, hal]; rfl, fun b hb => ?_⟩
      · rw [upd_same, List.map_append]
        rfl
      · rcases List.mem_append.mp hb with hb | hb
        · obtain ⟨nb, ms', g1, g2⟩ := has b hb
          exact ⟨nb, ms', by rw [upd_ne nb]; exact s5 _ _ g1, g2⟩
        · rw [List.mem_singleton.mp hb]
          exact ⟨nq, ms, by rw [upd_ne nq]; exact hm, hd⟩
    · obtain ⟨sG, as, hG, hal, has⟩ := hP
      walk_at "rd"
      refine r_rng1' (by omega) (by omega) ?_
      rw [Int.toNat_natCast]
      intro D2 hD2
      refine lc_range (lo := 0) (n := n) (fun i G2 => Same G G2 ∧ ∃ (vs : List V) (rows : List (List Nat)), G2 D2 = some (.lst vs) ∧ DtAll K G2 vs (rows.map rowD) ∧ rows.length = i ∧ ∀ r ∈ rows, r.length = m ∧ ∀ s ∈ r, s < n) ⟨same_new hD2, [], [], upd_same, .nil, rfl, fun r hr => nomatch hr⟩ (fun i G2 hi hP => ?_) (fun G2 hP => ?_)
      · obtain ⟨sG2, vs, rows, hG2, hdt, hrl, hrw⟩ := hP
        refine ⟨rfl, r_yes (iteT ?_)⟩
        walk_at "rd"
        refine ⟨⟨_, SqL.of (sG2 _ _ hG)⟩, fun D3 hD3 => ?_⟩
        refine lc_list (xs := as.map V.ref) (fun j G3 => Same G2 G3 ∧ ∃ r : List Nat, G3 D3 = some (.lst (r.map iV)) ∧ r.length = j ∧ ∀ s ∈ r, s < n) ⟨same_new hD3, [], upd_same, rfl, fun s hs => nomatch hs⟩ (fun j G3 _ hP => ?_) (fun j x G3 hx hP => ?_) (fun G3 hP => ?_)
        · exact SqL.of (hP.1 _ _ (sG2 _ _ hG))
        · obtain ⟨sG3, r, hG3, hrl3, hr3⟩ := hP
          obtain ⟨b, hb, rfl⟩ : ∃ b ∈ as, V.ref b = x := List.mem_map.mp (List.mem_of_getElem? hx)
          obtain ⟨_, ms, g1, hd⟩ := has b hb
          have hl := hd.1
          have hjl : j < as.length := by
            have := (List.getElem?_eq_some_iff.mp hx).1
            rw [List.length_map] at this
            exact this
          refine ⟨rfl, r_yes (iteT ?_)⟩
          walk_at "rd"
          refine r_ixL (SqL.of (sG3 _ _ (sG2 _ _ g1))) (at_int (by omega) (by omega)) ?_
          have g := hd.getD (j := (0 + (i : Int)).toNat) (by omega)
          obtain ⟨k, ek, hk⟩ := nat_of g.1 g.2
          rw [ek]
          refine ⟨_, hG3, by rw [List.length_map]; omega, same_mut sG3 hD3, r ++ [k], by rw [upd_same, List.map_append]; rfl, by rw [List.length_append, hrl3]; rfl, fun s hs => ?_⟩
          rcases List.mem_append.mp hs with hs | hs
          · exact hr3 s hs
          · rw [List.mem_singleton.mp hs]; omega
        · obtain ⟨sG3, r, hG3, hrl3, hr3⟩ := hP
          rw [List.length_map] at hrl3
          walk_at "rd"
          refine r_tupL (SqL.of hG3) (fun t ht => ?_)
          have s4 : Same G2 (upd G3 t (.tup (r.map iV))) := sG3.trans (same_new ht)
          refine ⟨vs, s4 _ _ hG2, ?_, same_mut (sG2.trans s4) hD2, vs ++ [.ref t], rows ++ [r], upd_same, ?_, by rw [List.length_append, hrl]; rfl, fun r' hr' => ?_⟩
          · have := hdt.len
            rw [List.length_map] at this
            omega
          · rw [List.map_append]
            have sT : SameT (upd G3 t (.tup (r.map iV))) (upd (upd G3 t (.tup (r.map iV))) D2 (.lst (vs ++ [.ref t]))) := SameT.lst (s4 _ _ hG2)
            refine (hdt.k ((sT_of s4).trans sT)).snoc (.tup (sT.sq (SqT.of upd_same)) (ofNats r))
          · rcases List.mem_append.mp hr' with hr' | hr'
            · exact hrw r' hr'
            · rw [List.mem_singleton.mp hr']; exact ⟨by omega, hr3⟩
      · obtain ⟨sG2, vs, rows, hG2, hdt, hrl, hrw⟩ := hP
        walk_at "rd"
        refine r_tupL (SqL.of hG2) (fun ts hts => ?_)
        walk_at "rd"
        refine r_rng1' (by omega) (by omega) ?_
        rw [Int.toNat_natCast]
        intro D4 hD4
        have s3 : Same G2 (upd G2 ts (.tup vs)) := same_new hts
        have hN4 : (upd G2 ts (.tup vs)) pn = some (.lst (ns.map V.int)) := s3 _ _ (sG2 _ _ (sG _ _ hN))
        refine lc_range (lo := 0) (n := n) (fun i G4 => Same (upd G2 ts (.tup vs)) G4 ∧ ∃ r : List Nat, G4 D4 = some (.lst (r.map iV)) ∧ r.length ≤ i ∧ r.Pairwise (· < ·) ∧ ∀ s ∈ r, s < i) ⟨same_new hD4, [], upd_same, Nat.le_refl _, .nil, fun s hs => nomatch hs⟩ (fun i G4 hi hP => ?_) (fun G4 hP => ?_)
        · obtain ⟨sG4, r, hG4, hrl4, hpw, hr4⟩ := hP
          refine ⟨rfl, ?_⟩
          walk_at "rd"
          refine r_ixL (SqL.of (sG4 _ _ hN4)) (at_int (by decide) (by omega)) ?_
          walk_at "rd"
          refine ⟨ln8, fun p hp => ?_⟩
          walk_at "rd"
          obtain ⟨d, gd, d0, d1⟩ := menu8 (j := i % 8) (by omega)
          refine r_ixL (SqL.of upd_same) (at_of (j := i % 8) (by omega) gd) ?_
          refine r_fdiv ⟨d0, d1⟩ ?_
          walk_at "rd"
          have s5 := sG4.trans (same_new (o := .lst [V.int 1, V.int 2, V.int 4, V.int 8, V.int 16, V.int 32, V.int 64, V.int 125]) hp)
          have nDp : D4 ≠ p := ne_of_none hG4 hp
          have hG5 : (upd G4 p (.lst [V.int 1, V.int 2, V.int 4, V.int 8, V.int 16, V.int 32, V.int 64, V.int 125])) D4 = some (.lst (r.map iV)) := by rw [upd_ne nDp]; exact hG4
          refine r_iteD (fun _ => ?_) (fun _ => ?_)
          · walk_at "rd"
            refine ⟨_, hG5, by rw [List.length_map]; omega, same_mut s5 hD4, r ++ [i], ?_, ?_, ?_, fun s hs => ?_⟩
            · rw [upd_same, List.map_append, Int.zero_add]
              rfl
            · rw [List.length_append]
              exact Nat.succ_le_succ hrl4
            · refine List.pairwise_append.mpr ⟨hpw, List.pairwise_singleton _ _, fun x hx y hy => ?_⟩
              rw [List.mem_singleton.mp hy]
              exact hr4 x hx
            · rcases List.mem_append.mp hs with hs | hs
              · exact Nat.lt_succ_of_lt (hr4 s hs)
              · rw [List.mem_singleton.mp hs]; exact Nat.lt_succ_self _
          · exact ⟨s5, r, hG5, Nat.le_succ_of_le hrl4, hpw, fun s hs => Nat.lt_succ_of_lt (hr4 s hs)⟩
        · obtain ⟨sG4, r, hG4, hrl4, hpw, hr4⟩ := hP
          walk_at "rd"
          refine r_tupL (SqL.of hG4) (fun tg htg => ?_)
          walk_at "rd"
          have hN5 : (upd G4 tg (.tup (r.map iV))) pn = some (.lst (ns.map V.int)) := (same_new htg) _ _ (sG4 _ _ hN4)
          refine r_ixL (SqL.of hN5) (at_int (by decide) (by omega)) ?_
          walk_at "rd"
          have g := emod_rng (ns.getD (0 : Int).toNat 0) hn0
          obtain ⟨k, ek, hk⟩ := nat_of g.1 g.2
          rw [ek]
          refine ⟨ln3, fun t ht => ?_⟩
          have s6 : Same (upd G2 ts (.tup vs)) (upd (upd G4 tg (.tup (r.map iV))) t (.tup [V.ref ts, V.int (k : Int), V.ref tg])) := sG4.trans ((same_new htg).trans (same_new ht))
          refine q _ (.ref t) ⟨rows, k, r⟩ (s1.trans (sG.trans (sG2.trans (s3.trans s6)))) ?_ ⟨hrl, hrw, by show k < n; omega, hr4, hpw⟩
          refine .tup (SqT.of upd_same) (.cons ?_ (.cons (.int _) (.cons ?_ .nil)))
          · exact .tup (SqT.of (s6 _ _ upd_same)) (hdt.k (sT_of (s3.trans s6)))
          · exact .tup (SqT.of ((same_new ht) _ _ upd_same)) (ofNats r)

end

section
variable {P : Program} {w : World} {K : PySem.W.Frag} {mg : Str → Option Value} {base : Heap} {a : Ad}
theorem step_at {M : Mac} {n m s c : Nat} (ok : MacOk M n m) (hs : s < n) (hc : c < m) : (M.steps.getD s [])[c]? = some (stepM M s (97 + c)) := by
  have h1 := (ok.rowAt hs).1
  unfold stepM
  rw [Nat.add_sub_cancel_left]
  generalize M.steps.getD s [] = r at h1 ⊢
  rw [List.getD_eq_getElem?_getD, List.getElem?_eq_getElem (by omega)]
  rfl
/-- a letter leads the states of two machines -/
def stp2 (M N : Mac) : Stp := fun r c => some [stepM M (r.getD 0 0) (97 + c), stepM N (r.getD 1 0) (97 + c)]
def prs2 (n k : Nat) : List (List Nat) := (List.range n).flatMap fun x => (List.range k).map fun y => [x, y]
theorem prs2_mem {n k : Nat} {r : List Nat} : r ∈ prs2 n k ↔ ∃ x y, x < n ∧ y < k ∧ r = [x, y] := by
  unfold prs2
  rw [List.mem_flatMap]
  constructor
  · rintro ⟨x, hx, h⟩
    obtain ⟨y, hy, rfl⟩ := List.mem_map.mp h
    exact ⟨x, y, List.mem_range.mp hx, List.mem_range.mp hy, rfl⟩
  · rintro ⟨x, y, hx, hy, rfl⟩
    exact ⟨x, List.mem_range.mpr hx, List.mem_map_of_mem (List.mem_range.mpr hy)⟩
theorem prs2_len : ∀ n k : Nat, (prs2 n k).length = n * k
  | 0, k => by rw [Nat.zero_mul]; rfl
  | n + 1, k => by
    have e : prs2 (n + 1) k = prs2 n k ++ (List.range k).map fun y => [n, y] := by
      unfold prs2
      rw [List.range_succ, List.flatMap_append]
      congr 1
      rw [List.flatMap_cons, List.flatMap_nil, List.append_nil]
    rw [e, List.length_append, prs2_len n k, List.length_map, List.length_range, Nat.succ_mul]
theorem prs2_cl {M N : Mac} {n k m : Nat} (ok : MacOk M n m) (ok' : MacOk N k m) : ∀ r ∈ prs2 n k, ∀ c r', c < m → stp2 M N r c = some r' → r' ∈ prs2 n k := fun r hr c r' hc e => by
  rw [← Option.some.inj e]
  obtain ⟨x, y, hx, hy, rfl⟩ := prs2_mem.mp hr
  exact prs2_mem.mpr ⟨_, _, ok.step hx (by omega) (by omega), ok'.step hy (by omega) (by omega), rfl⟩
/-- just one of the two is good -/
def oneGood (M N : Mac) (r : List Nat) : Bool := !decide (decide (r.getD 0 0 ∈ M.good) = decide (r.getD 1 0 ∈ N.good))
def firstD (M N : Mac) (m : Wm) : V := match m.find? fun p => oneGood M N p.1 with
  | some p => sV p.2
  | none => .non
theorem find_atP {α : Type} {f : α → Bool} : ∀ {m : List α} {i : Nat} {p : α}, m[i]? = some p → f p = true → (∀ x ∈ m.take i, f x = false) → m.find? f = some p
  | [], _, _, h, _, _ => nomatch h
  | x :: m, 0, p, h, hp, _ => by
    obtain rfl : x = p := Option.some.inj h
    rw [List.find?_cons_of_pos hp]
  | x :: m, i + 1, p, h, hp, hb => by
    have hx : f x = false := hb x (by rw [List.take_succ_cons]; exact List.mem_cons_self)
    rw [List.find?_cons_of_neg (by rw [hx]; exact Bool.false_ne_true)]
    exact find_atP (i := i) h hp fun y hy => hb y (by rw [List.take_succ_cons]; exact List.mem_cons_of_mem _ hy)
theorem firstD_hit {M N : Mac} {m : Wm} {i : Nat} {p : List Nat × List Nat} (h : m[i]? = some p) (hp : oneGood M N p.1 = true) (hb : ∀ x ∈ m.take i, oneGood M N x.1 = false) : firstD M N m = sV p.2 := by
  unfold firstD
  rw [find_atP (f := fun p : List Nat × List Nat => oneGood M N p.1) h hp hb]
theorem firstD_none {M N : Mac} {m : Wm} (hb : ∀ x ∈ m, oneGood M N x.1 = false) : firstD M N m = .non := by
  unfold firstD
  rw [List.find?_eq_none.mpr fun x hx => by rw [hb x hx]; exact Bool.false_ne_true]
theorem firstD_form (M N : Mac) (m : Wm) : firstD M N m = .non ∨ ∃ w, firstD M N m = sV w := by
  unfold firstD
  split
  · exact .inr ⟨_, rfl⟩
  · exact .inl rfl

def spLamP (K : PySem.W.Frag) : List (Option V) → Sp := fun ws vs H Q _ => ∃ (v v' : V) (M N : Mac) (n k m : Nat) (t : Addr) (r : List Nat) (c : Nat), ws = [some v, some v'] ∧ vs = [.ref t, sV [97 + c]] ∧ Dt K H v (macD M) ∧ MacOk M n m ∧ Dt K H v' (macD N) ∧ MacOk N k m ∧ m ≤ 4 ∧
  H t = some (.tup (r.map iV)) ∧ r ∈ prs2 n k ∧ c < m ∧ ∀ (H' : Hp) (t' : Addr), Same H H' → H' t' = some (.tup ([stepM M (r.getD 0 0) (97 + c), stepM N (r.getD 1 0) (97 + c)].map iV)) → Q (.ref t') H'
theorem lok_pair_step (T : Txt K mg a) {f : Addr} {F : NdefX.NF} (h1 : F.scope = eLamScope lam_pair_step_0) (h2 : F.params = eLamArgs lam_pair_step_0) :
    LOk P w K mg base CX0 6 f F (eLamBody lam_pair_step_0) ["pair", "letter"] ["first", "second"] (spLamP K) := by
  obtain ⟨nm, qual, params, body, scope, cl, c⟩ := F
  obtain rfl : scope = _ := h1
  obtain rfl : params = _ := h2
  have G_lead := ok_lead (P := P) (w := w) (base := base) T
  refine lok_of (k := 5) (N := ["pair", "letter", "first", "second"]) nsc_pair_step_0 (fun pm ctv us hl => match us, hl with | [_, _], _ => rfl) (fun ws vs H Q E h => ?_) (fun A outer s H vs ws Q E hr hw h => ?_)
  · obtain ⟨v, v', M, N, n, k, m, t, r, c, _, rfl, _⟩ := h
    rfl
  · obtain ⟨v, v', M, N, n, k, m, t, r, c, rfl, rfl, hM, ok, hN, ok', m4, hT, hrr, hcm, q⟩ := h
    obtain ⟨x, y, hx, hy, rfl⟩ := prs2_mem.mp hrr
    have hT' : H t = some (.tup [iV x, iV y]) := hT
    have hw : isW m [97 + c] := fun d hd => by
      rw [List.mem_singleton.mp hd]
      omega
    refine ⟨_, (pe_tup (pa_cons (pe_call (G_lead) (hr.mono (by first | decide | omega)) (by rfl) T.g_lead T.F_lead.kp T.b_lead .nil pass0 (pa_cons (pv 2) (pa_cons (pe_ix (ix_tupK (K := K) rfl) (pv 0) pe_int (fun _ _ => rfl)) (pa_cons (pv 1) pa_nil)))) (pa_cons (pe_call (G_lead) (hr.mono (by first | decide | omega)) (by rfl) T.g_lead T.F_lead.kp T.b_lead .nil pass0 (pa_cons (pv 3) (pa_cons (pe_ix (ix_tupK (K := K) rfl) (pv 0) pe_int (fun _ _ => rfl)) (pa_cons (pv 1) pa_nil)))) pa_nil))), ?_⟩
    walk_at "rd"
    refine r_ixT (SqT.of hT') (at_of (j := 0) rfl rfl) ?_
    walk_at "rd"
    refine ⟨v, M, n, m, x, [97 + c], rfl, hM, ok, m4, hx, hw, ?_⟩
    walk_at "rd"
    refine r_ixT (SqT.of hT') (at_of (j := 1) rfl rfl) ?_
    walk_at "rd"
    refine ⟨v', N, k, m, y, [97 + c], rfl, hN, ok', m4, hy, hw, ?_⟩
    refine ⟨ln2, fun tp htp => ?_⟩
    exact q _ tp (same_new htp) upd_same
theorem ok_pair_step (T : Txt K mg a) (B : Tbl mg base a) : FnOk P w K mg base CX0 1 a.f_pair_step a.d_pair_step ["first", "second"] (spRet2 (tabsOf a) "pair_step" "first" "second" lam_pair_step_0) :=
  T.F_pair_step.okRet2 sc_pair_step rfl (by decide +kernel) B.t_pair_step (m_pair_step a) B.u_pair_step (fun _ => rfl) (by decide +kernel)
def spCommon (K : PySem.W.Frag) (a : Ad) : Sp := fun vs H Q E => ∃ (v v' : V) (M N : Mac) (n k m m' : Nat), vs = [v, v'] ∧ Dt K H v (macD M) ∧ MacOk M n m ∧ 1 ≤ n ∧ m ≤ 4 ∧ Dt K H v' (macD N) ∧ MacOk N k m' ∧ 1 ≤ k ∧ m' ≤ 4 ∧
  (m = m' → Q (sV (abcdG m)) H) ∧ (m ≠ m' → E (.ref a.k_LettersDiffer) none H)
theorem part_s {te : TE} {z : Str} {σ : L2.St} {H : Hp} (hz : z.length ≤ 2000) (h : ∀ Q : VK, Q (.str z) H → te σ H Q) : Part σ H (tFmt te) := fun Q q =>
  h (fun x H1 => (∃ y, x = .str y ∧ y.length ≤ sizeLine ∧ Q (.str y) H1) ∨ ∃ i, x = .int i ∧ i.natAbs.log2 < 1920 ∧ Q (.str (Str.ofString (toString i))) H1)
    (.inl ⟨z, rfl, Nat.le_trans hz (by decide), q _ hz⟩)
def abcdQ (m m' : Nat) : Bool := decide (decide ((⟨(abcdG m).toArray⟩ : Str) = ⟨(abcdG m').toArray⟩) = decide (m = m'))
theorem abcd_ne0 : ∀ m, m < 5 → ∀ m', m' < 5 → abcdQ m m' = true := by decide +kernel
theorem abcd_ne (m m' : Nat) (h : m < 5) (h' : m' < 5) : decide ((⟨(abcdG m).toArray⟩ : Str) = ⟨(abcdG m').toArray⟩) = decide (m = m') := of_decide_eq_true (abcd_ne0 m h m' h')
theorem ok_common_letters (T : Txt K mg a) : FnOk P w K mg base (L2.CX P w) 2 a.f_common_letters a.d_common_letters ["first", "second"] (spCommon K a) := by
  have G_letters_of := ok_letters_of (P := P) (w := w) (base := base) T
  refine T.F_common_letters.okX sc_common_letters (fun vs H Q E h => ?_) (fun cdv A outer s H vs Q E hr h => ?_)
  · obtain ⟨v, v', M, N, n, k, m, m', rfl, _⟩ := h
    rfl
  · obtain ⟨v, v', M, N, n, k, m, m', rfl, hM, ok, n1, m4, hN, ok', k1, m4', q, qe⟩ := h
    have zl : (sizeLine : Nat) = 16777216 := by decide
    refine ⟨_, (pss_cons (ps_set (i := 2) sc_common_letters.nd rfl (Or.inl rfl) (pe_call (G_letters_of) (hr.mono (by first | decide | omega)) (by rfl) T.g_letters_of T.F_letters_of.kp T.b_letters_of .nil pass0 (pa_cons (pv 0) pa_nil)))
      (pss_cons (ps_if (pt_cmpR op_ne (pv 2) (pe_call (G_letters_of) (hr.mono (by first | decide | omega)) (by rfl) T.g_letters_of T.F_letters_of.kp T.b_letters_of .nil pass0 (pa_cons (pv 1) pa_nil)) (nomark _)) (pss_one (ps_raise1 T.x_LettersDiffer rfl rfl rfl (takes_of rfl rfl rfl rfl) (by rfl) (pe_joined (PJ.cons pe_str (PJ.cons (pe_fmt (pv 2)) (PJ.cons pe_str (PJ.cons (pe_fmt (pe_call (G_letters_of) (hr.mono (by first | decide | omega)) (by rfl) T.g_letters_of T.F_letters_of.kp T.b_letters_of .nil pass0 (pa_cons (pv 1) pa_nil))) PJ.nil))))))) pss_nil)
      (pss_one (ps_ret (pv 2))))), ?_⟩
    walk_at "rd"
    refine ⟨v, M, n, m, rfl, hM, ok, n1, m4, ?_⟩
    walk_at "rd"
    refine ⟨v', N, k, m', rfl, hN, ok', k1, m4', ?_⟩
    walk_at "rd"
    rw [abcd_ne m m' (by omega) (by omega)]
    have l5 : ∀ m, m ≤ 4 → (⟨(abcdG m).toArray⟩ : Str).length ≤ 2000 := fun m h => by
      rw [str_len, abcdG_len h]
      omega
    refine r_iteN (fun h => ?_) (fun h => ?_)
    · refine r_raise1 (js_ok _ _ (fun t ht => ?_) (by show 0 + 2000 * 4 ≤ 100000; decide) fun _ => qe h)
      simp only [List.mem_cons, List.not_mem_nil, or_false] at ht
      rcases ht with rfl | rfl | rfl | rfl
      · exact part_c (by decide)
      · exact part_s (l5 m m4) fun Q q => r_var rfl q
      · exact part_c (by decide)
      · refine part_s (l5 m' m4') fun Q q => ?_
        walk_at "rd"
        exact ⟨v', N, k, m', rfl, hN, ok', k1, m4', q⟩
    · walk_at "rd"
      exact q h

end

section
variable {P : Program} {w : World} {K : PySem.W.Frag} {mg : Str → Option Value} {base : Heap} {a : Ad}
def spLReached (K : PySem.W.Frag) : Sp := fun vs H Q _ => ∃ (v : V) (M : Mac) (n m : Nat), vs = [v] ∧ Dt K H v (macD M) ∧ MacOk M n m ∧ 1 ≤ n ∧ n ≤ 1000 ∧ m ≤ 4 ∧
  ∀ (H' : Hp) (p : Addr) (i : Nat), Same H H' → H p = none → (bfs (stp1 M) m [M.start] i).length ≤ i → H' p = some (.lst ((ordB (bfs (stp1 M) m [M.start] i)).map iV)) → Q (.ref p) H'
theorem metO (m : Wm) : (m.map fun p => (p.1, V.bl true)).map (·.1) = m.map (·.1) := by rw [List.map_map]; rfl
theorem ok_l_reached (T : Txt K mg a) : FnOk P w K mg base CX0 1 a.f_l_reached a.d_l_reached ["machine"] (spLReached K) := by
  refine T.F_l_reached.ok sc_l_reached (fun vs H Q E h => ?_) (fun cdv A outer s H vs Q E hr h => ?_)
  · obtain ⟨v, M, n, m, rfl, _⟩ := h
    rfl
  · obtain ⟨v, M, n, m, rfl, hM, ok, n1, n10, m4, q⟩ := h
    have zl : (sizeLine : Nat) = 16777216 := by decide
    obtain ⟨pa, st, gd, rows, rfl, hA, hSt, hRows, hGd⟩ := macE hM
    have oL : [M.start] ∈ sing n := sing_mem.mpr ⟨_, ok.start, rfl⟩
    have cl := sing_cl ok
    have bl : ∀ i, (bfs (stp1 M) m [M.start] i).length ≤ n := fun i => by
      have := bfs_len oL cl i
      rw [sing_len] at this
      exact this
    have allL : ∀ i, ∀ p ∈ bfs (stp1 M) m [M.start] i, p.1 ∈ sing n := bfs_all (stp := stp1 M) (k := m) (o := [M.start]) (P := fun q => q.1 ∈ sing n) oL (fun x c r2 hx hc e => cl x.1 hx c r2 hc e)
    refine ⟨_, (pss_cons (ps_set (i := 1) sc_l_reached.nd rfl (Or.inl rfl) (pe_lst (pa_cons (pe_ix (ix_tupK (K := K) rfl) (pv 0) pe_int (fun _ _ => rfl)) pa_nil)))
      (pss_cons (ps_set (i := 2) sc_l_reached.nd rfl (Or.inl rfl) (pe_dispE (hu_of hr) (pe_ix (ix_tupK (K := K) rfl) (pv 0) pe_int (fun _ _ => rfl)) pe_bl))
      (pss_cons (ps_set (i := 3) sc_l_reached.nd rfl (Or.inl rfl) pe_int)
      (pss_cons (ps_for PassesOwn.never rfl (pi_range1 (by rfl) T.z_range (pa_cons pe_int pa_nil)) (pg_name (i := 4) sc_l_reached.nd rfl (Or.inl rfl)) (pss_cons (ps_if (pt_cmpR op_eq (pv 3) (pe_callB (call_lenQK (K := K) rfl) (by rfl) T.z_len (by decide +kernel) (pa_cons (pv 1) pa_nil)) (nomark _)) (pss_one ps_break) pss_nil)
      (pss_cons (ps_for PassesOwn.never rfl (pi_tupK (K := K) rfl (pe_ix (ix_tupK (K := K) rfl) (pe_ix (ix_tupK (K := K) rfl) (pv 0) pe_int (fun _ _ => rfl)) (pe_ix (ix_listK (K := K) rfl) (pv 1) (pv 3) (fun _ _ => rfl)) (fun _ _ => rfl))) (pg_name (i := 5) sc_l_reached.nd rfl (Or.inl rfl)) (pss_one (ps_if (pt_cmp (pc_dnotin (hu_of hr) (pv 5) (pv 2))) (pss_cons (ps_dput (hu_of hr) (pv 2) (pv 5) pe_bl (by rfl))
      (pss_one (ps_expr (bmK (K := K) rfl (pe_bm PySem.F.plainAttrs_list PySem.F.slot_list_append PySem.F.type_list_append mt_append (pv 1) (pa_cons (pv 5) pa_nil)))))) pss_nil)))
      (pss_one (ps_set (i := 3) sc_l_reached.nd rfl (Or.inl rfl) (pe_op op_add (pv 3) pe_int))))))
      (pss_one (ps_ret (pv 1))))))), ?_⟩
    walk_at "rd"
    refine r_ixT hA (at_of (j := 1) rfl rfl) ?_
    refine ⟨ln1, fun po hpo => ?_⟩
    have s1 := same_new (o := .lst [iV M.start]) hpo
    have hO0 : (upd H po (.lst [iV M.start])) po = some (.lst ((ordB (bfs (stp1 M) m [M.start] 0)).map iV)) := upd_same
    have hA1 := same_t s1 hA
    generalize upd H po (.lst [iV M.start]) = H1 at *
    walk_at "rd"
    refine .inl fun pm hpm => ?_
    have s2 := same_new (o := .dK []) hpm
    refine r_op (r_var rfl (r_c (r_ixT (same_t s2 hA1) (at_of (j := 1) rfl rfl) (r_c ⟨upd_same, [(kI [M.start], V.bl true)], rfl, by show 1 ≤ 15; decide, ?_⟩))))
    rw [upd_upd]
    have s3 := same_new (o := .dK (mergeK [] [(kI [M.start], V.bl true)])) hpm
    have hD0 : (upd H1 pm (.dK (mergeK [] [(kI [M.start], V.bl true)]))) pm = some (dO .i ((bfs (stp1 M) m [M.start] 0).map fun p => (p.1, V.bl true))) := upd_same
    have hO1 := s3 _ _ hO0
    have npm : po ≠ pm := ne_of_none hO0 hpm
    have fpm : H pm = none := s1.free hpm
    have s13 := s1.trans s3
    clear s1 s2 s3 hO0 hA1 hpm
    generalize upd H1 pm (.dK (mergeK [] [(kI [M.start], V.bl true)])) = H2 at *
    generalize eo : [M.start] = o at *
    walk_at "rd"
    refine r_rng1' (by decide) (by decide) ?_
    refine for_range (lo := 0) (n := 2000) (fun i σ G => ∃ (y4 y5 : Option V), σ = [some (.ref pa), some (.ref po), some (.ref pm), some (iV i), y4, y5] ∧ Same H G ∧ G po = some (.lst ((ordB (bfs (stp1 M) m o i)).map iV)) ∧ G pm = some (dO .i ((bfs (stp1 M) m o i).map fun p => (p.1, V.bl true))) ∧ i ≤ (bfs (stp1 M) m o i).length)
      ⟨none, none, rfl, s13, hO1, hD0, Nat.zero_le _⟩ (fun i σ G hi hP => ?_) (fun σ G hP => ?_)
    rotate_left
    · obtain ⟨y4, y5, rfl, sG, hO, hD, hil⟩ := hP
      have := bl 2000
      omega
    clear s13 hO1 hD0
    obtain ⟨y4, y5, rfl, sG, hO, hD, hil⟩ := hP
    have bli := bl i
    walk_at "rd"
    refine r_lenL (SqL.of hO) ?_
    rw [List.length_map, ordB_len]
    refine r_eqI (i := (i : Int)) (j := ((bfs (stp1 M) m o i).length : Int)) ?_
    walk_at "rd"
    refine r_iteD (fun e1 => ?_) (fun e1 => ?_)
    · walk_at "rd"
      exact q G po i sG hpo (by omega) hO
    obtain ⟨x, hx⟩ : ∃ x, (bfs (stp1 M) m o i)[i]? = some x := ⟨_, List.getElem?_eq_getElem (by omega)⟩
    obtain ⟨sx, hsx, ex⟩ := sing_mem.mp (allL i x (List.mem_of_getElem? hx))
    have hox : (ordB (bfs (stp1 M) m o i))[i]? = some sx := by
      unfold ordB
      rw [List.getElem?_map, hx]
      show some (x.1.getD 0 0) = _
      rw [ex]
      rfl
    obtain ⟨pr, gr, hR⟩ := rowsE (s := sx) hRows (by rw [ok.len]; exact hsx)
    have hrl := (ok.rowAt hsx).1
    have eN : bfs (stp1 M) m o (i + 1) = extT (stp1 M) x (bfs (stp1 M) m o i) m := bfs_succ hx
    have nd0 := bfs_nd (stp := stp1 M) (k := m) (o := o) i
    have allj := allL i
    rw [eN]
    have bfs_ge : i + 1 ≤ (extT (stp1 M) x (bfs (stp1 M) m o i) m).length := by
      obtain ⟨z, ez⟩ := extT_pre (stp := stp1 M) x (bfs (stp1 M) m o i) m
      rw [ez, List.length_append]
      omega
    generalize bfs (stp1 M) m o i = m0 at *
    walk_at "rd"
    refine r_ixT (same_t sG hA) (at_of (j := 0) rfl rfl) ?_
    walk_at "rd"
    refine r_ixL (SqL.of hO) (at_of (j := i) rfl (by rw [List.getElem?_map, hox]; rfl)) ?_
    refine r_ixT (same_t sG hSt) (at_of (j := sx) rfl gr) ?_
    walk_at "rd"
    refine ⟨⟨_, same_t sG hR⟩, ?_⟩
    refine for_tup (xs := (M.steps.getD sx []).map iV) (fun c σ G => ∃ (y4 y5 : Option V), σ = [some (.ref pa), some (.ref po), some (.ref pm), some (iV i), y4, y5] ∧ Same H G ∧ G po = some (.lst ((ordB (extT (stp1 M) x m0 c)).map iV)) ∧ G pm = some (dO .i ((extT (stp1 M) x m0 c).map fun p => (p.1, V.bl true))))
      ⟨_, _, rfl, sG, hO, hD⟩ (fun c σ G _ hP => by obtain ⟨_, _, _, s, _⟩ := hP; exact same_t s hR) (fun c z σ G hz hP => ?_) (fun σ G hP => ?_)
    rotate_left
    · obtain ⟨z4, z5, rfl, a1, a2, a3⟩ := hP
      rw [List.length_map, hrl] at a2 a3
      walk_at "rd"
      exact r_I0 (i := (i : Int)) (j := 1) ⟨_, _, rfl, a1, a2, a3, bfs_ge⟩
    clear sG hO hD
    obtain ⟨z4, z5, rfl, sG, hO, hD⟩ := hP
    rw [List.getElem?_map] at hz
    obtain ⟨t, ht, rfl⟩ := Option.map_eq_some_iff.mp hz
    have hc : c < m := by
      have := (List.getElem?_eq_some_iff.mp ht).1
      omega
    have et : stepM M sx (97 + c) = t := by
      unfold stepM
      rw [Nat.add_sub_cancel_left, List.getD_eq_getElem?_getD (l := M.steps.getD sx []), ht]
      rfl
    have nd := extT_nd (stp := stp1 M) (x := x) nd0 c
    have el := extT_len (stp := stp1 M) (k := m) (x := x) (m := m0) (L := sing n) allj nd0 (fun c r' hc e => cl x.1 (by rw [ex]; exact sing_mem.mpr ⟨_, hsx, rfl⟩) c r' hc e) (Nat.le_of_lt hc)
    rw [sing_len] at el
    have eS : extT (stp1 M) x m0 (c + 1) = ext1 (stp1 M) (extT (stp1 M) x m0 c) x c := extT_succ _ _ _ _
    have okk : ∀ p ∈ extT (stp1 M) x m0 c, okP .i p.1 := fun p hp _ => by
      have := extT_all (stp := stp1 M) (P := fun q => q.1 ∈ sing n) allj m (fun c r hc e => cl x.1 (by rw [ex]; exact sing_mem.mpr ⟨_, hsx, rfl⟩) c r hc e) c (Nat.le_of_lt hc) p hp
      obtain ⟨s, _, e⟩ := sing_mem.mp this
      exact ⟨s, e⟩
    generalize extT (stp1 M) x m0 c = mc at *
    rw [eS]
    have eE : ext1 (stp1 M) mc x c = if [t] ∈ mc.map (·.1) then mc else mc ++ [([t], x.2 ++ [97 + c])] := by
      subst et
      unfold ext1 stp1
      rw [ex]
      rfl
    have okm : ∀ q ∈ mc.map (fun p => (p.1, V.bl true)), okP .i q.1 := fun q hq => by
      obtain ⟨p, hp, rfl⟩ := List.mem_map.mp hq
      exact okk p hp
    have ndm : ((mc.map fun p => (p.1, V.bl true)).map (·.1)).Nodup := by rw [metO]; exact nd
    have hv : PlV .i G (iV t) [t] := ⟨t, rfl, rfl⟩
    walk_at "rd"
    refine r_dni ?_
    walk_at "rd"
    refine ⟨_, _, rfl, dget_kd hD hv okm, ?_⟩
    walk_at "rd"
    by_cases e3 : [t] ∈ mc.map (·.1)
    · obtain ⟨w', ew, _⟩ := lkP_mem ndm (p := [t]) (by rw [metO]; exact e3)
      rw [ew]
      rw [if_pos e3] at eE
      rw [eE]
      walk_at "rd"
      exact ⟨_, _, rfl, sG, hO, hD⟩
    · rw [lkP_out (p := [t]) (by rw [metO]; exact e3)]
      rw [if_neg e3] at eE
      rw [eE, if_pos (show (!(none : Option V).isSome) = true from rfl)]
      walk_at "rd"
      refine r_dput ?_
      walk_at "rd"
      have ej : (mc ++ [([t], x.2 ++ [97 + c])]).map (fun p : List Nat × List Nat => (p.1, V.bl true)) = mc.map (fun p => (p.1, V.bl true)) ++ [([t], V.bl true)] := by rw [List.map_append]; rfl
      have dp := dput_kd (z := V.bl true) hD hv okm (by rw [metO]; exact e3) (by rw [List.length_map]; omega)
      rw [← ej] at dp
      refine ⟨pm, _, rfl, dp, ?_⟩
      have s4 := same_mut (o := dO .i ((mc ++ [([t], x.2 ++ [97 + c])]).map fun p => (p.1, V.bl true))) sG fpm
      have hD4 : (upd G pm (dO .i ((mc ++ [([t], x.2 ++ [97 + c])]).map fun p => (p.1, V.bl true)))) pm = _ := upd_same
      have hO4 : (upd G pm (dO .i ((mc ++ [([t], x.2 ++ [97 + c])]).map fun p => (p.1, V.bl true)))) po = _ := (upd_ne npm).trans hO
      generalize upd G pm (dO .i ((mc ++ [([t], x.2 ++ [97 + c])]).map fun p => (p.1, V.bl true))) = G4 at *
      walk_at "rd"
      refine ⟨ty_l (SqL.of hO4), ?_⟩
      walk_at "rd"
      refine r_append hO4 (by rw [List.length_map, ordB_len]; omega) ?_
      refine ⟨_, _, rfl, same_mut s4 hpo, ?_, (upd_ne npm.symm).trans hD4⟩
      rw [upd_same]
      unfold ordB
      rw [List.map_append, List.map_append]
      rfl

end

section
variable {P : Program} {w : World} {K : PySem.W.Frag} {mg : Str → Option Value} {base : Heap} {a : Ad}
theorem r_catN {K : PySem.W.Frag} {H : Hp} {Q : VK} {b1 b2 : Addr} {l1 l2 : List Nat} (h1 : SqT K H b1 (l1.map iV)) (h2 : SqT K H b2 (l2.map iV)) (ne : l1 ≠ []) (hl : l1.length + l2.length ≤ 1000) (h1' : H b1 = some (.tup (l1.map iV))) (q : ∀ (p : Addr) (H' : Hp), Same H H' → H' p = some (.tup ((l1 ++ l2).map iV)) → Q (.ref p) H') : rCatA K (.ref b1) (.ref b2) H Q := by
  have zl : (sizeLine : Nat) = 16777216 := by decide
  refine ⟨b1, b2, _, _, rfl, rfl, h1, h2, by rw [List.length_map, List.length_map]; omega, fun e => ?_, fun _ e => ?_, fun _ _ p hp => ?_⟩
  · exact absurd (List.map_eq_nil_iff.mp e) ne
  · rw [List.map_eq_nil_iff.mp e, List.append_nil] at q
    exact q b1 H (fun _ _ z => z) h1'
  · refine q p _ (same_new hp) ?_
    rw [upd_same, List.map_append]
theorem ints_inj {a b : List Nat} (h : (a.map fun n : Nat => (n : Int)) = b.map fun n : Nat => (n : Int)) : a = b := by
  induction a generalizing b with
  | nil =>
    cases b with
    | nil => rfl
    | cons y b => exact nomatch h
  | cons x a ih =>
    cases b with
    | nil => exact nomatch h
    | cons y b =>
      rw [List.map_cons, List.map_cons] at h
      injection h with h1 h2
      rw [ih h2, show x = y by omega]
theorem r_eqNats {K : PySem.W.Frag} {H : Hp} {Q : VK} {p1 p2 : Addr} {a b : List Nat} (h1 : SqL K H p1 (a.map iV)) (h2 : SqL K H p2 (b.map iV)) (q : Q (.bl (decide (a = b))) H) : rEqD K (.ref p1) (.ref p2) H Q := by
  rw [ints_nat] at h1 h2
  refine r_eqD (dp_ints h1) (dp_ints h2) (shaped_ints _) (shaped_ints _) ?_
  rw [eqv_lists, show decide ((a.map fun n : Nat => (n : Int)) = b.map fun n : Nat => (n : Int)) = decide (a = b) from decide_eq_decide.mpr ⟨ints_inj, fun e => by rw [e]⟩]
  exact q
/-- the dict of the firsts -/
def fstD (ks : List (List Nat)) (j : Nat) : Pd := (fc (ks.take j)).map fun k => (k, iV (ix ks k))
theorem fstD_keys (ks : List (List Nat)) (j : Nat) : (fstD ks j).map (·.1) = fc (ks.take j) := by
  unfold fstD
  rw [List.map_map]
  exact List.map_id _
theorem fstD_lk {ks : List (List Nat)} {j : Nat} {k : List Nat} (h : k ∈ fc (ks.take j)) : lkP (fstD ks j) k = some (iV (ix ks k)) := by
  obtain ⟨v, hv, hm⟩ := lkP_mem (m := fstD ks j) (p := k) (by rw [fstD_keys]; exact fc_nd _) (by rw [fstD_keys]; exact h)
  unfold fstD at hm
  obtain ⟨x, _, e⟩ := List.mem_map.mp hm
  injection e with e1 e2
  rw [hv, ← e2, e1]
theorem fstD_succ {ks : List (List Nat)} {j : Nat} {k : List Nat} (h : ks[j]? = some k) : fstD ks (j + 1) = if k ∈ fc (ks.take j) then fstD ks j else fstD ks j ++ [(k, iV j)] := by
  have e : ks.take (j + 1) = ks.take j ++ [k] := by rw [List.take_add_one, h]; rfl
  unfold fstD
  rw [e, fc_snoc]
  split
  · rfl
  · rename_i hn
    rw [List.map_append, List.map_singleton]
    have : ix ks k = j := by
      have h1 := ix_min h
      have h2 := ix_get (List.mem_of_getElem? h)
      rcases Nat.lt_or_ge (ix ks k) j with hl | hl
      · exfalso
        refine hn ((fc_mem _ k).mpr (List.mem_of_getElem? (i := ix ks k) ?_))
        rw [List.getElem?_take_of_lt hl]
        exact h2
      · omega
    rw [this]
def spLMarks (K : PySem.W.Frag) : Sp := fun vs H Q _ => ∃ (v : V) (M : Mac) (n m : Nat), vs = [v] ∧ Dt K H v (macD M) ∧ MacOk M n m ∧ 1 ≤ n ∧ n ≤ 1000 ∧ m ≤ 4 ∧
  ∀ (H' : Hp) (p : Addr) (mk : List Nat), Same H H' → H p = none → H' p = some (.lst (mk.map iV)) → Tells M.steps (gmk M n) m mk → Q (.ref p) H'
theorem ok_l_marks (T : Txt K mg a) : FnOk P w K mg base CX0 1 a.f_l_marks a.d_l_marks ["machine"] (spLMarks K) := by
  refine T.F_l_marks.ok sc_l_marks (fun vs H Q E h => ?_) (fun cdv A outer s H vs Q E hr h => ?_)
  · obtain ⟨v, M, n, m, rfl, _⟩ := h
    rfl
  · obtain ⟨v, M, n, m, rfl, hM, ok, n1, n10, m4, q⟩ := h
    have zl : (sizeLine : Nat) = 16777216 := by decide
    obtain ⟨pa, st, gd, rows, rfl, hA, hSt, hRows, hGd⟩ := macE hM
    have hrl : rows.length = n := by
      have := hRows.len
      rw [List.length_map, ok.len] at this
      exact this
    have sys := sysM ok
    refine ⟨_, (pss_cons (ps_set (i := 1) sc_l_marks.nd rfl (Or.inl rfl) (pe_callB (call_lenQK (K := K) rfl) (by rfl) T.z_len (by decide +kernel) (pa_cons (pe_ix (ix_tupK (K := K) rfl) (pv 0) pe_int (fun _ _ => rfl)) pa_nil)))
      (pss_cons (ps_set (i := 2) sc_l_marks.nd rfl (Or.inr rfl) (pe_lc (own := [("state", 6)]) (g := gName 6) (tt := tYes) rfl sc_l_marks.nd (pi_range1 (by rfl) T.z_range (pa_cons (pv 1) pa_nil)) (blkOk_by (N := N_l_marks) (sc := (defScope s_l_marks)) (by decide +kernel)) (fun _ _ _ _ _ => pg_name (i := 6) sc_l_marks.nd rfl (by first | exact Or.inl rfl | exact Or.inr rfl)) (fun _ _ _ _ _ => pts_nil) (fun _ _ _ _ _ => (pe_callTy call_int1' (by rfl) T.z_int (by decide +kernel) (pa_cons (pe_cmpR (op_inK (K := K) rfl) (pv 6) (pe_ix (ix_tupK (K := K) rfl) (pv 0) pe_int (fun _ _ => rfl)) (by rfl)) pa_nil)))))
      (pss_cons (ps_for PassesOwn.never rfl (pi_range1 (by rfl) T.z_range (pa_cons (pv 1) pa_nil)) (pg_name (i := 3) sc_l_marks.nd rfl (Or.inl rfl)) (pss_cons (ps_set (i := 4) sc_l_marks.nd rfl (Or.inl rfl) pe_dnewT)
      (pss_cons (ps_set (i := 5) sc_l_marks.nd rfl (Or.inl rfl) (pe_lst pa_nil))
      (pss_cons (ps_for PassesOwn.never rfl (pi_range1 (by rfl) T.z_range (pa_cons (pv 1) pa_nil)) (pg_name (i := 6) sc_l_marks.nd rfl (Or.inl rfl)) (pss_cons (ps_set (i := 7) sc_l_marks.nd rfl (Or.inl rfl) (pe_op (op_catAK (K := K) rfl) (pe_tup (pa_cons (pe_ix (ix_listK (K := K) rfl) (pv 2) (pv 6) (fun _ _ => rfl)) pa_nil)) (pe_callTy (call_tupOfK (K := K) rfl) (by rfl) T.z_tuple (by decide +kernel) (pa_cons (pe_lc (own := [("target", 8)]) (g := gName 8) (tt := tYes) rfl sc_l_marks.nd (pi_tupK (K := K) rfl (pe_ix (ix_tupK (K := K) rfl) (pe_ix (ix_tupK (K := K) rfl) (pv 0) pe_int (fun _ _ => rfl)) (pv 6) (fun _ _ => rfl))) (blkOk_by (N := N_l_marks) (sc := (defScope s_l_marks)) (by decide +kernel)) (fun _ _ _ _ _ => pg_name (i := 8) sc_l_marks.nd rfl (by first | exact Or.inl rfl | exact Or.inr rfl)) (fun _ _ _ _ _ => pts_nil) (fun _ _ _ _ _ => (pe_ix (ix_listK (K := K) rfl) (pv 2) (pv 8) (fun _ _ => rfl)))) pa_nil))))
      (pss_cons (ps_if (pt_cmp (pc_dnotin (hu_of hr) (pv 7) (pv 4))) (pss_one (ps_dput (hu_of hr) (pv 4) (pv 7) (pv 6) (by rfl))) pss_nil)
      (pss_one (ps_expr (bmK (K := K) rfl (pe_bm PySem.F.plainAttrs_list PySem.F.slot_list_append PySem.F.type_list_append mt_append (pv 5) (pa_cons (pe_dget (hu_of hr) (pv 4) (pv 7) (fun _ _ => rfl)) pa_nil))))))))
      (pss_cons (ps_if (pt_cmpR (op_eqDK (K := K) rfl hr.units) (pv 5) (pv 2) (nomark _)) (pss_one ps_break) pss_nil)
      (pss_one (ps_set (i := 2) sc_l_marks.nd rfl (Or.inr rfl) (pv 5))))))))
      (pss_one (ps_ret (pv 2)))))), ?_⟩
    walk_at "rd"
    refine r_ixT hA (at_of (j := 0) rfl rfl) ?_
    walk_at "rd"
    refine r_lenT hSt ?_
    rw [hrl]
    walk_at "rd"
    refine r_rng1' (by omega) (by omega) ?_
    rw [Int.toNat_natCast]
    intro D hD
    refine lc_range (lo := 0) (n := n) (fun i G => Same H G ∧ G D = some (.lst ((((gmk M n).take i).map bitB).map iV))) ⟨same_new hD, upd_same⟩ (fun i G hi hP => ?_) (fun G hP => ?_)
    · obtain ⟨sG, hG⟩ := hP
      refine ⟨rfl, r_yes (iteT ?_)⟩
      walk_at "rd"
      refine r_ixT (same_t sG hA) (at_of (j := 2) rfl rfl) ?_
      have ei : V.int (0 + (i : Int)) = iV i := congrArg V.int (by omega)
      rw [ei]
      refine r_in (same_t sG hGd) ?_
      refine .inr ⟨_, rfl, ?_⟩
      have gl : (gmk M n).length = n := sys.mlen
      refine ⟨_, hG, by rw [List.length_map, List.length_map, List.length_take]; omega, same_mut sG hD, ?_⟩
      have gi : (gmk M n)[i]? = some (decide (i ∈ M.good)) := by
        unfold gmk
        rw [List.getElem?_map, List.getElem?_range hi]
        rfl
      rw [upd_same, List.take_add_one, gi, List.map_append, List.map_append]
      show some (HO.lst (_ ++ [_])) = some (HO.lst (_ ++ [_]))
      congr 3
      show [V.int (if decide (i ∈ M.good) = true then 1 else 0)] = [iV (bitB (decide (i ∈ M.good)))]
      unfold bitB
      cases decide (i ∈ M.good) <;> rfl
    obtain ⟨sG, hG⟩ := hP
    rw [List.take_of_length_le (show (gmk M n).length ≤ n by rw [sys.mlen]; exact Nat.le_refl _)] at hG
    walk_at "rd"
    refine r_rng1' (by omega) (by omega) ?_
    rw [Int.toNat_natCast]
    refine for_range (lo := 0) (n := n) (fun t σ G => ∃ (pm : Addr) (bl : List Nat) (y3 y4 y5 y6 y7 y8 : Option V), σ = [some (.ref pa), some (iV n), some (.ref pm), y3, y4, y5, y6, y7, y8] ∧ Same H G ∧ H pm = none ∧ G pm = some (.lst (bl.map iV)) ∧ bl.length = n ∧ Coarse M.steps (gmk M n) n m bl ∧ Marked (gmk M n) n bl ∧ (t = 0 ∨ (frs bl = bl ∧ t ≤ (fc bl).length)))
      ⟨D, (gmk M n).map bitB, none, none, none, none, none, none, rfl, sG, hD, hG, by rw [List.length_map]; exact sys.mlen, coarse_bits, marked_bits, .inl rfl⟩ (fun t σ G ht hP => ?_) (fun σ G hP => ?_)
    rotate_left
    · obtain ⟨pm, bl, y3, y4, y5, y6, y7, y8, rfl, s, fpm, hB, lb, co, mk, hc⟩ := hP
      walk_at "rd"
      refine q G pm bl s fpm hB (tells_full sys lb mk co ?_)
      rcases hc with h | h
      · omega
      · exact h.2
    clear sG hG
    obtain ⟨pm, bl, y3, y4, y5, y6, y7, y8, rfl, sG, fpm, hB, lb, co, mk, hc⟩ := hP
    have lk : (keysL bl M.steps).length = n := by rw [keysL_len, ok.len]
    obtain ⟨ks, eks⟩ : ∃ ks, keysL bl M.steps = ks := ⟨_, rfl⟩
    rw [eks] at lk
    have hkat : ∀ j, j < n → ks[j]? = some (keyL bl M.steps j) := fun j hj => by rw [← eks]; exact keysL_at (by rw [ok.len]; exact hj)
    walk_at "rd"
    refine fun pf hpf => ?_
    have s1 := same_new (o := .dT []) hpf
    have hF0 : (upd G pf (.dT [])) pf = some (dO .r (fstD ks 0)) := upd_same
    generalize upd G pf (.dT []) = G1 at *
    walk_at "rd"
    refine ⟨Nat.zero_le _, fun pr hpr => ?_⟩
    have s2 := same_new (o := .lst []) hpr
    have hR0 : (upd G1 pr (.lst [])) pr = some (.lst (((frs ks).take 0).map iV)) := upd_same
    have hF1 := s2 _ _ hF0
    have npr : pf ≠ pr := ne_of_none hF0 hpr
    have fprG : G pr = none := s1.free hpr
    have s12 := s1.trans s2
    clear s1 s2 hF0 hpr
    generalize upd G1 pr (.lst []) = G2 at *
    walk_at "rd"
    refine r_rng1' (j := (n : Int)) (by omega) (by omega) ?_
    rw [Int.toNat_natCast]
    refine for_range (lo := 0) (n := n) (fun j σ G' => ∃ (y3 y6 y7 y8 : Option V), σ = [some (.ref pa), some (iV n), some (.ref pm), y3, some (.ref pf), some (.ref pr), y6, y7, y8] ∧ Same G G' ∧ G' pf = some (dO .r (fstD ks j)) ∧ G' pr = some (.lst (((frs ks).take j).map iV)))
      ⟨_, _, _, _, rfl, s12, hF1, hR0⟩ (fun j σ G' hj hP => ?_) (fun σ G' hP => ?_)
    · clear s12 hF1 hR0
      obtain ⟨z3, z6, z7, z8, rfl, sJ, hF, hR⟩ := hP
      obtain ⟨rl, rb⟩ := ok.rowAt hj
      obtain ⟨prw, grw, hRw⟩ := rowsE (s := j) hRows (by rw [ok.len]; exact hj)
      have sH := sG.trans sJ
      have ej : V.int (0 + (j : Int)) = iV j := congrArg V.int (by omega)
      rw [ej]
      have hb : ∀ x, x < n → bl[x]? = some (bl.getD x 0) := fun x hx => by
        rw [List.getD_eq_getElem?_getD, List.getElem?_eq_getElem (by omega)]
        rfl
      walk_at "rd"
      refine r_ixL (SqL.of (sJ _ _ hB)) (at_of (j := j) rfl (by rw [List.getElem?_map, hb j hj]; rfl)) ?_
      refine ⟨ln1, fun t1 ht1 => ?_⟩
      have s3 := same_new (o := .tup [iV (bl.getD j 0)]) ht1
      have hT1 : (upd G' t1 (.tup [iV (bl.getD j 0)])) t1 = some (.tup ([bl.getD j 0].map iV)) := upd_same
      have sJ3 := sJ.trans s3
      have sH3 := sH.trans s3
      have hF3 := s3 _ _ hF
      have hR3 := s3 _ _ hR
      clear sJ sH hF hR s3
      generalize upd G' t1 (.tup [iV (bl.getD j 0)]) = G3 at *
      walk_at "rd"
      refine r_ixT (same_t sH3 hA) (at_of (j := 0) rfl rfl) ?_
      walk_at "rd"
      refine r_ixT (same_t sH3 hSt) (at_of (j := j) rfl grw) ?_
      walk_at "rd"
      refine ⟨⟨_, same_t sH3 hRw⟩, fun D3 hD3 => ?_⟩
      refine lc_tup (xs := (M.steps.getD j []).map iV) (fun c G5 => Same G3 G5 ∧ G5 D3 = some (.lst ((((M.steps.getD j []).take c).map fun t => bl.getD t 0).map iV))) ⟨same_new hD3, upd_same⟩ (fun c G5 _ hI => same_t (sH3.trans hI.1) hRw) (fun c z G5 hz hI => ?_) (fun G5 hI => ?_)
      · obtain ⟨s5, h5⟩ := hI
        rw [List.getElem?_map] at hz
        obtain ⟨y, hy, rfl⟩ := Option.map_eq_some_iff.mp hz
        have hyn := rb y (List.mem_of_getElem? hy)
        have hc := (List.getElem?_eq_some_iff.mp hy).1
        refine ⟨rfl, r_yes (iteT ?_)⟩
        walk_at "rd"
        refine r_ixL (SqL.of (s5 _ _ (sJ3 _ _ hB))) (at_of (j := y) rfl (by rw [List.getElem?_map, hb y hyn]; rfl)) ?_
        refine ⟨_, h5, by rw [List.length_map, List.length_map, List.length_take]; omega, same_mut s5 hD3, ?_⟩
        rw [upd_same, List.take_add_one, hy, List.map_append, List.map_append]
        rfl
      obtain ⟨s5, h5⟩ := hI
      rw [List.length_map, List.take_length] at h5
      walk_at "rd"
      refine r_tupL (SqL.of h5) (fun t2 ht2 => ?_)
      have s6 := same_new (o := .tup (((M.steps.getD j []).map fun t => bl.getD t 0).map iV)) ht2
      have hT2 : (upd G5 t2 (.tup (((M.steps.getD j []).map fun t => bl.getD t 0).map iV))) t2 = some (.tup (((M.steps.getD j []).map fun t => bl.getD t 0).map iV)) := upd_same
      have s56 := s5.trans s6
      have hT1' := s56 _ _ hT1
      refine r_catN (SqT.of hT1') (SqT.of hT2) (by simp) (by rw [List.length_map, List.length_singleton]; omega) hT1' fun t3 G6 s7 hT3 => ?_
      have ekey : [bl.getD j 0] ++ (M.steps.getD j []).map (fun t => bl.getD t 0) = keyL bl M.steps j := rfl
      rw [ekey] at hT3
      have s57 := s56.trans s7
      have sJ6 := sJ3.trans s57
      have hF6 := s57 _ _ hF3
      have hR6 := s57 _ _ hR3
      clear s5 h5 s6 hT2 s56 hT1' s7 s57 sJ3 sH3 hF3 hR3 hT1
      have hk := hkat j hj
      generalize ek : keyL bl M.steps j = kj at *
      have okk : ∀ q ∈ fstD ks j, okP .r q.1 := fun _ _ z => nomatch z
      have fl := fc_len_le (ks.take j)
      have lf : (fstD ks j).length ≤ n := by
        unfold fstD
        rw [List.length_map]
        rw [List.length_take] at fl
        omega
      have hv : PlV .r G6 (.ref t3) kj := ⟨t3, rfl, hT3⟩
      with_reducible refine r_cutJ (fun σ G7 => σ = [some (.ref pa), some (iV n), some (.ref pm), z3, some (.ref pf), some (.ref pr), some (iV j), some (.ref t3), z8] ∧ Same G G7 ∧ G7 pf = some (dO .r (fstD ks (j + 1))) ∧ G7 pr = some (.lst (((frs ks).take j).map iV)) ∧ PlV .r G7 (.ref t3) kj) (fun σ G7 hJ => ?_) (fun key => ?_)
      rotate_left
      · walk_at "rd"
        refine r_dni ?_
        walk_at "rd"
        refine ⟨_, _, rfl, dget_kd hF6 hv okk, ?_⟩
        walk_at "rd"
        by_cases e3 : kj ∈ fc (ks.take j)
        · rw [fstD_lk e3, if_neg (show ¬ (!(some (iV (ix ks kj))).isSome) = true from fun z => nomatch z)]
          refine r_next (key _ _ ⟨rfl, sJ6, ?_, hR6, hv⟩)
          rw [fstD_succ hk, if_pos e3]
          exact hF6
        · rw [lkP_out (p := kj) (by rw [fstD_keys]; exact e3), if_pos (show (!(none : Option V).isSome) = true from rfl)]
          refine r_dput ?_
          walk_at "rd"
          have dp := dput_kd (z := iV j) hF6 hv okk (by rw [fstD_keys]; exact e3) (by omega)
          refine ⟨pf, _, rfl, dp, ?_⟩
          refine key _ _ ⟨rfl, same_mut sJ6 hpf, ?_, (upd_ne npr.symm).trans hR6, hv.k fun b xs e => ?_⟩
          · rw [upd_same, fstD_succ hk, if_neg e3]
          · rw [upd_ne (fun z => by rw [z, hF6] at e; exact dO_nt _ (Option.some.inj e))]
            exact e
      clear sJ6 hF6 hR6 hv
      obtain ⟨rfl, sJ7, hF7, hR7, hv7⟩ := hJ
      have hin : kj ∈ fc (ks.take (j + 1)) := (fc_mem _ kj).mpr (List.mem_of_getElem? (i := j) (by rw [List.getElem?_take_of_lt (Nat.lt_succ_self j)]; exact hk))
      walk_at "rd"
      refine ⟨ty_l (SqL.of hR7), ?_⟩
      walk_at "rd"
      refine r_dg ?_
      walk_at "rd"
      have dg := dget_kd hF7 hv7 (fun _ _ z => nomatch z)
      rw [fstD_lk hin] at dg
      refine ⟨pf, _, rfl, dg, ?_⟩
      walk_at "rd"
      refine r_append hR7 (by rw [List.length_map, List.length_take]; omega) ?_
      refine ⟨_, _, _, _, rfl, same_mut sJ7 fprG, (upd_ne npr).trans hF7, ?_⟩
      rw [upd_same, List.take_add_one, frs_at hk, List.map_append]
      rfl
    · clear s12 hF1 hR0
      obtain ⟨z3, z6, z7, z8, rfl, sJ, hF, hR⟩ := hP
      rw [List.take_of_length_le (show (frs ks).length ≤ n by rw [frs_len, lk]; exact Nat.le_refl _)] at hR
      walk_at "rd"
      refine r_eqNats (SqL.of hR) (SqL.of (sJ _ _ hB)) ?_
      walk_at "rd"
      refine r_iteD (fun e1 => ?_) (fun e1 => ?_)
      · walk_at "rd"
        exact q G' pm bl (sG.trans sJ) fpm (sJ _ _ hB) (tells_stop sys lb mk co (by rw [eks]; exact e1))
      · refine r_next ?_
        walk_at "rd"
        refine ⟨pr, frs ks, _, _, _, _, _, _, rfl, sG.trans sJ, sG.free fprG, hR, by rw [frs_len]; exact lk, by rw [← eks]; exact coarse_frs sys co, by rw [← eks]; exact marked_frs sys mk, .inr ⟨frs_frs ks, ?_⟩⟩
        rcases hc with rfl | ⟨h1, h2⟩
        · rw [fc_frs_len]
          exact fc_pos fun z => by
            rw [z] at lk
            have lk : 0 = n := lk
            omega
        · have := grows sys lb h1 (by rw [eks]; exact e1)
          rw [eks] at this
          omega

end

section
variable {P : Program} {w : World} {K : PySem.W.Frag} {mg : Str → Option Value} {base : Heap} {a : Ad}
def sgl (l : List Nat) : List (List Nat) := l.map fun x => [x]
theorem sgl_nd {l : List Nat} (h : l.Nodup) : (sgl l).Nodup := by
  unfold sgl
  induction l with
  | nil => exact List.nodup_nil
  | cons x l ih =>
    obtain ⟨h1, h2⟩ := List.nodup_cons.mp h
    rw [List.map_cons]
    refine List.nodup_cons.mpr ⟨fun z => ?_, ih h2⟩
    obtain ⟨y, hy, e⟩ := List.mem_map.mp z
    injection e with e _
    exact h1 (by rw [← e]; exact hy)
theorem sgl_mem {l : List Nat} {x : Nat} : [x] ∈ sgl l ↔ x ∈ l := by
  unfold sgl
  rw [List.mem_map]
  exact ⟨fun ⟨y, hy, e⟩ => by injection e with e _; rw [← e]; exact hy, fun h => ⟨x, h, rfl⟩⟩
theorem sgl_ok {l : List Nat} : ∀ q ∈ enumP (sgl l), okP .i q.1 := fun q hq _ => by
  have := List.mem_map_of_mem (f := (·.1)) hq
  rw [enumP_keys] at this
  obtain ⟨x, _, e⟩ := List.mem_map.mp this
  exact ⟨x, e.symm⟩
theorem sgl_lk {l : List Nat} (nd : l.Nodup) {x : Nat} (h : x ∈ l) : lkP (enumP (sgl l)) [x] = some (iV (ix l x)) := by
  have e : (sgl l)[ix l x]? = some [x] := by
    unfold sgl
    rw [List.getElem?_map, ix_get h]
    rfl
  exact lkP_in (i := ix l x) (q := ([x], iV (ix l x))) (by rw [enumP_keys]; exact sgl_nd nd) (enumP_at e)
def spLLeastM (K : PySem.W.Frag) : Sp := fun vs H Q _ => ∃ (v : V) (M : Mac) (n m : Nat), vs = [v] ∧ Dt K H v (macD M) ∧ MacOk M n m ∧ 1 ≤ n ∧ n ≤ 1000 ∧ m ≤ 4 ∧
  ∀ (H' : Hp) (v' : V) (i : Nat), Same H H' → (bfs (stp1 M) m [M.start] i).length ≤ i → Dt K H' v' (macD (LMa M m i)) → Q v' H'
theorem ok_l_least (T : Txt K mg a) : FnOk P w K mg base CX0 2 a.f_l_least a.d_l_least ["machine"] (spLLeastM K) := by
  have G_l_marks := ok_l_marks (P := P) (w := w) (base := base) T
  have G_l_reached := ok_l_reached (P := P) (w := w) (base := base) T
  refine T.F_l_least.ok sc_l_least (fun vs H Q E h => ?_) (fun cdv A outer s H vs Q E hr h => ?_)
  · obtain ⟨v, M, n, m, rfl, _⟩ := h
    rfl
  · obtain ⟨v, M, n, m, rfl, hM, ok, n1, n10, m4, q⟩ := h
    have zl : (sizeLine : Nat) = 16777216 := by decide
    refine ⟨_, (pss_cons (ps_set (i := 1) sc_l_least.nd rfl (Or.inr rfl) (pe_call (G_l_marks) (hr.mono (by first | decide | omega)) (by rfl) T.g_l_marks T.F_l_marks.kp T.b_l_marks .nil pass0 (pa_cons (pv 0) pa_nil)))
      (pss_cons (ps_set (i := 2) sc_l_least.nd rfl (Or.inr rfl) (pe_lst pa_nil))
      (pss_cons (ps_set (i := 3) sc_l_least.nd rfl (Or.inr rfl) pe_dnewK)
      (pss_cons (ps_for PassesOwn.never rfl (pi_listK (K := K) rfl (pe_call (G_l_reached) (hr.mono (by first | decide | omega)) (by rfl) T.g_l_reached T.F_l_reached.kp T.b_l_reached .nil pass0 (pa_cons (pv 0) pa_nil))) (pg_name (i := 4) sc_l_least.nd rfl (Or.inl rfl)) (pss_one (ps_if (pt_cmp (pc_dnotin (hu_of hr) (pe_ix (ix_listK (K := K) rfl) (pv 1) (pv 4) (fun _ _ => rfl)) (pv 3))) (pss_cons (ps_dput (hu_of hr) (pv 3) (pe_ix (ix_listK (K := K) rfl) (pv 1) (pv 4) (fun _ _ => rfl)) (pe_callB (call_lenQK (K := K) rfl) (by rfl) T.z_len (by decide +kernel) (pa_cons (pv 2) pa_nil)) (by rfl))
      (pss_one (ps_expr (bmK (K := K) rfl (pe_bm PySem.F.plainAttrs_list PySem.F.slot_list_append PySem.F.type_list_append mt_append (pv 2) (pa_cons (pv 4) pa_nil)))))) pss_nil)))
      (pss_cons (ps_set (i := 5) sc_l_least.nd rfl (Or.inl rfl) (pe_callTy (call_tupOfK (K := K) rfl) (by rfl) T.z_tuple (by decide +kernel) (pa_cons (pe_lc (own := [("state", 4)]) (g := gName 4) (tt := tYes) rfl sc_l_least.nd (pi_listK (K := K) rfl (pv 2)) (blkOk_by (N := N_l_least) (sc := (defScope s_l_least)) (by decide +kernel)) (fun _ _ _ _ _ => pg_name (i := 4) sc_l_least.nd rfl (by first | exact Or.inl rfl | exact Or.inr rfl)) (fun _ _ _ _ _ => pts_nil) (fun _ _ _ _ _ => (pe_callTy (call_tupOfK (K := K) rfl) (by rfl) T.z_tuple (by decide +kernel) (pa_cons (pe_lc (own := [("target", 6)]) (g := gName 6) (tt := tYes) rfl sc_l_least.nd (pi_tupK (K := K) rfl (pe_ix (ix_tupK (K := K) rfl) (pe_ix (ix_tupK (K := K) rfl) (pv 0) pe_int (fun _ _ => rfl)) (pv 4) (fun _ _ => rfl))) (blkOk_by (N := N_l_least) (sc := (relS (eScope (eArg 0 (sE (sIn 4 s_l_least)))) (defScope s_l_least))) (by decide +kernel)) (fun _ _ _ _ _ => pg_name (i := 6) sc_l_least.nd rfl (by first | exact Or.inl rfl | exact Or.inr rfl)) (fun _ _ _ _ _ => pts_nil) (fun _ _ _ _ _ => (pe_dget (hu_of hr) (pv 3) (pe_ix (ix_listK (K := K) rfl) (pv 1) (pv 6) (fun _ _ => rfl)) (fun _ _ => rfl)))) pa_nil)))) pa_nil)))
      (pss_one (ps_ret (pe_tup (pa_cons (pv 5) (pa_cons pe_int (pa_cons (pe_callTy (call_tupOfK (K := K) rfl) (by rfl) T.z_tuple (by decide +kernel) (pa_cons (pe_lc (own := [("k", 7)]) (g := gName 7) rfl sc_l_least.nd (pi_range1 (by rfl) T.z_range (pa_cons (pe_callB (call_lenQK (K := K) rfl) (by rfl) T.z_len (by decide +kernel) (pa_cons (pv 2) pa_nil)) pa_nil)) (blkOk_by (N := N_l_least) (sc := (defScope s_l_least)) (by decide +kernel)) (fun _ _ _ _ _ => pg_name (i := 7) sc_l_least.nd rfl (by first | exact Or.inl rfl | exact Or.inr rfl)) (fun _ _ _ _ _ => (pts_one (pt_cmpR (op_inK (K := K) rfl) (pe_ix (ix_listK (K := K) rfl) (pv 2) (pv 7) (fun _ _ => rfl)) (pe_ix (ix_tupK (K := K) rfl) (pv 0) pe_int (fun _ _ => rfl)) (by rfl)))) (fun _ _ _ _ _ => (pv 7))) pa_nil)) pa_nil))))))))))), ?_⟩
    walk_at "rd"
    refine ⟨v, M, n, m, rfl, hM, ok, n1, n10, m4, fun H1 pm mk s1 fpm hMk tell => ?_⟩
    have hM1 := hM.k (sT_of s1)
    have lmk : mk.length = n := tell.1.trans ok.len
    walk_at "rd"
    refine ⟨Nat.zero_le _, fun pf hpf => ?_⟩
    have s2 := same_new (o := .lst []) hpf
    have hF0 : (upd H1 pf (.lst [])) pf = some (.lst []) := upd_same
    have hMk2 := s2 _ _ hMk
    have hM2 := hM1.k (sT_of s2)
    have fpf : H pf = none := s1.free hpf
    have nmf : pm ≠ pf := ne_of_none hMk hpf
    have s12 := s1.trans s2
    clear s1 s2 hMk hM1 hpf fpm
    generalize upd H1 pf (.lst []) = H2 at *
    walk_at "rd"
    refine fun pn hpn => ?_
    have s3 := same_new (o := .dK []) hpn
    have hN0 : (upd H2 pn (.dK [])) pn = some (dO .i (enumP (sgl (fc ([] : List Nat))))) := upd_same
    have hMk3 := s3 _ _ hMk2
    have hF1 := s3 _ _ hF0
    have hM3 := hM2.k (sT_of s3)
    have fpn : H pn = none := s12.free hpn
    have nfn : pf ≠ pn := ne_of_none hF0 hpn
    have nmn : pm ≠ pn := ne_of_none hMk2 hpn
    have s13 := s12.trans s3
    clear s12 s3 hMk2 hF0 hM2 hpn
    generalize upd H2 pn (.dK []) = H3 at *
    walk_at "rd"
    refine ⟨v, M, n, m, rfl, hM3, ok, n1, n10, m4, fun H4 po i s4 fpo hi hO => ?_⟩
    have e := ended ok hi
    have hq : ∀ (H' : Hp) (v' : V), Same H H' → Dt K H' v' (macD (LMa M m i)) → Q v' H' := fun H' v' s hv => q H' v' i s hi hv
    have eLM := lm_law ok e tell rfl
    have eLM : LMa M m i = _ := eLM
    rw [eLM] at hq
    clear eLM q
    generalize bfs (stp1 M) m [M.start] i = B at *
    obtain ⟨lo, elo⟩ : ∃ lo, (ordB B).map (fun s => mk.getD s 0) = lo := ⟨_, rfl⟩
    rw [elo] at hq
    have llo : lo.length = B.length := by rw [← elo, List.length_map, ordB_len]
    have oat : ∀ j, j < B.length → (ordB B)[j]? = some ((ordB B).getD j 0) ∧ (ordB B).getD j 0 < n := fun j hj => by
      obtain ⟨p, hp⟩ : ∃ p, B[j]? = some p := ⟨_, List.getElem?_eq_getElem hj⟩
      obtain ⟨h1, _, h2⟩ := ordB_at e hp
      rw [List.getD_eq_getElem?_getD, h1]
      exact ⟨rfl, h2⟩
    have loat : ∀ j, j < B.length → lo[j]? = some (mk.getD ((ordB B).getD j 0) 0) := fun j hj => by
      rw [← elo, List.getElem?_map, (oat j hj).1]
      rfl
    have mkat : ∀ s, s < n → mk[s]? = some (mk.getD s 0) := fun s hs => by
      rw [List.getD_eq_getElem?_getD, List.getElem?_eq_getElem (by omega)]
      rfl
    have lB : B.length ≤ n := by
      have : (B.map (·.1)).length ≤ (sing n).length := nodup_le_len e.nd fun x hx => by
        obtain ⟨j, hj⟩ := List.mem_iff_getElem?.mp hx
        rw [List.getElem?_map] at hj
        obtain ⟨p, hp, rfl⟩ := Option.map_eq_some_iff.mp hj
        obtain ⟨s, hs, es⟩ := e.one j p hp
        rw [es]
        exact sing_mem.mpr ⟨s, hs, rfl⟩
      rw [List.length_map, sing_len] at this
      exact this
    have tk : ∀ j, (fc ((num lo).take j)).length = (fc (lo.take j)).length := fun j => by rw [num_take, fc_num_len]
    have hrl : ∀ j, j ≤ B.length → (repsF (num lo) j).length = (fc (lo.take j)).length := fun j hj => by rw [reps_len lo j (by omega), tk]
    have nfo : pf ≠ po := ne_of_none hF1 fpo
    have nno : pn ≠ po := ne_of_none hN0 fpo
    have hMk4 := s4 _ _ hMk3
    have hF4 := s4 _ _ hF1
    have hN4 := s4 _ _ hN0
    have hM4 := hM3.k (sT_of s4)
    have s14 := s13.trans s4
    clear s13 s4 hMk3 hF1 hN0 hM3 fpo
    obtain ⟨pa, st, gd, rows, rfl, hA, hSt, hRows, hGd⟩ := macE hM4
    walk_at "rd"
    refine ⟨⟨_, SqL.of hO⟩, ?_⟩
    have keepT : ∀ G : Hp, (∀ b o, b ≠ pf → b ≠ pn → H4 b = some o → G b = some o) → SameT H4 G := fun G k b => ⟨fun xs eb => k b _ (ne_of eb hF4 fun z => nomatch z) (ne_of eb hN4 fun z => nomatch z) eb, fun o xs eb => k b _ (ne_of eb hF4 fun z => nomatch z) (ne_of eb hN4 fun z => nomatch z) eb⟩
    refine for_list (xs := (ordB B).map iV) (fun j σ G => ∃ (y4 : Option V), σ = [some (.ref pa), some (.ref pm), some (.ref pf), some (.ref pn), y4, none, none, none] ∧ Same H G ∧ (∀ b o, b ≠ pf → b ≠ pn → H4 b = some o → G b = some o) ∧ G pf = some (.lst (((repsF (num lo) j).map fun i => (ordB B).getD i 0).map iV)) ∧ G pn = some (dO .i (enumP (sgl (fc (lo.take j))))))
      ⟨_, rfl, s14, fun b o _ _ eb => eb, hF4, hN4⟩ (fun j σ G _ hP => ?_) (fun j x σ G hx hP => ?_) (fun σ G hP => ?_)
    · obtain ⟨_, _, _, k, _⟩ := hP
      exact SqL.of (k _ _ nfo.symm nno.symm hO)
    · obtain ⟨y4, rfl, sG, k, hF, hN⟩ := hP
      rw [List.getElem?_map] at hx
      obtain ⟨sx, hsx, rfl⟩ := Option.map_eq_some_iff.mp hx
      have hj : j < B.length := by
        have := (List.getElem?_eq_some_iff.mp hsx).1
        rw [ordB_len] at this
        exact this
      have esx : (ordB B).getD j 0 = sx := by rw [List.getD_eq_getElem?_getD, hsx]; rfl
      have hsn := (oat j hj).2
      rw [esx] at hsn
      have hl := loat j hj
      rw [esx] at hl
      have hMkG := k _ _ nmf nmn hMk4
      obtain ⟨n1', n2', _⟩ := num_new hl
      have frl := hrl j (by omega)
      have fll := fc_len_le (lo.take j)
      rw [List.length_take] at fll
      have e1 : lo.take (j + 1) = lo.take j ++ [mk.getD sx 0] := by rw [List.take_add_one, hl]; rfl
      walk_at "rd"
      refine r_dni ?_
      walk_at "rd"
      refine r_ixL (SqL.of hMkG) (at_of (j := sx) rfl (by rw [List.getElem?_map, mkat sx hsn]; rfl)) ?_
      walk_at "rd"
      have hv : PlV .i G (iV (mk.getD sx 0)) [mk.getD sx 0] := ⟨_, rfl, rfl⟩
      refine ⟨_, _, rfl, dget_kd hN hv sgl_ok, ?_⟩
      walk_at "rd"
      by_cases e3 : mk.getD sx 0 ∈ fc (lo.take j)
      · rw [sgl_lk (fc_nd _) e3, if_neg (show ¬ (!(some (iV (ix (fc (lo.take j)) (mk.getD sx 0)))).isSome) = true from fun z => nomatch z)]
        refine r_next ⟨_, rfl, sG, k, ?_, ?_⟩
        · rw [reps_succ, if_neg fun z => (n1'.mp z) e3, List.append_nil]
          exact hF
        · rw [e1, fc_snoc, if_pos e3]
          exact hN
      · rw [lkP_out (p := [mk.getD sx 0]) (by rw [enumP_keys]; exact fun z => e3 (sgl_mem.mp z)), if_pos (show (!(none : Option V).isSome) = true from rfl)]
        walk_at "rd"
        refine r_dput ?_
        walk_at "rd"
        refine r_lenL (SqL.of hF) ?_
        rw [List.length_map, List.length_map, frl]
        walk_at "rd"
        refine r_ixL (SqL.of hMkG) (at_of (j := sx) rfl (by rw [List.getElem?_map, mkat sx hsn]; rfl)) ?_
        have dp := dput_kd (z := V.int ((fc (lo.take j)).length : Nat)) hN hv sgl_ok (by rw [enumP_keys]; exact fun z => e3 (sgl_mem.mp z)) (by rw [enumP_len]; unfold sgl; rw [List.length_map]; omega)
        have ee : enumP (sgl (fc (lo.take j))) ++ [([mk.getD sx 0], V.int ((fc (lo.take j)).length : Nat))] = enumP (sgl (fc (lo.take (j + 1)))) := by
          rw [e1, fc_snoc, if_neg e3]
          unfold sgl
          rw [List.map_append, List.map_singleton, enumP_snoc, List.length_map]
          rfl
        rw [ee] at dp
        refine ⟨pn, _, rfl, dp, ?_⟩
        have sG2 := same_mut (o := dO .i (enumP (sgl (fc (lo.take (j + 1)))))) sG fpn
        have hF2 : (upd G pn (dO .i (enumP (sgl (fc (lo.take (j + 1))))))) pf = some (.lst (((repsF (num lo) j).map fun i => (ordB B).getD i 0).map iV)) := (upd_ne nfn).trans hF
        have k2 : ∀ b o, b ≠ pf → b ≠ pn → H4 b = some o → (upd G pn (dO .i (enumP (sgl (fc (lo.take (j + 1))))))) b = some o := fun b o h1 h2 eb => (upd_ne h2).trans (k b o h1 h2 eb)
        have hN2 : (upd G pn (dO .i (enumP (sgl (fc (lo.take (j + 1))))))) pn = _ := upd_same
        generalize upd G pn (dO .i (enumP (sgl (fc (lo.take (j + 1)))))) = G2 at *
        walk_at "rd"
        refine ⟨ty_l (SqL.of hF2), ?_⟩
        walk_at "rd"
        refine r_append hF2 (by rw [List.length_map, List.length_map]; omega) ?_
        refine ⟨_, rfl, same_mut sG2 fpf, fun b o h1 h2 eb => (upd_ne h1).trans (k2 b o h1 h2 eb), ?_, (upd_ne nfn.symm).trans hN2⟩
        rw [upd_same, reps_succ, if_pos (n1'.mpr e3), List.map_append, List.map_append, List.map_singleton, esx]
        rfl
    · obtain ⟨y4, rfl, sG, k, hF, hN⟩ := hP
      rw [List.length_map, ordB_len] at hF hN
      rw [List.take_of_length_le (by omega : lo.length ≤ B.length)] at hN
      have sT := keepT G k
      have hMkG := k _ _ nmf nmn hMk4
      have lF : ((repsF (num lo) B.length).map fun i => (ordB B).getD i 0).length = (repsF (num lo) B.length).length := List.length_map _
      have lR : (repsF (num lo) B.length).length ≤ B.length := by
        have := List.length_filter_le (fun i => decide ((num lo).getD i 0 = (fc ((num lo).take i)).length)) (List.range B.length)
        rw [List.length_range] at this
        exact this
      obtain ⟨fl, efl⟩ : ∃ fl, ((repsF (num lo) B.length).map fun i => (ordB B).getD i 0) = fl := ⟨_, rfl⟩
      rw [efl] at hF lF
      have hqq : ∀ (H' : Hp) (v' : V), Same H H' → Dt K H' v' (macD ⟨fl.map fun s => (M.steps.getD s []).map fun t => ix (fc lo) (mk.getD t 0), 0, (List.range fl.length).filter fun k => decide (fl.getD k 0 ∈ M.good)⟩) → Q v' H' := fun H' v' s hv => hq H' v' s (by
        rw [← efl, List.map_map, List.length_map] at hv
        have : ((List.range (repsF (num lo) B.length).length).filter fun k => decide ((ordB B).getD ((repsF (num lo) B.length).getD k 0) 0 ∈ M.good)) = (List.range (repsF (num lo) B.length).length).filter fun k => decide (((repsF (num lo) B.length).map fun i => (ordB B).getD i 0).getD k 0 ∈ M.good) := List.filter_congr fun q hq => by
          have hql := List.mem_range.mp hq
          rw [List.getD_eq_getElem?_getD (l := (repsF (num lo) B.length).map fun i => (ordB B).getD i 0), List.getElem?_map, List.getD_eq_getElem?_getD (l := repsF (num lo) B.length), List.getElem?_eq_getElem hql]
          rfl
        rw [this]
        exact hv)
      have flB : ∀ s ∈ fl, ∃ j, j < B.length ∧ (ordB B)[j]? = some s ∧ s < n := fun s hs => by
        rw [← efl] at hs
        obtain ⟨j, hj, rfl⟩ := List.mem_map.mp hs
        exact ⟨j, reps_lt hj, oat j (reps_lt hj)⟩
      clear hq efl hrl
      walk_at "rd"
      refine ⟨⟨_, SqL.of hF⟩, fun D1 hD1 => ?_⟩
      refine lc_list (xs := fl.map iV) (fun j G1 => Same G G1 ∧ ∃ us : List V, G1 D1 = some (.lst us) ∧ DtAll K G1 us (((fl.take j).map fun s => (M.steps.getD s []).map fun t => ix (fc lo) (mk.getD t 0)).map rowD)) ⟨same_new hD1, [], upd_same, .nil⟩ (fun j G1 _ hI => SqL.of (hI.1 _ _ hF)) (fun j x G1 hx hI => ?_) (fun G1 hI => ?_)
      · obtain ⟨s1, us, hU, hus⟩ := hI
        rw [List.getElem?_map] at hx
        obtain ⟨sx, hsx, rfl⟩ := Option.map_eq_some_iff.mp hx
        obtain ⟨jj, hjj, hoj, hsn⟩ := flB sx (List.mem_of_getElem? hsx)
        have hjf := (List.getElem?_eq_some_iff.mp hsx).1
        obtain ⟨prw, grw, hRw⟩ := rowsE (s := sx) hRows (by rw [ok.len]; exact hsn)
        obtain ⟨rl, rb⟩ := ok.rowAt hsn
        have sT1 := sT.trans (sT_of s1)
        have lus : us.length ≤ j := by
          have := hus.len
          rw [List.length_map, List.length_map, List.length_take] at this
          omega
        refine ⟨rfl, r_yes (iteT ?_)⟩
        walk_at "rd"
        refine r_ixT (sT1.sq hA) (at_of (j := 0) rfl rfl) ?_
        walk_at "rd"
        refine r_ixT (sT1.sq hSt) (at_of (j := sx) rfl grw) ?_
        walk_at "rd"
        refine ⟨⟨_, sT1.sq hRw⟩, fun D2 hD2 => ?_⟩
        refine lc_tup (xs := (M.steps.getD sx []).map iV) (fun c G2 => Same G1 G2 ∧ G2 D2 = some (.lst ((((M.steps.getD sx []).take c).map fun t => ix (fc lo) (mk.getD t 0)).map iV))) ⟨same_new hD2, upd_same⟩ (fun c G2 _ hI => (sT1.trans (sT_of hI.1)).sq hRw) (fun c z G2 hz hI => ?_) (fun G2 hI => ?_)
        · obtain ⟨s2, h2⟩ := hI
          rw [List.getElem?_map] at hz
          obtain ⟨y, hy, rfl⟩ := Option.map_eq_some_iff.mp hz
          have hyn := rb y (List.mem_of_getElem? hy)
          have hcm := (List.getElem?_eq_some_iff.mp hy).1
          have s12 := s1.trans s2
          have hin : mk.getD y 0 ∈ fc lo := (fc_mem _ _).mpr (by
            have g := posB e hoj (c := c) (by omega)
            have ey : stepM M sx (97 + c) = y := by
              unfold stepM
              rw [Nat.add_sub_cancel_left, List.getD_eq_getElem?_getD (l := M.steps.getD sx []), hy]
              rfl
            rw [ey] at g
            rw [← elo]
            exact List.mem_map.mpr ⟨y, List.mem_of_getElem? g, rfl⟩)
          refine ⟨rfl, r_yes (iteT ?_)⟩
          refine r_dg ?_
          walk_at "rd"
          refine r_ixL (SqL.of (s12 _ _ hMkG)) (at_of (j := y) rfl (by rw [List.getElem?_map, mkat y hyn]; rfl)) ?_
          have hv : PlV .i G2 (iV (mk.getD y 0)) [mk.getD y 0] := ⟨_, rfl, rfl⟩
          have dg := dget_kd (s12 _ _ hN) hv sgl_ok
          rw [sgl_lk (fc_nd _) hin] at dg
          refine ⟨pn, _, rfl, dg, ?_⟩
          refine ⟨_, h2, by rw [List.length_map, List.length_map, List.length_take]; omega, same_mut s2 hD2, ?_⟩
          rw [upd_same, List.take_add_one, hy, List.map_append, List.map_append]
          rfl
        obtain ⟨s2, h2⟩ := hI
        rw [List.length_map, List.take_length] at h2
        walk_at "rd"
        refine r_tupL (SqL.of h2) (fun t ht => ?_)
        have s3 := same_new (o := .tup (((M.steps.getD sx []).map fun t => ix (fc lo) (mk.getD t 0)).map iV)) ht
        have sT2 : SameT (upd G2 t (.tup (((M.steps.getD sx []).map fun t => ix (fc lo) (mk.getD t 0)).map iV))) (upd (upd G2 t (.tup (((M.steps.getD sx []).map fun t => ix (fc lo) (mk.getD t 0)).map iV))) D1 (.lst (us ++ [.ref t]))) := SameT.lst (s3 _ _ (s2 _ _ hU))
        refine ⟨us, s3 _ _ (s2 _ _ hU), by omega, same_mut (s1.trans (s2.trans s3)) hD1, us ++ [.ref t], upd_same, ?_⟩
        rw [List.take_add_one, hsx, List.map_append, List.map_append]
        exact (hus.k ((sT_of (s2.trans s3)).trans sT2)).snoc (.tup (sT2.sq (SqT.of upd_same)) (ofNats _))
      obtain ⟨s1, us, hU, hus⟩ := hI
      rw [List.length_map, List.take_length] at hus
      walk_at "rd"
      refine r_tupL (SqL.of hU) (fun t1 ht1 => ?_)
      have s2 := same_new (o := .tup us) ht1
      have hT1 : (upd G1 t1 (.tup us)) t1 = some (.tup us) := upd_same
      have hus2 := hus.k (sT_of s2)
      have s12 := s1.trans s2
      clear s1 s2 hU hus
      generalize upd G1 t1 (.tup us) = G2 at *
      walk_at "rd"
      refine r_lenL (SqL.of (s12 _ _ hF)) ?_
      rw [List.length_map]
      walk_at "rd"
      refine r_rng1' (by omega) (by omega) ?_
      rw [Int.toNat_natCast]
      intro D3 hD3
      refine lc_range (lo := 0) (n := fl.length) (fun q G3 => Same G2 G3 ∧ G3 D3 = some (.lst (((List.range q).filter fun k => decide (fl.getD k 0 ∈ M.good)).map iV))) ⟨same_new hD3, upd_same⟩ (fun q G3 hqf hI => ?_) (fun G3 hI => ?_)
      · obtain ⟨s3, h3⟩ := hI
        have s13' := s12.trans s3
        obtain ⟨sx, hsx⟩ : ∃ sx, fl[q]? = some sx := ⟨_, List.getElem?_eq_getElem hqf⟩
        have esx : fl.getD q 0 = sx := by rw [List.getD_eq_getElem?_getD, hsx]; rfl
        have ei : V.int (0 + (q : Int)) = iV q := congrArg V.int (by omega)
        refine ⟨rfl, ?_⟩
        walk_at "rd"
        rw [ei]
        refine r_ixL (SqL.of (s13' _ _ hF)) (at_of (j := q) rfl (by rw [List.getElem?_map, hsx]; rfl)) ?_
        walk_at "rd"
        refine r_ixT ((sT.trans (sT_of s13')).sq hA) (at_of (j := 2) rfl rfl) ?_
        refine r_in ((sT.trans (sT_of s13')).sq hGd) ?_
        walk_at "rd"
        rw [List.range_succ, List.filter_append]
        have lq := List.length_filter_le (fun k => decide (fl.getD k 0 ∈ M.good)) (List.range q)
        rw [List.length_range] at lq
        refine r_iteD (fun e1 => ?_) (fun e1 => ?_)
        · walk_at "rd"
          refine ⟨_, h3, by rw [List.length_map]; omega, same_mut s3 hD3, ?_⟩
          rw [upd_same, List.filter_cons_of_pos (by rw [esx]; exact decide_eq_true e1), List.filter_nil, List.map_append]
          rfl
        · rw [List.filter_cons_of_neg (by rw [esx, decide_eq_true_eq]; exact e1), List.filter_nil, List.append_nil]
          exact ⟨s3, h3⟩
      obtain ⟨s3, h3⟩ := hI
      walk_at "rd"
      refine r_tupL (SqL.of h3) (fun t2 ht2 => ?_)
      have s4' := same_new (o := .tup (((List.range fl.length).filter fun k => decide (fl.getD k 0 ∈ M.good)).map iV)) ht2
      refine ⟨ln3, fun t3 ht3 => ?_⟩
      have s5 := same_new (o := .tup [V.ref t1, V.int 0, V.ref t2]) ht3
      refine hqq _ _ (sG.trans (s12.trans (s3.trans (s4'.trans s5)))) ?_
      refine .tup (SqT.of upd_same) (.cons ?_ (.cons (.int 0) (.cons ?_ .nil)))
      · exact .tup (SqT.of (s5 _ _ (s4' _ _ (s3 _ _ hT1)))) (hus2.k (sT_of (s3.trans (s4'.trans s5))))
      · exact .tup (SqT.of (s5 _ _ upd_same)) (ofNats _)

end

section
variable {P : Program} {w : World} {K : PySem.W.Frag} {mg : Str → Option Value} {base : Heap} {a : Ad}
/-- the other states are good -/
def compM (M : Mac) : Mac := ⟨M.steps, M.start, (List.range M.steps.length).filter fun s => decide (s ∉ M.good)⟩
theorem compM_ok {M : Mac} {n m : Nat} (ok : MacOk M n m) : MacOk (compM M) n m := by
  refine ⟨ok.len, ok.row, ok.start, fun s hs => ?_, ?_⟩
  · have := List.mem_range.mp (List.mem_filter.mp hs).1
    rw [ok.len] at this
    exact this
  · exact List.Pairwise.filter _ List.pairwise_lt_range
theorem r_ninT1 {K : PySem.W.Frag} {H : Hp} {Q : VK} {k : Nat} {g : List Nat} {p : Addr} (h : SqT K H p (g.map iV)) (q : Q (.bl (!decide (k ∈ g))) H) : rIn K true (iV k) (.ref p) H Q := ⟨p, _, rfl, .inr h, rfl, flat_nats g, by rw [← inV_nat] at q; exact q⟩
def spCompl (K : PySem.W.Frag) (a : Ad) : Sp := fun vs H Q _ => ∃ (v : V) (M : Mac) (n m : Nat), vs = [v] ∧ Dt K H v (macD M) ∧ MacOk M n m ∧ 1 ≤ n ∧ n ≤ 1000 ∧ m ≤ 4 ∧ LamX.Tabs (tabsOf a) H ∧
  ∀ (H' : Hp) (v' : V) (i : Nat), ExD H H' → LamX.Tabs (tabsOf a) H' → (bfs (stp1 (compM M)) m [M.start] i).length ≤ i → Dt K H' v' (macD (LMa (compM M) m i)) → Q v' H'
theorem ok_complement (T : Txt K mg a) (B : Tbl mg base a) : FnOk P w K mg base CX0 11 a.f_complement a.d_complement ["machine"] (spCompl K a) := by
  have G_least := ok_least (P := P) (w := w) (base := base) T B
  refine T.F_complement.ok sc_complement (fun vs H Q E h => ?_) (fun cdv A outer s H vs Q E hr h => ?_)
  · obtain ⟨v, M, n, m, rfl, _⟩ := h
    rfl
  · obtain ⟨v, M, n, m, rfl, hM, ok, n1, n1000, m4, hTb, q⟩ := h
    have zl : (sizeLine : Nat) = 16777216 := by decide
    obtain ⟨pa, st, gd, rows, rfl, hA, hSt, hRows, hGd⟩ := macE hM
    have hrl : rows.length = n := by
      have := hRows.len
      rw [List.length_map, ok.len] at this
      exact this
    refine ⟨_, (pss_cons (ps_asg (pv 0) (pg_tupK (K := K) rfl rfl (pgs_cons (pg_name (i := 1) sc_complement.nd rfl (Or.inl rfl)) (pgs_cons (pg_name (i := 2) sc_complement.nd rfl (Or.inl rfl)) (pgs_cons (pg_name (i := 3) sc_complement.nd rfl (Or.inr rfl)) pgs_nil)))))
      (pss_one (ps_ret (pe_call (G_least) (hr.mono (by first | decide | omega)) (by rfl) T.g_least T.F_least.kp T.b_least .nil pass0 (pa_cons (pe_tup (pa_cons (pv 1) (pa_cons (pv 2) (pa_cons (pe_callTy (call_tupOfK (K := K) rfl) (by rfl) T.z_tuple (by decide +kernel) (pa_cons (pe_lc (own := [("state", 4)]) (g := gName 4) rfl sc_complement.nd (pi_range1 (by rfl) T.z_range (pa_cons (pe_callB (call_lenQK (K := K) rfl) (by rfl) T.z_len (by decide +kernel) (pa_cons (pv 1) pa_nil)) pa_nil)) (blkOk_by (N := N_complement) (sc := (defScope s_complement)) (by decide +kernel)) (fun _ _ _ _ _ => pg_name (i := 4) sc_complement.nd rfl (by first | exact Or.inl rfl | exact Or.inr rfl)) (fun _ _ _ _ _ => (pts_one (pt_cmpR (op_notInK (K := K) rfl) (pv 4) (pv 3) (by rfl)))) (fun _ _ _ _ _ => (pv 4))) pa_nil)) pa_nil)))) pa_nil))))), ?_⟩
    walk_at "rd"
    refine ⟨pa, _, rfl, hA, rfl, ?_⟩
    refine ⟨_, _, rfl, ⟨_, _, rfl, ⟨_, _, rfl, ⟨rfl, ?_⟩⟩⟩⟩
    walk_at "rd"
    refine r_lenT hSt ?_
    rw [hrl]
    refine r_rng1' (by omega) (by omega) ?_
    rw [Int.toNat_natCast]
    intro D hD
    refine lc_range (lo := 0) (n := n) (fun i G => Same H G ∧ G D = some (.lst (((List.range i).filter fun s => decide (s ∉ M.good)).map iV))) ⟨same_new hD, upd_same⟩ (fun i G hi hP => ?_) (fun G hP => ?_)
    · obtain ⟨sG, hG⟩ := hP
      refine ⟨rfl, ?_⟩
      walk_at "rd"
      rw [show V.int (0 + (i : Int)) = iV i from congrArg V.int (by omega)]
      refine r_ninT1 (same_t sG hGd) ?_
      have lr : ((List.range i).filter fun s => decide (s ∉ M.good)).length ≤ i := Nat.le_trans (List.length_filter_le _ _) (by rw [List.length_range]; exact Nat.le_refl _)
      refine ⟨_, rfl, ?_⟩
      rw [List.range_succ, List.filter_append]
      refine r_iteN (fun e => ?_) (fun e => ?_)
      · rw [show [i].filter (fun s => decide (s ∉ M.good)) = [i] from List.filter_cons_of_pos (by simpa using e)]
        refine r_var rfl ?_
        refine ⟨_, hG, by rw [List.length_map]; omega, same_mut sG hD, ?_⟩
        rw [upd_same, List.map_append]
        rfl
      · rw [show [i].filter (fun s => decide (s ∉ M.good)) = [] from List.filter_cons_of_neg (by simpa using e), List.append_nil]
        exact ⟨sG, hG⟩
    · obtain ⟨sG, hG⟩ := hP
      walk_at "rd"
      refine r_tupL (SqL.of hG) (fun tg htg => ?_)
      walk_at "rd"
      refine ⟨ln3, fun tm htm => ?_⟩
      refine r_nil ?_
      have sA := same_new (o := .tup (((List.range n).filter fun s => decide (s ∉ M.good)).map iV)) htg
      have sB := same_new (o := .tup [V.ref st, iV M.start, V.ref tg]) htm
      have sC := sG.trans (sA.trans sB)
      refine ⟨.ref tm, compM M, n, m, rfl, ?_, compM_ok ok, n1, by omega, m4, hTb.same sC, fun H' v' i x t hi hv => q H' v' i ((ExD.of sC).trans x) t hi hv⟩
      refine .tup (SqT.of upd_same) (.cons ?_ (.cons (.int _) (.cons ?_ .nil)))
      · exact .tup (same_t sC hSt) (hRows.k (sT_of sC))
      · have : (compM M).good = (List.range n).filter fun s => decide (s ∉ M.good) := by unfold compM; rw [ok.len]
        rw [this]
        exact .tup (SqT.of (sB _ _ upd_same)) (ofNats _)

end

section
variable {P : Program} {w : World} {K : PySem.W.Frag} {mg : Str → Option Value} {base : Heap} {a : Ad}
def jw (way : Nat) (b c : Bool) : Bool := match way with
  | 0 => b && c
  | 1 => b || c
  | _ => b != c
def wayS : Nat → Str
  | 0 => "both"
  | 1 => "either"
  | _ => "one"
def spJoined : Sp := fun vs H Q _ => ∃ (b c : Bool) (k : Nat), vs = [.bl b, .bl c, .str (wayS k)] ∧ Q (.bl (jw k b c)) H
theorem ok_joined (T : Txt K mg a) : FnOk P w K mg base CX0 1 a.f_joined a.d_joined ["one", "other", "way"] spJoined := by
  refine T.F_joined.ok sc_joined (fun vs H Q E h => ?_) (fun cdv A outer s H vs Q E hr h => ?_)
  · obtain ⟨b, c, k, rfl, _⟩ := h
    rfl
  · obtain ⟨b, c, k, rfl, q⟩ := h
    refine ⟨_, (pss_cons (ps_if (pt_cmpR op_eq (pv 2) pe_str (nomark _)) (pss_one (ps_ret (pe_and (pv 0) (pe_one (pv 1))))) pss_nil)
      (pss_cons (ps_if (pt_cmpR op_eq (pv 2) pe_str (nomark _)) (pss_one (ps_ret (pe_or (pv 0) (pe_one (pv 1))))) pss_nil)
      (pss_one (ps_ret (pe_cmpR op_ne (pv 0) (pv 1) (nomark _)))))), ?_⟩
    match k with
    | 0 =>
      walk_at "rd"
      refine r_iteD (fun _ => ?_) (fun e => absurd rfl e)
      walk_at "rd"
      cases b
      · exact iteF q
      · exact iteT (r_var rfl q)
    | 1 =>
      walk_at "rd"
      refine r_iteD (fun e => absurd e (by decide +kernel)) (fun _ => r_next ?_)
      walk_at "rd"
      refine r_iteD (fun _ => ?_) (fun e => absurd rfl e)
      walk_at "rd"
      cases b
      · exact iteF (r_var rfl q)
      · exact iteT q
    | k + 2 =>
      walk_at "rd"
      refine r_iteD (fun e => absurd e (show ¬ (("one" : Str) = Str.ofString "both") by decide +kernel)) (fun _ => r_next ?_)
      walk_at "rd"
      refine r_iteD (fun e => absurd e (show ¬ (("one" : Str) = Str.ofString "either") by decide +kernel)) (fun _ => r_next ?_)
      walk_at "rd"
      cases b <;> cases c <;> exact q
/-- good for a pair -/
def gd2 (k : Nat) (M N : Mac) : List Nat → Bool := fun r => jw k (decide (r.getD 0 0 ∈ M.good)) (decide (r.getD 1 0 ∈ N.good))
def spLamJ (K : PySem.W.Frag) : List (Option V) → Sp := fun ws vs H Q _ => ∃ (v v' : V) (M N : Mac) (n k m : Nat) (wy : Nat) (t : Addr) (r : List Nat), ws = [some (.str (wayS wy)), some v, some v'] ∧ vs = [.ref t] ∧ Dt K H v (macD M) ∧ MacOk M n m ∧ Dt K H v' (macD N) ∧ MacOk N k m ∧
  H t = some (.tup (r.map iV)) ∧ r ∈ prs2 n k ∧ Q (.bl (gd2 wy M N r)) H
theorem lok_join_0 (T : Txt K mg a) {f : Addr} {F : NdefX.NF} (h1 : F.scope = eLamScope lam_join_0) (h2 : F.params = eLamArgs lam_join_0) :
    LOk P w K mg base CX0 6 f F (eLamBody lam_join_0) ["pair"] ["way", "first", "second"] (spLamJ K) := by
  obtain ⟨nm, qual, params, body, scope, cl, c⟩ := F
  obtain rfl : scope = _ := h1
  obtain rfl : params = _ := h2
  have G_joined := ok_joined (P := P) (w := w) (base := base) T
  refine lok_of (k := 5) (N := ["pair", "way", "first", "second"]) nsc_join_0 (fun pm ctv us hl => match us, hl with | [_], _ => rfl) (fun ws vs H Q E h => ?_) (fun A outer s H vs ws Q E hr hw h => ?_)
  · obtain ⟨v, v', M, N, n, k, m, wy, t, r, _, rfl, _⟩ := h
    rfl
  · obtain ⟨v, v', M, N, n, k, m, wy, t, r, rfl, rfl, hM, ok, hN, ok', hT, hrr, q⟩ := h
    obtain ⟨pa, st, gd, rows, rfl, hA, hSt, hRows, hGd⟩ := macE hM
    obtain ⟨pa', st', gd', rows', rfl, hA', hSt', hRows', hGd'⟩ := macE hN
    obtain ⟨x, y, hx, hy, rfl⟩ := prs2_mem.mp hrr
    have hT' : H t = some (.tup [iV x, iV y]) := hT
    refine ⟨_, (pe_call (G_joined) (hr.mono (by first | decide | omega)) (by rfl) T.g_joined T.F_joined.kp T.b_joined .nil pass0 (pa_cons (pe_cmpR (op_inK (K := K) rfl) (pe_ix (ix_tupK (K := K) rfl) (pv 0) pe_int (fun _ _ => rfl)) (pe_ix (ix_tupK (K := K) rfl) (pv 2) pe_int (fun _ _ => rfl)) (by rfl)) (pa_cons (pe_cmpR (op_inK (K := K) rfl) (pe_ix (ix_tupK (K := K) rfl) (pv 0) pe_int (fun _ _ => rfl)) (pe_ix (ix_tupK (K := K) rfl) (pv 3) pe_int (fun _ _ => rfl)) (by rfl)) (pa_cons (pv 1) pa_nil)))), ?_⟩
    walk_at "rd"
    refine r_ixT (SqT.of hT') (at_of (j := 0) rfl rfl) ?_
    walk_at "rd"
    refine r_ixT hA (at_of (j := 2) rfl rfl) ?_
    refine r_in hGd ?_
    walk_at "rd"
    refine r_ixT (SqT.of hT') (at_of (j := 1) rfl rfl) ?_
    walk_at "rd"
    refine r_ixT hA' (at_of (j := 2) rfl rfl) ?_
    refine r_in hGd' ?_
    walk_at "rd"
    exact ⟨_, _, wy, rfl, q⟩
theorem _root_.G.FunC.okX {x qual : Str} {st : Stmt} {f c : Addr} {fd : FuncData} {N ps : List Str} {k : Nat} {sp : Sp} (F : FunC K x qual st f fd c) (S : FnScope N ps (defScope st)) (len : ∀ vs H Q E, sp vs H Q E → vs.length = ps.length)
    (hbody : ∀ (A : Around) (outer : List Env) (s : Shared) (H : Hp) (vs : List V) (Q : VK) (E : XK), Room k (A.deeper (envOfC qual (defScope st) s.heap.objs.size f (.ref c))) → sp vs H Q E →
      ∃ t, PSs (cxOf (L2.CX P w) P w K mg base N qual (defScope st) f (.ref c) A outer s H E) (defBody st) t ∧ t { nx := fun _ H' => Q .non H', rt := Q } (L2.start N vs) H) : FnOk P w K mg base (L2.CX P w) (k + 1) f fd ps sp := by
  obtain ⟨oc, od, kV, doc, pm, an, ct, osl, rfl, lk, hcd⟩ := F.ex
  exact fn_of lk hcd S len fun A outer s H vs Q E hr hsp => hbody A outer s H vs Q E hr hsp
def spJoin (K : PySem.W.Frag) (a : Ad) : Sp := fun vs H Q E => ∃ (v v' : V) (M N : Mac) (n k m m' wy : Nat), vs = [v, v', .str (wayS wy)] ∧ Dt K H v (macD M) ∧ MacOk M n m ∧ 1 ≤ n ∧ n ≤ 40 ∧ m ≤ 4 ∧ Dt K H v' (macD N) ∧ MacOk N k m' ∧ 1 ≤ k ∧ k ≤ 40 ∧ m' ≤ 4 ∧ LamX.Tabs (tabsOf a) H ∧
  (m = m' → ∀ i, (bfs (stp2 M N) m [M.start, N.start] i).length ≤ i →
    (ncl (rowsB (stp2 M N) m (bfs (stp2 M N) m [M.start, N.start] i)) ((bfs (stp2 M N) m [M.start, N.start] i).map fun p => gd2 wy M N p.1) m ≤ 40 → ∀ (H' : Hp) (v : V), ExD H H' → LamX.Tabs (tabsOf a) H' → Dt K H' v (macD (LMm (rowsB (stp2 M N) m (bfs (stp2 M N) m [M.start, N.start] i)) ((bfs (stp2 M N) m [M.start, N.start] i).map fun p => gd2 wy M N p.1) m)) → Q v H') ∧
    (40 < ncl (rowsB (stp2 M N) m (bfs (stp2 M N) m [M.start, N.start] i)) ((bfs (stp2 M N) m [M.start, N.start] i).map fun p => gd2 wy M N p.1) m → ∀ H', ExD H H' → LamX.Tabs (tabsOf a) H' → E (.ref a.k_TooManyStates) none H')) ∧
  (m ≠ m' → ∀ H', ExD H H' → LamX.Tabs (tabsOf a) H' → E (.ref a.k_LettersDiffer) none H')
theorem ok_join (T : Txt K mg a) (B : Tbl mg base a) : FnOk P w K mg base (L2.CX P w) 10 a.f_join a.d_join ["first", "second", "way"] (spJoin K a) := by
  have G_common_letters := ok_common_letters (P := P) (w := w) (base := base) T
  have G_joined := ok_joined (P := P) (w := w) (base := base) T
  have G_least_from := ok_least_from (P := P) (w := w) (base := base) T
  have G_pair_step := ok_pair_step (P := P) (w := w) (base := base) T B
  refine T.F_join.okX sc_join (fun vs H Q E h => ?_) (fun A outer s H vs Q E hr h => ?_)
  · obtain ⟨v, v', M, N, n, k, m, m', wy, rfl, _⟩ := h
    rfl
  · obtain ⟨v, v', M, N, n, k, m, m', wy, rfl, hM, ok, n1, n40, m4, hN, ok', k1, k40, m4', hTb, q, qe⟩ := h
    have zl : (sizeLine : Nat) = 16777216 := by decide
    obtain ⟨pa, st, gd, rows, rfl, hA, hSt, hRows, hGd⟩ := macE hM
    obtain ⟨pa', st', gd', rows', rfl, hA', hSt', hRows', hGd'⟩ := macE hN
    refine ⟨_, (pss_one (ps_ret (pe_callO (own := fun σ => [⟨cloFrom (envOfC "join" (defScope s_join) s.heap.objs.size a.f_join (.ref a.c_join)).cells (eLamScope lam_join_0).names [], ["way", "first", "second"], [2, 0, 1].map (NdefX.slotAt σ)⟩]) (G_least_from) delXX (own_cons (scope := eLamScope lam_join_0) (js := [2, 0, 1]) (fr := ["way", "first", "second"]) (fun _ => rfl) (show NdefX.ndefB (defScope s_join) (eLamScope lam_join_0) ["way", "first", "second"] = true from by decide +kernel) (by decide +kernel) (by rfl) own_nil) (hr.mono (by first | decide | omega)) (by rfl) T.g_least_from T.F_least_from.kp T.b_least_from (fun σ => passAt (takes_of rfl rfl rfl rfl) σ) (pa_cons (pe_tup (pa_cons (pe_ix (ix_tupK (K := K) rfl) (pv 0) pe_int (fun _ _ => rfl)) (pa_cons (pe_ix (ix_tupK (K := K) rfl) (pv 1) pe_int (fun _ _ => rfl)) pa_nil))) (pa_cons (pe_callS (G_common_letters) (hr.mono (by first | decide | omega)) (by rfl) T.g_common_letters T.F_common_letters.kp T.b_common_letters (fun σ => passAt (takes_of rfl rfl rfl rfl) σ) (pa_cons (pv 0) (pa_cons (pv 1) pa_nil))) (pa_cons (pe_call (G_pair_step) (hr.mono (by first | decide | omega)) (by rfl) T.g_pair_step T.F_pair_step.kp T.b_pair_step .nil pass0 (pa_cons (pv 0) (pa_cons (pv 1) pa_nil))) (pa_cons (pe_lamD (T := tabsOf a) B.t_join rfl (m_join a) B.u_join (by rfl) (NdefX.ndef_free (sc := defScope s_join) (nsc := eLamScope lam_join_0) (fr := ["way", "first", "second"]) (by decide +kernel))) (pa_cons (pe_glob (v := V.int 40) (by rfl) T.c_MOST_STATES.choose_spec ⟨_, rfl⟩) pa_nil)))))))), ?_⟩
    walk_at "rd"
    refine r_callO ?_
    walk_at "rd"
    refine r_ixT hA (at_of (j := 1) rfl rfl) ?_
    walk_at "rd"
    refine r_ixT hA' (at_of (j := 1) rfl rfl) ?_
    refine ⟨ln2, fun t ht => ?_⟩
    have s1 := same_new (o := .tup [iV M.start, iV N.start]) ht
    have hT : (upd H t (.tup [iV M.start, iV N.start])) t = some (.tup ([M.start, N.start].map iV)) := upd_same
    have hM1 := hM.k (sT_of s1)
    have hN1 := hN.k (sT_of s1)
    have hTb1 := hTb.same s1
    generalize upd H t (.tup [iV M.start, iV N.start]) = H0 at *
    walk_at "rd"
    refine r_callS ?_
    walk_at "rd"
    refine ⟨.ref pa, .ref pa', M, N, n, k, m, m', rfl, hM1, ok, n1, m4, hN1, ok', k1, m4', fun e => ?_, fun e => qe e H0 (ExD.of s1) hTb1⟩
    subst e
    have q := q rfl
    walk_at "rd"
    refine ⟨.ref pa, .ref pa', rfl, hTb1, fun H1 g c' c0 c1 o0 o1 cl x1 t1 fg l1 k1' f0 f1 e0 e1 hne only hC => ?_⟩
    have sC : Same H1 (upd (upd H1 c0 (CellF o0 c0 (.ref pa))) c1 (CellF o1 c1 (.ref pa'))) := (same_new f0).trans (same_new ((upd_ne hne.symm).trans f1))
    have xC : ExD H0 (upd (upd H1 c0 (CellF o0 c0 (.ref pa))) c1 (CellF o1 c1 (.ref pa'))) := exd_add (exd_add x1 e0) e1
    have hcs1 : ∀ c ∈ [c0, c1], H1 c = none ∧ ∃ o v, (upd (upd H1 c0 (CellF o0 c0 (.ref pa))) c1 (CellF o1 c1 (.ref pa'))) c = some (CellF o c v) := fun c hc => by
      rcases List.mem_cons.mp hc with rfl | hc
      · exact ⟨f0, o0, .ref pa, (upd_ne hne).trans upd_same⟩
      · rw [List.mem_singleton.mp hc]
        exact ⟨f1, o1, .ref pa', upd_same⟩
    have LK := lam_one (P := P) (w := w) (mg := mg) (base := base) (cs := [c0, c1]) (SP := stepK .r (stp2 M N) m (prs2 n k) fun G => Dt K G (.ref pa) (macD M) ∧ Dt K G (.ref pa') (macD N)) sC l1 k1' rfl hC hcs1 (fun y c e => by rcases only y c e with rfl | rfl <;> simp) (lok_pair_step T rfl rfl) fun vs G R E h => by
      obtain ⟨v, r, c, rfl, hr', hc, hJ, ⟨t', rfl, hT'⟩, rfl, h⟩ := h
      exact ⟨.ref pa, .ref pa', M, N, n, k, m, t', r, c, rfl, rfl, hJ.1, ok, hJ.2, ok', m4, hT', hr', hc, fun H' t2 sH ht => h H' _ _ sH rfl ⟨t2, rfl, ht⟩⟩
    have tC := t1.same sC
    clear hC hcs1 sC x1 f0 f1 t1
    generalize upd (upd H1 c0 (CellF o0 c0 (.ref pa))) c1 (CellF o1 c1 (.ref pa')) = HC at *
    walk_at "rd"
    refine r_lamD tC (fun g2 c2 H2 x2 t2 fr2 l2 k2 => ?_)
    walk_at "rd"
    refine ⟨fun C hC i hi => ?_, rfl, fun H3 cs s3 hcs hout hclo hsub => ?_⟩
    · obtain rfl := List.mem_singleton.mp hC
      have hi : i < 3 := hi
      match i, hi with
      | 0, _ => exact ⟨_, rfl⟩
      | 1, _ => exact ⟨_, rfl⟩
      | 2, _ => exact ⟨_, rfl⟩
    have x12 := xC.trans x2
    have hM3 := hM1.k (x12.sT.trans (sT_of s3))
    have hN3 := hN1.k (x12.sT.trans (sT_of s3))
    have clo0 := hclo _ List.mem_cons_self
    have sub0 := hsub _ List.mem_cons_self
    have LK3 := (LK.keep (H' := H2) fun b o h n => x2.keep h n).same s3
    have LG := lam_one (P := P) (w := w) (mg := mg) (base := base) (SP := goodK .r (gd2 wy M N) (prs2 n k) fun G => Dt K G (.ref pa) (macD M) ∧ Dt K G (.ref pa') (macD N)) s3 l2 k2 rfl clo0 hcs sub0 (lok_join_0 T rfl rfl) fun vs G R E h => by
      obtain ⟨v, r, rfl, hr', hJ, ⟨t', rfl, hT'⟩, rfl, h⟩ := h
      exact ⟨.ref pa, .ref pa', M, N, n, k, m, wy, t', r, rfl, rfl, hJ.1, ok, hJ.2, ok', hT', hr', h G (fun _ _ z => z)⟩
    have hL := prs2_len n k
    have hnk : n * k ≤ 1600 := Nat.le_trans (Nat.mul_le_mul n40 k40) (by decide)
    have hfree : ∀ c ∈ cs, H c = none := fun c hc => s1.free (x12.free (hcs c hc).1)
    have xH : ExD H H3 := ((ExD.of s1).trans x12).same s3
    have hc4 : ∀ H4, Same H3 H4 → ∀ c ∈ cs, ∃ o v, H4 c = some (CellF o c v) := fun H4 s4 c hc => by
      obtain ⟨_, o, v, z⟩ := hcs c hc
      exact ⟨o, v, s4 _ _ z⟩
    refine ⟨.r, g, _, _, _, [c0, c1], g2, _, _, _, cs, stp2 M N, gd2 wy M N, m, 40, .ref t, [M.start, N.start], _, prs2 n k, rfl, LK3, LG, m4, by decide, ⟨t, rfl, s3 _ _ (x12.tup hT)⟩, ⟨hM3, hN3⟩, ⟨fun H H' s h => ⟨h.1.k (sT_of s), h.2.k (sT_of s)⟩, fun H cs hc h => ⟨h.1.k (sT_del hc), h.2.k (sT_del hc)⟩⟩, fun r c => ⟨_, rfl⟩, prs2_mem.mpr ⟨_, _, ok.start, ok'.start, rfl⟩, prs2_cl ok ok', by omega, fun i hi => ⟨fun hle H4 v' s4 hv' => ?_, fun hlt H4 s4 => ?_⟩⟩
    · exact (q i hi).1 hle _ v' (exd_del (xH.same s4) hfree) (tabs_del (t2.same (s3.trans s4)) (hc4 H4 s4)) (hv'.k (sT_del (hc4 H4 s4)))
    · exact (q i hi).2 hlt _ (exd_del (xH.same s4) hfree) (tabs_del (t2.same (s3.trans s4)) (hc4 H4 s4))

end

section
variable {P : Program} {w : World} {K : PySem.W.Frag} {mg : Str → Option Value} {base : Heap} {a : Ad}
def spTold (K : PySem.W.Frag) (a : Ad) : Sp := fun vs H Q E => ∃ (v v' : V) (M N : Mac) (n k m m' wy : Nat), vs = [v, v', .str (wayS wy)] ∧ Dt K H v (macD M) ∧ MacOk M n m ∧ 1 ≤ n ∧ n ≤ 40 ∧ m ≤ 4 ∧ Dt K H v' (macD N) ∧ MacOk N k m' ∧ 1 ≤ k ∧ k ≤ 40 ∧ m' ≤ 4 ∧ LamX.Tabs (tabsOf a) H ∧
  (m = m' → ∀ i, (bfs (stp2 M N) m [M.start, N.start] i).length ≤ i →
    (ncl (rowsB (stp2 M N) m (bfs (stp2 M N) m [M.start, N.start] i)) ((bfs (stp2 M N) m [M.start, N.start] i).map fun p => gd2 wy M N p.1) m ≤ 40 → ∀ (H' : Hp) (v : V), ExD H H' → LamX.Tabs (tabsOf a) H' → Dt K H' v (macD (LMm (rowsB (stp2 M N) m (bfs (stp2 M N) m [M.start, N.start] i)) ((bfs (stp2 M N) m [M.start, N.start] i).map fun p => gd2 wy M N p.1) m)) → Q v H') ∧
    (40 < ncl (rowsB (stp2 M N) m (bfs (stp2 M N) m [M.start, N.start] i)) ((bfs (stp2 M N) m [M.start, N.start] i).map fun p => gd2 wy M N p.1) m → ∀ H', ExD H H' → LamX.Tabs (tabsOf a) H' → Q (.str (Str.ofString "many")) H')) ∧
  (m ≠ m' → ∀ H', ExD H H' → LamX.Tabs (tabsOf a) H' → Q (.str (Str.ofString "letters")) H')
theorem ok_l_told (T : Txt K mg a) (B : Tbl mg base a) : FnOk P w K mg base CX0 11 a.f_l_told a.d_l_told ["first", "second", "way"] (spTold K a) := by
  have G_join := ok_join (P := P) (w := w) (base := base) T B
  refine T.F_l_told.ok sc_l_told (fun vs H Q E h => ?_) (fun cdv A outer s H vs Q E hr h => ?_)
  · obtain ⟨v, v', M, N, n, k, m, m', wy, rfl, _⟩ := h
    rfl
  · obtain ⟨v, v', M, N, n, k, m, m', wy, rfl, hM, ok, n1, n40, m4, hN, ok', k1, k40, m4', hTb, q, qe⟩ := h
    refine ⟨_, (pss_one (ps_tryAll rfl rfl sc_l_told.nd takes0 (fun W pn xe tk _ => (pss_one (ps_ret (pe_callS (G_join) (hr.mono (by first | decide | omega)) (by rfl) T.g_join T.F_join.kp T.b_join (fun σ => passAt tk σ) (pa_cons (pv 0) (pa_cons (pv 1) (pa_cons (pv 2) pa_nil))))))) (.cons (i := 3) rfl rfl ⟨by rfl, by decide, .inl T.gk_LettersDiffer⟩ (fun a' oe cls d pn hz hf => (pss_one (ps_ret (pe_ix (ix_listK (K := K) rfl) (pe_lst (pa_cons pe_str (pa_cons pe_str pa_nil))) (pe_callTy call_int1' (by rfl) T.z_int (by decide +kernel) (pa_cons (pe_and (pe_callB (call_isEx hz hf) (by rfl) T.z_isinstance (by decide +kernel) (pa_cons (pv 3) (pa_cons (pe_glob (v := V.ref a.k_MachineError) (by rfl) T.gk_MachineError rfl) pa_nil))) (pe_one (pe_not (pe_callB (call_isEx hz hf) (by rfl) T.z_isinstance (by decide +kernel) (pa_cons (pv 3) (pa_cons (pe_glob (v := V.ref a.k_TooManyStates) (by rfl) T.gk_TooManyStates rfl) pa_nil)))))) pa_nil)) (fun _ _ => rfl))))) (.cons (i := 3) rfl rfl ⟨by rfl, by decide, .inl T.gk_TooManyStates⟩ (fun a' oe cls d pn hz hf => (pss_one (ps_ret (pe_ix (ix_listK (K := K) rfl) (pe_lst (pa_cons pe_str (pa_cons pe_str pa_nil))) (pe_callTy call_int1' (by rfl) T.z_int (by decide +kernel) (pa_cons (pe_and (pe_callB (call_isEx hz hf) (by rfl) T.z_isinstance (by decide +kernel) (pa_cons (pv 3) (pa_cons (pe_glob (v := V.ref a.k_MachineError) (by rfl) T.gk_MachineError rfl) pa_nil))) (pe_one (pe_not (pe_callB (call_isEx hz hf) (by rfl) T.z_isinstance (by decide +kernel) (pa_cons (pv 3) (pa_cons (pe_glob (v := V.ref a.k_LettersDiffer) (by rfl) T.gk_LettersDiffer rfl) pa_nil)))))) pa_nil)) (fun _ _ => rfl))))) .nil)))), ?_⟩
    walk_at "rd"
    refine r_tryAll ?_
    walk_at "rd"
    refine r_callS ?_
    walk_at "rd"
    refine ⟨v, v', M, N, n, k, m, m', wy, rfl, hM, ok, n1, n40, m4, hN, ok', k1, k40, m4', hTb, fun e i hi => ⟨fun hle H' v2 x t hv => ?_, fun hlt H' x t => ?_⟩, fun e H' x t => ?_⟩
    · exact (q e i hi).1 hle H' v2 x t hv
    · refine ⟨false, T.em_TooManyStates_LettersDiffer, (fun z => nomatch z), fun _ => ⟨true, T.em_TooManyStates_TooManyStates, fun _ ae hae => ?_, fun z => nomatch z⟩⟩
      walk_at "rd"
      refine ⟨ln2, fun p hp => ?_⟩
      walk_at "rd"
      refine r_isEx T.x_TooManyStates.e (fun u r => r) T.ki_TooManyStates_MachineError ?_
      walk_at "rd"
      refine r_isEx T.x_TooManyStates.e (fun u r => r) T.ki_TooManyStates_LettersDiffer ?_
      walk_at "rd"
      refine .inr ⟨!false, rfl, ?_⟩
      refine r_ixL (SqL.of upd_same) (at_of (j := 1) rfl rfl) ?_
      exact (q e i hi).2 hlt _ (x.same (same_new hp)) (t.same (same_new hp))
    · refine ⟨true, T.em_LettersDiffer_LettersDiffer, fun _ ae hae => ?_, fun z => nomatch z⟩
      walk_at "rd"
      refine ⟨ln2, fun p hp => ?_⟩
      walk_at "rd"
      refine r_isEx T.x_LettersDiffer.e (fun u r => r) T.ki_LettersDiffer_MachineError ?_
      walk_at "rd"
      refine r_isEx T.x_LettersDiffer.e (fun u r => r) T.ki_LettersDiffer_TooManyStates ?_
      walk_at "rd"
      refine .inr ⟨!false, rfl, ?_⟩
      refine r_ixL (SqL.of upd_same) (at_of (j := 1) rfl rfl) ?_
      exact qe e _ (x.same (same_new hp)) (t.same (same_new hp))

end

section
variable {P : Program} {w : World} {K : PySem.W.Frag} {mg : Str → Option Value} {base : Heap} {a : Ad}
def ringM (n g : Nat) : Mac := ⟨(List.range n).map fun s => [(s + 1) % n], 0, [g]⟩
theorem ringM_ok {n g : Nat} (n1 : 1 ≤ n) (hg : g < n) : MacOk (ringM n g) n 1 := by
  refine ⟨by show ((List.range n).map _).length = n; rw [List.length_map, List.length_range], fun r hr => ?_, by show 0 < n; omega, fun s hs => ?_, List.pairwise_singleton _ _⟩
  · obtain ⟨s, _, rfl⟩ := List.mem_map.mp (show r ∈ (List.range n).map _ from hr)
    refine ⟨rfl, fun t ht => ?_⟩
    rw [List.mem_singleton.mp ht]
    exact Nat.mod_lt _ (by omega)
  · rw [List.mem_singleton.mp (show s ∈ [g] from hs)]
    exact hg
def spRingL (K : PySem.W.Frag) : Sp := fun vs H Q _ => ∃ (n : Nat) (z : Int), vs = [.int (n : Int), .int z] ∧ 1 ≤ n ∧ n ≤ 10 ∧ ∀ (H' : Hp) (v : V) (g : Nat), Same H H' → g < n → Dt K H' v (macD (ringM n g)) → Q v H'
theorem ok_l_ring (T : Txt K mg a) : FnOk P w K mg base CX0 1 a.f_l_ring a.d_l_ring ["count", "good"] (spRingL K) := by
  refine T.F_l_ring.ok sc_l_ring (fun vs H Q E h => ?_) (fun cdv A outer s H vs Q E hr h => ?_)
  · obtain ⟨n, z, rfl, _⟩ := h
    rfl
  · obtain ⟨n, z, rfl, n1, n10, q⟩ := h
    have zl : (sizeLine : Nat) = 16777216 := by decide
    refine ⟨_, (pss_one (ps_ret (pe_tup (pa_cons (pe_callTy (call_tupOfK (K := K) rfl) (by rfl) T.z_tuple (by decide +kernel) (pa_cons (pe_lc (own := [("state", 2)]) (g := gName 2) (tt := tYes) rfl sc_l_ring.nd (pi_range1 (by rfl) T.z_range (pa_cons (pv 0) pa_nil)) (blkOk_by (N := N_l_ring) (sc := (defScope s_l_ring)) (by decide +kernel)) (fun _ _ _ _ _ => pg_name (i := 2) sc_l_ring.nd rfl (by first | exact Or.inl rfl | exact Or.inr rfl)) (fun _ _ _ _ _ => pts_nil) (fun _ _ _ _ _ => (pe_tup (pa_cons (pe_op op_mod (pe_op op_add (pv 2) pe_int) (pv 0)) pa_nil)))) pa_nil)) (pa_cons pe_int (pa_cons (pe_tup (pa_cons (pe_op op_mod (pv 1) (pv 0)) pa_nil)) pa_nil)))))), ?_⟩
    walk_at "rd"
    refine r_rng1' (by omega) (by omega) ?_
    rw [Int.toNat_natCast]
    intro D hD
    refine lc_range (lo := 0) (n := n) (fun i G => Same H G ∧ ∃ vs, G D = some (.lst vs) ∧ vs.length = i ∧ DtAll K G vs (((List.range i).map fun s => [(s + 1) % n]).map rowD)) ⟨same_new hD, [], upd_same, rfl, .nil⟩ (fun i G hi hP => ?_) (fun G hP => ?_)
    · obtain ⟨sG, vs, hG, lv, hdt⟩ := hP
      refine ⟨rfl, r_yes (iteT ?_)⟩
      walk_at "rd"
      refine r_mod (by omega) ?_
      refine r_nil ?_
      have ev : V.int ((0 + (i : Int) + 1) % (n : Int)) = iV ((i + 1) % n) := congrArg V.int (by rw [Int.zero_add]; exact (Int.natCast_emod (i + 1) n).symm)
      rw [ev]
      refine ⟨ln1, fun p hp => ?_⟩
      have s4 := same_new (o := .tup [iV ((i + 1) % n)]) hp
      have sT : SameT (upd G p (.tup [iV ((i + 1) % n)])) (upd (upd G p (.tup [iV ((i + 1) % n)])) D (.lst (vs ++ [.ref p]))) := SameT.lst (s4 _ _ hG)
      refine ⟨vs, s4 _ _ hG, by omega, same_mut (sG.trans s4) hD, vs ++ [.ref p], upd_same, by rw [List.length_append, lv]; rfl, ?_⟩
      rw [List.range_succ, List.map_append, List.map_append]
      exact (hdt.k ((sT_of s4).trans sT)).snoc (.tup (sT.sq (SqT.of upd_same)) (ofNats [(i + 1) % n]))
    · obtain ⟨sG, vs, hG, lv, hdt⟩ := hP
      walk_at "rd"
      refine r_tupL (SqL.of hG) (fun ts hts => ?_)
      walk_at "rd"
      refine r_mod (by omega) ?_
      have gz := emod_rng z (b := (n : Int)) (by omega)
      obtain ⟨g, eg, hg⟩ := nat_of gz.1 gz.2
      rw [eg]
      refine r_nil ?_
      refine ⟨ln1, fun p hp => ?_⟩
      refine r_nil ?_
      refine ⟨ln3, fun tm htm => ?_⟩
      have sA := same_new (o := .tup vs) hts
      have sB := same_new (o := .tup [V.int (g : Int)]) hp
      have sC := same_new (o := .tup [V.ref ts, V.int 0, V.ref p]) htm
      refine q _ (.ref tm) g (sG.trans (sA.trans (sB.trans sC))) (by omega) ?_
      refine .tup (SqT.of upd_same) (.cons ?_ (.cons (.int _) (.cons ?_ .nil)))
      · exact .tup (SqT.of ((sB.trans sC) _ _ upd_same)) (hdt.k (sT_of (sA.trans (sB.trans sC))))
      · exact .tup (SqT.of (sC _ _ upd_same)) (ofNats [g])

end

section
variable {P : Program} {w : World} {K : PySem.W.Frag} {mg : Str → Option Value} {base : Heap} {a : Ad}
theorem r_inLn {K : PySem.W.Frag} {H : Hp} {Q : VK} {k : Nat} {g : List Nat} {p : Addr} (h : SqL K H p (g.map iV)) (q : Q (.bl (decide (k ∈ g))) H) : rIn K false (iV k) (.ref p) H Q := ⟨p, _, rfl, .inl h, rfl, flat_nats g, by rw [← inV_nat] at q; exact q⟩
/-- the places of the rows -/
def plc (rows : List (List Nat)) : Pd := rows.zipIdx.map fun x => (x.1, iV x.2)
theorem plc_keys (rows : List (List Nat)) : (plc rows).map (·.1) = rows := by
  unfold plc
  rw [List.map_map]
  show rows.zipIdx.map (fun x => x.1) = rows
  rw [List.zipIdx_map_fst]
theorem plc_snoc (rows : List (List Nat)) (r : List Nat) : plc (rows ++ [r]) = plc rows ++ [(r, iV rows.length)] := by
  unfold plc
  rw [List.zipIdx_append, List.map_append]
  simp
theorem plc_at {rows : List (List Nat)} {r : List Nat} (nd : rows.Nodup) (h : r ∈ rows) : lkP (plc rows) r = some (iV (ix rows r)) := by
  have hg := ix_get h
  have e : (plc rows)[ix rows r]? = some (r, iV (ix rows r)) := by
    unfold plc
    rw [List.getElem?_map, List.getElem?_zipIdx, hg]
    simp
  exact lkP_in (q := (r, iV (ix rows r))) (by rw [plc_keys]; exact nd) e
theorem plc_out {rows : List (List Nat)} {r : List Nat} (h : r ∉ rows) : lkP (plc rows) r = none := lkP_out (by rw [plc_keys]; exact h)
theorem ext1_pre1 (stp : Stp) (m : Wm) (x : List Nat × List Nat) (c : Nat) : ∃ z, ext1 stp m x c = m ++ z := by
  unfold ext1
  split
  · exact ⟨[], (List.append_nil _).symm⟩
  · split
    · exact ⟨[], (List.append_nil _).symm⟩
    · exact ⟨_, rfl⟩
theorem extT_preD (stp : Stp) (x : List Nat × List Nat) (m : Wm) (c : Nat) : ∀ d, ∃ z, extT stp x m (c + d) = extT stp x m c ++ z
  | 0 => ⟨[], (List.append_nil _).symm⟩
  | d + 1 => by
    obtain ⟨z, e⟩ := extT_preD stp x m c d
    obtain ⟨z2, e2⟩ := ext1_pre1 stp (extT stp x m (c + d)) x (c + d)
    exact ⟨z ++ z2, by rw [← Nat.add_assoc, extT_succ, e2, e, List.append_assoc]⟩
def spLJoined (K : PySem.W.Frag) : Sp := fun vs H Q _ => ∃ (v v' : V) (M N : Mac) (n k m wy : Nat), vs = [v, v', .str (wayS wy)] ∧ Dt K H v (macD M) ∧ MacOk M n m ∧ 1 ≤ n ∧ n ≤ 20 ∧ m ≤ 4 ∧ Dt K H v' (macD N) ∧ MacOk N k m ∧ 1 ≤ k ∧ k ≤ 20 ∧
  ∀ (H' : Hp) (v' : V) (i : Nat), Same H H' → (bfs (stp2 M N) m [M.start, N.start] i).length ≤ i → Dt K H' v' (macD (LMm (rowsB (stp2 M N) m (bfs (stp2 M N) m [M.start, N.start] i)) ((bfs (stp2 M N) m [M.start, N.start] i).map fun p => gd2 wy M N p.1) m)) → Q v' H'
theorem ok_l_joined (T : Txt K mg a) : FnOk P w K mg base CX0 3 a.f_l_joined a.d_l_joined ["first", "second", "way"] (spLJoined K) := by
  have G_l_least := ok_l_least (P := P) (w := w) (base := base) T
  refine T.F_l_joined.ok sc_l_joined (fun vs H Q E h => ?_) (fun cdv A outer s H vs Q E hr h => ?_)
  · obtain ⟨v, v', M, N, n, k, m, wy, rfl, _⟩ := h
    rfl
  · obtain ⟨v, v', M, N, n, k, m, wy, rfl, hM, ok, n1, n20, m4, hN, ok', k1, k20, q⟩ := h
    have zl : (sizeLine : Nat) = 16777216 := by decide
    obtain ⟨pa, st, gd, rows, rfl, hA, hSt, hRows, hGd⟩ := macE hM
    obtain ⟨pa', st', gd', rows', rfl, hA', hSt', hRows', hGd'⟩ := macE hN
    obtain ⟨pr, gr, hR⟩ := rowsE (s := 0) hRows (by rw [ok.len]; omega)
    have hrl := (ok.rowAt (s := 0) (by omega)).1
    have hL := prs2_len n k
    have hnk : n * k ≤ 400 := Nat.le_trans (Nat.mul_le_mul n20 k20) (by decide)
    have oL : [M.start, N.start] ∈ prs2 n k := prs2_mem.mpr ⟨_, _, ok.start, ok'.start, rfl⟩
    have cl := prs2_cl ok ok'
    have bl : ∀ i, (bfs (stp2 M N) m [M.start, N.start] i).length ≤ 400 := fun i => Nat.le_trans (bfs_len oL cl i) (by omega)
    have allL : ∀ i, ∀ q ∈ bfs (stp2 M N) m [M.start, N.start] i, q.1 ∈ prs2 n k := bfs_all (stp := stp2 M N) (k := m) (o := [M.start, N.start]) (P := fun q => q.1 ∈ prs2 n k) oL (fun x c r2 hx hc e => cl x.1 hx c r2 hc e)
    refine ⟨_, (pss_cons (ps_set (i := 3) sc_l_joined.nd rfl (Or.inl rfl) (pe_lst (pa_cons (pe_tup (pa_cons (pe_ix (ix_tupK (K := K) rfl) (pv 0) pe_int (fun _ _ => rfl)) (pa_cons (pe_ix (ix_tupK (K := K) rfl) (pv 1) pe_int (fun _ _ => rfl)) pa_nil))) pa_nil)))
      (pss_cons (ps_set (i := 4) sc_l_joined.nd rfl (Or.inl rfl) (pe_dispE (hu_of hr) (pe_tup (pa_cons (pe_ix (ix_tupK (K := K) rfl) (pv 0) pe_int (fun _ _ => rfl)) (pa_cons (pe_ix (ix_tupK (K := K) rfl) (pv 1) pe_int (fun _ _ => rfl)) pa_nil))) pe_int))
      (pss_cons (ps_set (i := 5) sc_l_joined.nd rfl (Or.inl rfl) (pe_lst pa_nil))
      (pss_cons (ps_set (i := 6) sc_l_joined.nd rfl (Or.inl rfl) pe_int)
      (pss_cons (ps_for PassesOwn.never rfl (pi_range1 (by rfl) T.z_range (pa_cons pe_int pa_nil)) (pg_name (i := 7) sc_l_joined.nd rfl (Or.inl rfl)) (pss_cons (ps_if (pt_cmpR op_eq (pv 6) (pe_callB (call_lenQK (K := K) rfl) (by rfl) T.z_len (by decide +kernel) (pa_cons (pv 3) pa_nil)) (nomark _)) (pss_one ps_break) pss_nil)
      (pss_cons (ps_set (i := 8) sc_l_joined.nd rfl (Or.inl rfl) (pe_lst pa_nil))
      (pss_cons (ps_for PassesOwn.never rfl (pi_range1 (by rfl) T.z_range (pa_cons (pe_callB (call_lenQK (K := K) rfl) (by rfl) T.z_len (by decide +kernel) (pa_cons (pe_ix (ix_tupK (K := K) rfl) (pe_ix (ix_tupK (K := K) rfl) (pv 0) pe_int (fun _ _ => rfl)) pe_int (fun _ _ => rfl)) pa_nil)) pa_nil)) (pg_name (i := 9) sc_l_joined.nd rfl (Or.inl rfl)) (pss_cons (ps_set (i := 10) sc_l_joined.nd rfl (Or.inl rfl) (pe_tup (pa_cons (pe_ix (ix_tupK (K := K) rfl) (pe_ix (ix_tupK (K := K) rfl) (pe_ix (ix_tupK (K := K) rfl) (pv 0) pe_int (fun _ _ => rfl)) (pe_ix (ix_tupK (K := K) rfl) (pe_ix (ix_listK (K := K) rfl) (pv 3) (pv 6) (fun _ _ => rfl)) pe_int (fun _ _ => rfl)) (fun _ _ => rfl)) (pv 9) (fun _ _ => rfl)) (pa_cons (pe_ix (ix_tupK (K := K) rfl) (pe_ix (ix_tupK (K := K) rfl) (pe_ix (ix_tupK (K := K) rfl) (pv 1) pe_int (fun _ _ => rfl)) (pe_ix (ix_tupK (K := K) rfl) (pe_ix (ix_listK (K := K) rfl) (pv 3) (pv 6) (fun _ _ => rfl)) pe_int (fun _ _ => rfl)) (fun _ _ => rfl)) (pv 9) (fun _ _ => rfl)) pa_nil))))
      (pss_cons (ps_if (pt_cmp (pc_dnotin (hu_of hr) (pv 10) (pv 4))) (pss_cons (ps_dput (hu_of hr) (pv 4) (pv 10) (pe_callB (call_lenQK (K := K) rfl) (by rfl) T.z_len (by decide +kernel) (pa_cons (pv 3) pa_nil)) (by rfl))
      (pss_one (ps_expr (bmK (K := K) rfl (pe_bm PySem.F.plainAttrs_list PySem.F.slot_list_append PySem.F.type_list_append mt_append (pv 3) (pa_cons (pv 10) pa_nil)))))) pss_nil)
      (pss_one (ps_expr (bmK (K := K) rfl (pe_bm PySem.F.plainAttrs_list PySem.F.slot_list_append PySem.F.type_list_append mt_append (pv 8) (pa_cons (pe_dget (hu_of hr) (pv 4) (pv 10) (fun _ _ => rfl)) pa_nil))))))))
      (pss_cons (ps_expr (bmK (K := K) rfl (pe_bm PySem.F.plainAttrs_list PySem.F.slot_list_append PySem.F.type_list_append mt_append (pv 5) (pa_cons (pe_callTy (call_tupOfK (K := K) rfl) (by rfl) T.z_tuple (by decide +kernel) (pa_cons (pv 8) pa_nil)) pa_nil))))
      (pss_one (ps_set (i := 6) sc_l_joined.nd rfl (Or.inl rfl) (pe_op op_add (pv 6) pe_int))))))))
      (pss_cons (ps_set (i := 11) sc_l_joined.nd rfl (Or.inl rfl) (pe_disp (pps_cons pe_str (pe_lst (pa_cons pe_int pa_nil)) (pps_cons pe_str (pe_lst (pa_cons pe_int (pa_cons pe_int pa_nil))) (pps_cons pe_str (pe_lst (pa_cons pe_int pa_nil)) pps_nil))) rfl rfl (fun z => nomatch z) (by decide)))
      (pss_cons (ps_set (i := 12) sc_l_joined.nd rfl (Or.inl rfl) (pe_lst pa_nil))
      (pss_cons (ps_for PassesOwn.never rfl (pi_range1 (by rfl) T.z_range (pa_cons (pe_callB (call_lenQK (K := K) rfl) (by rfl) T.z_len (by decide +kernel) (pa_cons (pv 3) pa_nil)) pa_nil)) (pg_name (i := 13) sc_l_joined.nd rfl (Or.inl rfl)) (pss_one (ps_if (pt_cmpR (op_inK (K := K) rfl) (pe_op op_add (pe_callTy call_int1' (by rfl) T.z_int (by decide +kernel) (pa_cons (pe_cmpR (op_inK (K := K) rfl) (pe_ix (ix_tupK (K := K) rfl) (pe_ix (ix_listK (K := K) rfl) (pv 3) (pv 13) (fun _ _ => rfl)) pe_int (fun _ _ => rfl)) (pe_ix (ix_tupK (K := K) rfl) (pv 0) pe_int (fun _ _ => rfl)) (by rfl)) pa_nil)) (pe_callTy call_int1' (by rfl) T.z_int (by decide +kernel) (pa_cons (pe_cmpR (op_inK (K := K) rfl) (pe_ix (ix_tupK (K := K) rfl) (pe_ix (ix_listK (K := K) rfl) (pv 3) (pv 13) (fun _ _ => rfl)) pe_int (fun _ _ => rfl)) (pe_ix (ix_tupK (K := K) rfl) (pv 1) pe_int (fun _ _ => rfl)) (by rfl)) pa_nil))) (pe_dget (hu_of hr) (pv 11) (pv 2) (fun _ _ => rfl)) (by rfl)) (pss_one (ps_expr (bmK (K := K) rfl (pe_bm PySem.F.plainAttrs_list PySem.F.slot_list_append PySem.F.type_list_append mt_append (pv 12) (pa_cons (pv 13) pa_nil))))) pss_nil)))
      (pss_one (ps_ret (pe_call (G_l_least) (hr.mono (by first | decide | omega)) (by rfl) T.g_l_least T.F_l_least.kp T.b_l_least .nil pass0 (pa_cons (pe_tup (pa_cons (pe_callTy (call_tupOfK (K := K) rfl) (by rfl) T.z_tuple (by decide +kernel) (pa_cons (pv 5) pa_nil)) (pa_cons pe_int (pa_cons (pe_callTy (call_tupOfK (K := K) rfl) (by rfl) T.z_tuple (by decide +kernel) (pa_cons (pv 12) pa_nil)) pa_nil)))) pa_nil)))))))))))), ?_⟩
    walk_at "rd"
    refine r_ixT hA (at_of (j := 1) rfl rfl) ?_
    walk_at "rd"
    refine r_ixT hA' (at_of (j := 1) rfl rfl) ?_
    refine ⟨ln2, fun t ht => ?_⟩
    walk_at "rd"
    refine ⟨ln1, fun wl hwl => ?_⟩
    walk_at "rd"
    have s1 := same_new (o := .tup [iV M.start, iV N.start]) ht
    have s2 := same_new (o := .lst [V.ref t]) hwl
    have hT0 := s2 _ _ (upd_same (H := H) (a := t) (o := .tup [iV M.start, iV N.start]))
    have hW0 : (upd (upd H t (.tup [iV M.start, iV N.start])) wl (.lst [V.ref t])) wl = some (.lst (refsV [(t, [M.start, N.start])])) := upd_same
    have s12 := s1.trans s2
    have fwl : H wl = none := s1.free hwl
    clear s1 s2 ht hwl
    generalize upd (upd H t (.tup [iV M.start, iV N.start])) wl (.lst [V.ref t]) = H2 at *
    refine .inr fun pd hpd => ?_
    have s3 := same_new (o := .dT []) hpd
    walk_at "rd"
    refine r_ixT (same_t (s12.trans s3) hA) (at_of (j := 1) rfl rfl) ?_
    walk_at "rd"
    refine r_ixT (same_t (s12.trans s3) hA') (at_of (j := 1) rfl rfl) ?_
    refine ⟨ln2, fun t2 ht2 => ?_⟩
    walk_at "rd"
    have npt : pd ≠ t2 := fun z => by rw [← z, upd_same] at ht2; cases ht2
    refine ⟨t2, [M.start, N.start], rfl, upd_same, (upd_ne npt).trans upd_same, ?_⟩
    have s4 := same_mut (o := .dT [(kN [M.start, N.start], V.int 0)]) (s3.trans (same_new (o := .tup [iV M.start, iV N.start]) ht2)) hpd
    have hP0 : (upd (upd (upd H2 pd (.dT [])) t2 (.tup [iV M.start, iV N.start])) pd (.dT [(kN [M.start, N.start], V.int 0)])) pd = some (dO .r (plc [[M.start, N.start]])) := upd_same
    have fpd : H pd = none := s12.free hpd
    have npw : pd ≠ wl := fun e => by rw [e, hW0] at hpd; cases hpd
    have hT1 := s4 _ _ hT0
    have hW1 := s4 _ _ hW0
    have s5 := s12.trans s4
    clear s12 s4 s3 npt ht2 hT0 hW0
    generalize upd (upd (upd H2 pd (.dT [])) t2 (.tup [iV M.start, iV N.start])) pd (.dT [(kN [M.start, N.start], V.int 0)]) = H3 at *
    walk_at "rd"
    refine ⟨by decide, fun ps hps => ?_⟩
    have s6 := same_new (o := .lst []) hps
    have hP1 := s6 _ _ hP0
    have hT2 := s6 _ _ hT1
    have hW2 := s6 _ _ hW1
    have hS0 : (upd H3 ps (.lst [])) ps = some (.lst []) := upd_same
    have fps : H ps = none := s5.free hps
    have nsw : ps ≠ wl := fun e => by rw [e, hW1] at hps; cases hps
    have nsp : ps ≠ pd := fun e => by rw [e, hP0] at hps; cases hps
    have s7 := s5.trans s6
    clear s5 s6 hps hP0 hT1 hW1
    generalize upd H3 ps (.lst []) = H4 at *
    walk_at "rd"
    refine r_rng1' (by decide) (by decide) ?_
    generalize eo : [M.start, N.start] = o at *
    obtain ⟨Bf, eB⟩ : ∃ Bf, bfs (stp2 M N) m o 2000 = Bf := ⟨_, rfl⟩
    have bfL : Bf.length ≤ 2000 := by rw [← eB]; exact Nat.le_trans (bl 2000) (by decide)
    have preB : ∀ i, i ≤ 2000 → ∃ z, Bf = bfs (stp2 M N) m o i ++ z := fun i hi => by
      obtain ⟨z, ez⟩ := bfs_pre (stp := stp2 M N) (k := m) (o := o) i (2000 - i)
      rw [show i + (2000 - i) = 2000 by omega, eB] at ez
      exact ⟨z, ez⟩
    have ndB : (Bf.map (·.1)).Nodup := by rw [← eB]; exact bfs_nd 2000
    refine for_range (lo := 0) (n := 2000) (fun i σ G => ∃ ws vs y7 y8 y9 y10, σ = [some (.ref pa), some (.ref pa'), some (.str (wayS wy)), some (.ref wl), some (.ref pd), some (.ref ps), some (.int (i : Int)), y7, y8, y9, y10, none, none, none] ∧ Same H G ∧ G wl = some (.lst (refsV ws)) ∧ TupR G ws ∧ ws.map (·.2) = (bfs (stp2 M N) m o i).map (·.1) ∧ G pd = some (dO .r (plc ((bfs (stp2 M N) m o i).map (·.1)))) ∧ G ps = some (.lst vs) ∧ DtAll K G vs (((rowsB (stp2 M N) m Bf).take i).map rowD) ∧ i ≤ (bfs (stp2 M N) m o i).length)
      ⟨[(t, o)], [], none, none, none, none, rfl, s7, hW2, (fun q hq => by rw [List.mem_singleton.mp hq, ← eo]; exact hT2), rfl, hP1, hS0, .nil, Nat.zero_le _⟩ (fun i σ G hi hP => ?_) (fun σ G hP => ?_)
    rotate_left
    · obtain ⟨ws, vs, y7, y8, y9, y10, rfl, sG, hW, hTT, eqs, hPl, hSt, hdt, hi⟩ := hP
      have := bl 2000
      omega
    clear s7 hP1 hT2 hW2 hS0
    obtain ⟨ws, vs, y7, y8, y9, y10, rfl, sG, hW, hTT, eqs, hPl, hSp, hdt, hil⟩ := hP
    have lws : ws.length = (bfs (stp2 M N) m o i).length := by
      have := congrArg List.length eqs
      rw [List.length_map, List.length_map] at this
      exact this
    have bli := bl i
    walk_at "rd"
    refine r_lenL (SqL.of hW) ?_
    rw [show (refsV ws).length = ws.length from List.length_map _, lws]
    refine r_eqI ?_
    refine ⟨_, rfl, ?_⟩
    refine r_iteD (fun e1 => ?_) (fun e1 => ?_)
    · have hl : (bfs (stp2 M N) m o i).length ≤ i := by omega
      have hq := fun G (v' : V) (s : Same H G) => q G v' i s hl
      have eBi : Bf = bfs (stp2 M N) m o i := by rw [← eB]; exact bfs_same (by rw [eB]; exact bfL) hl
      walk_at "rd"
      intro pw hpw
      show tC _ _ _ _
      walk_at "rd"
      refine ⟨ln1, fun l1 hl1 => ?_⟩
      show tC _ _ _ _
      walk_at "rd"
      refine ⟨ln2, fun l2 hl2 => ?_⟩
      show tC _ _ _ _
      walk_at "rd"
      refine ⟨ln1, fun l3 hl3 => ?_⟩
      have n1w : l1 ≠ pw := (ne_of_none upd_same hl1).symm
      have n2w : l2 ≠ pw := (ne_of_none ((same_new hl1) _ _ upd_same) hl2).symm
      have n3w : l3 ≠ pw := (ne_of_none ((same_new hl2) _ _ ((same_new hl1) _ _ upd_same)) hl3).symm
      have n12 : l1 ≠ l2 := ne_of_none upd_same hl2
      have n13 : l1 ≠ l3 := ne_of_none ((same_new hl2) _ _ upd_same) hl3
      have n23 : l2 ≠ l3 := ne_of_none upd_same hl3
      refine ⟨(upd_ne n3w.symm).trans ((upd_ne n2w.symm).trans ((upd_ne n1w.symm).trans upd_same)), [(.inr ("both" : Str), .ref l1), (.inr ("either" : Str), .ref l2), (.inr ("one" : Str), .ref l3)], rfl, by show 3 ≤ 15; decide, ?_⟩
      have em : mergeK [] [(.inr ("both" : Str), V.ref l1), (.inr ("either" : Str), .ref l2), (.inr ("one" : Str), .ref l3)] = [(.inr ("both" : Str), V.ref l1), (.inr ("either" : Str), .ref l2), (.inr ("one" : Str), .ref l3)] := rfl
      rw [em]
      have fpw : G pw = none := hpw
      have sW := ((same_new (o := .lst [V.int 2]) hl1).trans ((same_new (o := .lst [V.int 1, V.int 2]) hl2).trans (same_new (o := .lst [V.int 1]) hl3)))
      have sW2 := same_mut (o := .dK [(.inr ("both" : Str), V.ref l1), (.inr ("either" : Str), .ref l2), (.inr ("one" : Str), .ref l3)]) ((same_new (o := .dK []) hpw).trans sW) fpw
      obtain ⟨lw, gl, hlw, hval, hjw⟩ : ∃ lw gl, (upd (upd (upd (upd (upd G pw (.dK [])) l1 (.lst [V.int 2])) l2 (.lst [V.int 1, V.int 2])) l3 (.lst [V.int 1])) pw (.dK [(.inr ("both" : Str), V.ref l1), (.inr ("either" : Str), .ref l2), (.inr ("one" : Str), .ref l3)])) lw = some (.lst (gl.map iV)) ∧ valV [((.inr ("both" : Str) : Key), V.ref l1), (.inr ("either" : Str), .ref l2), (.inr ("one" : Str), .ref l3)] (.inr (wayS wy)) = some (.ref lw) ∧ ∀ b c : Bool, decide ((if b then 1 else 0) + (if c then 1 else 0) ∈ (gl : List Nat)) = jw wy b c := by
        match wy with
        | 0 => exact ⟨l1, [2], (upd_ne n1w).trans ((upd_ne n13).trans ((upd_ne n12).trans upd_same)), rfl, by decide⟩
        | 1 => exact ⟨l2, [1, 2], (upd_ne n2w).trans ((upd_ne n23).trans upd_same), rfl, by decide⟩
        | k + 2 => exact ⟨l3, [1], (upd_ne n3w).trans upd_same, rfl, fun b c => by cases b <;> cases c <;> rfl⟩
      have hPw : (upd (upd (upd (upd (upd G pw (.dK [])) l1 (.lst [V.int 2])) l2 (.lst [V.int 1, V.int 2])) l3 (.lst [V.int 1])) pw (.dK [(.inr ("both" : Str), V.ref l1), (.inr ("either" : Str), .ref l2), (.inr ("one" : Str), .ref l3)])) pw = some (.dK [(.inr ("both" : Str), V.ref l1), (.inr ("either" : Str), .ref l2), (.inr ("one" : Str), .ref l3)]) := upd_same
      clear sW em fpw n1w n2w n3w n12 n13 n23 hpw hl1 hl2 hl3
      generalize upd (upd (upd (upd (upd G pw (.dK [])) l1 (.lst [V.int 2])) l2 (.lst [V.int 1, V.int 2])) l3 (.lst [V.int 1])) pw (.dK [(.inr ("both" : Str), V.ref l1), (.inr ("either" : Str), .ref l2), (.inr ("one" : Str), .ref l3)]) = G5 at *
      generalize [((.inr ("both" : Str) : Key), V.ref l1), (.inr ("either" : Str), .ref l2), (.inr ("one" : Str), .ref l3)] = mw at *
      walk_at "rd"
      refine ⟨by decide, fun pg hpg => ?_⟩
      walk_at "rd"
      have s8 := same_new (o := .lst []) hpg
      have hW8 := s8 _ _ (sW2 _ _ hW)
      refine r_lenL (SqL.of hW8) ?_
      rw [show (refsV ws).length = ws.length from List.length_map _, lws]
      refine r_rng1' (by omega) (by omega) ?_
      rw [Int.toNat_natCast]
      have hG8 : (upd G5 pg (.lst [])) pg = some (.lst []) := upd_same
      refine for_range (lo := 0) (n := (bfs (stp2 M N) m o i).length) (fun k' σ G6 => ∃ y13, σ = [some (.ref pa), some (.ref pa'), some (.str (wayS wy)), some (.ref wl), some (.ref pd), some (.ref ps), some (.int (i : Int)), some (.int (0 + (i : Int))), y8, y9, y10, some (.ref pw), some (.ref pg), y13] ∧ Same G5 G6 ∧ G6 pg = some (.lst (((List.range k').filter fun s => gd2 wy M N (((bfs (stp2 M N) m o i).map (·.1)).getD s [])).map iV)))
        ⟨_, rfl, s8, hG8⟩ (fun k' σ G6 hk hP => ?_) (fun σ G6 hP => ?_)
      · obtain ⟨y13, rfl, s9, hG9⟩ := hP
        obtain ⟨x, hx⟩ : ∃ x, (bfs (stp2 M N) m o i)[k']? = some x := ⟨_, List.getElem?_eq_getElem hk⟩
        obtain ⟨⟨b1, x0⟩, hw⟩ : ∃ y, ws[k']? = some y := ⟨_, List.getElem?_eq_getElem (by omega)⟩
        have ex0 : x0 = x.1 := by
          have h1 := congrArg (fun l : List (List Nat) => l[k']?) eqs
          rw [List.getElem?_map, List.getElem?_map, hw, hx] at h1
          exact Option.some.inj h1
        subst ex0
        obtain ⟨u1, u2, hu1, hu2, eu⟩ := prs2_mem.mp (allL i x (List.mem_of_getElem? hx))
        have hb : G6 b1 = some (.tup [iV u1, iV u2]) := by
          have := s9 _ _ (sW2 _ _ (hTT _ (List.mem_of_getElem? hw)))
          rw [this, eu]
          rfl
        have s10 := sG.trans (sW2.trans s9)
        have hat : ((bfs (stp2 M N) m o i).map (·.1)).getD k' [] = [u1, u2] := by
          rw [List.getD_eq_getElem?_getD, List.getElem?_map, hx]
          exact eu
        walk_at "rd"
        have ec : V.int (0 + (k' : Int)) = iV k' := congrArg V.int (by omega)
        rw [ec]
        have hW10 := (sW2.trans s9) _ _ hW
        refine r_ixL (SqL.of hW10) (at_refs hw) ?_
        refine r_c ?_
        refine r_ixT (SqT.of hb) (at_of (j := 0) rfl rfl) ?_
        walk_at "rd"
        refine r_ixT (same_t s10 hA) (at_of (j := 2) rfl rfl) ?_
        refine r_in (same_t s10 hGd) ?_
        refine r_nil ?_
        refine .inr ⟨_, rfl, ?_⟩
        walk_at "rd"
        refine r_ixL (SqL.of hW10) (at_refs hw) ?_
        refine r_c ?_
        refine r_ixT (SqT.of hb) (at_of (j := 1) rfl rfl) ?_
        walk_at "rd"
        refine r_ixT (same_t s10 hA') (at_of (j := 2) rfl rfl) ?_
        refine r_in (same_t s10 hGd') ?_
        refine r_nil ?_
        refine .inr ⟨_, rfl, ?_⟩
        refine r_I0 ?_
        have ei : ∀ b c : Bool, V.int ((if b = true then (1 : Int) else 0) + (if c = true then (1 : Int) else 0)) = iV ((if b then 1 else 0) + (if c then 1 else 0)) := fun b c => by cases b <;> cases c <;> rfl
        rw [ei]
        refine r_dg ?_
        walk_at "rd"
        refine ⟨pw, .ref lw, rfl, ?_, ?_⟩
        · have := DGet.k (k := .inr (wayS wy)) (s9 _ _ hPw)
          rw [hval] at this
          exact this
        refine r_inLn (SqL.of (s9 _ _ hlw)) ?_
        rw [hjw]
        have hg2 : gd2 wy M N (((bfs (stp2 M N) m o i).map (·.1)).getD k' []) = jw wy (decide (u1 ∈ M.good)) (decide (u2 ∈ N.good)) := by rw [hat]; rfl
        have lr : ((List.range k').filter fun s => gd2 wy M N (((bfs (stp2 M N) m o i).map (·.1)).getD s [])).length ≤ k' := Nat.le_trans (List.length_filter_le _ _) (by rw [List.length_range]; exact Nat.le_refl _)
        refine ⟨_, rfl, ?_⟩
        rw [List.range_succ, List.filter_append]
        cases hj : jw wy (decide (u1 ∈ M.good)) (decide (u2 ∈ N.good)) with
        | true =>
          rw [List.filter_cons_of_pos (l := []) (by rw [hg2, hj])]
          refine iteT ?_
          walk_at "rd"
          refine ⟨ty_l (SqL.of hG9), ?_⟩
          walk_at "rd"
          refine r_append hG9 (by rw [List.length_map]; omega) ?_
          refine ⟨_, rfl, same_mut s9 hpg, ?_⟩
          rw [upd_same, List.map_append]
          rfl
        | false =>
          rw [List.filter_cons_of_neg (l := []) (by rw [hg2, hj]; exact Bool.false_ne_true), List.filter_nil, List.append_nil]
          refine iteF ?_
          exact r_next ⟨_, rfl, s9, hG9⟩
      · obtain ⟨y13, rfl, s9, hG9⟩ := hP
        have s10 := sW2.trans s9
        have tot : ∀ r c, ∃ r', stp2 M N r c = some r' := fun r c => ⟨_, rfl⟩
        have okP' := pm_ok (gd := gd2 wy M N) hl tot
        walk_at "rd"
        refine r_tupL (SqL.of (s10 _ _ hSp)) (fun ts hts => ?_)
        walk_at "rd"
        refine r_tupL (SqL.of ((same_new hts) _ _ hG9)) (fun tg htg => ?_)
        refine ⟨ln3, fun tm htm => ?_⟩
        refine r_nil ?_
        have sA := same_new (o := .tup vs) hts
        have sB := same_new (o := .tup (((List.range (bfs (stp2 M N) m o i).length).filter fun s => gd2 wy M N (((bfs (stp2 M N) m o i).map (·.1)).getD s [])).map iV)) htg
        have sC := same_new (o := .tup [V.ref ts, V.int 0, V.ref tg]) htm
        have hd9 := hdt.k (sT_of (s10.trans (sA.trans (sB.trans sC))))
        rw [List.take_of_length_le (by rw [rowsB_len, eBi]; exact hl), eBi] at hd9
        refine ⟨.ref tm, PmB (stp2 M N) m (gd2 wy M N) (bfs (stp2 M N) m o i), _, m, rfl, ?_, okP', (List.getElem?_eq_some_iff.mp (bfs_head (stp := stp2 M N) (k := m) (o := o) i)).1, by omega, m4, fun H' v' j s hj hv => ?_⟩
        · refine .tup (SqT.of upd_same) (.cons ?_ (.cons (.int _) (.cons ?_ .nil)))
          · exact .tup (SqT.of ((sB.trans sC) _ _ upd_same)) hd9
          · exact .tup (SqT.of (sC _ _ upd_same)) (ofNats _)
        · rw [pm_lma hl tot hj] at hv
          exact hq _ v' (sG.trans (s10.trans (sA.trans (sB.trans (sC.trans s))))) hv
    have hlt : i < (bfs (stp2 M N) m o i).length := by omega
    obtain ⟨x, hx⟩ : ∃ x, (bfs (stp2 M N) m o i)[i]? = some x := ⟨_, List.getElem?_eq_getElem hlt⟩
    have hxB : Bf[i]? = some x := by rw [← eB]; exact bfs_at hx (by omega)
    obtain ⟨⟨b1, x0⟩, hw⟩ : ∃ y, ws[i]? = some y := ⟨_, List.getElem?_eq_getElem (by omega)⟩
    have ex0 : x0 = x.1 := by
      have h1 := congrArg (fun l : List (List Nat) => l[i]?) eqs
      rw [List.getElem?_map, List.getElem?_map, hw, hx] at h1
      exact Option.some.inj h1
    subst ex0
    have hxL := allL i x (List.mem_of_getElem? hx)
    obtain ⟨u1, u2, hu1, hu2, eu⟩ := prs2_mem.mp hxL
    have nd0 := bfs_nd (stp := stp2 M N) (k := m) (o := o) i
    have eN : bfs (stp2 M N) m o (i + 1) = extT (stp2 M N) x (bfs (stp2 M N) m o i) m := bfs_succ hx
    obtain ⟨zf, ezf⟩ := preB (i + 1) (by omega)
    rw [eN] at ezf
    have allj := allL i
    refine r_next ?_
    walk_at "rd"
    refine ⟨by decide, fun pe hpe => ?_⟩
    have se := same_new (o := .lst []) hpe
    have fpe : H pe = none := sG.free hpe
    have new_ : pe ≠ wl := (ne_of_none hW hpe).symm
    have nep : pe ≠ pd := (ne_of_none hPl hpe).symm
    have nes : pe ≠ ps := (ne_of_none hSp hpe).symm
    have sG2 := sG.trans se
    have hW2 := se _ _ hW
    have hT2 := hTT.k se
    have hP2 := se _ _ hPl
    have hS2 := se _ _ hSp
    have hd2 := hdt.k (sT_of se)
    have hE2 : (upd G pe (.lst [])) pe = some (.lst []) := upd_same
    clear sG hW hTT hPl hSp hdt se hpe hw e1
    generalize upd G pe (.lst []) = G2 at *
    rw [eN]
    generalize bfs (stp2 M N) m o i = m0 at *
    walk_at "rd"
    refine r_ixT (same_t sG2 hA) (at_of (j := 0) rfl rfl) ?_
    walk_at "rd"
    refine r_ixT (same_t sG2 hSt) (at_of (j := 0) rfl gr) ?_
    walk_at "rd"
    refine r_lenT (same_t sG2 hR) ?_
    rw [List.length_map, hrl]
    refine r_rng1' (by omega) (by omega) ?_
    rw [Int.toNat_natCast]
    refine for_range (lo := 0) (n := m) (fun c σ G => ∃ fs y9 y10, σ = [some (.ref pa), some (.ref pa'), some (.str (wayS wy)), some (.ref wl), some (.ref pd), some (.ref ps), some (.int (i : Int)), some (.int (0 + (i : Int))), some (.ref pe), y9, y10, none, none, none] ∧ Same H G ∧ G wl = some (.lst (refsV fs)) ∧ TupR G fs ∧ fs.map (·.2) = (extT (stp2 M N) x m0 c).map (·.1) ∧ G pd = some (dO .r (plc ((extT (stp2 M N) x m0 c).map (·.1)))) ∧ G ps = some (.lst vs) ∧ DtAll K G vs (((rowsB (stp2 M N) m Bf).take i).map rowD) ∧
        G pe = some (.lst (((List.range c).map fun c => ix (Bf.map (·.1)) ((stp2 M N x.1 c).getD [])).map iV)))
      ⟨ws, y9, y10, rfl, sG2, hW2, hT2, eqs, hP2, hS2, hd2, hE2⟩ (fun c σ G hc hP => ?_) (fun σ G hP => ?_)
    rotate_left
    · obtain ⟨fs, z9, z10, rfl, sG, hW, hTF, eF, hPl, hSp, hdt, hE⟩ := hP
      walk_at "rd"
      refine ⟨ty_l (SqL.of hSp), ?_⟩
      walk_at "rd"
      refine r_tupL (SqL.of hE) (fun tt htt => ?_)
      walk_at "rd"
      have st := same_new (o := .tup (((List.range m).map fun c => ix (Bf.map (·.1)) ((stp2 M N x.1 c).getD [])).map iV)) htt
      have hv := hdt.len
      rw [List.length_map, List.length_take, rowsB_len] at hv
      refine r_append (st _ _ hSp) (by omega) ?_
      have tup : ∀ (c' : Addr) (ys : List V), G c' = some (.tup ys) → (upd (upd G tt (.tup (((List.range m).map fun c => ix (Bf.map (·.1)) ((stp2 M N x.1 c).getD [])).map iV))) ps (.lst (vs ++ [.ref tt]))) c' = some (.tup ys) := fun c' ys hc => by
        rw [upd_ne (fun e => by rw [e, hSp] at hc; exact nomatch hc)]
        exact st _ _ hc
      have sT : SameT (upd G tt (.tup (((List.range m).map fun c => ix (Bf.map (·.1)) ((stp2 M N x.1 c).getD [])).map iV))) (upd (upd G tt (.tup (((List.range m).map fun c => ix (Bf.map (·.1)) ((stp2 M N x.1 c).getD [])).map iV))) ps (.lst (vs ++ [.ref tt]))) := SameT.lst (st _ _ hSp)
      have hle : i + 1 ≤ (extT (stp2 M N) x m0 m).length := by
        obtain ⟨zz, ez⟩ := extT_pre (stp := stp2 M N) x m0 m
        rw [ez, List.length_append]
        omega
      have hrow : (rowsB (stp2 M N) m Bf)[i]? = some ((List.range m).map fun c => ix (Bf.map (·.1)) ((stp2 M N x.1 c).getD [])) := by
        unfold rowsB
        rw [List.getElem?_map, hxB]
        rfl
      walk_at "rd"
      refine ⟨fs, vs ++ [.ref tt], _, _, _, _, rfl, same_mut (sG.trans st) fps, (upd_ne nsw.symm).trans (st _ _ hW), fun p hp => tup _ _ (hTF p hp), eF, (upd_ne nsp.symm).trans (st _ _ hPl), upd_same, ?_, hle⟩
      rw [List.take_add_one, hrow, List.map_append]
      exact (hdt.k ((sT_of st).trans sT)).snoc (.tup (sT.sq (SqT.of upd_same)) (ofNats _))
    clear sG2 hW2 hT2 hP2 hS2 hd2 hE2 eqs
    obtain ⟨fs, z9, z10, rfl, sG, hW, hTF, eF, hPl, hSp, hdt, hE⟩ := hP
    have el := extT_len (stp := stp2 M N) (k := m) (x := x) (m := m0) (L := prs2 n k) allj nd0 (fun c r' hc e => cl x.1 hxL c r' hc e) (Nat.le_of_lt hc)
    have eS : extT (stp2 M N) x m0 (c + 1) = ext1 (stp2 M N) (extT (stp2 M N) x m0 c) x c := extT_succ _ _ _ _
    have nd := extT_nd (stp := stp2 M N) (x := x) nd0 c
    obtain ⟨z1, ez1⟩ := extT_pre (stp := stp2 M N) x m0 c
    obtain ⟨z2, ez2⟩ := extT_preD (stp2 M N) x m0 (c + 1) (m - (c + 1))
    rw [show c + 1 + (m - (c + 1)) = m by omega] at ez2
    have hxc : (extT (stp2 M N) x m0 c)[i]? = some x := by
      rw [ez1, List.getElem?_append_left hlt]
      exact hx
    rw [ez2] at ezf
    clear ez1 ez2
    generalize extT (stp2 M N) x m0 c = mc at *
    rw [eS] at ezf ⊢
    have lfs : fs.length = mc.length := by
      have := congrArg List.length eF
      rw [List.length_map, List.length_map] at this
      omega
    obtain ⟨⟨b2, x2⟩, hw2⟩ : ∃ y, fs[i]? = some y := ⟨_, List.getElem?_eq_getElem (by have := (List.getElem?_eq_some_iff.mp hxc).1; omega)⟩
    have ex2 : x2 = x.1 := by
      have h1 := congrArg (fun l : List (List Nat) => l[i]?) eF
      rw [List.getElem?_map, List.getElem?_map, hw2, hxc] at h1
      exact Option.some.inj h1
    subst ex2
    have hb2 : G b2 = some (.tup (x.1.map iV)) := hTF _ (List.mem_of_getElem? hw2)
    have hb' : G b2 = some (.tup [iV u1, iV u2]) := by rw [hb2, eu]; rfl
    obtain ⟨pr1, gr1, hR1⟩ := rowsE (s := u1) hRows (by rw [ok.len]; exact hu1)
    obtain ⟨pr2, gr2, hR2⟩ := rowsE (s := u2) hRows' (by rw [ok'.len]; exact hu2)
    walk_at "rd"
    have ec : V.int (0 + (c : Int)) = iV c := congrArg V.int (by omega)
    rw [ec]
    refine r_ixT (same_t sG hA) (at_of (j := 0) rfl rfl) ?_
    walk_at "rd"
    refine r_ixL (SqL.of hW) (at_refs hw2) ?_
    walk_at "rd"
    refine r_ixT (SqT.of hb') (at_of (j := 0) rfl rfl) ?_
    refine r_ixT (same_t sG hSt) (at_of (j := u1) rfl gr1) ?_
    walk_at "rd"
    refine r_ixT (same_t sG hR1) (at_of (j := c) rfl (by rw [List.getElem?_map, step_at ok hu1 hc]; rfl)) ?_
    walk_at "rd"
    refine r_ixT (same_t sG hA') (at_of (j := 0) rfl rfl) ?_
    walk_at "rd"
    refine r_ixL (SqL.of hW) (at_refs hw2) ?_
    walk_at "rd"
    refine r_ixT (SqT.of hb') (at_of (j := 1) rfl rfl) ?_
    refine r_ixT (same_t sG hSt') (at_of (j := u2) rfl gr2) ?_
    walk_at "rd"
    refine r_ixT (same_t sG hR2) (at_of (j := c) rfl (by rw [List.getElem?_map, step_at ok' hu2 hc]; rfl)) ?_
    walk_at "rd"
    refine ⟨ln2, fun tp htp => ?_⟩
    have st := same_new (o := .tup [iV (stepM M u1 (97 + c)), iV (stepM N u2 (97 + c))]) htp
    have sG3 := sG.trans st
    have hW3 := st _ _ hW
    have hTF3 := hTF.k st
    have hP3 := st _ _ hPl
    have hS3 := st _ _ hSp
    have hd3 := hdt.k (sT_of st)
    have hE3 := st _ _ hE
    obtain ⟨r', er'⟩ : ∃ r', [stepM M (x.1.getD 0 0) (97 + c), stepM N (x.1.getD 1 0) (97 + c)] = r' := ⟨_, rfl⟩
    have es' : stp2 M N x.1 c = some r' := congrArg some er'
    have hb4 : (upd G tp (.tup [iV (stepM M u1 (97 + c)), iV (stepM N u2 (97 + c))])) tp = some (.tup (r'.map iV)) := by rw [upd_same, ← er', eu]; rfl
    clear sG hW hTF hPl hSp hdt hE hb2 hb' st htp hw2
    generalize upd G tp (.tup [iV (stepM M u1 (97 + c)), iV (stepM N u2 (97 + c))]) = G3 at *
    have eE : ext1 (stp2 M N) mc x c = if r' ∈ mc.map (·.1) then mc else mc ++ [(r', x.2 ++ [97 + c])] := by
      unfold ext1
      rw [es']
    dsimp only
    with_reducible refine r_cutJ (fun σ G => ∃ fs, σ = [some (.ref pa), some (.ref pa'), some (.str (wayS wy)), some (.ref wl), some (.ref pd), some (.ref ps), some (.int (i : Int)), some (.int (0 + (i : Int))), some (.ref pe), some (iV c), some (.ref tp), none, none, none] ∧ Same H G ∧ G wl = some (.lst (refsV fs)) ∧ TupR G fs ∧ fs.map (·.2) = (ext1 (stp2 M N) mc x c).map (·.1) ∧ G pd = some (dO .r (plc ((ext1 (stp2 M N) mc x c).map (·.1)))) ∧ G ps = some (.lst vs) ∧ DtAll K G vs (((rowsB (stp2 M N) m Bf).take i).map rowD) ∧
        G pe = some (.lst (((List.range c).map fun c => ix (Bf.map (·.1)) ((stp2 M N x.1 c).getD [])).map iV)) ∧ G tp = some (.tup (r'.map iV))) (fun σ G hJ => ?_) (fun key => ?_)
    · obtain ⟨fs, rfl, sG, hW, hTF, eF, hPl, hSp, hdt, hE, hTp⟩ := hJ
      have ndr : ((ext1 (stp2 M N) mc x c).map (·.1)).Nodup := by
        rw [eE]
        by_cases h : r' ∈ mc.map (·.1)
        · rw [if_pos h]
          exact nd
        · rw [if_neg h, List.map_append]
          refine List.nodup_append.mpr ⟨nd, by simp, fun a ha b hb e => ?_⟩
          rw [List.mem_singleton.mp (show b ∈ [r'] from hb)] at e
          exact h (e ▸ ha)
      have hin : r' ∈ (ext1 (stp2 M N) mc x c).map (·.1) := by
        rw [eE]
        by_cases h : r' ∈ mc.map (·.1)
        · rw [if_pos h]
          exact h
        · rw [if_neg h, List.map_append]
          exact List.mem_append_right _ List.mem_cons_self
      have gx := dget_kd (kd := .r) (v := .ref tp) (p := r') hPl ⟨tp, rfl, hTp⟩ (fun q hq e => nomatch e)
      rw [plc_at ndr hin] at gx
      have eix : ix (Bf.map (·.1)) r' = ix ((ext1 (stp2 M N) mc x c).map (·.1)) r' := by
        rw [ezf, List.append_assoc, List.map_append]
        exact ix_pre _ hin
      walk_at "rd"
      refine ⟨ty_l (SqL.of hE), ?_⟩
      walk_at "rd"
      refine r_dg ?_
      walk_at "rd"
      refine ⟨pd, _, rfl, gx, ?_⟩
      walk_at "rd"
      refine r_append hE (by rw [List.length_map, List.length_map, List.length_range]; omega) ?_
      have tup : ∀ (c' : Addr) (ys : List V) (zs : List V), G c' = some (.tup ys) → (upd G pe (.lst zs)) c' = some (.tup ys) := fun c' ys zs hc => upd_ne (fun e => by rw [e, hE] at hc; exact nomatch hc) |>.trans hc
      refine ⟨fs, _, _, rfl, same_mut sG fpe, (upd_ne new_.symm).trans hW, fun p hp => tup _ _ _ (hTF p hp), eF, (upd_ne nep.symm).trans hPl, (upd_ne nes.symm).trans hSp, hdt.k (SameT.lst hE), ?_⟩
      have ee : ix (Bf.map (·.1)) ((stp2 M N x.1 c).getD []) = ix ((ext1 (stp2 M N) mc x c).map (·.1)) r' := by rw [es']; exact eix
      rw [upd_same, List.range_succ, List.map_append, List.map_append, List.map_cons, List.map_nil, List.map_cons, List.map_nil, ee]
    · walk_at "rd"
      refine r_dni ?_
      walk_at "rd"
      have ndk := nd
      refine ⟨_, _, rfl, dget_kd (kd := .r) (v := .ref tp) (p := r') hP3 ⟨tp, rfl, hb4⟩ (fun q hq e => nomatch e), ?_⟩
      by_cases h : r' ∈ mc.map (·.1)
      · rw [plc_at ndk h]
        rw [if_pos h] at eE
        walk_at "rd"
        refine key _ _ ⟨fs, rfl, sG3, hW3, hTF3, by rw [eE]; exact eF, by rw [eE]; exact hP3, hS3, hd3, hE3, hb4⟩
      · rw [plc_out h]
        rw [if_neg h] at eE
        refine ⟨_, rfl, ?_⟩
        rw [if_pos (show (!(none : Option V).isSome) = true from rfl)]
        walk_at "rd"
        refine r_dput ?_
        walk_at "rd"
        refine r_lenL (SqL.of hW3) ?_
        rw [show (refsV fs).length = fs.length from List.length_map _, lfs]
        walk_at "rd"
        refine ⟨pd, _, rfl, dput_kd (kd := .r) (v := .ref tp) (p := r') hP3 ⟨tp, rfl, hb4⟩ (fun q hq e => nomatch e) (by rw [plc_keys]; exact h) (by unfold plc; rw [List.length_map, List.length_zipIdx, List.length_map]; omega), ?_⟩
        have tup4 : ∀ (c' : Addr) (ys : List V) (o : HO), G3 c' = some (.tup ys) → (upd G3 pd o) c' = some (.tup ys) := fun c' ys o hc => (upd_ne (fun e => by rw [e, hP3] at hc; exact nomatch hc)).trans hc
        have e4 : (plc (mc.map (·.1)) ++ [(r', V.int (mc.length : Int))]) = plc ((mc ++ [(r', x.2 ++ [97 + c])]).map (·.1)) := by
          rw [List.map_append]
          show _ = plc (mc.map (·.1) ++ [r'])
          rw [plc_snoc, List.length_map]
          rfl
        rw [e4]
        have s4 := same_mut (o := dO .r (plc ((mc ++ [(r', x.2 ++ [97 + c])]).map (·.1)))) sG3 fpd
        have hP4 : (upd G3 pd (dO .r (plc ((mc ++ [(r', x.2 ++ [97 + c])]).map (·.1))))) pd = _ := upd_same
        have hW4 : (upd G3 pd (dO .r (plc ((mc ++ [(r', x.2 ++ [97 + c])]).map (·.1))))) wl = _ := (upd_ne npw.symm).trans hW3
        have hS4 : (upd G3 pd (dO .r (plc ((mc ++ [(r', x.2 ++ [97 + c])]).map (·.1))))) ps = _ := (upd_ne nsp).trans hS3
        have hE4 : (upd G3 pd (dO .r (plc ((mc ++ [(r', x.2 ++ [97 + c])]).map (·.1))))) pe = _ := (upd_ne nep).trans hE3
        have hTF4 : TupR (upd G3 pd (dO .r (plc ((mc ++ [(r', x.2 ++ [97 + c])]).map (·.1))))) fs := fun p hp => tup4 _ _ _ (hTF3 p hp)
        have hb5 := tup4 _ _ (dO .r (plc ((mc ++ [(r', x.2 ++ [97 + c])]).map (·.1)))) hb4
        have sTd : SameT G3 (upd G3 pd (dO .r (plc ((mc ++ [(r', x.2 ++ [97 + c])]).map (·.1))))) := fun b => ⟨fun xs e => tup4 b xs _ e, fun o xs e => (upd_ne (fun z => by rw [z, hP3] at e; exact nomatch e)).trans e⟩
        have hd4 := hd3.k sTd
        clear tup4 sTd
        generalize upd G3 pd (dO .r (plc ((mc ++ [(r', x.2 ++ [97 + c])]).map (·.1)))) = G4 at *
        walk_at "rd"
        refine ⟨ty_l (SqL.of hW4), ?_⟩
        walk_at "rd"
        refine r_append hW4 (by rw [show (refsV fs).length = fs.length from List.length_map _]; omega) ?_
        have tup5 : ∀ (c' : Addr) (ys : List V), G4 c' = some (.tup ys) → (upd G4 wl (.lst (refsV fs ++ [V.ref tp]))) c' = some (.tup ys) := fun c' ys hc => by
          rw [upd_ne (fun e => by rw [e, hW4] at hc; exact nomatch hc)]
          exact hc
        refine key _ _ ⟨fs ++ [(tp, r')], rfl, same_mut s4 fwl, ?_, TupR.snoc (fun p hp => tup5 _ _ (hTF4 p hp)) (tup5 _ _ hb5), ?_, ?_, (upd_ne nsw).trans hS4, hd4.k (SameT.lst hW4), (upd_ne new_).trans hE4, tup5 _ _ hb5⟩
        · rw [upd_same]
          unfold refsV
          rw [List.map_append]
          rfl
        · rw [eE, List.map_append, List.map_append, eF]
          rfl
        · rw [eE]
          exact (upd_ne npw).trans hP4

end

section
variable {P : Program} {w : World} {K : PySem.W.Frag} {mg : Str → Option Value} {base : Heap} {a : Ad}
theorem ok_l_same_n (T : Txt K mg a) : ∀ n, FnOk P w K mg base CX0 n a.f_l_same a.d_l_same ["actual", "due"] (spSame K n)
  | 0 => fn_vac fun vs H Q E h => by
    obtain ⟨x, y, d, _, _, _, hf, _⟩ := h
    cases d <;> exact hf
  | n + 1 => by
    have G_l_same := ok_l_same_n T n
    refine T.F_l_same.ok sc_l_same (fun vs H Q E h => ?_) (fun cdv A outer s H vs Q E hr h => ?_)
    · obtain ⟨x, y, d, rfl, _⟩ := h
      rfl
    · obtain ⟨x, y, d, rfl, hx, hy, hf, q⟩ := h
      refine ⟨_, (pss_cons (ps_if (pt_cmpR op_isN1 (pv 1) pe_non (nomark _)) (pss_one (ps_ret (pe_cmpR op_isN1 (pv 0) pe_non (nomark _)))) pss_nil)
      (pss_cons (ps_if (PW.pt (pw_or (pt_val (pe_callB (call_isiK1 (K := K) rfl) (by rfl) T.z_isinstance (by decide +kernel) (pa_cons (pv 1) (pa_cons (pe_bltn (by rfl) T.z_list (v := V.ty "list") (u := Value.type "list") (by decide +kernel) rfl) pa_nil)))) (pw_or1 (pt_val (pe_callB (call_isiK1 (K := K) rfl) (by rfl) T.z_isinstance (by decide +kernel) (pa_cons (pv 1) (pa_cons (pe_bltn (by rfl) T.z_tuple (v := V.ty "tuple") (u := Value.type "tuple") (by decide +kernel) rfl) pa_nil))))))) (pss_cons (ps_if (PW.pt (pw_or (pt_cmpR op_ne (pe_callB (call_isiK1 (K := K) rfl) (by rfl) T.z_isinstance (by decide +kernel) (pa_cons (pv 1) (pa_cons (pe_bltn (by rfl) T.z_list (v := V.ty "list") (u := Value.type "list") (by decide +kernel) rfl) pa_nil))) (pe_callB (call_isiK1 (K := K) rfl) (by rfl) T.z_isinstance (by decide +kernel) (pa_cons (pv 0) (pa_cons (pe_bltn (by rfl) T.z_list (v := V.ty "list") (u := Value.type "list") (by decide +kernel) rfl) pa_nil))) (nomark _)) (pw_or1 (pt_cmpR op_ne (pe_callB (call_isiK1 (K := K) rfl) (by rfl) T.z_isinstance (by decide +kernel) (pa_cons (pv 1) (pa_cons (pe_bltn (by rfl) T.z_tuple (v := V.ty "tuple") (u := Value.type "tuple") (by decide +kernel) rfl) pa_nil))) (pe_callB (call_isiK1 (K := K) rfl) (by rfl) T.z_isinstance (by decide +kernel) (pa_cons (pv 0) (pa_cons (pe_bltn (by rfl) T.z_tuple (v := V.ty "tuple") (u := Value.type "tuple") (by decide +kernel) rfl) pa_nil))) (nomark _))))) (pss_one (ps_ret pe_bl)) pss_nil)
      (pss_cons (ps_if (pt_cmpR op_ne (pe_callB (call_lenQK (K := K) rfl) (by rfl) T.z_len (by decide +kernel) (pa_cons (pv 0) pa_nil)) (pe_callB (call_lenQK (K := K) rfl) (by rfl) T.z_len (by decide +kernel) (pa_cons (pv 1) pa_nil)) (nomark _)) (pss_one (ps_ret pe_bl)) pss_nil)
      (pss_cons (ps_for PassesOwn.never rfl (pi_range1 (by rfl) T.z_range (pa_cons (pe_callB (call_lenQK (K := K) rfl) (by rfl) T.z_len (by decide +kernel) (pa_cons (pv 1) pa_nil)) pa_nil)) (pg_name (i := 2) sc_l_same.nd rfl (Or.inl rfl)) (pss_one (ps_if (pt_not (pt_val (pe_call (G_l_same) (hr.mono (by first | decide | omega)) (by rfl) T.g_l_same T.F_l_same.kp T.b_l_same .nil pass0 (pa_cons (pe_ix (ix_seqK (K := K) rfl) (pv 0) (pv 2) (fun _ _ => rfl)) (pa_cons (pe_ix (ix_seqK (K := K) rfl) (pv 1) (pv 2) (fun _ _ => rfl)) pa_nil))))) (pss_one (ps_ret pe_bl)) pss_nil)))
      (pss_one (ps_ret pe_bl))))) pss_nil)
      (pss_cons (ps_if (PW.pt (pw_or (pt_cmpR op_ne (pe_callB (call_isiK1 (K := K) rfl) (by rfl) T.z_isinstance (by decide +kernel) (pa_cons (pv 1) (pa_cons (pe_bltn (by rfl) T.z_bool (v := V.ty "bool") (u := Value.type "bool") (by decide +kernel) rfl) pa_nil))) (pe_callB (call_isiK1 (K := K) rfl) (by rfl) T.z_isinstance (by decide +kernel) (pa_cons (pv 0) (pa_cons (pe_bltn (by rfl) T.z_bool (v := V.ty "bool") (u := Value.type "bool") (by decide +kernel) rfl) pa_nil))) (nomark _)) (pw_or1 (pt_cmpR op_ne (pe_callB (call_isiK1 (K := K) rfl) (by rfl) T.z_isinstance (by decide +kernel) (pa_cons (pv 1) (pa_cons (pe_bltn (by rfl) T.z_int (v := V.ty "int") (u := Value.type "int") (by decide +kernel) rfl) pa_nil))) (pe_callB (call_isiK1 (K := K) rfl) (by rfl) T.z_isinstance (by decide +kernel) (pa_cons (pv 0) (pa_cons (pe_bltn (by rfl) T.z_int (v := V.ty "int") (u := Value.type "int") (by decide +kernel) rfl) pa_nil))) (nomark _))))) (pss_one (ps_ret pe_bl)) pss_nil)
      (pss_one (ps_ret (pe_and (pe_cmpR op_eq (pe_callB (call_isiK1 (K := K) rfl) (by rfl) T.z_isinstance (by decide +kernel) (pa_cons (pv 1) (pa_cons (pe_bltn (by rfl) T.z_str (v := V.ty "str") (u := Value.type "str") (by decide +kernel) rfl) pa_nil))) (pe_callB (call_isiK1 (K := K) rfl) (by rfl) T.z_isinstance (by decide +kernel) (pa_cons (pv 0) (pa_cons (pe_bltn (by rfl) T.z_str (v := V.ty "str") (u := Value.type "str") (by decide +kernel) rfl) pa_nil))) (nomark _)) (pe_one (pe_cmpR op_eq (pv 0) (pv 1) (nomark _))))))))), ?_⟩
      walk_at "rd"
      cases d with
      | none =>
        cases hx; cases hy
        refine r_iteD (fun _ => ?_) (fun e => absurd rfl e)
        walk_at "rd"
        exact q
      | bool b =>
        cases hx; cases hy
        refine r_iteD (fun e => nomatch e) (fun _ => ?_)
        walk_at "rd"
        refine r_iteN (fun e => absurd rfl e) (fun _ => ?_)
        walk_at "rd"
        refine r_iteN (fun e => absurd rfl e) (fun _ => ?_)
        walk_at "rd"
        refine r_iteD (fun _ => ?_) (fun e => absurd rfl e)
        walk_at "rd"
        rw [decide_eq_true rfl]
        exact q
      | int b =>
        cases hx; cases hy
        refine r_iteD (fun e => nomatch e) (fun _ => ?_)
        walk_at "rd"
        refine r_iteN (fun e => absurd rfl e) (fun _ => ?_)
        walk_at "rd"
        refine r_iteN (fun e => absurd rfl e) (fun _ => ?_)
        walk_at "rd"
        refine r_iteD (fun _ => ?_) (fun e => absurd rfl e)
        walk_at "rd"
        rw [decide_eq_true rfl]
        exact q
      | str b =>
        cases hx; cases hy
        refine r_iteD (fun e => nomatch e) (fun _ => ?_)
        walk_at "rd"
        refine r_iteN (fun e => absurd rfl e) (fun _ => ?_)
        walk_at "rd"
        refine r_iteN (fun e => absurd rfl e) (fun _ => ?_)
        walk_at "rd"
        refine r_iteD (fun _ => ?_) (fun e => absurd rfl e)
        walk_at "rd"
        rw [decide_eq_true rfl]
        exact q
      | dict _ => exact hf.elim
      | list ds =>
        cases hx with
        | lst hs1 ha1 =>
        cases hy with
        | lst hs2 ha2 =>
        have e1 := dpAll_len ha1
        have e2 := dpAll_len ha2
        refine r_iteD (fun e => nomatch e) (fun _ => ?_)
        walk_at "rd"
        refine r_iteN (fun e => absurd rfl e) (fun _ => ?_)
        walk_at "rd"
        refine r_iteN (fun e => absurd rfl e) (fun _ => ?_)
        walk_at "rd"
        refine r_lenL hs1 ?_
        walk_at "rd"
        refine r_lenL hs2 ?_
        walk_at "rd"
        refine r_iteN (fun e => absurd (by rw [e1, e2]) e) (fun _ => ?_)
        walk_at "rd"
        refine r_lenL hs2 ?_
        walk_at "rd"
        have hz : ds.length ≤ 16777216 := hf.1
        refine r_rng1' (by omega) (by omega) ?_
        rw [e2, Int.toNat_natCast]
        refine for_range (lo := 0) (n := ds.length) (fun i σ H' => H' = H ∧ ∃ kv, σ = [some _, some _, kv]) ⟨rfl, _, rfl⟩ (fun i σ H' hi hP => ?_) (fun σ H' hP => ?_)
        · obtain ⟨rfl, kv, rfl⟩ := hP
          obtain ⟨v1, g1, d1⟩ := dpAll_get ha1 (List.getElem?_eq_getElem hi)
          obtain ⟨v2, g2, d2⟩ := dpAll_get ha2 (List.getElem?_eq_getElem hi)
          show tIfS _ _ _ _ _ _
          walk_at "rd"
          refine r_xL hs1 (at_of (j := i) (by omega) g1) ?_
          walk_at "rd"
          refine r_xL hs2 (at_of (j := i) (by omega) g2) ?_
          walk_at "rd"
          refine ⟨v1, v2, ds[i], rfl, d1, d2, hf.2 _ (List.getElem_mem hi), ?_⟩
          walk_at "rd"
          exact ⟨rfl, _, rfl⟩
        · obtain ⟨rfl, kv, rfl⟩ := hP
          walk_at "rd"
          exact q
      | tuple ds =>
        cases hx with
        | tup hs1 ha1 =>
        cases hy with
        | tup hs2 ha2 =>
        have e1 := dpAll_len ha1
        have e2 := dpAll_len ha2
        refine r_iteD (fun e => nomatch e) (fun _ => ?_)
        walk_at "rd"
        refine r_iteN (fun e => absurd rfl e) (fun _ => ?_)
        walk_at "rd"
        refine r_iteN (fun e => absurd rfl e) (fun _ => ?_)
        walk_at "rd"
        refine r_lenT hs1 ?_
        walk_at "rd"
        refine r_lenT hs2 ?_
        walk_at "rd"
        refine r_iteN (fun e => absurd (by rw [e1, e2]) e) (fun _ => ?_)
        walk_at "rd"
        refine r_lenT hs2 ?_
        walk_at "rd"
        have hz : ds.length ≤ 16777216 := hf.1
        refine r_rng1' (by omega) (by omega) ?_
        rw [e2, Int.toNat_natCast]
        refine for_range (lo := 0) (n := ds.length) (fun i σ H' => H' = H ∧ ∃ kv, σ = [some _, some _, kv]) ⟨rfl, _, rfl⟩ (fun i σ H' hi hP => ?_) (fun σ H' hP => ?_)
        · obtain ⟨rfl, kv, rfl⟩ := hP
          obtain ⟨v1, g1, d1⟩ := dpAll_get ha1 (List.getElem?_eq_getElem hi)
          obtain ⟨v2, g2, d2⟩ := dpAll_get ha2 (List.getElem?_eq_getElem hi)
          show tIfS _ _ _ _ _ _
          walk_at "rd"
          refine r_xT hs1 (at_of (j := i) (by omega) g1) ?_
          walk_at "rd"
          refine r_xT hs2 (at_of (j := i) (by omega) g2) ?_
          walk_at "rd"
          refine ⟨v1, v2, ds[i], rfl, d1, d2, hf.2 _ (List.getElem_mem hi), ?_⟩
          walk_at "rd"
          exact ⟨rfl, _, rfl⟩
        · obtain ⟨rfl, kv, rfl⟩ := hP
          walk_at "rd"
          exact q
theorem ok_l_same (T : Txt K mg a) : FnOk P w K mg base CX0 4 a.f_l_same a.d_l_same ["actual", "due"] (spSame K 4) := ok_l_same_n T _

end

section
variable {P : Program} {w : World} {K : PySem.W.Frag} {mg : Str → Option Value} {base : Heap} {a : Ad}
/-! the other way round -/
def two (r : List Nat) : Prop := ∃ x y, r = [x, y]
def swR (r : List Nat) : List Nat := [r.getD 1 0, r.getD 0 0]
def swP (p : List Nat × List Nat) : List Nat × List Nat := (swR p.1, p.2)
theorem sw_inj {r t : List Nat} (h1 : two r) (h2 : two t) (e : swR r = swR t) : r = t := by
  obtain ⟨x, y, rfl⟩ := h1
  obtain ⟨x', y', rfl⟩ := h2
  have e : [y, x] = [y', x'] := e
  injection e with e1 e2
  injection e2 with e3 _
  rw [e1, e3]
theorem ext1_sw {M N : Mac} {m : Wm} {x : List Nat × List Nat} {c : Nat} (hm : ∀ p ∈ m, two p.1) : ext1 (stp2 N M) (m.map swP) (swP x) c = (ext1 (stp2 M N) m x c).map swP ∧ ∀ p ∈ ext1 (stp2 M N) m x c, two p.1 := by
  obtain ⟨r', er⟩ : ∃ r', [stepM M (x.1.getD 0 0) (97 + c), stepM N (x.1.getD 1 0) (97 + c)] = r' := ⟨_, rfl⟩
  have t' : two r' := ⟨_, _, er.symm⟩
  have e1 : ext1 (stp2 M N) m x c = if r' ∈ m.map (·.1) then m else m ++ [(r', x.2 ++ [97 + c])] := by
    unfold ext1 stp2
    rw [er]
  have e2 : ext1 (stp2 N M) (m.map swP) (swP x) c = if swR r' ∈ (m.map swP).map (·.1) then m.map swP else m.map swP ++ [(swR r', x.2 ++ [97 + c])] := by
    rw [← er]
    rfl
  have mem : swR r' ∈ (m.map swP).map (·.1) ↔ r' ∈ m.map (·.1) := by
    rw [List.map_map, List.mem_map, List.mem_map]
    constructor
    · rintro ⟨p, hp, e⟩
      exact ⟨p, hp, sw_inj (hm p hp) t' e⟩
    · rintro ⟨p, hp, e⟩
      exact ⟨p, hp, congrArg swR e⟩
  rw [e1, e2]
  by_cases h : r' ∈ m.map (·.1)
  · rw [if_pos h, if_pos (mem.mpr h)]
    exact ⟨rfl, hm⟩
  · rw [if_neg h, if_neg fun z => h (mem.mp z), List.map_append]
    refine ⟨rfl, fun p hp => ?_⟩
    rcases List.mem_append.mp hp with hp | hp
    · exact hm p hp
    · rw [List.mem_singleton.mp hp]
      exact t'
theorem extT_sw {M N : Mac} {m : Wm} {x : List Nat × List Nat} (hm : ∀ p ∈ m, two p.1) : ∀ j, extT (stp2 N M) (swP x) (m.map swP) j = (extT (stp2 M N) x m j).map swP ∧ ∀ p ∈ extT (stp2 M N) x m j, two p.1
  | 0 => ⟨rfl, hm⟩
  | j + 1 => by
    obtain ⟨h1, h2⟩ := extT_sw (x := x) hm j
    rw [extT_succ, extT_succ, h1]
    exact ext1_sw h2
theorem bfs_sw {M N : Mac} {m a b : Nat} : ∀ i, bfs (stp2 N M) m [b, a] i = (bfs (stp2 M N) m [a, b] i).map swP ∧ ∀ p ∈ bfs (stp2 M N) m [a, b] i, two p.1
  | 0 => ⟨rfl, fun p hp => by rw [List.mem_singleton.mp hp]; exact ⟨a, b, rfl⟩⟩
  | i + 1 => by
    obtain ⟨h1, h2⟩ := bfs_sw (M := M) (N := N) (m := m) (a := a) (b := b) i
    cases e : (bfs (stp2 M N) m [a, b] i)[i]? with
    | none =>
      have l := List.getElem?_eq_none_iff.mp e
      rw [bfs_stop (stp := stp2 M N) l, bfs_stop (stp := stp2 N M) (by rw [h1, List.length_map]; exact l)]
      exact ⟨h1, h2⟩
    | some x =>
      have e' : (bfs (stp2 N M) m [b, a] i)[i]? = some (swP x) := by rw [h1, List.getElem?_map, e]; rfl
      rw [bfs_succ e, bfs_succ e', h1]
      exact extT_sw h2 m
theorem oneGood_sw (M N : Mac) (r : List Nat) : oneGood N M (swR r) = oneGood M N r := by
  show (!decide (decide (r.getD 1 0 ∈ N.good) = decide (r.getD 0 0 ∈ M.good))) = !decide (decide (r.getD 0 0 ∈ M.good) = decide (r.getD 1 0 ∈ N.good))
  congr 1
  exact decide_eq_decide.mpr ⟨Eq.symm, Eq.symm⟩
theorem firstD_sw (M N : Mac) : ∀ m : Wm, firstD N M (m.map swP) = firstD M N m
  | [] => rfl
  | x :: m => by
    have ih := firstD_sw M N m
    unfold firstD at ih ⊢
    rw [List.map_cons]
    cases h : oneGood M N x.1 with
    | true =>
      have h' : oneGood N M (swP x).1 = true := (oneGood_sw M N x.1).trans h
      rw [List.find?_cons_of_pos (p := fun p : List Nat × List Nat => oneGood N M p.1) h', List.find?_cons_of_pos (p := fun p : List Nat × List Nat => oneGood M N p.1) h]
      rfl
    | false =>
      have h' : oneGood N M (swP x).1 = false := (oneGood_sw M N x.1).trans h
      rw [List.find?_cons_of_neg (p := fun p : List Nat × List Nat => oneGood N M p.1) (by rw [h']; exact Bool.false_ne_true), List.find?_cons_of_neg (p := fun p : List Nat × List Nat => oneGood M N p.1) (by rw [h]; exact Bool.false_ne_true)]
      exact ih
theorem diff_sw {M N : Mac} {m i j : Nat} (hi : (bfs (stp2 M N) m [M.start, N.start] i).length ≤ i) (hj : (bfs (stp2 N M) m [N.start, M.start] j).length ≤ j) : firstD N M (bfs (stp2 N M) m [N.start, M.start] j) = firstD M N (bfs (stp2 M N) m [M.start, N.start] i) := by
  have e := (bfs_sw (M := M) (N := N) (m := m) (a := M.start) (b := N.start) i).1
  rw [bfs_same (stp := stp2 N M) hj (j := i) (by rw [e, List.length_map]; exact hi), e, firstD_sw]

theorem asc_len : ∀ {g : List Nat} {N : Nat}, g.Pairwise (· < ·) → (∀ s ∈ g, s < N) → g.length ≤ N := fun {g N} h l => by
  have := nodup_le (ks := g) (ns := List.range N) (h.imp Nat.ne_of_lt) (fun x hx => List.mem_range.mpr (l x hx))
  rwa [List.length_range] at this
theorem fits_mac {M : Mac} {n m : Nat} (ok : MacOk M n m) (n40 : n ≤ 40) (m4 : m ≤ 4) : fits 4 (macD M) := by
  have zl : (sizeLine : Nat) = 16777216 := by decide
  have lg := asc_len ok.asc ok.good
  refine ⟨by show 3 ≤ _; omega, fun d hd => ?_⟩
  rcases List.mem_cons.mp hd with rfl | hd
  · refine ⟨by rw [List.length_map, ok.len]; omega, fun d hd => ?_⟩
    obtain ⟨r, hr, rfl⟩ := List.mem_map.mp hd
    exact fits_row 0 (by rw [(ok.row r hr).1]; omega)
  rcases List.mem_cons.mp hd with rfl | hd
  · trivial
  · rw [List.mem_singleton.mp hd]
    exact fits_row 1 (by omega)

theorem rowsB_sw {M N : Mac} {m a b i : Nat} : rowsB (stp2 N M) m (bfs (stp2 N M) m [b, a] i) = rowsB (stp2 M N) m (bfs (stp2 M N) m [a, b] i) := by
  obtain ⟨h1, h2⟩ := bfs_sw (M := M) (N := N) (m := m) (a := a) (b := b) i
  rw [h1]
  unfold rowsB
  rw [List.map_map]
  refine List.map_congr_left fun p hp => List.map_congr_left fun c _ => ?_
  show ix (((bfs (stp2 M N) m [a, b] i).map swP).map (·.1)) (swR [stepM M (p.1.getD 0 0) (97 + c), stepM N (p.1.getD 1 0) (97 + c)]) = ix ((bfs (stp2 M N) m [a, b] i).map (·.1)) [stepM M (p.1.getD 0 0) (97 + c), stepM N (p.1.getD 1 0) (97 + c)]
  rw [List.map_map, show ((·.1) ∘ swP) = swR ∘ (fun p : List Nat × List Nat => p.1) from rfl, ← List.map_map]
  refine ix_map fun y hy e => ?_
  obtain ⟨z, hz, rfl⟩ := List.mem_map.mp hy
  exact sw_inj (h2 z hz) ⟨_, _, rfl⟩ e
theorem jw_sw (k : Nat) (b c : Bool) : jw k b c = jw k c b := by
  match k with
  | 0 => cases b <;> cases c <;> rfl
  | 1 => cases b <;> cases c <;> rfl
  | k + 2 => cases b <;> cases c <;> rfl
theorem marks_sw {M N : Mac} {m a b i wy : Nat} : ((bfs (stp2 N M) m [b, a] i).map fun p => gd2 wy N M p.1) = (bfs (stp2 M N) m [a, b] i).map fun p => gd2 wy M N p.1 := by
  rw [(bfs_sw (M := M) (N := N) (m := m) (a := a) (b := b) i).1, List.map_map]
  refine List.map_congr_left fun p _ => ?_
  exact jw_sw wy _ _
noncomputable def nclP (M N : Mac) (m wy : Nat) : Nat := ncl (rowsB (stp2 M N) m (bfs (stp2 M N) m [M.start, N.start] 2000)) ((bfs (stp2 M N) m [M.start, N.start] 2000).map fun p => gd2 wy M N p.1) m
noncomputable def LMp (M N : Mac) (m wy : Nat) : Mac := LMm (rowsB (stp2 M N) m (bfs (stp2 M N) m [M.start, N.start] 2000)) ((bfs (stp2 M N) m [M.start, N.start] 2000).map fun p => gd2 wy M N p.1) m
def DueOk (M N : Mac) (m mk wy : Nat) (D : PyData) : Prop := (m = mk ∧ ((nclP M N m wy ≤ 40 ∧ D = macD (LMp M N m wy)) ∨ (40 < nclP M N m wy ∧ D = .str (Str.ofString "many")))) ∨ (m ≠ mk ∧ D = .str (Str.ofString "letters"))
theorem DueOk.sw {M N : Mac} {m mk wy : Nat} {D : PyData} (h : DueOk M N m mk wy D) : DueOk N M mk m wy D := by
  rcases h with ⟨rfl, h⟩ | ⟨ne, h⟩
  · have e1 : nclP N M m wy = nclP M N m wy := by unfold nclP; rw [rowsB_sw, marks_sw]
    have e2 : LMp N M m wy = LMp M N m wy := by unfold LMp; rw [rowsB_sw, marks_sw]
    exact .inl ⟨rfl, by rw [e1, e2]; exact h⟩
  · exact .inr ⟨ne.symm, h⟩
theorem pr_len {M N : Mac} {n k m : Nat} (ok : MacOk M n m) (ok' : MacOk N k m) (n8 : n ≤ 8) (k8 : k ≤ 8) : (bfs (stp2 M N) m [M.start, N.start] 2000).length ≤ 2000 := by
  have := bfs_len (stp := stp2 M N) (k := m) (o := [M.start, N.start]) (prs2_mem.mpr ⟨_, _, ok.start, ok'.start, rfl⟩) (prs2_cl ok ok') 2000
  rw [prs2_len] at this
  have h2 : n * k ≤ 64 := Nat.le_trans (Nat.mul_le_mul n8 k8) (by decide)
  omega
theorem told_of {H : Hp} {Q : VK} {E : XK} {v v' : V} {M N : Mac} {n k m mk wy : Nat} {D : PyData} (hM : Dt K H v (macD M)) (ok : MacOk M n m) (n1 : 1 ≤ n) (n8 : n ≤ 8) (m4 : m ≤ 4) (hN : Dt K H v' (macD N)) (ok' : MacOk N k mk) (k1 : 1 ≤ k) (k8 : k ≤ 8) (mk4 : mk ≤ 4) (hT : LamX.Tabs (tabsOf a) H) (hD : DueOk M N m mk wy D)
    (q : ∀ (H' : Hp) (u : V), ExD H H' → LamX.Tabs (tabsOf a) H' → Dt K H' u D → Q u H') : spTold K a [v, v', .str (wayS wy)] H Q E := by
  refine ⟨v, v', M, N, n, k, m, mk, wy, rfl, hM, ok, n1, by omega, m4, hN, ok', k1, by omega, mk4, hT, fun e i hi => ?_, fun e H' x t => ?_⟩
  · subst e
    have eB := bfs_same (stp := stp2 M N) hi (pr_len ok ok' n8 k8)
    rw [eB]
    rcases hD with ⟨_, ⟨hle, rfl⟩ | ⟨hlt, rfl⟩⟩ | ⟨ne, _⟩
    · exact ⟨fun _ H' u x t hu => q H' u x t hu, fun h => absurd h (Nat.not_lt.mpr hle)⟩
    · exact ⟨fun h => absurd hlt (Nat.not_lt.mpr h), fun _ H' x t => q H' _ x t (.str _)⟩
    · exact absurd rfl ne
  · rcases hD with ⟨e', _⟩ | ⟨_, rfl⟩
    · exact absurd e' e
    · exact q H' _ x t (.str _)
theorem lmp_ok {M N : Mac} {n k m wy : Nat} (ok : MacOk M n m) (ok' : MacOk N k m) (n8 : n ≤ 8) (k8 : k ≤ 8) : MacOk (LMp M N m wy) (nclP M N m wy) m := by
  have sys := sysB (gd := gd2 wy M N) (pr_len ok ok' n8 k8) (fun r c => ⟨_, rfl⟩)
  exact lmm_ok sys (bfs_one (stp := stp2 M N) (k := m) (o := [M.start, N.start]) 2000)
def sp_law (K : PySem.W.Frag) (a : Ad) : Sp := fun vs H Q _ => ∃ (l : Addr) (ns : List Int), vs = [.ref l] ∧ SqL K H l (ns.map V.int) ∧ ns.length ≤ 63 ∧ LamX.Tabs (tabsOf a) H ∧ ∀ H', Q (.bl true) H'
theorem ok_law (T : Txt K mg a) (B : Tbl mg base a) : FnOk P w K mg base CX0 12 a.f_law a.d_law ["script"] (sp_law K a) := by
  have G_l_cell := ok_l_cell (P := P) (w := w) (base := base) T
  have G_l_joined := ok_l_joined (P := P) (w := w) (base := base) T
  have G_l_least := ok_l_least (P := P) (w := w) (base := base) T
  have G_l_machine := ok_l_machine (P := P) (w := w) (base := base) T
  have G_l_numbers := ok_l_numbers (P := P) (w := w) (base := base) T
  have G_l_ring := ok_l_ring (P := P) (w := w) (base := base) T
  have G_l_same := ok_l_same (P := P) (w := w) (base := base) T
  have G_l_told := ok_l_told (P := P) (w := w) (base := base) T B
  have G_complement := ok_complement (P := P) (w := w) (base := base) T B
  refine T.F_law.ok sc_law (fun vs H Q E h => ?_) (fun cdv A outer s H vs Q E hr h => ?_)
  · obtain ⟨l, ns, rfl, _⟩ := h
    rfl
  · obtain ⟨l, sc, rfl, hS, _, hTb, q⟩ := h
    have zl : (sizeLine : Nat) = 16777216 := by decide
    refine ⟨_, (pss_cons (ps_set (i := 1) sc_law.nd rfl (Or.inl rfl) (pe_call (G_l_numbers) (hr.mono (by first | decide | omega)) (by rfl) T.g_l_numbers T.F_l_numbers.kp T.b_l_numbers .nil pass0 (pa_cons (pe_call (G_l_cell) (hr.mono (by first | decide | omega)) (by rfl) T.g_l_cell T.F_l_cell.kp T.b_l_cell .nil pass0 (pa_cons (pv 0) (pa_cons pe_int pa_nil))) (pa_cons pe_int pa_nil))))
      (pss_cons (ps_set (i := 2) sc_law.nd rfl (Or.inl rfl) (pe_op op_add pe_int (pe_op op_mod (pe_ix (ix_listK (K := K) rfl) (pv 1) pe_int (fun _ _ => rfl)) pe_int)))
      (pss_cons (ps_set (i := 3) sc_law.nd rfl (Or.inr rfl) (pe_call (G_l_machine) (hr.mono (by first | decide | omega)) (by rfl) T.g_l_machine T.F_l_machine.kp T.b_l_machine .nil pass0 (pa_cons (pe_call (G_l_cell) (hr.mono (by first | decide | omega)) (by rfl) T.g_l_cell T.F_l_cell.kp T.b_l_cell .nil pass0 (pa_cons (pv 0) (pa_cons pe_int pa_nil))) (pa_cons (pe_op op_add pe_int (pe_op op_mod (pe_ix (ix_listK (K := K) rfl) (pv 1) pe_int (fun _ _ => rfl)) pe_int)) (pa_cons (pv 2) pa_nil)))))
      (pss_cons (ps_set (i := 4) sc_law.nd rfl (Or.inl rfl) (pe_call (G_l_machine) (hr.mono (by first | decide | omega)) (by rfl) T.g_l_machine T.F_l_machine.kp T.b_l_machine .nil pass0 (pa_cons (pe_call (G_l_cell) (hr.mono (by first | decide | omega)) (by rfl) T.g_l_cell T.F_l_cell.kp T.b_l_cell .nil pass0 (pa_cons (pv 0) (pa_cons pe_int pa_nil))) (pa_cons (pe_op op_add pe_int (pe_op op_mod (pe_ix (ix_listK (K := K) rfl) (pv 1) pe_int (fun _ _ => rfl)) pe_int)) (pa_cons (pv 2) pa_nil)))))
      (pss_cons (ps_if (pt_cmpR op_eq (pe_op op_mod (pe_ix (ix_listK (K := K) rfl) (pv 1) pe_int (fun _ _ => rfl)) pe_int) pe_int (nomark _)) (pss_cons (ps_set (i := 3) sc_law.nd rfl (Or.inr rfl) (pe_call (G_l_ring) (hr.mono (by first | decide | omega)) (by rfl) T.g_l_ring T.F_l_ring.kp T.b_l_ring .nil pass0 (pa_cons (pe_op op_add pe_int (pe_op op_mod (pe_ix (ix_listK (K := K) rfl) (pv 1) pe_int (fun _ _ => rfl)) pe_int)) (pa_cons (pe_ix (ix_listK (K := K) rfl) (pv 1) pe_int (fun _ _ => rfl)) pa_nil))))
      (pss_one (ps_set (i := 4) sc_law.nd rfl (Or.inl rfl) (pe_call (G_l_ring) (hr.mono (by first | decide | omega)) (by rfl) T.g_l_ring T.F_l_ring.kp T.b_l_ring .nil pass0 (pa_cons (pe_op op_add pe_int (pe_op op_mod (pe_ix (ix_listK (K := K) rfl) (pv 1) pe_int (fun _ _ => rfl)) pe_int)) (pa_cons (pe_ix (ix_listK (K := K) rfl) (pv 1) pe_int (fun _ _ => rfl)) pa_nil)))))) pss_nil)
      (pss_cons (ps_if (pt_cmpR op_eq (pe_op op_mod (pe_ix (ix_listK (K := K) rfl) (pv 1) pe_int (fun _ _ => rfl)) pe_int) pe_int (nomark _)) (pss_one (ps_set (i := 4) sc_law.nd rfl (Or.inl rfl) (pe_call (G_l_machine) (hr.mono (by first | decide | omega)) (by rfl) T.g_l_machine T.F_l_machine.kp T.b_l_machine .nil pass0 (pa_cons (pe_call (G_l_cell) (hr.mono (by first | decide | omega)) (by rfl) T.g_l_cell T.F_l_cell.kp T.b_l_cell .nil pass0 (pa_cons (pv 0) (pa_cons pe_int pa_nil))) (pa_cons (pe_op op_add pe_int (pe_op op_mod (pe_ix (ix_listK (K := K) rfl) (pv 1) pe_int (fun _ _ => rfl)) pe_int)) (pa_cons (pe_op op_add pe_int (pe_op op_mod (pv 2) pe_int)) pa_nil)))))) pss_nil)
      (pss_cons (ps_set (i := 5) sc_law.nd rfl (Or.inl rfl) (pe_callTy (call_tupOfK (K := K) rfl) (by rfl) T.z_tuple (by decide +kernel) (pa_cons (pe_lc (own := [("state", 8)]) (g := gName 8) rfl sc_law.nd (pi_range1 (by rfl) T.z_range (pa_cons (pe_callB (call_lenQK (K := K) rfl) (by rfl) T.z_len (by decide +kernel) (pa_cons (pe_ix (ix_tupK (K := K) rfl) (pv 3) pe_int (fun _ _ => rfl)) pa_nil)) pa_nil)) (blkOk_by (N := N_law) (sc := (defScope s_law)) (by decide +kernel)) (fun _ _ _ _ _ => pg_name (i := 8) sc_law.nd rfl (by first | exact Or.inl rfl | exact Or.inr rfl)) (fun _ _ _ _ _ => (pts_one (pt_cmpR (op_notInK (K := K) rfl) (pv 8) (pe_ix (ix_tupK (K := K) rfl) (pv 3) pe_int (fun _ _ => rfl)) (by rfl)))) (fun _ _ _ _ _ => (pv 8))) pa_nil)))
      (pss_cons (ps_if (pt_not (pt_val (pe_call (G_l_same) (hr.mono (by first | decide | omega)) (by rfl) T.g_l_same T.F_l_same.kp T.b_l_same .nil pass0 (pa_cons (pe_call (G_complement) (hr.mono (by first | decide | omega)) (by rfl) T.g_complement T.F_complement.kp T.b_complement .nil pass0 (pa_cons (pv 3) pa_nil)) (pa_cons (pe_call (G_l_least) (hr.mono (by first | decide | omega)) (by rfl) T.g_l_least T.F_l_least.kp T.b_l_least .nil pass0 (pa_cons (pe_tup (pa_cons (pe_ix (ix_tupK (K := K) rfl) (pv 3) pe_int (fun _ _ => rfl)) (pa_cons (pe_ix (ix_tupK (K := K) rfl) (pv 3) pe_int (fun _ _ => rfl)) (pa_cons (pv 5) pa_nil)))) pa_nil)) pa_nil))))) (pss_one (ps_ret pe_bl)) pss_nil)
      (pss_cons (ps_for PassesOwn.never rfl (pi_listK (K := K) rfl (pe_lst (pa_cons pe_str (pa_cons pe_str (pa_cons pe_str pa_nil))))) (pg_name (i := 6) sc_law.nd rfl (Or.inl rfl)) (pss_cons (ps_set (i := 7) sc_law.nd rfl (Or.inl rfl) pe_str)
      (pss_cons (ps_if (pt_cmpR op_eq (pe_callB (call_lenQK (K := K) rfl) (by rfl) T.z_len (by decide +kernel) (pa_cons (pe_ix (ix_tupK (K := K) rfl) (pe_ix (ix_tupK (K := K) rfl) (pv 3) pe_int (fun _ _ => rfl)) pe_int (fun _ _ => rfl)) pa_nil)) (pe_callB (call_lenQK (K := K) rfl) (by rfl) T.z_len (by decide +kernel) (pa_cons (pe_ix (ix_tupK (K := K) rfl) (pe_ix (ix_tupK (K := K) rfl) (pv 4) pe_int (fun _ _ => rfl)) pe_int (fun _ _ => rfl)) pa_nil)) (nomark _)) (pss_cons (ps_set (i := 7) sc_law.nd rfl (Or.inl rfl) (pe_call (G_l_joined) (hr.mono (by first | decide | omega)) (by rfl) T.g_l_joined T.F_l_joined.kp T.b_l_joined .nil pass0 (pa_cons (pv 3) (pa_cons (pv 4) (pa_cons (pv 6) pa_nil)))))
      (pss_one (ps_if (pt_cmpR op_gt (pe_callB (call_lenQK (K := K) rfl) (by rfl) T.z_len (by decide +kernel) (pa_cons (pe_ix (ix_seqK (K := K) rfl) (pv 7) pe_int (fun _ _ => rfl)) pa_nil)) pe_int (nomark _)) (pss_one (ps_set (i := 7) sc_law.nd rfl (Or.inl rfl) pe_str)) pss_nil))) pss_nil)
      (pss_one (ps_if (PW.pt (pw_or (pt_not (pt_val (pe_call (G_l_same) (hr.mono (by first | decide | omega)) (by rfl) T.g_l_same T.F_l_same.kp T.b_l_same .nil pass0 (pa_cons (pe_call (G_l_told) (hr.mono (by first | decide | omega)) (by rfl) T.g_l_told T.F_l_told.kp T.b_l_told .nil pass0 (pa_cons (pv 3) (pa_cons (pv 4) (pa_cons (pv 6) pa_nil)))) (pa_cons (pv 7) pa_nil))))) (pw_or1 (pt_not (pt_val (pe_call (G_l_same) (hr.mono (by first | decide | omega)) (by rfl) T.g_l_same T.F_l_same.kp T.b_l_same .nil pass0 (pa_cons (pe_call (G_l_told) (hr.mono (by first | decide | omega)) (by rfl) T.g_l_told T.F_l_told.kp T.b_l_told .nil pass0 (pa_cons (pv 4) (pa_cons (pv 3) (pa_cons (pv 6) pa_nil)))) (pa_cons (pv 7) pa_nil)))))))) (pss_one (ps_ret pe_bl)) pss_nil)))))
      (pss_one (ps_ret pe_bl))))))))))), ?_⟩
    walk_at "rd"
    refine ⟨l, sc, 0, rfl, hS, by decide, ?_⟩
    walk_at "rd"
    refine ⟨_, 8, rfl, by omega, fun H1 pn ns s1 hpn hN hlen hz => ?_⟩
    have hTb1 := hTb.same s1
    have hS1 := s1.seq hS
    clear hS hTb
    have one7 : ∀ (i : Int), ∃ n : Nat, 1 + ns.getD i.toNat 0 % 7 = (n : Int) ∧ 1 ≤ n ∧ n ≤ 7 := fun i => by
      have := emod_rng (ns.getD i.toNat 0) (b := 7) (by omega)
      exact ⟨(1 + ns.getD i.toNat 0 % 7).toNat, by omega, by omega, by omega⟩
    have one4 : ∀ (i : Int), ∃ n : Nat, 1 + ns.getD i.toNat 0 % 4 = (n : Int) ∧ 1 ≤ n ∧ n ≤ 4 := fun i => by
      have := emod_rng (ns.getD i.toNat 0) (b := 4) (by omega)
      exact ⟨(1 + ns.getD i.toNat 0 % 4).toNat, by omega, by omega, by omega⟩
    have five : ∀ (i : Int), ∃ n : Nat, 5 + ns.getD i.toNat 0 % 4 = (n : Int) ∧ 1 ≤ n ∧ n ≤ 8 := fun i => by
      have := emod_rng (ns.getD i.toNat 0) (b := 4) (by decide)
      exact ⟨(5 + ns.getD i.toNat 0 % 4).toNat, by omega, by omega, by omega⟩
    obtain ⟨n0, en0, n01, n07⟩ := one7 0
    obtain ⟨m, em, m1, m4⟩ := one4 1
    obtain ⟨k0, ek0, k01, k07⟩ := one7 2
    obtain ⟨r4, er4, r41, r48⟩ := five 4
    obtain ⟨r6, er6, r61, r68⟩ := five 6
    obtain ⟨mm, emm, mm1, mm4⟩ : ∃ n : Nat, 1 + (m : Int) % 4 = (n : Int) ∧ 1 ≤ n ∧ n ≤ 4 := ⟨1 + m % 4, by omega, by omega, by omega⟩
    walk_at "rd"
    refine r_ixL (SqL.of hN) (at_int (by decide) (by omega)) ?_
    walk_at "rd"
    rw [em]
    refine ⟨l, sc, 1, rfl, hS1, by decide, ?_⟩
    walk_at "rd"
    refine r_ixL (SqL.of hN) (at_int (by decide) (by omega)) ?_
    walk_at "rd"
    rw [en0]
    refine ⟨_, n0, m, rfl, n01, by omega, m1, m4, fun H2 v M s2 hM ok => ?_⟩
    have hTb2 := hTb1.same s2
    have hS2 := s2.seq hS1
    have hN2 := s2 _ _ hN
    clear hTb1 hS1 hN s1
    walk_at "rd"
    refine ⟨l, sc, 2, rfl, hS2, by decide, ?_⟩
    walk_at "rd"
    refine r_ixL (SqL.of hN2) (at_int (by decide) (by omega)) ?_
    walk_at "rd"
    rw [ek0]
    refine ⟨_, k0, m, rfl, k01, by omega, m1, m4, fun H3 v2 N s3 hN' ok' => ?_⟩
    have hM3 := hM.k (sT_of s3)
    have hTb3 := hTb2.same s3
    have hS3 := s3.seq hS2
    have hN3 := s3 _ _ hN2
    clear hTb2 hS2 hN2 hM s3 s2
    dsimp only
    with_reducible refine r_cutJ (fun σ G => ∃ v v2 M N n k m', σ = [some (.ref l), some (.ref pn), some (.int (m : Int)), some v, some v2, none, none, none, none] ∧ Dt K G v (macD M) ∧ Dt K G v2 (macD N) ∧ MacOk M n m' ∧ MacOk N k m' ∧ 1 ≤ n ∧ n ≤ 8 ∧ 1 ≤ k ∧ k ≤ 8 ∧ 1 ≤ m' ∧ m' ≤ 4 ∧ SqL K G l (sc.map V.int) ∧ G pn = some (.lst (ns.map V.int)) ∧ LamX.Tabs (tabsOf a) G) (fun σ G hJ => ?_) (fun key => ?_)
    rotate_left
    · walk_at "rd"
      refine r_ixL (SqL.of hN3) (at_int (by decide) (by omega)) ?_
      walk_at "rd"
      refine r_iteD (fun e => ?_) (fun e => ?_)
      · walk_at "rd"
        refine r_ixL (SqL.of hN3) (at_int (by decide) (by omega)) ?_
        walk_at "rd"
        rw [er4]
        refine r_ixL (SqL.of hN3) (at_int (by decide) (by omega)) ?_
        walk_at "rd"
        refine ⟨r4, _, rfl, r41, by omega, fun H4 v4 g4 s4 hg4 hD4 => ?_⟩
        walk_at "rd"
        refine r_ixL (SqL.of (s4 _ _ hN3)) (at_int (by decide) (by omega)) ?_
        walk_at "rd"
        rw [er6]
        refine r_ixL (SqL.of (s4 _ _ hN3)) (at_int (by decide) (by omega)) ?_
        walk_at "rd"
        refine ⟨r6, _, rfl, r61, by omega, fun H5 v5 g5 s5 hg5 hD5 => ?_⟩
        exact key _ _ ⟨v4, v5, ringM r4 g4, ringM r6 g5, r4, r6, 1, rfl, hD4.k (sT_of s5), hD5, ringM_ok r41 hg4, ringM_ok r61 hg5, r41, r48, r61, r68, Nat.le_refl _, by decide, (s4.trans s5).seq hS3, (s4.trans s5) _ _ hN3, hTb3.same (s4.trans s5)⟩
      · exact r_next (key _ _ ⟨v, v2, M, N, n0, k0, m, rfl, hM3, hN', ok, ok', n01, by omega, k01, by omega, m1, m4, hS3, hN3, hTb3⟩)
    clear hM3 hN' hS3 hN3 hTb3 ok ok' M N v v2
    obtain ⟨v, v2, M, N, n, k, m', rfl, hM3, hN', ok, ok', n1, n8, k1, k8, m1', m4', hS3, hN3, hTb3⟩ := hJ
    with_reducible refine r_cutJ (fun σ G => ∃ v2 N k mk, σ = [some (.ref l), some (.ref pn), some (.int (m : Int)), some v, some v2, none, none, none, none] ∧ Dt K G v (macD M) ∧ Dt K G v2 (macD N) ∧ MacOk N k mk ∧ 1 ≤ k ∧ k ≤ 8 ∧ 1 ≤ mk ∧ mk ≤ 4 ∧ LamX.Tabs (tabsOf a) G) (fun σ G hJ => ?_) (fun key => ?_)
    rotate_left
    · walk_at "rd"
      refine r_ixL (SqL.of hN3) (at_int (by decide) (by omega)) ?_
      walk_at "rd"
      refine r_iteD (fun e => ?_) (fun e => ?_)
      · walk_at "rd"
        refine ⟨l, sc, 2, rfl, hS3, by decide, ?_⟩
        walk_at "rd"
        refine r_ixL (SqL.of hN3) (at_int (by decide) (by omega)) ?_
        walk_at "rd"
        rw [ek0, emm]
        refine ⟨_, k0, mm, rfl, k01, by omega, mm1, mm4, fun H4 v4 M4 s4 hM4 ok4 => ?_⟩
        exact key _ _ ⟨v4, M4, k0, mm, rfl, hM3.k (sT_of s4), hM4, ok4, k01, by omega, mm1, mm4, hTb3.same s4⟩
      · exact r_next (key _ _ ⟨v2, N, k, m', rfl, hM3, hN', ok', k1, k8, m1', m4', hTb3⟩)
    clear hM3 hN' hS3 hN3 hTb3 ok' N v2 k1 k8 k
    obtain ⟨v2, N, k, mk, rfl, hM, hN, ok', k1, k8, mk1, mk4, hTb⟩ := hJ
    obtain ⟨pa, st, gd, rows, rfl, hA, hSt, hRows, hGd⟩ := macE hM
    have hrl : rows.length = n := by
      have := hRows.len
      rw [List.length_map, ok.len] at this
      exact this
    walk_at "rd"
    refine r_ixT hA (at_of (j := 0) rfl rfl) ?_
    walk_at "rd"
    refine r_lenT hSt ?_
    rw [hrl]
    refine r_rng1' (by omega) (by omega) ?_
    rw [Int.toNat_natCast]
    intro D hD
    refine lc_range (lo := 0) (n := n) (fun i G2 => Same G G2 ∧ G2 D = some (.lst (((List.range i).filter fun s => decide (s ∉ M.good)).map iV))) ⟨same_new hD, upd_same⟩ (fun i G2 hi hP => ?_) (fun G2 hP => ?_)
    · obtain ⟨sG, hG⟩ := hP
      refine ⟨rfl, ?_⟩
      walk_at "rd"
      rw [show V.int (0 + (i : Int)) = iV i from congrArg V.int (by omega)]
      refine r_ixT (same_t sG hA) (at_of (j := 2) rfl rfl) ?_
      refine r_ninT1 (same_t sG hGd) ?_
      have lr : ((List.range i).filter fun s => decide (s ∉ M.good)).length ≤ i := Nat.le_trans (List.length_filter_le _ _) (by rw [List.length_range]; exact Nat.le_refl _)
      refine ⟨_, rfl, ?_⟩
      rw [List.range_succ, List.filter_append]
      refine r_iteN (fun e => ?_) (fun e => ?_)
      · rw [show [i].filter (fun s => decide (s ∉ M.good)) = [i] from List.filter_cons_of_pos (by simpa using e)]
        refine r_var rfl ?_
        refine ⟨_, hG, by rw [List.length_map]; omega, same_mut sG hD, ?_⟩
        rw [upd_same, List.map_append]
        rfl
      · rw [show [i].filter (fun s => decide (s ∉ M.good)) = [] from List.filter_cons_of_neg (by simpa using e), List.append_nil]
        exact ⟨sG, hG⟩
    obtain ⟨sG, hG⟩ := hP
    walk_at "rd"
    refine r_tupL (SqL.of hG) (fun tg htg => ?_)
    have sA := sG.trans (same_new (o := .tup (((List.range n).filter fun s => decide (s ∉ M.good)).map iV)) htg)
    have hTg : (upd G2 tg (.tup (((List.range n).filter fun s => decide (s ∉ M.good)).map iV))) tg = _ := upd_same
    have hM2 := hM.k (sT_of sA)
    have hN2 := hN.k (sT_of sA)
    have hTb2 := hTb.same sA
    have hA2 := same_t sA hA
    have hSt2 := same_t sA hSt
    have hR2 := hRows.k (sT_of sA)
    clear hG hM hN hTb hA hGd htg sA sG hSt
    generalize upd G2 tg (.tup (((List.range n).filter fun s => decide (s ∉ M.good)).map iV)) = G3 at *
    walk_at "rd"
    refine ⟨.ref pa, M, n, m', rfl, hM2, ok, n1, by omega, m4', hTb2, fun H6 v6 i6 x6 t6 hi6 hD6 => ?_⟩
    have hN6 := hN2.k x6.sT
    have hM6 := hM2.k x6.sT
    walk_at "rd"
    refine r_ixT (x6.sqT hA2) (at_of (j := 0) rfl rfl) ?_
    walk_at "rd"
    refine r_ixT (x6.sqT hA2) (at_of (j := 1) rfl rfl) ?_
    walk_at "rd"
    refine ⟨ln3, fun tm htm => ?_⟩
    refine r_nil ?_
    have sC := same_new (o := .tup [V.ref st, iV M.start, V.ref tg]) htm
    have hDm : Dt K (upd H6 tm (.tup [V.ref st, iV M.start, V.ref tg])) (.ref tm) (macD (compM M)) := by
      refine .tup (SqT.of upd_same) (.cons ?_ (.cons (.int _) (.cons ?_ .nil)))
      · exact .tup (same_t sC (x6.sqT hSt2)) (hR2.k (x6.sT.trans (sT_of sC)))
      · have : (compM M).good = (List.range n).filter fun s => decide (s ∉ M.good) := by unfold compM; rw [ok.len]
        rw [this]
        exact .tup (SqT.of (sC _ _ (x6.tup hTg))) (ofNats _)
    refine ⟨.ref tm, compM M, n, m', rfl, hDm, compM_ok ok, n1, by omega, m4', fun H7 v7 i7 s7 hi7 hD7 => ?_⟩
    rw [lma_uniq (compM_ok ok) (compM_ok ok) m4' hi7 hi6 fun _ _ => rfl] at hD7
    obtain ⟨c, c1, cz, okc⟩ := lma_ok (compM_ok ok) n1 hi6
    have s67 := sC.trans s7
    refine r_nil ?_
    refine ⟨_, _, _, rfl, (hD6.k (sT_of s67)).dp, hD7.dp, fits_mac okc (by omega) m4', ?_⟩
    have hM7 := hM6.k (sT_of s67)
    have hN7 := hN6.k (sT_of s67)
    have hT7 := t6.same s67
    clear hD7 hDm hD6 okc hM2 hN2 hTb2 hA2 hSt2 hR2 hM6 hN6 hTg x6 hRows sC s7 s67 t6
    walk_at "rd"
    refine ⟨ln3, fun pl hpl => ?_⟩
    have sL := same_new (o := .lst [V.str (wayS 0), V.str (wayS 1), V.str (wayS 2)]) hpl
    have hM8 := hM7.k (sT_of sL)
    have hN8 := hN7.k (sT_of sL)
    have hT8 := hT7.same sL
    have hL8 : (upd H7 pl (.lst [V.str (wayS 0), V.str (wayS 1), V.str (wayS 2)])) pl = some (.lst [V.str (wayS 0), V.str (wayS 1), V.str (wayS 2)]) := upd_same
    walk_at "rd"
    refine ⟨⟨_, SqL.of upd_same⟩, ?_⟩
    refine for_list (xs := [V.str (wayS 0), V.str (wayS 1), V.str (wayS 2)]) (fun j σ G => (∃ y6 y7, σ = [some (.ref l), some (.ref pn), some (.int (m : Int)), some (.ref pa), some v2, some (.ref tg), y6, y7, none]) ∧ Dt K G (.ref pa) (macD M) ∧ Dt K G v2 (macD N) ∧ LamX.Tabs (tabsOf a) G ∧ G pl = some (.lst [V.str (wayS 0), V.str (wayS 1), V.str (wayS 2)])) ⟨⟨_, _, rfl⟩, hM8, hN8, hT8, hL8⟩ (fun j σ G _ hP => SqL.of hP.2.2.2.2) (fun j x σ G hx hP => ?_) (fun σ G hP => ?_)
    · obtain ⟨⟨y6, y7, rfl⟩, hM, hN, hT, hL⟩ := hP
      obtain rfl : x = V.str (wayS j) := by
        match j, hx with
        | 0, hx => exact (Option.some.inj hx).symm
        | 1, hx => exact (Option.some.inj hx).symm
        | 2, hx => exact (Option.some.inj hx).symm
        | j + 3, hx => exact nomatch hx
      obtain ⟨pa1, st1, gd1', rows1, epa, hA1, hSt1, hR1, hGd1⟩ := macE hM
      obtain ⟨pa2, st2, gd2', rows2, rfl, hA2, hSt2, hR2, hGd2⟩ := macE hN
      obtain rfl : pa = pa1 := by injection epa
      obtain ⟨q1, gq1, hq1⟩ := rowsE (s := 0) hR1 (by rw [ok.len]; omega)
      obtain ⟨q2, gq2, hq2⟩ := rowsE (s := 0) hR2 (by rw [ok'.len]; omega)
      have lr1 := (ok.rowAt (s := 0) (by omega)).1
      have lr2 := (ok'.rowAt (s := 0) (by omega)).1
      refine r_gn ?_
      dsimp only
      with_reducible refine r_seq ?_
      with_reducible refine r_set ?_
      refine r_c ?_
      dsimp only
      with_reducible refine r_cutJ (fun σ G => ∃ dv D, σ = [some (.ref l), some (.ref pn), some (.int (m : Int)), some (.ref pa), some (.ref pa2), some (.ref tg), some (.str (wayS j)), some dv, none] ∧ Dt K G (.ref pa) (macD M) ∧ Dt K G (.ref pa2) (macD N) ∧ LamX.Tabs (tabsOf a) G ∧ G pl = some (.lst [V.str (wayS 0), V.str (wayS 1), V.str (wayS 2)]) ∧ Dt K G dv D ∧ fits 4 D ∧ DueOk M N m' mk j D) (fun σ G hJ => ?_) (fun key => ?_)
      · obtain ⟨dv, D, rfl, hM, hN, hT, hL, hDv, fit, hdue⟩ := hJ
        walk_at "rd"
        refine told_of hM ok n1 n8 m4' hN ok' k1 k8 mk4 hT hdue (fun G2 u x2 t2 hu => ?_)
        refine r_var rfl (r_nil ?_)
        refine ⟨_, _, _, rfl, hu.dp, (hDv.k x2.sT).dp, fit, ?_⟩
        walk_at "rd"
        refine told_of (hN.k x2.sT) ok' k1 k8 mk4 (hM.k x2.sT) ok n1 n8 m4' t2 hdue.sw (fun G3 u3 x3 t3 hu3 => ?_)
        refine r_var rfl (r_nil ?_)
        refine ⟨_, _, _, rfl, hu3.dp, ((hDv.k x2.sT).k x3.sT).dp, fit, ?_⟩
        walk_at "rd"
        exact ⟨⟨_, _, rfl⟩, (hM.k x2.sT).k x3.sT, (hN.k x2.sT).k x3.sT, t3, x3.keep (x2.keep hL fun ps z => nomatch z) fun ps z => nomatch z⟩
      · walk_at "rd"
        refine r_ixT hA1 (at_of (j := 0) rfl rfl) ?_
        walk_at "rd"
        refine r_ixT hSt1 (at_of (j := 0) rfl gq1) ?_
        walk_at "rd"
        refine r_lenT hq1 ?_
        rw [List.length_map, lr1]
        walk_at "rd"
        refine r_ixT hA2 (at_of (j := 0) rfl rfl) ?_
        walk_at "rd"
        refine r_ixT hSt2 (at_of (j := 0) rfl gq2) ?_
        walk_at "rd"
        refine r_lenT hq2 ?_
        rw [List.length_map, lr2]
        refine r_eqI ?_
        refine ⟨_, rfl, ?_⟩
        refine r_iteD (fun e => ?_) (fun e => ?_)
        · obtain rfl : m' = mk := by omega
          have okD := lmp_ok (wy := j) ok ok' n8 k8
          walk_at "rd"
          refine ⟨.ref pa, .ref pa2, M, N, n, k, m', j, rfl, hM, ok, n1, by omega, m4', hN, ok', k1, by omega, fun G2 dv i s2 hi hdv => ?_⟩
          rw [bfs_same (stp := stp2 M N) hi (pr_len ok ok' n8 k8)] at hdv
          have hdv : Dt K G2 dv (macD (LMp M N m' j)) := hdv
          obtain ⟨pd, sd, gdd, rowsd, rfl, hAd, hSd, hRd, hGdd⟩ := macE hdv
          have lrd : rowsd.length = nclP M N m' j := by
            have := hRd.len
            rw [List.length_map, okD.len] at this
            exact this
          walk_at "rd"
          refine r_xT hAd (at_of (j := 0) rfl rfl) ?_
          walk_at "rd"
          refine r_lenT hSd ?_
          rw [lrd]
          obtain ⟨nc, enc⟩ : ∃ nc, nclP M N m' j = nc := ⟨_, rfl⟩
          rw [enc] at okD ⊢
          obtain ⟨DL, eDL⟩ : ∃ DL, LMp M N m' j = DL := ⟨_, rfl⟩
          rw [eDL] at okD hdv
          refine r_c ?_
          refine r_I0 ?_
          refine ⟨_, rfl, ?_⟩
          refine r_iteD (fun e => ?_) (fun e => ?_)
          · exact r_set (r_c (key _ _ ⟨_, _, rfl, hM.k (sT_of s2), hN.k (sT_of s2), hT.same s2, s2 _ _ hL, .str _, True.intro, .inl ⟨rfl, .inr ⟨by rw [enc]; omega, rfl⟩⟩⟩))
          · exact r_next (key _ _ ⟨_, _, rfl, hM.k (sT_of s2), hN.k (sT_of s2), hT.same s2, s2 _ _ hL, hdv, fits_mac okD (by omega) m4', .inl ⟨rfl, .inl ⟨by rw [enc]; omega, by rw [eDL]⟩⟩⟩)
        · exact r_next (key _ _ ⟨_, _, rfl, hM, hN, hT, hL, .str _, True.intro, .inr ⟨by omega, rfl⟩⟩)
    · obtain ⟨⟨y6, y7, rfl⟩, _⟩ := hP
      walk_at "rd"
      exact q _

end

abbrev dd (x : Str) (i : Nat) : He.DefD := ⟨(x, none), x, x, defArgs (topS i), defBody (topS i), defScope (topS i), [], []⟩
abbrev dm (c m qn : Str) (st : Stmt) : He.DefD := ⟨(c, some m), m, qn, defArgs st, defBody st, defScope st, [], []⟩
def fnl : List He.DefD := [dd "letters_of" 7, dd "lead" 8, dd "reached" 10, dd "least" 12, dd "complement" 13, dd "join" 14, dd "joined" 15, dd "common_letters" 16, dd "pair_step" 17, dd "least_from" 18, dd "alike" 19, dd "_law_cell" 21, dd "_law_numbers" 22, dd "_law_same" 23, dd "_law_action" 24, dd "_law_machine" 25, dd "_law_reached" 28, dd "_law_marks" 29, dd "_law_least" 30, dd "_law_joined" 31, dd "_law_told" 32, dd "_law_ring" 33, dd "law" 34]
def fal : List He.Fa := [.glo "letters_of", .glo "lead", .glo "reached", .glo "least", .glo "complement", .glo "join", .glo "joined", .glo "common_letters", .glo "pair_step", .glo "least_from", .glo "alike", .glo "_law_cell", .glo "_law_numbers", .glo "_law_same", .glo "_law_action", .glo "_law_machine", .glo "_law_reached", .glo "_law_marks", .glo "_law_least", .glo "_law_joined", .glo "_law_told", .glo "_law_ring", .glo "law", .free "bool", .free "enumerate", .free "int", .free "isinstance", .free "len", .free "list", .free "range", .free "sorted", .free "str", .free "tuple", .str "LETTERS" "abcd", .int "MOST_STATES" 40, .glo "MachineError", .glo "LettersDiffer", .glo "TooManyStates", .exc "LettersDiffer", .exc "TooManyStates", .exm "LettersDiffer" "LettersDiffer" true, .exm "LettersDiffer" "TooManyStates" false, .exm "TooManyStates" "LettersDiffer" false, .exm "TooManyStates" "TooManyStates" true]
def tfl : List He.Defn := [("least", none), ("join", none), ("pair_step", none)]
def exB (K : PySem.W.Frag) : Bool := decide (((tfl.map (He.cT K)).map (·.2)).Nodup) && (excCB K (He.ga K "LettersDiffer") && (excCB K (He.ga K "TooManyStates") && (decide (PySem.W.kitOne K (.ref (He.ga K "LettersDiffer")) (.ref (He.ga K "MachineError")) = some true) && (decide (PySem.W.kitOne K (.ref (He.ga K "LettersDiffer")) (.ref (He.ga K "TooManyStates")) = some false) && (decide (PySem.W.kitOne K (.ref (He.ga K "LettersDiffer")) (.ref (He.ga K "LettersDiffer")) = some true) && (decide (PySem.W.kitOne K (.ref (He.ga K "TooManyStates")) (.ref (He.ga K "MachineError")) = some true) && (decide (PySem.W.kitOne K (.ref (He.ga K "TooManyStates")) (.ref (He.ga K "TooManyStates")) = some true) && (decide (PySem.W.kitOne K (.ref (He.ga K "TooManyStates")) (.ref (He.ga K "LettersDiffer")) = some false)))))))))
abbrev R : PySem.W.OpenRow := PySem.W.OpenLaw.row PySem.Challenge.rw_turnsandthrows_k06_complement_and_join
abbrev hk : PySem.W.Hook := He.hookX 8 fal fnl [] tfl exB
def ob (s : PySem.W.SharedT) : He.AlX := He.obsX 8 fal fnl [] tfl exB (HandSHeadRun.getT s)
theorem ob_eq (s : PySem.W.SharedT) : ob s = hk.obs s.abs := He.obsX_eq (HandSHeadRun.getT_eq s)
abbrev names0 : List Str := ["__name__", "MachineError", "LettersDiffer", "TooManyStates", "LETTERS", "MOST_STATES", "letters_of", "lead", "reached", "least", "complement", "join", "joined", "common_letters", "pair_step", "least_from", "alike", "_law_cell", "_law_numbers", "_law_same", "_law_action", "_law_machine", "_law_lead", "_law_accepts", "_law_reached", "_law_marks", "_law_least", "_law_joined", "_law_told", "_law_ring"]
abbrev names : List Str := names0
theorem run (w : World) : HandSHeadRun.RunEq R (PySem.W.view R.prog [34]) hk ob 4000 names w := by
  intro os
  kernel_rfl
theorem facts {w : World} {K : PySem.W.Frag} {h : Heap} {mg : Str → Option Value} {f : Addr} (X : K.In h) (G : h.Ns mainGlobals mg) (hfa : mg ("law" : Str) = some (.ref f)) (c : He.SaysX fal fnl [] tfl exB w h K) : LamX.LawAtS PySem.Challenge.rw_turnsandthrows_k06_complement_and_join w K CX0 12 63 "script" mg f h := by
  obtain ⟨fd_letters_of, D_letters_of⟩ := c.t.d.def_ 0 (d := dd "letters_of" 7) rfl
  have F_letters_of : Fun K "letters_of" "letters_of" s_letters_of (He.fAd K ("letters_of", none)) fd_letters_of := fun_of_D (st := s_letters_of) D_letters_of
  have b_letters_of := FunD.bindsN (ps := ["machine"]) D_letters_of fun _ _ _ _ _ _ us hl => match us, hl with | [_], _ => rfl
  obtain ⟨fd_lead, D_lead⟩ := c.t.d.def_ 1 (d := dd "lead" 8) rfl
  have F_lead : Fun K "lead" "lead" s_lead (He.fAd K ("lead", none)) fd_lead := fun_of_D (st := s_lead) D_lead
  have b_lead := FunD.bindsN (ps := ["machine", "state", "word"]) D_lead fun _ _ _ _ _ _ us hl => match us, hl with | [_, _, _], _ => rfl
  obtain ⟨fd_reached, D_reached⟩ := c.t.d.def_ 2 (d := dd "reached" 10) rfl
  have F_reached : Fun K "reached" "reached" s_reached (He.fAd K ("reached", none)) fd_reached := fun_of_D (st := s_reached) D_reached
  have b_reached := FunD.bindsN (ps := ["origin", "letters", "step"]) D_reached fun _ _ _ _ _ _ us hl => match us, hl with | [_, _, _], _ => rfl
  obtain ⟨fd_least, D_least⟩ := c.t.d.def_ 3 (d := dd "least" 12) rfl
  have F_least : FunC K "least" "least" s_least (He.fAd K ("least", none)) fd_least (He.cT K ("least", none)).1 := funC_of_D (st := s_least) (p := ("least", none)) D_least
  have b_least := FunD.bindsN (ps := ["machine"]) D_least fun _ _ _ _ _ _ us hl => match us, hl with | [_], _ => rfl
  obtain ⟨fd_complement, D_complement⟩ := c.t.d.def_ 4 (d := dd "complement" 13) rfl
  have F_complement : Fun K "complement" "complement" s_complement (He.fAd K ("complement", none)) fd_complement := fun_of_D (st := s_complement) D_complement
  have b_complement := FunD.bindsN (ps := ["machine"]) D_complement fun _ _ _ _ _ _ us hl => match us, hl with | [_], _ => rfl
  obtain ⟨fd_join, D_join⟩ := c.t.d.def_ 5 (d := dd "join" 14) rfl
  have F_join : FunC K "join" "join" s_join (He.fAd K ("join", none)) fd_join (He.cT K ("join", none)).1 := funC_of_D (st := s_join) (p := ("join", none)) D_join
  have b_join := FunD.bindsN (ps := ["first", "second", "way"]) D_join fun _ _ _ _ _ _ us hl => match us, hl with | [_, _, _], _ => rfl
  obtain ⟨fd_joined, D_joined⟩ := c.t.d.def_ 6 (d := dd "joined" 15) rfl
  have F_joined : Fun K "joined" "joined" s_joined (He.fAd K ("joined", none)) fd_joined := fun_of_D (st := s_joined) D_joined
  have b_joined := FunD.bindsN (ps := ["one", "other", "way"]) D_joined fun _ _ _ _ _ _ us hl => match us, hl with | [_, _, _], _ => rfl
  obtain ⟨fd_common_letters, D_common_letters⟩ := c.t.d.def_ 7 (d := dd "common_letters" 16) rfl
  have F_common_letters : Fun K "common_letters" "common_letters" s_common_letters (He.fAd K ("common_letters", none)) fd_common_letters := fun_of_D (st := s_common_letters) D_common_letters
  have b_common_letters := FunD.bindsN (ps := ["first", "second"]) D_common_letters fun _ _ _ _ _ _ us hl => match us, hl with | [_, _], _ => rfl
  obtain ⟨fd_pair_step, D_pair_step⟩ := c.t.d.def_ 8 (d := dd "pair_step" 17) rfl
  have F_pair_step : FunC K "pair_step" "pair_step" s_pair_step (He.fAd K ("pair_step", none)) fd_pair_step (He.cT K ("pair_step", none)).1 := funC_of_D (st := s_pair_step) (p := ("pair_step", none)) D_pair_step
  have b_pair_step := FunD.bindsN (ps := ["first", "second"]) D_pair_step fun _ _ _ _ _ _ us hl => match us, hl with | [_, _], _ => rfl
  obtain ⟨fd_least_from, D_least_from⟩ := c.t.d.def_ 9 (d := dd "least_from" 18) rfl
  have F_least_from : Fun K "least_from" "least_from" s_least_from (He.fAd K ("least_from", none)) fd_least_from := fun_of_D (st := s_least_from) D_least_from
  have b_least_from := FunD.bindsN (ps := ["origin", "letters", "step", "is_good", "most"]) D_least_from fun _ _ _ _ _ _ us hl => match us, hl with | [_, _, _, _, _], _ => rfl
  obtain ⟨fd_alike, D_alike⟩ := c.t.d.def_ 10 (d := dd "alike" 19) rfl
  have F_alike : Fun K "alike" "alike" s_alike (He.fAd K ("alike", none)) fd_alike := fun_of_D (st := s_alike) D_alike
  have b_alike := FunD.bindsN (ps := ["rows", "marks", "most"]) D_alike fun _ _ _ _ _ _ us hl => match us, hl with | [_, _, _], _ => rfl
  obtain ⟨fd_l_cell, D_l_cell⟩ := c.t.d.def_ 11 (d := dd "_law_cell" 21) rfl
  have F_l_cell : Fun K "_law_cell" "_law_cell" s_l_cell (He.fAd K ("_law_cell", none)) fd_l_cell := fun_of_D (st := s_l_cell) D_l_cell
  have b_l_cell := FunD.bindsN (ps := ["script", "k"]) D_l_cell fun _ _ _ _ _ _ us hl => match us, hl with | [_, _], _ => rfl
  obtain ⟨fd_l_numbers, D_l_numbers⟩ := c.t.d.def_ 12 (d := dd "_law_numbers" 22) rfl
  have F_l_numbers : Fun K "_law_numbers" "_law_numbers" s_l_numbers (He.fAd K ("_law_numbers", none)) fd_l_numbers := fun_of_D (st := s_l_numbers) D_l_numbers
  have b_l_numbers := FunD.bindsN (ps := ["cell", "count"]) D_l_numbers fun _ _ _ _ _ _ us hl => match us, hl with | [_, _], _ => rfl
  obtain ⟨fd_l_same, D_l_same⟩ := c.t.d.def_ 13 (d := dd "_law_same" 23) rfl
  have F_l_same : Fun K "_law_same" "_law_same" s_l_same (He.fAd K ("_law_same", none)) fd_l_same := fun_of_D (st := s_l_same) D_l_same
  have b_l_same := FunD.bindsN (ps := ["actual", "due"]) D_l_same fun _ _ _ _ _ _ us hl => match us, hl with | [_, _], _ => rfl
  obtain ⟨fd_l_action, D_l_action⟩ := c.t.d.def_ 14 (d := dd "_law_action" 24) rfl
  have F_l_action : Fun K "_law_action" "_law_action" s_l_action (He.fAd K ("_law_action", none)) fd_l_action := fun_of_D (st := s_l_action) D_l_action
  have b_l_action := FunD.bindsN (ps := ["numbers", "count"]) D_l_action fun _ _ _ _ _ _ us hl => match us, hl with | [_, _], _ => rfl
  obtain ⟨fd_l_machine, D_l_machine⟩ := c.t.d.def_ 15 (d := dd "_law_machine" 25) rfl
  have F_l_machine : Fun K "_law_machine" "_law_machine" s_l_machine (He.fAd K ("_law_machine", none)) fd_l_machine := fun_of_D (st := s_l_machine) D_l_machine
  have b_l_machine := FunD.bindsN (ps := ["cell", "count", "letters"]) D_l_machine fun _ _ _ _ _ _ us hl => match us, hl with | [_, _, _], _ => rfl
  obtain ⟨fd_l_reached, D_l_reached⟩ := c.t.d.def_ 16 (d := dd "_law_reached" 28) rfl
  have F_l_reached : Fun K "_law_reached" "_law_reached" s_l_reached (He.fAd K ("_law_reached", none)) fd_l_reached := fun_of_D (st := s_l_reached) D_l_reached
  have b_l_reached := FunD.bindsN (ps := ["machine"]) D_l_reached fun _ _ _ _ _ _ us hl => match us, hl with | [_], _ => rfl
  obtain ⟨fd_l_marks, D_l_marks⟩ := c.t.d.def_ 17 (d := dd "_law_marks" 29) rfl
  have F_l_marks : Fun K "_law_marks" "_law_marks" s_l_marks (He.fAd K ("_law_marks", none)) fd_l_marks := fun_of_D (st := s_l_marks) D_l_marks
  have b_l_marks := FunD.bindsN (ps := ["machine"]) D_l_marks fun _ _ _ _ _ _ us hl => match us, hl with | [_], _ => rfl
  obtain ⟨fd_l_least, D_l_least⟩ := c.t.d.def_ 18 (d := dd "_law_least" 30) rfl
  have F_l_least : Fun K "_law_least" "_law_least" s_l_least (He.fAd K ("_law_least", none)) fd_l_least := fun_of_D (st := s_l_least) D_l_least
  have b_l_least := FunD.bindsN (ps := ["machine"]) D_l_least fun _ _ _ _ _ _ us hl => match us, hl with | [_], _ => rfl
  obtain ⟨fd_l_joined, D_l_joined⟩ := c.t.d.def_ 19 (d := dd "_law_joined" 31) rfl
  have F_l_joined : Fun K "_law_joined" "_law_joined" s_l_joined (He.fAd K ("_law_joined", none)) fd_l_joined := fun_of_D (st := s_l_joined) D_l_joined
  have b_l_joined := FunD.bindsN (ps := ["first", "second", "way"]) D_l_joined fun _ _ _ _ _ _ us hl => match us, hl with | [_, _, _], _ => rfl
  obtain ⟨fd_l_told, D_l_told⟩ := c.t.d.def_ 20 (d := dd "_law_told" 32) rfl
  have F_l_told : Fun K "_law_told" "_law_told" s_l_told (He.fAd K ("_law_told", none)) fd_l_told := fun_of_D (st := s_l_told) D_l_told
  have b_l_told := FunD.bindsN (ps := ["first", "second", "way"]) D_l_told fun _ _ _ _ _ _ us hl => match us, hl with | [_, _, _], _ => rfl
  obtain ⟨fd_l_ring, D_l_ring⟩ := c.t.d.def_ 21 (d := dd "_law_ring" 33) rfl
  have F_l_ring : Fun K "_law_ring" "_law_ring" s_l_ring (He.fAd K ("_law_ring", none)) fd_l_ring := fun_of_D (st := s_l_ring) D_l_ring
  have b_l_ring := FunD.bindsN (ps := ["count", "good"]) D_l_ring fun _ _ _ _ _ _ us hl => match us, hl with | [_, _], _ => rfl
  obtain ⟨fd_law, D_law⟩ := c.t.d.def_ 22 (d := dd "law" 34) rfl
  have F_law : Fun K "law" "law" s_law (He.fAd K ("law", none)) fd_law := fun_of_D (st := s_law) D_law
  have b_law := FunD.bindsN (ps := ["script"]) D_law fun _ _ _ _ _ _ us hl => match us, hl with | [_], _ => rfl
  have e := hfa.symm.trans (He.glo_ok X G (c.t.d.fact 22 (f := .glo "law") rfl))
  cases e
  have bA := FunD.bindsA (ps := ["script"]) D_law fun _ _ _ _ _ _ us hl => match us, hl with | [_], _ => rfl
  have ce := c.more
  unfold exB at ce
  obtain ⟨e0, ce⟩ := He.ba ce
  obtain ⟨e1, ce⟩ := He.ba ce
  obtain ⟨e2, ce⟩ := He.ba ce
  obtain ⟨e3, ce⟩ := He.ba ce
  obtain ⟨e4, ce⟩ := He.ba ce
  obtain ⟨e5, ce⟩ := He.ba ce
  obtain ⟨e6, ce⟩ := He.ba ce
  obtain ⟨e7, ce⟩ := He.ba ce
  have e8 := ce
  have T : Txt K mg ⟨He.fAd K ("letters_of", none), fd_letters_of, He.fAd K ("lead", none), fd_lead, He.fAd K ("reached", none), fd_reached, He.fAd K ("least", none), fd_least, (He.cT K ("least", none)).1, (He.cT K ("least", none)).2, He.fAd K ("complement", none), fd_complement, He.fAd K ("join", none), fd_join, (He.cT K ("join", none)).1, (He.cT K ("join", none)).2, He.fAd K ("joined", none), fd_joined, He.fAd K ("common_letters", none), fd_common_letters, He.fAd K ("pair_step", none), fd_pair_step, (He.cT K ("pair_step", none)).1, (He.cT K ("pair_step", none)).2, He.fAd K ("least_from", none), fd_least_from, He.fAd K ("alike", none), fd_alike, He.fAd K ("_law_cell", none), fd_l_cell, He.fAd K ("_law_numbers", none), fd_l_numbers, He.fAd K ("_law_same", none), fd_l_same, He.fAd K ("_law_action", none), fd_l_action, He.fAd K ("_law_machine", none), fd_l_machine, He.fAd K ("_law_reached", none), fd_l_reached, He.fAd K ("_law_marks", none), fd_l_marks, He.fAd K ("_law_least", none), fd_l_least, He.fAd K ("_law_joined", none), fd_l_joined, He.fAd K ("_law_told", none), fd_l_told, He.fAd K ("_law_ring", none), fd_l_ring, He.fAd K ("law", none), fd_law, He.ga K "MachineError", He.ga K "LettersDiffer", He.ga K "TooManyStates"⟩ := ⟨F_letters_of, b_letters_of, He.glo_ok X G (c.t.d.fact 0 (f := .glo "letters_of") rfl), F_lead, b_lead, He.glo_ok X G (c.t.d.fact 1 (f := .glo "lead") rfl), F_reached, b_reached, He.glo_ok X G (c.t.d.fact 2 (f := .glo "reached") rfl), F_least, b_least, He.glo_ok X G (c.t.d.fact 3 (f := .glo "least") rfl), F_complement, b_complement, He.glo_ok X G (c.t.d.fact 4 (f := .glo "complement") rfl), F_join, b_join, He.glo_ok X G (c.t.d.fact 5 (f := .glo "join") rfl), F_joined, b_joined, He.glo_ok X G (c.t.d.fact 6 (f := .glo "joined") rfl), F_common_letters, b_common_letters, He.glo_ok X G (c.t.d.fact 7 (f := .glo "common_letters") rfl), F_pair_step, b_pair_step, He.glo_ok X G (c.t.d.fact 8 (f := .glo "pair_step") rfl), F_least_from, b_least_from, He.glo_ok X G (c.t.d.fact 9 (f := .glo "least_from") rfl), F_alike, b_alike, He.glo_ok X G (c.t.d.fact 10 (f := .glo "alike") rfl), F_l_cell, b_l_cell, He.glo_ok X G (c.t.d.fact 11 (f := .glo "_law_cell") rfl), F_l_numbers, b_l_numbers, He.glo_ok X G (c.t.d.fact 12 (f := .glo "_law_numbers") rfl), F_l_same, b_l_same, He.glo_ok X G (c.t.d.fact 13 (f := .glo "_law_same") rfl), F_l_action, b_l_action, He.glo_ok X G (c.t.d.fact 14 (f := .glo "_law_action") rfl), F_l_machine, b_l_machine, He.glo_ok X G (c.t.d.fact 15 (f := .glo "_law_machine") rfl), F_l_reached, b_l_reached, He.glo_ok X G (c.t.d.fact 16 (f := .glo "_law_reached") rfl), F_l_marks, b_l_marks, He.glo_ok X G (c.t.d.fact 17 (f := .glo "_law_marks") rfl), F_l_least, b_l_least, He.glo_ok X G (c.t.d.fact 18 (f := .glo "_law_least") rfl), F_l_joined, b_l_joined, He.glo_ok X G (c.t.d.fact 19 (f := .glo "_law_joined") rfl), F_l_told, b_l_told, He.glo_ok X G (c.t.d.fact 20 (f := .glo "_law_told") rfl), F_l_ring, b_l_ring, He.glo_ok X G (c.t.d.fact 21 (f := .glo "_law_ring") rfl), F_law, b_law, He.glo_ok X G (c.t.d.fact 22 (f := .glo "law") rfl), He.free_ok X G (c.t.d.fact 23 (f := .free "bool") rfl), He.free_ok X G (c.t.d.fact 24 (f := .free "enumerate") rfl), He.free_ok X G (c.t.d.fact 25 (f := .free "int") rfl), He.free_ok X G (c.t.d.fact 26 (f := .free "isinstance") rfl), He.free_ok X G (c.t.d.fact 27 (f := .free "len") rfl), He.free_ok X G (c.t.d.fact 28 (f := .free "list") rfl), He.free_ok X G (c.t.d.fact 29 (f := .free "range") rfl), He.free_ok X G (c.t.d.fact 30 (f := .free "sorted") rfl), He.free_ok X G (c.t.d.fact 31 (f := .free "str") rfl), He.free_ok X G (c.t.d.fact 32 (f := .free "tuple") rfl), He.str_ok X G (c.t.d.fact 33 (f := .str "LETTERS" "abcd") rfl), He.int_ok X G (c.t.d.fact 34 (f := .int "MOST_STATES" 40) rfl), He.glo_ok X G (c.t.d.fact 35 (f := .glo "MachineError") rfl), He.glo_ok X G (c.t.d.fact 36 (f := .glo "LettersDiffer") rfl), He.glo_ok X G (c.t.d.fact 37 (f := .glo "TooManyStates") rfl), ⟨He.glo_ok X G (c.t.d.fact 36 (f := .glo "LettersDiffer") rfl), (He.exc_ok (c.t.d.fact 38 (f := .exc "LettersDiffer") rfl)).1, (He.exc_ok (c.t.d.fact 38 (f := .exc "LettersDiffer") rfl)).2.1, (He.exc_ok (c.t.d.fact 38 (f := .exc "LettersDiffer") rfl)).2.2.1, (He.exc_ok (c.t.d.fact 38 (f := .exc "LettersDiffer") rfl)).2.2.2, excCB_ok e1⟩, ⟨He.glo_ok X G (c.t.d.fact 37 (f := .glo "TooManyStates") rfl), (He.exc_ok (c.t.d.fact 39 (f := .exc "TooManyStates") rfl)).1, (He.exc_ok (c.t.d.fact 39 (f := .exc "TooManyStates") rfl)).2.1, (He.exc_ok (c.t.d.fact 39 (f := .exc "TooManyStates") rfl)).2.2.1, (He.exc_ok (c.t.d.fact 39 (f := .exc "TooManyStates") rfl)).2.2.2, excCB_ok e2⟩, He.exm_ok (c.t.d.fact 40 (f := .exm "LettersDiffer" "LettersDiffer" true) rfl), He.exm_ok (c.t.d.fact 41 (f := .exm "LettersDiffer" "TooManyStates" false) rfl), of_decide_eq_true e3, of_decide_eq_true e4, of_decide_eq_true e5, He.exm_ok (c.t.d.fact 42 (f := .exm "TooManyStates" "LettersDiffer" false) rfl), He.exm_ok (c.t.d.fact 43 (f := .exm "TooManyStates" "TooManyStates" true) rfl), of_decide_eq_true e6, of_decide_eq_true e7, of_decide_eq_true e8⟩
  refine ⟨fd_law, tfl.map (He.cT K), sp_law K ⟨He.fAd K ("letters_of", none), fd_letters_of, He.fAd K ("lead", none), fd_lead, He.fAd K ("reached", none), fd_reached, He.fAd K ("least", none), fd_least, (He.cT K ("least", none)).1, (He.cT K ("least", none)).2, He.fAd K ("complement", none), fd_complement, He.fAd K ("join", none), fd_join, (He.cT K ("join", none)).1, (He.cT K ("join", none)).2, He.fAd K ("joined", none), fd_joined, He.fAd K ("common_letters", none), fd_common_letters, He.fAd K ("pair_step", none), fd_pair_step, (He.cT K ("pair_step", none)).1, (He.cT K ("pair_step", none)).2, He.fAd K ("least_from", none), fd_least_from, He.fAd K ("alike", none), fd_alike, He.fAd K ("_law_cell", none), fd_l_cell, He.fAd K ("_law_numbers", none), fd_l_numbers, He.fAd K ("_law_same", none), fd_l_same, He.fAd K ("_law_action", none), fd_l_action, He.fAd K ("_law_machine", none), fd_l_machine, He.fAd K ("_law_reached", none), fd_l_reached, He.fAd K ("_law_marks", none), fd_l_marks, He.fAd K ("_law_least", none), fd_l_least, He.fAd K ("_law_joined", none), fd_l_joined, He.fAd K ("_law_told", none), fd_l_told, He.fAd K ("_law_ring", none), fd_l_ring, He.fAd K ("law", none), fd_law, He.ga K "MachineError", He.ga K "LettersDiffer", He.ga K "TooManyStates"⟩, fun p hp => ?_, fun p hp => ?_, fun p hp => ?_, fun s u => bA s [u] rfl, fun H a ns hl _ hT hS => ?_, fun base hK hns hB => ok_law T ?_⟩
  · obtain ⟨x, hx, rfl⟩ := List.mem_map.mp hp
    exact c.empty x hx
  · obtain ⟨x, hx, rfl⟩ := List.mem_map.mp hp
    exact c.out x hx
  · obtain ⟨x, hx, rfl⟩ := List.mem_map.mp hp
    exact PySem.W.codeHd_of_K X (c.hd x hx)
  · refine ⟨a, ns, rfl, hS, hl, tabs_nil fun p hp => ?_, fun _ => rfl⟩
    unfold tabsOf at hp
    simp only [List.mem_cons, List.not_mem_nil, or_false] at hp
    rcases hp with rfl | rfl | rfl
    · exact hT (He.cT K ("least", none)) (List.mem_map_of_mem (by unfold tfl; simp))
    · exact hT (He.cT K ("join", none)) (List.mem_map_of_mem (by unfold tfl; simp))
    · exact hT (He.cT K ("pair_step", none)) (List.mem_map_of_mem (by unfold tfl; simp))
  · refine ⟨hB (He.cT K ("least", none)) (List.mem_map_of_mem (by unfold tfl; simp)), hB (He.cT K ("join", none)) (List.mem_map_of_mem (by unfold tfl; simp)), hB (He.cT K ("pair_step", none)) (List.mem_map_of_mem (by unfold tfl; simp)), of_decide_eq_true e0⟩
end L06
open PySem PySem.W PySem.Calls PyProof.Rows
set_option maxHeartbeats 0 in
theorem PySem.Challenge.cw_turnsandthrows_k06_complement_and_join_holds : PySem.Challenge.rw_turnsandthrows_k06_complement_and_join.Holds := by
  w_on; o_law
  refine HandSHeadRun.head_any (r := OpenLaw.row PySem.Challenge.rw_turnsandthrows_k06_complement_and_join) (q := view (OpenLaw.row PySem.Challenge.rw_turnsandthrows_k06_complement_and_join).prog [34]) (H := L06.hk) (ob := L06.ob) (M := 4000) (loose := L06.names) (d := HandSHeadRun.topDef (OpenLaw.row PySem.Challenge.rw_turnsandthrows_k06_complement_and_join).prog 34) (kwd := []) L06.ob_eq (by kernel_rfl) (fun s => by kernel_rfl) L06.run (by kernel_rfl) (by kernel_rfl) (by kernel_rfl) (by rfl) (by first | assumption | decide +kernel) (by decide +kernel) ⟨rfl, rfl, rfl, rfl, rfl, by decide +kernel⟩ ?hw ?hc
  case hw => w_witness2
  case hc =>
    refine LamX.walk_ofTsE (l := PySem.Challenge.rw_turnsandthrows_k06_complement_and_join) (n := 63) (k := 12) (x := "script") (CX := fun _ => L2.CX0) rfl (by decide) (by kernel_rfl) ⟨rfl, by decide, by decide⟩ ?F (fun _ _ _ _ _ z => z)
    intro w mg fa h Y G hmg0
    obtain ⟨K, KX, c⟩ := Y
    have hmg : mg ("law" : PySem.Str) = some (.ref fa) := by
      have e : (HandSHeadRun.topDef (OpenLaw.row PySem.Challenge.rw_turnsandthrows_k06_complement_and_join).prog 34).name = ("law" : PySem.Str) := by kernel_rfl
      rw [← e]
      exact hmg0
    exact ⟨K, KX, L06.facts KX G hmg c⟩

